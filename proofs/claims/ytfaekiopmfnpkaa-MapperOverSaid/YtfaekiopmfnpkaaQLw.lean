/-
  What the laws' walks share: the input's box, leases that are laid, and what the readers answer of whatever bytes. Conditions: as each lemma states.
-/
import Derived.Test.YtfaekiopmfnpkaaQLin
namespace Go.Proofs.Ytfaekiopmfnpkaa.Pp
open Go.RowKit
set_option linter.unusedVariables false

structure St (w W : World) (l : Le) : Prop where
  low : Below w.heap.size w W
  box : LeAt W w.heap.size l
theorem St.below {w W W' : World} {l : Le} (h : St w W l) (hb : Below W.heap.size W W') : St w W' l := ⟨h.low.trans (hb.mono h.low.size), h.box.below hb h.box.lt⟩
theorem St.start (w : World) (l : Le) : St w (w.alloc (.cells (leA l) 36)) l := ⟨(Below.refl _ w).alloc (Nat.le_refl _) _, LeAt.new w l⟩
/-- a lease is laid in a new block -/
theorem lay (W : World) (l : Le) : Below W.heap.size W (W.alloc (.cells (leA l) 36)) ∧ LeAt (W.alloc (.cells (leA l) 36)) W.heap.size l := ⟨(Below.refl _ W).alloc (Nat.le_refl _) _, LeAt.new W l⟩
def ansV (l : Le) (h : Bool) (e : Int) : Value := .tuple #[leV l, .bool h, .int .i64 e]
theorem ask_empty {l : Le} {h : Bool} : ¬ AskOf [] l h := by
  rintro ⟨h1, h2⟩
  have := (back_ask h1).2
  rw [← h2] at this
  simp at this
theorem ans_empty {l : Le} {h : Bool} : ¬ AnsOf [] l h := by
  rintro ⟨h0, h1, h2⟩
  have := (back_ans h0 h1).2
  rw [← h2] at this
  simp at this
theorem ask_no_len {l : Le} {h : Bool} (hb : askB l h = false) : askR l h = [] := by unfold askR; rw [hb]; rfl
theorem ans_no_len {l : Le} {h : Bool} (hb : ansB l h = false) : ansR l h = [] := by unfold ansR; rw [hb]; rfl
end Go.Proofs.Ytfaekiopmfnpkaa.Pp
