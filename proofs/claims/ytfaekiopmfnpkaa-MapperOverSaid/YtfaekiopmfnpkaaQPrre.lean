/-
  Contracts of the document's own ReadAsk and ReadAnswer of PCP's datagrams, and words for the laws. Conditions: the slice reads as bytes.
-/
import Derived.Test.YtfaekiopmfnpkaaQPof
import Derived.Test.YtfaekiopmfnpkaaQPrda
namespace Go.Proofs.Ytfaekiopmfnpkaa.Pp
open Go.RowKit
attribute [local go_sem] Oper.semAt_some
set_option linter.unusedVariables false
set_option linter.unusedSimpArgs false

theorem paR_len {zs : List Int} (hb : Bd zs) (h : zs.length ≠ 60) : paR zs = paT zeroL 0 3 := by
  unfold paR
  rw [if_neg]
  intro e
  exact h (by rw [e]; exact paskR_len _ (pAskL_is hb).2)
theorem pbR_len {zs : List Int} (hb : Bd zs) (h : zs.length ≠ 60) : pbR zs = pbT zeroL 3 := by
  unfold pbR
  rw [if_neg]
  intro e
  exact h (by rw [e]; exact pansR_len (pAnsL_is hb).2)
/-- the answer's cell, and a lease's in block g -/
structure Dg (w W : World) (g : Nat) (l : Le) : Prop where
  low : Below w.heap.size w W
  res : LeAt W w.heap.size zeroL
  box : LeAt W g l
  gne : w.heap.size < g
theorem Dg.start {w W : World} (h : Below w.heap.size w W) (hr : LeAt W w.heap.size zeroL) (l : Le) : Dg w (W.alloc (.cells (leA l) 36)) W.heap.size l :=
  ⟨h.alloc h.size _, hr.below ((Below.refl _ W).alloc (Nat.le_refl _) _) hr.lt, LeAt.new W l, hr.lt⟩
theorem Dg.below {w W W' : World} {g : Nat} {l : Le} (h : Dg w W g l) (hb : Below W.heap.size W W') : Dg w W' g l := ⟨h.low.trans (hb.mono h.low.size), h.res.below hb h.res.lt, h.box.below hb h.box.lt, h.gne⟩
theorem Dg.set {w W : World} {g : Nat} {l : Le} (h : Dg w W g l) (k : Nat) (v : Value) (l' : Le) (hl : (leA l).setIfInBounds k v = leA l') (hk : k < 8) : Dg w (W.setCell ⟨g, k, none⟩ v) g l' := by
  have hg := h.gne
  refine ⟨h.low.setCell (p := ⟨g, k, none⟩) (by show w.heap.size ≤ g; omega) _, (Below.heap_setCell _ _ _ _ (by show w.heap.size ≠ g; omega)).trans h.res, ?_, hg⟩
  have := heap_mod h.box (k := k) (by exact hk) v
  rw [hl] at this
  exact this
theorem Dg.fin {w W : World} {g : Nat} {l : Le} (h : Dg w W g l) (l' : Le) : Below w.heap.size w (put8 W w.heap.size l') ∧ LeAt (put8 W w.heap.size l') w.heap.size l' := ⟨put8_below h.low (Nat.le_refl _), put8_res h.res⟩
end Go.Proofs.Ytfaekiopmfnpkaa.Pp
