/-
  Contracts of the document's own Ask and Answer: the same bytes. Conditions: the lease's fields are of their types.
-/
import Derived.Test.YtfaekiopmfnpkaaQAsk
import Derived.Test.YtfaekiopmfnpkaaQBig
namespace Go.Proofs.Ytfaekiopmfnpkaa.Pp
open Go.RowKit
attribute [local go_sem] Oper.semAt_some
set_option linter.unusedVariables false
set_option linter.unusedSimpArgs false

theorem fitsB_iff (m v : Int) : fitsB m v = true ↔ 0 ≤ v ∧ v ≤ m := by simp [fitsB]
theorem beq0 (v : Int) : (v == 0) = true ↔ v = 0 := by simp
theorem askB_doc (l : Le) (h : Bool) : askB l h = (allB l && ((l.res == 0) && ((l.epo == 0) && ((l.hst == 0) && (!h || noneB l))))) := by
  rw [Bool.eq_iff_iff]
  unfold askB ansB allB noneB portB
  cases h <;> simp only [Bool.and_eq_true, fitsB_iff, beq0, Bool.not_true, Bool.not_false, Bool.false_or, Bool.true_or, if_true, and_true, Bool.false_eq_true, if_false] <;> constructor <;> intro h <;> omega
theorem ansB_doc (l : Le) (h : Bool) : ansB l h = (allB l && ((!h || noneB l) && (h || (l.hst == 0)))) := by
  rw [Bool.eq_iff_iff]
  unfold ansB allB noneB portB
  cases h <;> simp only [Bool.and_eq_true, fitsB_iff, beq0, Bool.not_true, Bool.not_false, Bool.false_or, Bool.true_or, if_true, and_true, true_and, Bool.false_eq_true, if_false] <;> constructor <;> intro h <;> omega
structure Bnd (l : Le) : Prop where
  ins : 0 ≤ l.ins ∧ l.ins < 9223372036854775808
  prt : 0 ≤ l.prt ∧ l.prt < 9223372036854775808
  secs : 0 ≤ l.secs ∧ l.secs < 9223372036854775808
  res : 0 ≤ l.res ∧ l.res < 9223372036854775808
  epo : 0 ≤ l.epo ∧ l.epo < 9223372036854775808
  hst : 0 ≤ l.hst ∧ l.hst < 9223372036854775808
theorem bnd_of {l : Le} (h : allB l = true) (hl : isL l) : Bnd l := by
  unfold allB at h
  simp only [Bool.and_eq_true, fitsB_iff, beq0] at h
  have := hl.hst
  exact ⟨by omega, by omega, by omega, by omega, by omega, by omega⟩

/-- the document's row while it is put together -/
structure Rw (w W : World) (l : Le) (V : Value) (xs : List Int) : Prop where
  low : Below w.heap.size w W
  box : LeAt W w.heap.size l
  own : W.ownsRow (w.heap.size + 1) 5 1 V xs.length (B xs)
theorem Rw.drew {w W : World} {l : Le} {V : Value} {xs : List Int} (h : Rw w W l V xs) : Rw w W.drew l V xs := ⟨below_drewN' h.low 1, h.box, h.own⟩
theorem Rw.lit {w W : World} {l : Le} {V : Value} {xs : List Int} (h : Rw w W l V xs) (zs : List Int) (n : Nat) (hn : zs.length = n) (hm : n ≤ maxLen) : Rw w (W.alloc (.cells (B zs).toArray 5)) l (.slice (some ⟨W.heap.size, 0, none⟩) n n) zs := by
  refine ⟨h.low.trans (((Below.refl _ W).alloc h.low.size _)), h.box.below ((Below.refl _ W).alloc (Nat.le_refl _) _) h.box.lt, ?_⟩
  rw [hn]
  have := World.ownsRow_lit W (e := 5) (base := w.heap.size + 1) (size := 1) (B zs).toArray n (by have := h.box.lt; omega) hm (by simp [B, hn])
  simpa using this
theorem Rw.step {w W : World} {l : Le} {V : Value} {xs : List Int} (h : Rw w W l V xs) {ops : Array Oper} {o : Oper} {a : Act} {K : Act → World → Prop} {Q : Exit → Act → World → Prop} {E : Prop} (hf : o.guard = none) (s x : Operand)
    (ho : o.op = .call { callee := .builtin .append, args := #[s, x], argTypes := #[38, 38] }) {n c : Nat} {A : Addr} {zs : List Int} (hs : a.eval s = V) (hx : a.eval x = .slice (some A) n c) (hb : Bts W (some A) n zs) (hl : xs.length + n ≤ 1000)
    (hK : ∀ V' W', Rw w W' l V' (xs ++ zs) → K (a.put o.dst V') W') :
    if Region.wanted o (yielded ops a.tmps) = true then Oper.wp Try.prog o a W K Q else E := by
  obtain ⟨i0, hi0, hz0, hz1, hz2⟩ := info_parts u8_info
  obtain ⟨v', w', hrun, r1, r2, _, r3⟩ := run_append_own_at (P := Try.prog) (w := W) (w.heap.size + 1) 38 o.type 5 i0 (.int .u8 0) 1 1 Try.underlying38 hi0 hz0 hz1 hz2 rfl (by decide) V xs.length (B xs) h.own A n c (B zs) (by rw [B_length, hb.len]; omega) hb.news (B_one zs)
    (by unfold maxLen; omega) (by omega) (by have := h.box.lt; omega)
  rw [if_pos (by simp [Region.wanted, hf])]
  unfold Oper.wp execOp
  simp only [ho, resolve, invoke, builtin, Sem.run_bind, Sem.run_pure, Result.andThen_ok, List.map_toArray, List.map_cons, List.map_nil, hs, hx, hrun]
  refine hK _ _ ⟨h.low.trans (own_grown h.own r2 (by omega) h.low.size), ?_, ?_⟩
  · refine (r2.block _ h.box.lt ?_).trans h.box
    intro e
    have := (h.own.lt _ e.symm).1
    omega
  · rw [← B_append] at r1
    rw [List.length_append, hb.len]
    exact r1

end Go.Proofs.Ytfaekiopmfnpkaa.Pp
