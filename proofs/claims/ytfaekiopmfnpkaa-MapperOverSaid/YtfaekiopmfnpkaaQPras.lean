/-
  Contracts of the document's own tail, Ask and Answer of PCP: the same bytes. Conditions: the lease's fields are of their types.
-/
import Derived.Test.YtfaekiopmfnpkaaQPzr
import Derived.Test.YtfaekiopmfnpkaaQRask
namespace Go.Proofs.Ytfaekiopmfnpkaa.Pp
open Go.RowKit
attribute [local go_sem] Oper.semAt_some
set_option linter.unusedVariables false
set_option linter.unusedSimpArgs false

theorem Rw.ow {w W W' : World} {l : Le} {V V' : Value} {xs zs : List Int} (h : Rw w W l V xs) (ho : Ow W W' W.heap.size V' zs) : Rw w W' l V' zs :=
  ⟨h.low.trans (ho.low.mono h.low.size), h.box.below ho.low h.box.lt, Go.Joins.ownsRow_le ho.own (by have := h.box.lt; omega)⟩
theorem Rw.below {w W W' : World} {l : Le} {V : Value} {xs : List Int} (h : Rw w W l V xs) (hb : Below W.heap.size W W') : Rw w W' l V xs :=
  ⟨h.low.trans (hb.mono h.low.size), h.box.below hb h.box.lt, own_below h.own hb⟩
theorem Rw.app {w W W' : World} {l : Le} {V V' : Value} {xs zs : List Int} {m : Nat} (h : Rw w W l V xs) (hz : zs.length = m) (ho : W'.ownsRow (w.heap.size + 1) 5 1 V' (xs.length + m) (B (xs ++ zs))) (hg : W.grownBy W' V.ownBlock) : Rw w W' l V' (xs ++ zs) := by
  refine ⟨h.low.trans (own_grown h.own hg (by omega) h.low.size), ?_, by rw [List.length_append, hz]; exact ho⟩
  refine (hg.block _ h.box.lt ?_).trans h.box
  intro e
  have := (h.own.lt _ e.symm).1
  omega
theorem lit_bts (W : World) (zs : List Int) (hz : ∀ z ∈ zs, 0 ≤ z ∧ z ≤ 255) (hm : zs.length ≤ maxLen) : Bts (W.alloc (.cells (B zs).toArray 5)) (some ⟨W.heap.size, 0, none⟩) zs.length zs := by
  have h := Ow.lit (w := W) (W := W) (b := W.heap.size) (Below.refl _ _) (Nat.le_refl _) zs hm
  obtain ⟨A, c, e, _, _, hbt⟩ := own_form h.own hz
  cases e
  exact hbt

theorem Rw.zeros {w W : World} {l : Le} {V : Value} {xs : List Int} (h : Rw w W l V xs) {ops : Array Oper} {o : Oper} {a : Act} {K : Act → World → Prop} {Q : Exit → Act → World → Prop} {E : Prop} (hf : o.guard = none) (s x : Operand)
    (ho : o.op = .call { callee := .builtin .append, args := #[s, x], argTypes := #[38, 3] }) (hs : a.eval s = V) (m : Nat) (hx : a.eval x = .int .i64 (m : Int)) (h0 : 0 < xs.length) (hm : 0 < m) (hl : xs.length + m ≤ 1000)
    (hK : ∀ V' W', Rw w W' l V' (xs ++ List.replicate m 0) → K (a.put o.dst V') W') :
    if Region.wanted o (yielded ops a.tmps) = true then Oper.wp Try.prog o a W K Q else E := by
  obtain ⟨v', w', hrun, r1, r2⟩ := run_zeros W (w.heap.size + 1) V xs.length xs o.type h.own m h0 hm hl (by have := h.box.lt; omega)
  rw [if_pos (by simp [Region.wanted, hf])]
  unfold Oper.wp execOp
  simp only [ho, resolve, invoke, builtin, Sem.run_bind, Sem.run_pure, Result.andThen_ok, List.map_toArray, List.map_cons, List.map_nil, hs, hx, hrun]
  exact hK _ _ (h.app (by simp) r1 r2)

theorem bnd_pan {l : Le} (h : Pan l) (hl : isL l) : Bnd l := by
  obtain ⟨h0, h1, h2, h3, h4, h5⟩ := h
  have := hl.hst
  exact ⟨by omega, by omega, by omega, by omega, by omega, by omega⟩
end Go.Proofs.Ytfaekiopmfnpkaa.Pp
