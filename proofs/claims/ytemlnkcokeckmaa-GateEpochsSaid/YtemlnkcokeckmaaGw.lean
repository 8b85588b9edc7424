/-
  Inputs of the laws of gate read as plain data: bytes, a lease, a bool, two and three short numbers, a script. Conditions: as each lemma states.
-/
import Derived.Test.YtemlnkcokeckmaaMh6
import Derived.Test.YtemlnkcokeckmaaGs
import Derived.Test.YtemlnkcokeckmaaMh12
namespace Go.Proofs.Ytemlnkcokeckmaa
open Go.RowKit Go.Shelf Go.Maps Go.ChangeShapes
set_option linter.unusedVariables false

def IsFlag (w : World) (v : Value) (b : Bool) : Prop := v = .bool b
def IsTxt (w : World) (v : Value) (zs : List Int) : Prop := Pp.Row w v zs
def IsLe (w : World) (v : Value) (l : Pp.Le) : Prop := v = Pp.leV l ∧ Pp.isL l
def IsTwo (w : World) (v : Value) (s : Int × Int) : Prop := v = .agg #[.int .u16 s.1, .int .u16 s.2] ∧ (0 ≤ s.1 ∧ s.1 ≤ 65535) ∧ (0 ≤ s.2 ∧ s.2 ≤ 65535)
def IsTri (w : World) (v : Value) (s : Int × Int × Int) : Prop := v = .agg #[.int .u16 s.1, .int .u16 s.2.1, .int .u16 s.2.2] ∧ (0 ≤ s.1 ∧ s.1 ≤ 65535) ∧ (0 ≤ s.2.1 ∧ s.2.1 ≤ 65535) ∧ (0 ≤ s.2.2 ∧ s.2.2 ≤ 65535)
section
variable {H : Type} {enc : TypeId × Value → H} {W : World}
set_option maxRecDepth 100000 in
theorem open_flag {r : Reach} {b0 : Nat} {v : Value} {d : DataW H} {p : List MemPlace} (hv : Value.okWide Try.prog W r b0 4 v) (h : DataW.Trod enc Try.prog W 0 (fun _ => true) true 4 v d p) : ∃ s, IsFlag W v s := Pp.open_flag hv h
set_option maxRecDepth 100000 in
theorem open_txt {r : Reach} {b0 : Nat} {v : Value} {d : DataW H} {p : List MemPlace} (hv : Value.okWide Try.prog W r b0 60 v) (h : DataW.Trod enc Try.prog W 0 (fun _ => true) true  60 v d p) : ∃ zs, IsTxt W v zs := Pp.open_txt hv h
set_option maxRecDepth 100000 in
theorem open_le {r : Reach} {b0 : Nat} {v : Value} {d : DataW H} {p : List MemPlace} (hv : Value.okWide Try.prog W r b0 64 v) (h : DataW.Trod enc Try.prog W 0 (fun _ => true) true  64 v d p) : ∃ s, IsLe W v s := Pp.open_le hv h
set_option maxRecDepth 100000 in
theorem open_two {r : Reach} {b0 : Nat} {v : Value} {d : DataW H} {p : List MemPlace} (hv : Value.okWide Try.prog W r b0 79 v) (h : DataW.Trod enc Try.prog W 0 (fun _ => true) true  79 v d p) : ∃ s, IsTwo W v s := by
  obtain ⟨cs, rfl, hsz⟩ := okWide_arr Try.underlying79 hv
  have hsz2 : cs.toList.length = 2 := by rw [Array.length_toList]; exact hsz.trans (by kernel_rfl)
  obtain ⟨c0, c1, rfl⟩ : ∃ c0 c1, cs = #[c0, c1] := by
    match h : cs.toList, hsz2 with
    | [c0, c1], _ => exact ⟨c0, c1, by rw [← Array.toArray_toList (xs := cs), h]⟩
  obtain ⟨fuel, hf⟩ := h
  obtain ⟨xs, m, rfl, _, _, hx, hel⟩ := DataW.trod_array Try.underlying79 hf
  have c5 : Try.prog.cellsOf 78 = 1 := by kernel_rfl
  have e0 := hel 0 (by omega)
  have e1 := hel 1 (by omega)
  match xs, hx with
  | [x0, x1], _ =>
    rw [c5] at e0 e1
    simp only [Value.cells, Nat.zero_mul, List.drop_zero, List.take_succ_cons, List.take_zero, Nat.one_mul, List.drop_succ_cons, List.getElem?_cons_zero, List.getElem?_cons_succ] at e0 e1
    obtain ⟨a, q0, _, p0⟩ := DataW.trod_int Try.underlying78 e0
    obtain ⟨b, q1, _, p1⟩ := DataW.trod_int Try.underlying78 e1
    simp only [List.cons.injEq, and_true] at q0 q1
    have r0 := bounds_u16 p0
    have r1 := bounds_u16 p1
    exact ⟨(a, b), by rw [q0, q1], by dsimp only; omega, by dsimp only; omega⟩
set_option maxRecDepth 100000 in
theorem open_tri {r : Reach} {b0 : Nat} {v : Value} {d : DataW H} {p : List MemPlace} (hv : Value.okWide Try.prog W r b0 84 v) (h : DataW.Trod enc Try.prog W 0 (fun _ => true) true  84 v d p) : ∃ s, IsTri W v s := by
  obtain ⟨cs, rfl, hsz⟩ := okWide_arr Try.underlying84 hv
  have hsz2 : cs.toList.length = 3 := by rw [Array.length_toList]; exact hsz.trans (by kernel_rfl)
  obtain ⟨c0, c1, c2, rfl⟩ : ∃ c0 c1 c2, cs = #[c0, c1, c2] := by
    match h : cs.toList, hsz2 with
    | [c0, c1, c2], _ => exact ⟨c0, c1, c2, by rw [← Array.toArray_toList (xs := cs), h]⟩
  obtain ⟨fuel, hf⟩ := h
  obtain ⟨xs, m, rfl, _, _, hx, hel⟩ := DataW.trod_array Try.underlying84 hf
  have c5 : Try.prog.cellsOf 78 = 1 := by kernel_rfl
  have e0 := hel 0 (by omega)
  have e1 := hel 1 (by omega)
  have e2 := hel 2 (by omega)
  match xs, hx with
  | [x0, x1, x2], _ =>
    rw [c5] at e0 e1 e2
    simp only [Value.cells, Nat.zero_mul, List.drop_zero, List.take_succ_cons, List.take_zero, Nat.one_mul, List.drop_succ_cons, List.getElem?_cons_zero, List.getElem?_cons_succ] at e0 e1 e2
    obtain ⟨a, q0, _, p0⟩ := DataW.trod_int Try.underlying78 e0
    obtain ⟨b, q1, _, p1⟩ := DataW.trod_int Try.underlying78 e1
    obtain ⟨c, q2, _, p2⟩ := DataW.trod_int Try.underlying78 e2
    simp only [List.cons.injEq, and_true] at q0 q1 q2
    have r0 := bounds_u16 p0
    have r1 := bounds_u16 p1
    have r2 := bounds_u16 p2
    exact ⟨(a, b, c), by rw [q0, q1, q2], by dsimp only; omega, by dsimp only; omega, by dsimp only; omega⟩
end
end Go.Proofs.Ytemlnkcokeckmaa
