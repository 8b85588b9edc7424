/-
  Places that came in, read as plain data; both Texts at every place. Conditions: as each states.
-/
import Derived.Test.YtkemkbaomhjnbaaDoorRText
import Derived.Test.YtkemkbaomhjnbaaDoorAwake
import Derived.Stop.LaidErr
namespace Go.Proofs.YtkemkbaomhjnbaaDoor
open Go.RowKit
set_option linter.unusedVariables false

/-- a place, as plain data -/
structure Plc where
  h : Int
  p : Int
  i : Int
  v : Bool
def Plc.val (s : Plc) : Value := plc s.h s.p s.i s.v
def Plc.may (s : Plc) : Bool := mayP s.h s.p s.i s.v
def Plc.text (s : Plc) : List UInt8 := if s.may = true then textL s.h s.p s.i s.v else []
def IsPlc (w : World) (x : Value) (s : Plc) : Prop := x = s.val ∧ 0 ≤ s.h ∧ s.h < 4294967296 ∧ -9223372036854775808 ≤ s.i ∧ s.i ≤ 9223372036854775807
section
variable {H : Type} {enc : TypeId × Value → H} {W : World}
set_option maxRecDepth 100000 in
theorem open_plc {r : Reach} {b0 : Nat} {v : Value} {d : DataW H} {p : List MemPlace} (hv : Value.okWide Tryd.prog W r b0 37 v) (h : DataW.Trod enc Tryd.prog W 0 (fun _ => true) true 37 v d p) : ∃ s, IsPlc W v s := by
  obtain ⟨cs, rfl, hsz⟩ := WideShapes.okWide_struct Tryd.underlying37 hv
  obtain ⟨x0, x1, x2, x3, rfl⟩ := Joins.array4 (hsz.trans (by kernel_rfl))
  obtain ⟨fuel, hf⟩ := h
  obtain ⟨xs, n, _, _, _, hlen, hel⟩ := DataW.trod_struct Tryd.underlying37 hf
  have c24 : Tryd.prog.cellsOf 24 = 2 := by kernel_rfl
  have c3 : Tryd.prog.cellsOf 3 = 1 := by kernel_rfl
  have c4 : Tryd.prog.cellsOf 4 = 1 := by kernel_rfl
  have c22 : Tryd.prog.cellsOf 22 = 1 := by kernel_rfl
  match xs, hlen with
  | [y0, y1, y2], _ =>
    have e0 : DataW.trod enc Tryd.prog W 0 (fun _ => true) true n 24 (([x0, x1, x2, x3].drop 0).take (Tryd.prog.cellsOf 24)) = some y0 := hel 0 _ rfl
    have e1 : DataW.trod enc Tryd.prog W 0 (fun _ => true) true n 3 (([x0, x1, x2, x3].drop 2).take (Tryd.prog.cellsOf 3)) = some y1 := hel 1 _ rfl
    have e2 : DataW.trod enc Tryd.prog W 0 (fun _ => true) true n 4 (([x0, x1, x2, x3].drop 3).take (Tryd.prog.cellsOf 4)) = some y2 := hel 2 _ rfl
    rw [c24] at e0; rw [c3] at e1; rw [c4] at e2
    obtain ⟨ys, m, _, _, _, hlen2, hel2⟩ := DataW.trod_struct Tryd.underlying24 e0
    match ys, hlen2 with
    | [z0, z1], _ =>
      have f0 : DataW.trod enc Tryd.prog W 0 (fun _ => true) true m 22 (([x0, x1].drop 0).take (Tryd.prog.cellsOf 22)) = some z0 := hel2 0 _ rfl
      have f1 : DataW.trod enc Tryd.prog W 0 (fun _ => true) true m 3 (([x0, x1].drop 1).take (Tryd.prog.cellsOf 3)) = some z1 := hel2 1 _ rfl
      rw [c22] at f0; rw [c3] at f1
      obtain ⟨a, q0, _, ha⟩ := DataW.trod_int Tryd.underlying22 f0
      obtain ⟨b, q1, _, hb⟩ := DataW.trod_int Tryd.underlying3 f1
      obtain ⟨c, q2, _, hc⟩ := DataW.trod_int Tryd.underlying3 e1
      obtain ⟨d, q3, _⟩ := DataW.trod_bool Tryd.underlying4 e2
      have r0 : x0 = .int .u32 a := by simpa using q0
      have r1 : x1 = .int .i64 b := by simpa using q1
      have r2 : x2 = .int .i64 c := by simpa using q2
      have r3 : x3 = .bool d := by simpa using q3
      subst r0; subst r1; subst r2; subst r3
      have ha' := bounds_u32 ha
      have hc' := bounds_i64 hc
      exact ⟨⟨a, b, c, d⟩, rfl, ha'.1, by show a < _; omega, hc'⟩
end
/-- addr.Text and the document's own, at every place -/
theorem text_any (s : Plc) (w : World) (h0 : 0 ≤ s.h) (h1 : s.h < 4294967296) (hT : Lib.TabIs Tryd.prog w "internal/strconv.uint64pow10" .u64 Lib.pow10Tab) :
    Calls Tryd.prog 19 #[s.val] w fun e w' => e = .returned (.string (st s.text)) ∧ Below w.heap.size w w' := by
  unfold Plc.text
  cases hm : s.may with
  | true =>
    rw [if_pos rfl]
    have hm' := hm
    unfold Plc.may mayP at hm'
    simp only [Bool.and_eq_true, decide_eq_true_eq] at hm'
    have hp : s.h ≠ 0 ∧ 1 ≤ s.p ∧ s.p ≤ 65535 := by simpa [mayA, and_assoc] using hm'.2.1.1
    refine text_ok s.h s.p s.i s.v w h0 h1 hm ?_ (itoa_all w hT _ (by omega) (by omega)) (fun _ => itoa_all w hT _ hm'.2.1.2 (by omega))
    intro c hc
    have hb := bytesA_bd h0 h1 hm'.2.1.1 c (List.mem_of_mem_take hc)
    exact itoa_all w hT c hb.1 (by omega)
  | false =>
    rw [if_neg (by simp)]
    exact text_no s.h s.p s.i s.v w h0 h1 hm
theorem rtext_any (s : Plc) (w : World) (h0 : 0 ≤ s.h) (h1 : s.h < 4294967296) : Calls Tryd.prog 20 #[s.val] w fun e w' => e = .returned (.string (st s.text)) ∧ Below w.heap.size w w' := by
  unfold Plc.text
  cases hm : s.may with
  | true => rw [if_pos rfl]; exact rtext_ok s.h s.p s.i s.v w h0 h1 hm
  | false => rw [if_neg (by simp)]; exact rtext_no s.h s.p s.i s.v w h0 h1 hm
theorem tab_below {w w' : World} (h : Lib.TabIs Tryd.prog w "internal/strconv.uint64pow10" .u64 Lib.pow10Tab) (hb : Below w.heap.size w w') : Lib.TabIs Tryd.prog w' "internal/strconv.uint64pow10" .u64 Lib.pow10Tab := (Lib.tabBelow_of_tabIs h) w' hb
theorem powG : Tryd.prog.globalNamed "internal/strconv.uint64pow10" = some 0 := by kernel_rfl
theorem powT : (Tryd.prog.globals[0]?).map (·.type) = some 94 := by kernel_rfl
theorem powU : Tryd.prog.underlying 94 = some (.array 20 84) := by kernel_rfl
theorem powE : Tryd.prog.underlying 84 = some (.int .u64) := by kernel_rfl
theorem powC : Tryd.prog.cellsOf 84 = 1 := by kernel_rfl
theorem powS : Tryd.prog.cellsOf 94 = 20 := by kernel_rfl
set_option maxRecDepth 100000 in
theorem tab_laid {W : World} (h : laidMet Tryd.prog Rows.addrPartsRow.laid W) : Lib.TabIs Tryd.prog W "internal/strconv.uint64pow10" .u64 Lib.pow10Tab := by
  have h2 : laidMet Tryd.prog (("internal/strconv.uint64pow10", Lib.tabData .u64 Lib.pow10Tab) :: Rows.addrPartsRow.laid.drop 3) W := (laidMet.tail (laidMet.tail h))
  exact Lib.tabIs_of_head powG powT powU powE powC powS h2
end Go.Proofs.YtkemkbaomhjnbaaDoor
