/-
  Addresses that came in, read as plain data; how addresses stand, and how their bytes stand. Conditions: as each states.
-/
import Derived.Test.YtkemkbaomhjnbaaDoorAwake
import Derived.Test.YtkemkbaomhjnbaaDoorCmpC
import Derived.Test.YtkemkbaomhjnbaaDoorSix
import Derived.Lib.SmallJoins
import Derived.ProofKit
import Derived.OpenShut
namespace Go.Proofs.YtkemkbaomhjnbaaDoor
open Go.RowKit
set_option linter.unusedVariables false

def IsAdr (w : World) (v : Value) (s : Int × Int) : Prop := v = adr s.1 s.2 ∧ 0 ≤ s.1 ∧ s.1 < 4294967296 ∧ -9223372036854775808 ≤ s.2 ∧ s.2 ≤ 9223372036854775807
section
variable {H : Type} {enc : TypeId × Value → H} {W : World}
theorem open_adr {r : Reach} {b0 : Nat} {v : Value} {d : DataW H} {p : List MemPlace} (hv : Value.okWide Tryd.prog W r b0 24 v) (h : DataW.Trod enc Tryd.prog W 0 (fun _ => true) true 24 v d p) : ∃ s, IsAdr W v s := by
  obtain ⟨x0, x1, y0, y1, n, rfl, _, _, h0, h1⟩ := Joins.open_agg2 Tryd.underlying24 (by kernel_rfl) (by kernel_rfl) hv h
  obtain ⟨a, e0, _, ha⟩ := DataW.trod_int Tryd.underlying22 h0
  obtain ⟨b, e1, _, hb⟩ := DataW.trod_int Tryd.underlying3 h1
  simp only [List.cons.injEq, and_true] at e0 e1
  subst e0; subst e1
  have ha' := bounds_u32 ha
  have hb' := bounds_i64 hb
  exact ⟨(a, b), rfl, ha'.1, by show a < _; omega, hb'⟩
end

/-- how two addresses stand -/
def cv (h p h' p' : Int) : Int := orV (cmpV h h') (cmpV p p')
theorem cv_cases (h p h' p' : Int) : (cv h p h' p' = -1 ∧ (h < h' ∨ (h = h' ∧ p < p'))) ∨ (cv h p h' p' = 1 ∧ (h' < h ∨ (h = h' ∧ p' < p))) ∨ (cv h p h' p' = 0 ∧ h = h' ∧ p = p') := by
  have hs : ∀ (a b : Int), (cmpV a b = -1 ∧ a < b) ∨ (cmpV a b = 1 ∧ b < a) ∨ (cmpV a b = 0 ∧ a = b) := fun a b => by
    unfold cmpV
    split
    · exact .inl ⟨rfl, by assumption⟩
    · split
      · exact .inr (.inl ⟨rfl, by assumption⟩)
      · exact .inr (.inr ⟨rfl, by omega⟩)
  have h1 := hs h h'
  have h2 := hs p p'
  unfold cv orV
  split <;> omega
/-- an address's bytes as a text -/
def bytesT (h p : Int) : List UInt8 := (bytesA h p).map fun z => UInt8.ofNat z.toNat
theorem u8_lt (a b : Int) (ha : 0 ≤ a ∧ a ≤ 255) (hb : 0 ≤ b ∧ b ≤ 255) : (decide (UInt8.ofNat a.toNat < UInt8.ofNat b.toNat)) = decide (a < b) := by
  rw [Bool.eq_iff_iff]
  simp only [decide_eq_true_eq, UInt8.lt_iff_toNat_lt, UInt8.toNat_ofNat']
  omega
theorem u8_eq (a b : Int) (ha : 0 ≤ a ∧ a ≤ 255) (hb : 0 ≤ b ∧ b ≤ 255) : (UInt8.ofNat a.toNat == UInt8.ofNat b.toNat) = decide (a = b) := by
  rw [Bool.eq_iff_iff]
  simp only [beq_iff_eq, decide_eq_true_eq, ← UInt8.toNat_inj, UInt8.toNat_ofNat']
  omega
theorem less_cons (a b : Int) (x y : List UInt8) (ha : 0 ≤ a ∧ a ≤ 255) (hb : 0 ≤ b ∧ b ≤ 255) : Op.bytesLess (UInt8.ofNat a.toNat :: x) (UInt8.ofNat b.toNat :: y) = (decide (a < b) || (decide (a = b) && Op.bytesLess x y)) := by
  rw [Op.bytesLess, u8_eq a b ha hb, u8_lt a b ha hb]
theorem bytes_less {h p h' p' : Int} (h0 : 0 ≤ h) (h1 : h < 4294967296) (h2 : 0 ≤ h') (h3 : h' < 4294967296) (ha : mayA h p = true) (hb : mayA h' p' = true) : Op.bytesLess (bytesT h p) (bytesT h' p') = decide (cv h p h' p' < 0) := by
  have hp : h ≠ 0 ∧ 1 ≤ p ∧ p ≤ 65535 := by simpa [mayA, and_assoc] using ha
  have hq : h' ≠ 0 ∧ 1 ≤ p' ∧ p' ≤ 65535 := by simpa [mayA, and_assoc] using hb
  have hc := cv_cases h p h' p'
  have hd : decide (cv h p h' p' < 0) = decide (h < h' ∨ (h = h' ∧ p < p')) := by
    rw [decide_eq_decide]; omega
  rw [hd]
  unfold bytesT bytesA
  simp only [List.map_cons, List.map_nil]
  rw [less_cons _ _ _ _ (by omega) (by omega), less_cons _ _ _ _ (by omega) (by omega), less_cons _ _ _ _ (by omega) (by omega), less_cons _ _ _ _ (by omega) (by omega), less_cons _ _ _ _ (by omega) (by omega), less_cons _ _ _ _ (by omega) (by omega)]
  rw [Bool.eq_iff_iff]
  simp only [Op.bytesLess, Bool.and_false, Bool.or_false, Bool.or_eq_true, Bool.and_eq_true, decide_eq_true_eq]
  omega
theorem bytes_eq {h p h' p' : Int} (h0 : 0 ≤ h) (h1 : h < 4294967296) (h2 : 0 ≤ h') (h3 : h' < 4294967296) (ha : mayA h p = true) (hb : mayA h' p' = true) : (bytesT h p == bytesT h' p') = decide (cv h p h' p' = 0) := by
  have hp : h ≠ 0 ∧ 1 ≤ p ∧ p ≤ 65535 := by simpa [mayA, and_assoc] using ha
  have hq : h' ≠ 0 ∧ 1 ≤ p' ∧ p' ≤ 65535 := by simpa [mayA, and_assoc] using hb
  have hc := cv_cases h p h' p'
  have hd : decide (cv h p h' p' = 0) = decide (h = h' ∧ p = p') := by
    rw [decide_eq_decide]; omega
  rw [hd]
  unfold bytesT bytesA
  simp only [List.map_cons, List.map_nil, List.cons_beq_cons]
  rw [u8_eq _ _ (by omega) (by omega), u8_eq _ _ (by omega) (by omega), u8_eq _ _ (by omega) (by omega), u8_eq _ _ (by omega) (by omega), u8_eq _ _ (by omega) (by omega), u8_eq _ _ (by omega) (by omega)]
  rw [Bool.eq_iff_iff]
  simp only [Bool.and_eq_true, decide_eq_true_eq, beq_self_eq_true, and_true]
  omega
end Go.Proofs.YtkemkbaomhjnbaaDoor
