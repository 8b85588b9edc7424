/-
  Bytes that came in; both FromBytes at whatever bytes. Conditions: as each states.
-/
import Derived.Test.YtkemkbaomhjnbaaDoorTurn
import Derived.Test.YtkemkbaomhjnbaaDoorFrom
namespace Go.Proofs.YtkemkbaomhjnbaaDoor
open Go.RowKit
set_option linter.unusedVariables false

def IsTxt (w : World) (v : Value) (zs : List Int) : Prop := ∃ A n c, v = .slice A n c ∧ Bts w A n zs ∧ n ≤ c ∧ c ≤ maxLen ∧ (A = none → n = 0 ∧ c = 0)
section
variable {H : Type} {enc : TypeId × Value → H} {W : World}
theorem open_txt {r : Reach} {b0 : Nat} {v : Value} {d : DataW H} {p : List MemPlace} (hv : Value.okWide Tryd.prog W r b0 25 v) (h : DataW.Trod enc Tryd.prog W 0 (fun _ => true) true 25 v d p) : ∃ zs, IsTxt W v zs := by
  obtain ⟨A, l, c, rfl⟩ := WideShapes.okWide_slice Tryd.underlying25 hv
  obtain ⟨fuel, hf⟩ := h
  rcases Go.ChangeShapes.open_ints Tryd.underlying25 Tryd.underlying5 (by kernel_rfl) hf with ⟨hcs, _⟩ | ⟨x, l, c, zs, hcs, _, hl, hm, hz, _, hcell, hwz⟩
  · simp [Value.cells] at hcs
    obtain ⟨rfl, rfl, rfl⟩ := hcs
    exact ⟨[], none, 0, 0, rfl, ⟨rfl, by simp, fun h => by omega⟩, Nat.le_refl _, Nat.zero_le _, fun _ => ⟨rfl, rfl⟩⟩
  · simp [Value.cells] at hcs
    obtain ⟨rfl, rfl, rfl⟩ := hcs
    have hr : IsRow .u8 W (some x) _ _ zs := .inr ⟨_, rfl, hl, hm, by simpa using hz, hcell, hwz⟩
    obtain ⟨h1, h2, h3⟩ := bts_of_row hr
    exact ⟨_, _, _, _, rfl, h1, h2, h3, by intro h; cases h⟩
end
/-- what is read of bytes: the host, the port, the code -/
def readA (zs : List Int) : Int × Int × Int := if zs.length = 6 ∧ mayA (hostUp zs 4) (portUp zs 2) = true then (hostUp zs 4, portUp zs 2, 0) else (0, 0, 3)
def ansA (t : Int × Int × Int) : Value := .tuple #[adr t.1 t.2.1, .int .i64 t.2.2]
theorem ansA_six {zs : List Int} (h : zs.length = 6) : gaveOr (hostUp zs 4) (portUp zs 2) = ansA (readA zs) := by
  unfold gaveOr readA ansA
  by_cases hm : mayA (hostUp zs 4) (portUp zs 2) = true
  · rw [if_pos hm, if_pos ⟨h, hm⟩]; rfl
  · rw [if_neg hm, if_neg (fun e => hm e.2)]; rfl
theorem ansA_no {zs : List Int} (h : ¬ zs.length = 6) : refusedA = ansA (readA zs) := by
  unfold readA ansA
  rw [if_neg (fun e => h e.1)]; rfl
theorem from_any (A : Option Addr) (n c : Nat) (zs : List Int) (w : World) (h : Bts w A n zs) (hnc : n ≤ c) (hc : c ≤ maxLen) : Calls Tryd.prog 11 #[.slice A n c] w fun e w' => e = .returned (ansA (readA zs)) ∧ Below w.heap.size w w' := by
  have hl := h.len
  by_cases h6 : n = 6
  · subst h6
    obtain ⟨b, off, rfl, hb, hz⟩ := h.2.2 (by omega)
    rw [← ansA_six hl]
    exact from_six b off c zs w hnc hc (fun j => getD_bd h.bd j) hb hz
  · rw [← ansA_no (by omega)]
    exact from_short A n c w h6 (by omega)
theorem rfrom_any (A : Option Addr) (n c : Nat) (zs : List Int) (w : World) (h : Bts w A n zs) (hnc : n ≤ c) (hc : c ≤ maxLen) : Calls Tryd.prog 12 #[.slice A n c] w fun e w' => e = .returned (ansA (readA zs)) ∧ Below w.heap.size w w' := by
  have hl := h.len
  by_cases h6 : n = 6
  · subst h6
    obtain ⟨b, off, rfl, hb, hz⟩ := h.2.2 (by omega)
    rw [← ansA_six hl]
    exact rfrom_six b off c zs w hnc hc (fun j => getD_bd h.bd j) hb hz
  · rw [← ansA_no (by omega)]
    exact rfrom_short A n c w h6 (by omega)
theorem readA_of {h p : Int} (h0 : 0 ≤ h) (h1 : h < 4294967296) (hm : mayA h p = true) : readA (bytesA h p) = (h, p, 0) := by
  have := up_of h0 h1 hm
  unfold readA
  rw [this.1, this.2, if_pos ⟨rfl, hm⟩]
/-- how an address stands, as the document says -/
theorem less_cv (h p h' p' : Int) : lessA h p h' p' = decide (cv h p h' p' < 0) ∧ lessA h' p' h p = decide (0 < cv h p h' p') ∧ decide (h = h' ∧ p = p') = decide (cv h p h' p' = 0) := by
  have := cv_cases h p h' p'
  unfold lessA
  refine ⟨?_, ?_, ?_⟩
  · rw [Bool.eq_iff_iff]; simp only [Bool.or_eq_true, Bool.and_eq_true, decide_eq_true_eq]; omega
  · rw [Bool.eq_iff_iff]; simp only [Bool.or_eq_true, Bool.and_eq_true, decide_eq_true_eq]; omega
  · rw [decide_eq_decide]; omega
end Go.Proofs.YtkemkbaomhjnbaaDoor
