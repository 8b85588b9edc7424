/-
  A slice of rows of bytes that came in reads as rows of bytes. Conditions: as each lemma states.
-/
import Derived.Test.YtadbidgikgffhaaJoin
import Derived.Deep.Matrix
import Derived.OpenShut
namespace Go.Proofs.Ytadbidgikgffhaa
open Go.RowKit
set_option linter.unusedVariables false

/-- what a walk is told of a slice of rows of bytes that came in -/
def IsRows (w : World) (a : Option Addr) (len cap : Nat) (rss : List (List Int)) : Prop :=
  Rs w a len rss ∧ len ≤ cap ∧ cap ≤ maxLen ∧ (a = none → len = 0 ∧ cap = 0)

theorem isRows_open {H : Type} {enc : TypeId × Value → H} {W : World} {a : Option Addr} {len cap : Nat} {d : DataW H} {p : List MemPlace} (h : DataW.Trod enc Try.prog W 0 (fun _ => true) true 30 (.slice a len cap) d p) :
    ∃ rss, IsRows W a len cap rss := by
  obtain ⟨fuel, hf⟩ := h
  rcases Deep.open_int_rows Try.underlying30 Try.underlying22 Try.underlying5 (by kernel_rfl) (by kernel_rfl) hf with ⟨hcs, _⟩ | ⟨x, l, c, A, L, C, Z, hcs, _, hl, hm, _, hr⟩
  · simp [Value.cells] at hcs
    obtain ⟨rfl, rfl, rfl⟩ := hcs
    exact ⟨[], Rs.nil _ _, Nat.le_refl _, Nat.zero_le _, fun _ => ⟨rfl, rfl⟩⟩
  · simp [Value.cells] at hcs
    obtain ⟨rfl, rfl, rfl⟩ := hcs
    refine ⟨(List.range len).map fun r => (Z r).take (L r), ⟨by simp, fun j hj => ?_⟩, hl, hm, by intro h; cases h⟩
    obtain ⟨h1, h2, h3, h4, h5, h6, h7⟩ := hr j (by omega)
    obtain ⟨b, off, spot⟩ := x
    have hspot : spot = none := by
      have h8 := World.cell?_spot (hr 0 (by omega)).1
      simpa [Addr.add] using h8
    subst hspot
    have e2 : (⟨b, off, none⟩ : Addr).add j = ⟨b, off + j, none⟩ := by unfold Addr.add; split <;> simp_all
    rw [e2] at h1
    refine ⟨b, off, _, rfl, lt_of_cell h1, h1, A j, L j, C j, rfl, ?_, h2, h3, ?_, ?_⟩
    · have hg : ((List.range len).map fun r => (Z r).take (L r)).getD j [] = (Z j).take (L j) := by simp [List.getD, hj]
      rw [hg]
      have hrow : IsRow .u8 W (A j) (L j) (C j) (Z j) := by
        cases hA : A j with
        | none =>
          have hc := h6 hA
          refine .inl ⟨rfl, by omega, hc, List.eq_nil_of_length_eq_zero (by omega)⟩
        | some a' => exact .inr ⟨a', rfl, h2, h3, h4, fun i hi => (h7 a' hA).2 i (by omega), h5⟩
      exact (bts_of_row hrow).1
    · intro hA; have := h6 hA; omega
    · exact fun _ _ => trivial

end Go.Proofs.Ytadbidgikgffhaa
