/-
  Words that the statements' proofs share: a slice of bytes that came in reads as bytes; both Gets at a known answer. Conditions: as each lemma states.
-/
import Derived.Test.YthdbakeafmfmpaaAwake
import Derived.OpenShut
namespace Go.Proofs.Ythdbakeafmfmpaa
open Go.RowKit
set_option linter.unusedVariables false

/-- what the walk is told of a slice of integers that came in: it is nil; or it leads to a row of 'cap' cells, the numbers 'zs' -/
def IsRow (k : IntKind) (w : World) (a : Option Addr) (len cap : Nat) (zs : List Int) : Prop :=
  (a = none ∧ len = 0 ∧ cap = 0 ∧ zs = []) ∨
  ∃ x, a = some x ∧ len ≤ cap ∧ cap ≤ maxLen ∧ zs.length = cap ∧ (∀ i, i < zs.length → w.cell? (x.add i) = some (.int k (zs.getD i 0))) ∧ ∀ n ∈ zs, (Lit.int k n).wf = true

theorem lt_of_cell {w : World} {a : Addr} {v : Value} (h : w.cell? a = some v) : a.block < w.heap.size := by
  rcases Nat.lt_or_ge a.block w.heap.size with h' | h'
  · exact h'
  · unfold World.cell? at h
    rw [Array.getElem?_eq_none h'] at h
    simp at h
theorem wf_u8 {n : Int} (h : (Lit.int .u8 n).wf = true) : 0 ≤ n ∧ n ≤ 255 := by
  have := bounds_u8 h
  omega
theorem bts_of_row {w : World} {a : Option Addr} {len cap : Nat} {zs : List Int} (h : IsRow .u8 w a len cap zs) : Bts w a len (zs.take len) ∧ len ≤ cap ∧ cap ≤ maxLen := by
  rcases h with ⟨rfl, rfl, rfl, rfl⟩ | ⟨x, rfl, h1, h2, h3, h4, h5⟩
  · exact ⟨⟨rfl, by simp, fun h => by omega⟩, Nat.le_refl _, Nat.zero_le _⟩
  · refine ⟨⟨by simp; omega, fun z hz => wf_u8 (h5 z (List.mem_of_mem_take hz)), fun hn => ?_⟩, h1, h2⟩
    obtain ⟨b, off, rfl, hc⟩ := ints_at h4 (by omega)
    refine ⟨b, off, rfl, lt_of_cell (hc 0 (by omega)), fun j hj => ?_⟩
    rw [hc j (by omega)]
    simp [List.getD, hj]

theorem get_at (A : Option Addr) (n c : Nat) (zs : List Int) (w : World) (x m k : Int) (hg : Uv.got zs = (x, m, k)) (hnc : n ≤ c) (hc : c ≤ maxLen) (h : Bts w A n zs) :
    Calls Try.prog 14 #[.slice A n c] w fun e w' => e = .returned (.tuple #[.int .u64 x, .int .i64 m, .int .i64 k]) ∧ w = w' :=
  (get_any A n c zs w hnc hc h).mono fun e w' h => ⟨by rw [h.1, hg]; rfl, h.2⟩
theorem ref_get_at (A : Option Addr) (n c : Nat) (zs : List Int) (w : World) (x m k : Int) (hg : Uv.got zs = (x, m, k)) (hnc : n ≤ c) (hc : c ≤ maxLen) (h : Bts w A n zs) :
    Calls Try.prog 15 #[.slice A n c] w fun e w' => e = .returned (.tuple #[.int .u64 x, .int .i64 m, .int .i64 k]) ∧ w = w' :=
  (ref_get_any A n c zs w hnc hc h).mono fun e w' h => ⟨by rw [h.1, hg]; rfl, h.2⟩

end Go.Proofs.Ythdbakeafmfmpaa
