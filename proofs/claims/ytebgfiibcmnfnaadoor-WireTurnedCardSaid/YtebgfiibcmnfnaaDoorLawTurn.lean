/-
  One byte of a message's bytes turned. Conditions: as each states.
-/
import Derived.Test.YtebgfiibcmnfnaaDoorLawSame
import Derived.Laws.BitsAllLaws
namespace Go.Proofs.YtebgfiibcmnfnaaDoor
open Go.RowKit
set_option linter.unusedVariables false

/-- a byte turned -/
def turned (z t : Int) : Int := bits .xor .u8 z t
theorem turned_bd {z t : Int} (hz : 0 ≤ z ∧ z ≤ 255) (ht : 0 ≤ t ∧ t ≤ 255) : 0 ≤ turned z t ∧ turned z t ≤ 255 := by
  unfold turned
  rw [u8_xor z t (by omega) (by omega) (by omega) (by omega)]
  have := Nat.xor_lt_two_pow (show z.toNat < 2 ^ 8 by omega) (show t.toNat < 2 ^ 8 by omega)
  omega
theorem turned_eq {z t : Int} (hz : 0 ≤ z ∧ z ≤ 255) (ht : 0 ≤ t ∧ t ≤ 255) : turned z t = z ↔ t = 0 := by
  unfold turned
  rw [u8_xor z t (by omega) (by omega) (by omega) (by omega)]
  constructor
  · intro h
    have h2 : z.toNat ^^^ t.toNat = z.toNat := by omega
    have h3 : z.toNat ^^^ (z.toNat ^^^ t.toNat) = z.toNat ^^^ z.toNat := by rw [h2]
    rw [← Nat.xor_assoc, Nat.xor_self, Nat.zero_xor] at h3
    omega
  · intro h
    subst h
    simp
    omega
def turnRow (zs : List Int) (m : Nat) (t : Int) : List Int := zs.set m (turned (zs.getD m 0) t)
theorem turnRow_bd {zs : List Int} {m : Nat} {t : Int} (hb : ∀ z ∈ zs, 0 ≤ z ∧ z ≤ 255) (ht : 0 ≤ t ∧ t ≤ 255) : ∀ z ∈ turnRow zs m t, 0 ≤ z ∧ z ≤ 255 := fun z hz => by
  rcases List.mem_or_eq_of_mem_set hz with h | rfl
  · exact hb z h
  · exact turned_bd (getD_bd hb m) ht
theorem turnRow_eq {zs : List Int} {m : Nat} {t : Int} (hm : m < zs.length) (hb : ∀ z ∈ zs, 0 ≤ z ∧ z ≤ 255) (ht : 0 ≤ t ∧ t ≤ 255) : turnRow zs m t = zs ↔ t = 0 := by
  unfold turnRow
  rw [← turned_eq (getD_bd hb m) ht]
  constructor
  · intro h
    have := congrArg (fun l => l.getD m 0) h
    simpa [List.getD, hm] using this
  · intro h
    rw [h]
    simp [List.getD, hm]
theorem bts_turned {w : World} {base g L c m : Nat} {zs : List Int} {t : Int} (ho : w.ownsRow base 5 1 (.slice (some ⟨g, 0, none⟩) L c) L (B zs)) (hL : zs.length = L) (hb : ∀ z ∈ zs, 0 ≤ z ∧ z ≤ 255) (ht : 0 ≤ t ∧ t ≤ 255) (hm : m < L) :
    w.cell? ⟨g, m, none⟩ = some (.int .u8 (zs.getD m 0)) ∧ w.frozen? ⟨g, m, none⟩ = false ∧ Bts (w.setCell ⟨g, m, none⟩ (.int .u8 (turned (zs.getD m 0) t))) (some ⟨g, 0, none⟩) L (turnRow zs m t) := by
  obtain ⟨hl, ⟨h0, _⟩ | ⟨g', cap, cur, h0, h1, hg, h2, h3, h4, h5⟩⟩ := ho
  · cases h0
  · cases h0
    have hcur : ∀ j, j < L → cur[j]? = some (.int .u8 (zs.getD j 0)) := fun j hj => by
      have h6 := congrArg (fun l : List Value => l[j]?) h5
      simp only [Nat.mul_one] at h6
      rw [List.getElem?_take_of_lt hj] at h6
      rw [← Array.getElem?_toList, h6]
      simp [B, List.getD, show j < zs.length by omega]
    have hms : m < cur.size := by omega
    have hg2 := heap_mod hg hms (.int .u8 (turned (zs.getD m 0) t))
    refine ⟨by rw [(cells_of hg m).1]; exact hcur m hm, (cells_of hg m).2, by simp [turnRow, hL], turnRow_bd hb ht, fun _ => ⟨g, 0, rfl, (Array.getElem?_eq_some_iff.1 hg2).1, fun j hj => ?_⟩⟩
    rw [Nat.zero_add, (cells_of hg2 j).1, Array.getElem?_setIfInBounds]
    by_cases h : m = j
    · subst h
      simp [turnRow, List.getD, hms, show m < zs.length by omega]
    · rw [if_neg h, hcur j hj]
      simp [turnRow, List.getD, h]
/-- what the turned bytes are read as -/
theorem read_turned {m : Wi.Msg} {k : Nat} {t : Int} (hw : Wi.Wf m) (h : Wi.may m = true) (hk : k < (Wi.bytes m).length) (ht : 0 ≤ t ∧ t ≤ 255) :
    (t = 0 → Wi.read (turnRow (Wi.bytes m) k t) = some m) ∧ ∀ n, Wi.read (turnRow (Wi.bytes m) k t) = some n → (n = m ↔ t = 0) := by
  have hb := Wi.bytes_bd hw h
  have he := turnRow_eq hk hb ht
  refine ⟨fun h0 => by rw [he.2 h0]; exact Wi.read_bytes hw h, fun n hn => ?_⟩
  have ho := Wi.read_ok (turnRow_bd hb ht) hn
  rw [← he, ← ho.2.1]
  exact ⟨fun e => by rw [e], fun e => Wi.bytes_inj ho.2.2 hw ho.1 h e⟩
end Go.Proofs.YtebgfiibcmnfnaaDoor
