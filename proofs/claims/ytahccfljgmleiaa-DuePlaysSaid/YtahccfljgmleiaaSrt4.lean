/-
  The walk of slices.reverseRangeCmpFunc at names: the places are exchanged among themselves. Conditions: as 'Env' tells; the places are not none.
-/
import Derived.Test.YtahccfljgmleiaaSrt1
namespace Go.Proofs.Ytahccfljgmleiaa
open Go.RowKit Go.Sort
set_option linter.unusedVariables false

/-- the row behind exchanges among the places from a to z -/
def Mixes (w0 : World) (b a z : Nat) (d : Array Ky) : Ending → World → Prop := fun e w' =>
  e = .returned (.tuple #[]) ∧ ∃ d', PermIn a z d d' ∧ SW nam w0 b 0 d' w'

set_option maxHeartbeats 8000000 in
set_option maxRecDepth 100000 in
theorem reverse_any {p : Value} {cf : Ky → Ky → Int} {w0 : World} {b n : Nat} (E : Env p cf w0 b n) (cap a z : Nat) (d : Array Ky) (w : World) (hs : d.size = n) (S : SW nam w0 b 0 d w) (haz : a < z) (hz : z ≤ n) :
    Calls Try.prog 44 #[.slice (some ⟨b, 0, none⟩) n cap, .int .i64 a, .int .i64 z, ofTab p] w (Mixes w0 b a z d) := by
  have mixed := follows
  have few := E.few
  have E := Lib.hid E
  have S0 := Lib.hid S
  have HS := Lib.hid hs
  clear S hs
  unfold ofTab
  go_enter Try.func44, Try.ntmps44
  go_wp2
  go_loopw [8, 9] (fun vi vj wr => ∃ (i : Nat) (jz : Int) (dk : Array Ky), vi = .int .i64 i ∧ vj = .int .i64 jz ∧ a ≤ i ∧ i ≤ z ∧ jz < (z : Int) ∧ -1 ≤ jz ∧ Hid (PermIn a z d dk) ∧ Hid (SW nam w0 b 0 dk wr)) (fun vi _ _ => z + 1 - (intOf vi).toNat)
  case atStart => exact ⟨a, _, d, rfl, rfl, Nat.le_refl _, by omega, by omega, by omega, Lib.hid (permIn_refl _ _ _), S0⟩
  case round =>
    clear S0
    obtain ⟨i, jz, dk, rfl, rfl, hai, hiz, hjz, hj0, HP, S1⟩ := hrel
    have hsk : Hid (dk.size = n) := Lib.hid (HP.out.1.trans HS.out)
    by_cases hlt : (i : Int) < jz
    · obtain ⟨j, rfl⟩ : ∃ j : Nat, jz = j := ⟨jz.toNat, by omega⟩
      have hij : i < j := by omega
      clear hj0
      go_wp2_with fail
      obtain ⟨I1, hI1⟩ : ∃ q, q = i := ⟨_, rfl⟩
      obtain ⟨J1, hJ1⟩ : ∃ q, q = j := ⟨_, rfl⟩
      have u1 : ((i : Int) : Int).toNat = I1 ∧ 0 ≤ ((i : Int) : Int) ∧ ((i : Int) : Int) < n ∧ IntKind.i64.wrap ((i : Int) : Int) = (i : Int) := ⟨by omega, by omega, by omega, by rw [IntKind.wrap_i64]; omega⟩
      have v1 : ((j : Int) : Int).toNat = J1 ∧ 0 ≤ ((j : Int) : Int) ∧ ((j : Int) : Int) < n ∧ IntKind.i64.wrap ((j : Int) : Int) = (j : Int) := ⟨by omega, by omega, by omega, by rw [IntKind.wrap_i64]; omega⟩
      obtain ⟨u1a, u1b, u1c, u1d⟩ := u1
      obtain ⟨v1a, v1b, v1c, v1d⟩ := v1

      obtain ⟨x1, hx1⟩ : ∃ x, x = dk[i]! := ⟨_, rfl⟩
      obtain ⟨y1, hy1⟩ : ∃ x, x = dk[j]! := ⟨_, rfl⟩
      have S2 : Hid (SW nam w0 b 0 (swp dk (i) (j)) ((wr.setCell ⟨b, I1, none⟩ (.string (str y1))).setCell ⟨b, J1, none⟩ (.string (str x1))).drew) := Lib.hid (by rw [hI1, hJ1, hx1, hy1]; exact E.out.swap S1.out hsk.out (i := i) (j := j) (by omega) (by omega))
      obtain ⟨c1, f1⟩ : wr.cell? ⟨b, I1, none⟩ = some (.string (str x1)) ∧ wr.frozen? ⟨b, I1, none⟩ = false := by rw [hI1, hx1]; exact E.out.cell S1.out hsk.out (i := i) (by omega)
      obtain ⟨d1, g1⟩ : wr.cell? ⟨b, J1, none⟩ = some (.string (str y1)) ∧ wr.frozen? ⟨b, J1, none⟩ = false := by rw [hJ1, hy1]; exact E.out.cell S1.out hsk.out (i := j) (by omega)
      obtain ⟨o1, e1⟩ : ∃ u, (wr.setCell ⟨b, I1, none⟩ (.string (str y1))).cell? ⟨b, J1, none⟩ = some u := by rw [hI1, hJ1]; exact E.out.mid S1.out hsk.out (i := i) (j := j) (by omega) (by omega) _
      clear hx1 hy1 hI1 hJ1 S1
      go_wp2_with fail
      go_big_region_o
      clear c1 d1 e1 f1 g1 u1a v1a
      generalize ((wr.setCell ⟨b, I1, none⟩ (.string (str y1))).setCell ⟨b, J1, none⟩ (.string (str x1))).drew = w2 at S2 ⊢
      go_wp2
      go_roundw
      case rel => exact ⟨i + 1, _, swp dk i j, by go_num, rfl, by omega, by omega, by omega, by omega, Lib.hid (perm_swap HP.out (by rw [HS.out]; exact hz) (by omega) (by omega) (by omega) (by omega)), S2⟩
      case measure => simp [intOf]; omega
    · go_wp2
      go_end0
      exact ⟨rfl, dk, HP.out, S1.out⟩

end Go.Proofs.Ytahccfljgmleiaa
