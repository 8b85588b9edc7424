/-
  The contract of slices.SortFunc at names, by the table's own comparison: what the row holds is sorted; at no name nothing turns. Conditions: as 'Env' tells.
-/
import Derived.Test.YtahccfljgmleiaaSrtA
namespace Go.Proofs.Ytahccfljgmleiaa
open Go.RowKit Go.Sort
set_option linter.unusedVariables false

theorem len_le (n : Nat) (h : n ≤ 1000000) : Lib.bitLen n ≤ 20 := by
  rcases Nat.eq_zero_or_pos n with rfl | hn
  · decide
  · have := pow_len 20 n hn (by omega) (by omega)
    refine Nat.le_of_not_lt fun h2 => ?_
    have := Nat.pow_le_pow_right (show 0 < 2 by omega) h2
    omega

set_option maxHeartbeats 1000000 in
theorem sort_any {p : Value} {cf : Ky → Ky → Int} {w0 : World} {b n : Nat} (E : Env p cf w0 b n) (cap : Nat) (d : Array Ky) (w : World) (hs : d.size = n) (S : SW nam w0 b 0 d w) :
    Calls Try.prog 30 #[.slice (some ⟨b, 0, none⟩) n cap, ofTab p] w (Sorts cf w0 b 0 n d) := by
  have few := E.few
  have hl := len_le n few
  have E := Lib.hid E
  have S0 := Lib.hid S
  have HS := Lib.hid hs
  clear S hs
  go_enter Try.func30, Try.ntmps30
  go_wp2_with fail
  refine (Try.bits_Len (n : Int) w (by omega) (by omega)).mono ?_
  rintro e w' ⟨rfl, rfl⟩
  rw [Int.toNat_natCast]
  go_wp2_with fail
  refine (pdq_any E.out cap n 0 n _ d _ HS.out S0.out (Nat.zero_le _) (Nat.le_refl _) (by omega) (by omega) (.inl rfl)).mono ?_
  rintro e w1 ⟨rfl, d', h⟩
  have H := Lib.hid h
  clear h
  go_wp2
  go_end0
  exact ⟨rfl, d', H.out⟩

set_option maxHeartbeats 1000000 in
theorem insertion_none (fv : Value) (w : World) : Calls Try.prog 40 #[.slice none 0 0, .int .i64 0, .int .i64 0, fv] w fun e w' => e = .returned (.tuple #[]) ∧ w' = w := by
  go_enter Try.func40, Try.ntmps40
  go_wp2
  go_loopw [8] (fun vi wr => vi = .int .i64 1 ∧ wr = w) (fun _ _ => 0)
  case atStart => exact ⟨rfl, rfl⟩
  case round =>
    obtain ⟨rfl, rfl⟩ := hrel
    go_wp2
    go_end0
    exact ⟨rfl, rfl⟩
set_option maxHeartbeats 1000000 in
set_option maxRecDepth 100000 in
theorem pdq_none (fv : Value) (l : Int) (w : World) : Calls Try.prog 36 #[.slice none 0 0, .int .i64 0, .int .i64 0, .int .i64 l, fv] w fun e w' => e = .returned (.tuple #[]) ∧ w' = w := by
  go_enter Try.func36, Try.ntmps36
  go_wp2_with fail
  go_loopw [1, 2] (fun va vz wr => va = .int .i64 0 ∧ vz = .int .i64 0 ∧ wr = w) (fun _ _ _ => 0)
  case atStart => exact ⟨rfl, rfl, rfl⟩
  case round =>
    obtain ⟨rfl, rfl, rfl⟩ := hrel
    go_wp2_with fail
    refine (insertion_none fv _).mono ?_
    rintro e w1 ⟨rfl, rfl⟩
    go_wp2
    refine bodyPost_ret (results_none rfl _ _ _) rfl ?_
    exact ⟨rfl, rfl⟩
set_option maxHeartbeats 1000000 in
theorem sort_none (fv : Value) (w : World) : Calls Try.prog 30 #[.slice none 0 0, fv] w fun e w' => e = .returned (.tuple #[]) ∧ w' = w := by
  go_enter Try.func30, Try.ntmps30
  go_wp2_with fail
  refine (Try.bits_Len 0 w (by omega) (by omega)).mono ?_
  rintro e w' ⟨rfl, rfl⟩
  go_wp2_with fail
  refine (pdq_none _ _ _).mono ?_
  rintro e w1 ⟨rfl, rfl⟩
  go_wp2
  go_end0
  exact ⟨rfl, rfl⟩

end Go.Proofs.Ytahccfljgmleiaa
