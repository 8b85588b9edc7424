/-
  The contracts of embrasure/back.Sum, of the document's own Sum, and of the statements' own 'awake'. Conditions: the numbers are ints.
-/
import Derived.Test.YtcamihbcfeengaaBk
namespace Go.Proofs.Ytcamihbcfeengaa
open Go.RowKit
set_option linter.unusedVariables false

set_option maxHeartbeats 1000000 in
theorem Sum_any (f m n : Int) (w : World) :
    Calls Try.prog 11 #[.int .i64 f, .int .i64 m, .int .i64 n] w fun e w' => e = .returned (.tuple #[.int .i64 (Bk.sv f m n), .int .i64 (Bk.sc f m n)]) ∧ w = w' := by
  unfold Bk.sv Bk.sc
  by_cases hp : Bk.plan f m = true
  · obtain ⟨h1, h2, h3⟩ := (Bk.plan_iff f m).1 hp
    by_cases hn0 : 0 ≤ n
    · by_cases hn1 : n ≤ 1000
      · rw [if_pos ⟨hp, hn0, hn1⟩, if_pos ⟨hp, hn0, hn1⟩]
        obtain ⟨f, rfl⟩ := Int.eq_ofNat_of_zero_le (show 0 ≤ f by omega)
        obtain ⟨m, rfl⟩ := Int.eq_ofNat_of_zero_le (show 0 ≤ m by omega)
        obtain ⟨n, rfl⟩ := Int.eq_ofNat_of_zero_le hn0
        simp only [Int.toNat_natCast]
        have HP := Lib.hid hp; clear hp
        go_enter Try.func11, Try.ntmps11
        go_wp2_with (go_at_call 15; refine (isPlan_any _ _ _).mono ?_; rintro e w' ⟨rfl, rfl⟩; rw [HP.out])
        go_loop [8, 23] (fun x i => ∃ k : Nat, k ≤ n ∧ i = .int .i64 (k : Int) ∧ x = .int .i64 (Bk.S f m k : Nat)) (fun _ i => n - (intOf i).toNat)
        case atStart => exact ⟨0, by omega, rfl, rfl⟩
        case round =>
          obtain ⟨k, hkn, rfl, rfl⟩ := hrel
          have hS : Bk.S f m k ≤ 1099511627776000 := by
            have h1 := Bk.S_le f m k
            have h2 : k * m ≤ 1000 * 1099511627776 := Nat.mul_le_mul (by omega) (by omega)
            omega
          have HW1 := Lib.hid (Bk.W_le f m k)
          have HS2 : Hid (Bk.S f m (k + 1) = Bk.S f m k + Bk.W f m k) := Lib.hid rfl
          by_cases hk : k < n
          · generalize Bk.S f m k = x at *
            have hw1 : Bk.W f m k ≤ 1099511627776 := by have := HW1.out; omega
            go_wp2_with (go_at_call 16; refine (wait_any f m k _ (by omega) (by omega) (by omega) (by omega)).mono ?_; rintro e w' ⟨rfl, rfl⟩)
            go_round
            case rel => exact ⟨k + 1, by omega, by go_num, by rw [HS2.out]; go_num⟩
            case measure => simp [intOf]; omega
          · obtain rfl : k = n := by omega
            generalize hx : Bk.S f m k = x at *
            have E := Lib.hid hx; clear hx
            go_wp2
            exact ⟨rfl, .tuple #[.int .i64 (x : Nat), .int .i64 0], by simp [results, Try.results11, go_sem], by rw [E.out], rfl⟩
      · rw [if_neg (fun h => hn1 h.2.2), if_neg (fun h => hn1 h.2.2)]
        have HP := Lib.hid hp; clear hp
        go_enter Try.func11, Try.ntmps11
        go_wp2_with (go_at_call 15; refine (isPlan_any _ _ _).mono ?_; rintro e w' ⟨rfl, rfl⟩; rw [HP.out])
        exact ⟨rfl, .tuple #[.int .i64 0, .int .i64 1], by simp [results, Try.results11, go_sem], rfl, rfl⟩
    · rw [if_neg (fun h => hn0 h.2.1), if_neg (fun h => hn0 h.2.1)]
      have HP := Lib.hid hp; clear hp
      go_enter Try.func11, Try.ntmps11
      go_wp2_with (go_at_call 15; refine (isPlan_any _ _ _).mono ?_; rintro e w' ⟨rfl, rfl⟩; rw [HP.out])
      exact ⟨rfl, .tuple #[.int .i64 0, .int .i64 1], by simp [results, Try.results11, go_sem], rfl, rfl⟩
  · rw [if_neg (fun h => hp h.1), if_neg (fun h => hp h.1)]
    have HP := Lib.hid (Bool.eq_false_iff.2 hp); clear hp
    go_enter Try.func11, Try.ntmps11
    go_wp2_with (go_at_call 15; refine (isPlan_any _ _ _).mono ?_; rintro e w' ⟨rfl, rfl⟩; rw [HP.out])
    exact ⟨rfl, .tuple #[.int .i64 0, .int .i64 1], by simp [results, Try.results11, go_sem], rfl, rfl⟩

theorem wv_plan {f m k : Nat} (h : Bk.plan f m = true) : Bk.wv f m k = (Bk.W f m k : Nat) := by
  unfold Bk.wv; rw [if_pos ⟨h, by omega⟩]; simp
theorem wc_plan {f m k : Nat} (h : Bk.plan f m = true) : Bk.wc f m k = 0 := by
  unfold Bk.wc; rw [if_pos ⟨h, by omega⟩]

set_option maxHeartbeats 1000000 in
theorem rSum_any (f m n : Int) (w : World) :
    Calls Try.prog 12 #[.int .i64 f, .int .i64 m, .int .i64 n] w fun e w' => e = .returned (.tuple #[.int .i64 (Bk.sv f m n), .int .i64 (Bk.sc f m n)]) ∧ w = w' := by
  unfold Bk.sv Bk.sc
  by_cases hp : Bk.plan f m = true
  · obtain ⟨h1, h2, h3⟩ := (Bk.plan_iff f m).1 hp
    by_cases hn0 : 0 ≤ n
    · by_cases hn1 : n ≤ 1000
      · rw [if_pos ⟨hp, hn0, hn1⟩, if_pos ⟨hp, hn0, hn1⟩]
        obtain ⟨f, rfl⟩ := Int.eq_ofNat_of_zero_le (show 0 ≤ f by omega)
        obtain ⟨m, rfl⟩ := Int.eq_ofNat_of_zero_le (show 0 ≤ m by omega)
        obtain ⟨n, rfl⟩ := Int.eq_ofNat_of_zero_le hn0
        simp only [Int.toNat_natCast]
        have HP := Lib.hid hp; clear hp
        go_enter Try.func12, Try.ntmps12
        go_wp2_with (go_at_call 17; refine (Plan_any _ _ _).mono ?_; rintro e w' ⟨rfl, rfl⟩; rw [HP.out])
        go_loop [8, 9, 10, 11] (fun x i _ _ => ∃ k : Nat, k ≤ n ∧ i = .int .i64 (k : Int) ∧ x = .int .i64 (Bk.S f m k : Nat)) (fun _ i _ _ => n - (intOf i).toNat)
        case atStart => exact ⟨0, by omega, rfl, rfl⟩
        case round =>
          obtain ⟨k, hkn, rfl, rfl⟩ := hrel
          have hS : Bk.S f m k ≤ 1099511627776000 := by
            have h1 := Bk.S_le f m k
            have h2 : k * m ≤ 1000 * 1099511627776 := Nat.mul_le_mul (by omega) (by omega)
            omega
          have HW1 := Lib.hid (Bk.W_le f m k)
          have HS2 : Hid (Bk.S f m (k + 1) = Bk.S f m k + Bk.W f m k) := Lib.hid rfl
          have HV := Lib.hid (wv_plan (k := k) HP.out)
          by_cases hk : k < n
          · generalize Bk.S f m k = x at *
            have hw1 : Bk.W f m k ≤ 1099511627776 := by have := HW1.out; omega
            go_wp2_with (go_at_call 10; refine (rWait_any f m k _ (by omega)).mono ?_; rintro e w' ⟨rfl, rfl⟩; rw [HV.out])
            go_round
            case rel => exact ⟨k + 1, by omega, by go_num, by rw [HS2.out]; go_num⟩
            case measure => simp [intOf]; omega
          · obtain rfl : k = n := by omega
            generalize hx : Bk.S f m k = x at *
            have E := Lib.hid hx; clear hx
            go_wp2
            exact ⟨rfl, .tuple #[.int .i64 (x : Nat), .int .i64 0], by simp [results, Try.results12, go_sem], by rw [E.out], rfl⟩
      · rw [if_neg (fun h => hn1 h.2.2), if_neg (fun h => hn1 h.2.2)]
        have HP := Lib.hid hp; clear hp
        go_enter Try.func12, Try.ntmps12
        go_wp2_with (go_at_call 17; refine (Plan_any _ _ _).mono ?_; rintro e w' ⟨rfl, rfl⟩; rw [HP.out])
        exact ⟨rfl, .tuple #[.int .i64 0, .int .i64 1], by simp [results, Try.results12, go_sem], rfl, rfl⟩
    · rw [if_neg (fun h => hn0 h.2.1), if_neg (fun h => hn0 h.2.1)]
      have HP := Lib.hid hp; clear hp
      go_enter Try.func12, Try.ntmps12
      go_wp2_with (go_at_call 17; refine (Plan_any _ _ _).mono ?_; rintro e w' ⟨rfl, rfl⟩; rw [HP.out])
      exact ⟨rfl, .tuple #[.int .i64 0, .int .i64 1], by simp [results, Try.results12, go_sem], rfl, rfl⟩
  · rw [if_neg (fun h => hp h.1), if_neg (fun h => hp h.1)]
    have HP := Lib.hid (Bool.eq_false_iff.2 hp); clear hp
    go_enter Try.func12, Try.ntmps12
    go_wp2_with (go_at_call 17; refine (Plan_any _ _ _).mono ?_; rintro e w' ⟨rfl, rfl⟩; rw [HP.out])
    exact ⟨rfl, .tuple #[.int .i64 0, .int .i64 1], by simp [results, Try.results12, go_sem], rfl, rfl⟩

theorem a1 : Bk.wv 250 1000 1 = 500 := by decide
theorem a2 : Bk.wc 250 1000 1 = 0 := by decide
theorem a3 : Bk.sv 250 1000 4 = 2750 := by decide
theorem a4 : Bk.sc 250 1000 4 = 0 := by decide
theorem a5 : Bk.wc 5 4 0 = 1 := by decide

theorem awake_any (w : World) : Calls Try.prog 8 #[] w fun e w' => e = .returned (.bool true) ∧ w = w' := by
  go_enter Try.func8, Try.ntmps8
  go_wp2_with fail
  refine (Wait_any 250 1000 1 _ (by omega)).mono ?_; rintro e w' ⟨rfl, rfl⟩; rw [a1, a2]
  go_wp2_with fail
  refine (Sum_any 250 1000 4 _).mono ?_; rintro e w' ⟨rfl, rfl⟩; rw [a3, a4]
  go_wp2_with fail
  refine (Wait_any 5 4 0 _ (by omega)).mono ?_; rintro e w' ⟨rfl, rfl⟩; rw [a5]
  go_wp2
  go_ret
  exact ⟨rfl, rfl⟩

/-- what a wait is: none, or of a plan: not above most, nor below first, nor above the next -/
theorem wait_cases (f m n : Int) : (Bk.wc f m n = 1 ∧ Bk.wv f m n = 0) ∨ (Bk.wc f m n = 0 ∧ 0 ≤ n ∧ (Bk.wv f m n ≤ Bk.wv f m (n + 1) ∧ Bk.wv f m (n + 1) ≤ m) ∧ f ≤ Bk.wv f m n ∧ Bk.wv f m n ≤ m ∧ 1 ≤ f) := by
  by_cases h : Bk.plan f m = true ∧ 0 ≤ n
  · obtain ⟨hp, hn⟩ := h
    obtain ⟨h1, h2, h3⟩ := (Bk.plan_iff f m).1 hp
    refine .inr ⟨by simp [Bk.wc, hp, hn], hn, ?_⟩
    obtain ⟨f, rfl⟩ := Int.eq_ofNat_of_zero_le (show 0 ≤ f by omega)
    obtain ⟨m, rfl⟩ := Int.eq_ofNat_of_zero_le (show 0 ≤ m by omega)
    obtain ⟨n, rfl⟩ := Int.eq_ofNat_of_zero_le hn
    rw [wv_plan hp, show ((n : Int) + 1) = ((n + 1 : Nat) : Int) by omega, wv_plan hp]
    have := Bk.W_mono f m n
    have := Bk.W_le f m (n + 1)
    have := Bk.W_le f m n
    have := Bk.W_ge (f := f) (m := m) (by omega) n
    omega
  · exact .inl ⟨by simp only [Bk.wc, if_neg h], by simp only [Bk.wv, if_neg h]⟩
end Go.Proofs.Ytcamihbcfeengaa
