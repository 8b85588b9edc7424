/-
  Plans as numbers (the wait behind a try; the sum of waits), and the contracts of the small functions: embrasure/back.isPlan, isTime, wait, and the document's own Plan. Conditions: as each lemma states.
-/
import Derived.WalkKit
import Derived.Below
import Derived.WalkSpells
import Derived.WalkLawsBesides
import Derived.Lib.Hide
import Derived.Laws.Shifts
import Derived.Test.YtfaekiopmfnpkaaChecked
namespace Go.Proofs.Ytfaekiopmfnpkaa
open Go.RowKit
set_option linter.unusedVariables false

namespace Bk
/-- the wait behind try n -/
def W (f m n : Nat) : Nat := min (f * 2 ^ n) m
/-- all waits of so many tries -/
def S (f m : Nat) : Nat → Nat
  | 0 => 0
  | k + 1 => S f m k + W f m k
def plan (f m : Int) : Bool := decide (1 ≤ f) && decide (f ≤ m) && decide (m ≤ 1099511627776)
def time (t : Int) : Bool := decide (0 ≤ t) && decide (t ≤ 1099511627776)
def wv (f m n : Int) : Int := if plan f m = true ∧ 0 ≤ n then (W f.toNat m.toNat n.toNat : Nat) else 0
def wc (f m n : Int) : Int := if plan f m = true ∧ 0 ≤ n then 0 else 1
def sv (f m k : Int) : Int := if plan f m = true ∧ 0 ≤ k ∧ k ≤ 1000 then (S f.toNat m.toNat k.toNat : Nat) else 0
def sc (f m k : Int) : Int := if plan f m = true ∧ 0 ≤ k ∧ k ≤ 1000 then 0 else 1

theorem plan_iff (f m : Int) : plan f m = true ↔ 1 ≤ f ∧ f ≤ m ∧ m ≤ 1099511627776 := by
  unfold plan; simp [and_assoc]
theorem plan_no (f m : Int) : plan f m = false ↔ ¬ (1 ≤ f ∧ f ≤ m ∧ m ≤ 1099511627776) := by
  rw [← plan_iff]; simp
theorem time_iff (t : Int) : time t = true ↔ 0 ≤ t ∧ t ≤ 1099511627776 := by unfold time; simp
theorem W_le (f m n : Nat) : W f m n ≤ m := Nat.min_le_right _ _
theorem W_ge {f m : Nat} (h : f ≤ m) (n : Nat) : f ≤ W f m n := by
  unfold W
  have := Nat.le_mul_of_pos_right f (Nat.two_pow_pos n)
  omega
theorem W_zero {f m : Nat} (h : f ≤ m) : W f m 0 = f := by simp [W]; omega
theorem W_succ (f m n : Nat) : W f m (n + 1) = min (2 * W f m n) m := by
  unfold W
  rw [Nat.pow_succ, ← Nat.mul_assoc]
  omega
theorem W_mono (f m n : Nat) : W f m n ≤ W f m (n + 1) := by
  rw [W_succ]; have := W_le f m n; omega
theorem W_far {f m n : Nat} (hf : 1 ≤ f) (hm : m ≤ 1099511627776) (hn : 41 ≤ n) : W f m n = m := by
  have h1 : 2 ^ 41 ≤ 2 ^ n := Nat.pow_le_pow_right (by decide) hn
  have h2 : 2 ^ n ≤ f * 2 ^ n := Nat.le_mul_of_pos_left _ hf
  unfold W
  omega
theorem S_le (f m k : Nat) : S f m k ≤ k * m := by
  induction k with
  | zero => simp [S]
  | succ k ih => have := W_le f m k; rw [S, Nat.add_mul]; omega
theorem S_ge {f m : Nat} (h : f ≤ m) (k : Nat) : k * f ≤ S f m k := by
  induction k with
  | zero => simp [S]
  | succ k ih => have := W_ge h k; rw [S, Nat.add_mul]; omega
/-- the program's own way to the wait -/
theorem low {f m k : Nat} (hf : 1 ≤ f) (hm : m ≤ 1099511627776) (h : f * 2 ^ k ≤ m) : k ≤ 40 ∧ min k 64 = k ∧ f ≤ m / 2 ^ k ∧ W f m k = f * 2 ^ k := by
  have hk : k ≤ 40 := by
    rcases Nat.lt_or_ge 40 k with h' | h'
    · have h1 : 2 ^ 41 ≤ 2 ^ k := Nat.pow_le_pow_right (by decide) h'
      have h2 : 2 ^ k ≤ f * 2 ^ k := Nat.le_mul_of_pos_left _ hf
      omega
    · exact h'
  exact ⟨hk, by omega, (Nat.le_div_iff_mul_le (Nat.two_pow_pos k)).2 h, Nat.min_eq_left h⟩
theorem high {f m k : Nat} (hf : 1 ≤ f) (hm : m ≤ 1099511627776) (h : ¬ f * 2 ^ k ≤ m) : m / 2 ^ min k 64 < f ∧ W f m k = m := by
  refine ⟨?_, Nat.min_eq_right (by omega)⟩
  rw [Nat.div_lt_iff_lt_mul (Nat.two_pow_pos _)]
  rcases Nat.lt_or_ge 64 k with h' | h'
  · have e : min k 64 = 64 := by omega
    rw [e]
    have h2 : 2 ^ 64 ≤ f * 2 ^ 64 := Nat.le_mul_of_pos_left _ hf
    omega
  · have e : min k 64 = k := by omega
    rw [e]; omega
end Bk

theorem isPlan_any (f m : Int) (w : World) : Calls Try.prog 40 #[.int .i64 f, .int .i64 m] w fun e w' => e = .returned (.bool (Bk.plan f m)) ∧ w = w' := by
  by_cases h1 : 1 ≤ f
  · by_cases h2 : f ≤ m
    · by_cases h3 : m ≤ 1099511627776
      · have t : Bk.plan f m = true := (Bk.plan_iff f m).2 ⟨h1, h2, h3⟩
        rw [t]
        go_enter Try.func40, Try.ntmps40
        go_wp2
        go_ret
        exact ⟨rfl, rfl⟩
      · have t : Bk.plan f m = false := by rw [Bk.plan_no]; omega
        rw [t]
        go_enter Try.func40, Try.ntmps40
        go_wp2
        go_ret
        exact ⟨rfl, rfl⟩
    · have t : Bk.plan f m = false := by rw [Bk.plan_no]; omega
      rw [t]
      go_enter Try.func40, Try.ntmps40
      go_wp2
      go_ret
      exact ⟨rfl, rfl⟩
  · have t : Bk.plan f m = false := by rw [Bk.plan_no]; omega
    rw [t]
    go_enter Try.func40, Try.ntmps40
    go_wp2
    go_ret
    exact ⟨rfl, rfl⟩

/-- back.wait, of a plan -/
theorem wait_any (f m k : Nat) (w : World) (hf : 1 ≤ f) (hfm : f ≤ m) (hm : m ≤ 1099511627776) (hk : k ≤ 9223372036854775807) :
    Calls Try.prog 41 #[.int .i64 (f : Int), .int .i64 (m : Int), .int .i64 (k : Int)] w fun e w' => e = .returned (.int .i64 (Bk.W f m k : Nat)) ∧ w = w' := by
  by_cases h : f * 2 ^ k ≤ m
  · obtain ⟨h40, h64, hd, hW⟩ := Bk.low hf hm h
    rw [hW]
    have t1 : (f : Int) ≤ (m : Int) / 2 ^ k := by exact_mod_cast hd
    have e1 : (f : Int) * 2 ^ k = ((f * 2 ^ k : Nat) : Int) := by push_cast; rfl
    generalize f * 2 ^ k = x at *
    have e2 : wrap64 ((f : Int) * 2 ^ k) = (x : Int) := by rw [e1]; exact IntWalk.wrap64_in _ ⟨by omega, by omega⟩
    have E2 := Lib.hid e2
    clear e1 e2 hd hW
    go_enter Try.func41, Try.ntmps41
    go_wp2
    rw [E2.out]
    go_ret
    exact ⟨rfl, rfl⟩
  · obtain ⟨hd, hW⟩ := Bk.high hf hm h
    rw [hW]
    have t1 : (m : Int) / 2 ^ min k 64 < (f : Int) := by exact_mod_cast hd
    clear hd hW
    go_enter Try.func41, Try.ntmps41
    go_wp2
    go_ret
    exact ⟨rfl, rfl⟩

/-- back.Wait, whatever it is asked -/
theorem Wait_any (f m n : Int) (w : World) (hn : n ≤ 9223372036854775807) :
    Calls Try.prog 28 #[.int .i64 f, .int .i64 m, .int .i64 n] w fun e w' => e = .returned (.tuple #[.int .i64 (Bk.wv f m n), .int .i64 (Bk.wc f m n)]) ∧ w = w' := by
  unfold Bk.wv Bk.wc
  by_cases hp : Bk.plan f m = true
  · obtain ⟨h1, h2, h3⟩ := (Bk.plan_iff f m).1 hp
    by_cases hn0 : 0 ≤ n
    · rw [if_pos ⟨hp, hn0⟩, if_pos ⟨hp, hn0⟩]
      obtain ⟨f, rfl⟩ := Int.eq_ofNat_of_zero_le (show 0 ≤ f by omega)
      obtain ⟨m, rfl⟩ := Int.eq_ofNat_of_zero_le (show 0 ≤ m by omega)
      obtain ⟨n, rfl⟩ := Int.eq_ofNat_of_zero_le hn0
      simp only [Int.toNat_natCast]
      have HP := Lib.hid hp; clear hp
      go_enter Try.func28, Try.ntmps28
      go_wp2_with (first
        | (go_at_call 40; refine (isPlan_any _ _ _).mono ?_; rintro e w' ⟨rfl, rfl⟩; rw [HP.out])
        | (go_at_call 41; refine (wait_any f m n _ (by omega) (by omega) (by omega) (by omega)).mono ?_; rintro e w' ⟨rfl, rfl⟩))
      exact ⟨rfl, .tuple #[.int .i64 (Bk.W f m n : Nat), .int .i64 0], by simp [results, Try.results28, go_sem], rfl, rfl⟩
    · rw [if_neg (fun h => hn0 h.2), if_neg (fun h => hn0 h.2)]
      have HP := Lib.hid hp; clear hp
      go_enter Try.func28, Try.ntmps28
      go_wp2_with (go_at_call 40; refine (isPlan_any _ _ _).mono ?_; rintro e w' ⟨rfl, rfl⟩; rw [HP.out])
      exact ⟨rfl, .tuple #[.int .i64 0, .int .i64 1], by simp [results, Try.results28, go_sem], rfl, rfl⟩
  · rw [if_neg (fun h => hp h.1), if_neg (fun h => hp h.1)]
    have HP := Lib.hid (Bool.eq_false_iff.2 hp); clear hp
    go_enter Try.func28, Try.ntmps28
    go_wp2_with (go_at_call 40; refine (isPlan_any _ _ _).mono ?_; rintro e w' ⟨rfl, rfl⟩; rw [HP.out])
    exact ⟨rfl, .tuple #[.int .i64 0, .int .i64 1], by simp [results, Try.results28, go_sem], rfl, rfl⟩

end Go.Proofs.Ytfaekiopmfnpkaa
