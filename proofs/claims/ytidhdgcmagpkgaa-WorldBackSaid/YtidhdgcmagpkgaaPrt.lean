/-
  Contracts of addr.May, of nat's part, isWay, isBox, New, Box and Reboot. Conditions: as each lemma states.
-/
import Derived.Test.YtidhdgcmagpkgaaMem
import Derived.Deep.QuietTactic
import Derived.BigQuiet
namespace Go.Proofs.Ytidhdgcmagpkgaa
open Go.RowKit
set_option linter.unusedVariables false

theorem ret_b {a b : Bool} (h : a = b) : Ending.returned (.bool a) = .returned (.bool b) := by rw [h]
theorem ret_adr {a b : A2} (h : a = b) : Ending.returned (adr a) = .returned (adr b) := by rw [h]

set_option maxHeartbeats 1000000 in
theorem may_any (a : A2) (w : World) (ha : isA a) : Calls Try.prog 18 #[adr a] w fun e w' => e = .returned (.bool (mayA a)) ∧ Below w.heap.size w w' := by
  obtain ⟨h, p⟩ := a
  obtain ⟨⟨h0, h1⟩, h2, h3⟩ := ha
  dsimp only at h0 h1 h2 h3
  unfold adr
  dsimp only
  by_cases c1 : h = 0
  · subst c1
    go_enter Try.func18, Try.ntmps18
    go_wp2
    go_ret
    exact ⟨ret_b (by simp [mayA]), (Below.refl _ _).alloc (Nat.le_refl _) _⟩
  · have t1 : (h != 0) = true := by rw [bne_iff_ne]; exact c1
    have H1 := Lib.hid c1; clear c1
    by_cases c2 : 1 ≤ p
    · by_cases c3 : p ≤ 65535
      · go_enter Try.func18, Try.ntmps18
        go_wp2
        go_ret
        exact ⟨ret_b (mayA_t (a := (h, p)) H1.out (by omega) (by omega)).symm, (Below.refl _ _).alloc (Nat.le_refl _) _⟩
      · go_enter Try.func18, Try.ntmps18
        go_wp2
        go_ret
        exact ⟨ret_b (mayA_f (a := (h, p)) (.inr (.inr (by simp; omega)))).symm, (Below.refl _ _).alloc (Nat.le_refl _) _⟩
    · go_enter Try.func18, Try.ntmps18
      go_wp2
      go_ret
      exact ⟨ret_b (mayA_f (a := (h, p)) (.inr (.inl (by simp; omega)))).symm, (Below.refl _ _).alloc (Nat.le_refl _) _⟩

/-- as much of an address as is looked at -/
def partA (a : A2) (m : Int) : A2 := if m = 0 then (0, 0) else if m = 1 then (a.1, 0) else a
theorem partA_isA {a : A2} (h : isA a) (m : Int) : isA (partA a m) := by
  unfold partA
  split
  · exact ⟨⟨by simp, by simp⟩, by simp, by simp⟩
  · split
    · exact ⟨h.1, by simp, by simp⟩
    · exact h
set_option maxHeartbeats 1000000 in
theorem part_any (a : A2) (m : Int) (w : World) : Calls Try.prog 42 #[adr a, .int .i64 m] w fun e w' => e = .returned (adr (partA a m)) ∧ Below w.heap.size w w' := by
  obtain ⟨h, p⟩ := a
  have HB : Hid (∀ C C' : Obj, Below w.heap.size w ((w.alloc C).alloc C')) := Lib.hid (fun C C' => ((Below.refl _ w).alloc (Nat.le_refl _) _).alloc (by simp) _)
  unfold adr
  dsimp only
  by_cases c1 : m = 0
  · subst c1
    have HR : Hid (partA (h, p) 0 = (0, 0)) := Lib.hid rfl
    go_enter Try.func42, Try.ntmps42
    go_wp2
    exact ⟨rfl, .agg #[.int .u32 0, .int .i64 0], by simp [results, Try.results42, go_sem], by rw [HR.out], HB.out _ _⟩
  · by_cases c2 : m = 1
    · subst c2
      have HR : Hid (partA (h, p) 1 = (h, 0)) := Lib.hid rfl
      go_enter Try.func42, Try.ntmps42
      go_wp2
      exact ⟨rfl, .agg #[.int .u32 h, .int .i64 0], by simp [results, Try.results42, go_sem], by rw [HR.out], HB.out _ _⟩
    · have HR : Hid (partA (h, p) m = (h, p)) := Lib.hid (by simp [partA, c1, c2])
      have t1 : (m == 0) = false := by simpa using c1
      have t2 : (m == 1) = false := by simpa using c2
      clear c1 c2
      go_enter Try.func42, Try.ntmps42
      go_wp2
      exact ⟨rfl, .agg #[.int .u32 h, .int .i64 p], by simp [results, Try.results42, go_sem], by rw [HR.out], HB.out _ _⟩

/-- may a box be made so? -/
def isWayB (m : Int) : Bool := decide (0 ≤ m) && decide (m ≤ 2)
def boxOK (x : Bx) : Bool := decide (x.host ≠ 0) && (decide (1 ≤ x.lo) && (decide (x.lo ≤ x.hi) && (decide (x.hi ≤ 65535) && (isWayB x.map && (isWayB x.filter && (decide (1 ≤ x.life) && (decide (x.life ≤ 1099511627776) && (decide (1 ≤ x.most) && decide (x.most ≤ 100)))))))))
set_option maxHeartbeats 1000000 in
theorem isWay_any (m : Int) (w : World) : Calls Try.prog 37 #[.int .i64 m] w fun e w' => e = .returned (.bool (isWayB m)) ∧ w = w' := by
  by_cases c1 : 0 ≤ m
  · by_cases c2 : m ≤ 2
    · have HR : Hid (isWayB m = true) := Lib.hid (by simp [isWayB, c1, c2])
      go_enter Try.func37, Try.ntmps37
      go_wp2
      go_ret
      exact ⟨ret_b HR.out.symm, rfl⟩
    · have HR : Hid (isWayB m = false) := Lib.hid (by simp [isWayB, c2])
      go_enter Try.func37, Try.ntmps37
      go_wp2
      go_ret
      exact ⟨ret_b HR.out.symm, rfl⟩
  · have HR : Hid (isWayB m = false) := Lib.hid (by simp [isWayB, c1])
    go_enter Try.func37, Try.ntmps37
    go_wp2
    go_ret
    exact ⟨ret_b HR.out.symm, rfl⟩
end Go.Proofs.Ytidhdgcmagpkgaa
