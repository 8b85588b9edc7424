/-
  Contracts of addr.May, of nat's part, isWay, isBox, New, Box and Reboot. Conditions: as each lemma states.
-/
import Derived.Test.YthfdnidcmkjmoaaMem
import Derived.Deep.QuietTactic
import Derived.BigQuiet
namespace Go.Proofs.Ythfdnidcmkjmoaa
open Go.RowKit
set_option linter.unusedVariables false

theorem ret_b {a b : Bool} (h : a = b) : Ending.returned (.bool a) = .returned (.bool b) := by rw [h]
theorem ret_adr {a b : A2} (h : a = b) : Ending.returned (adr a) = .returned (adr b) := by rw [h]

set_option maxHeartbeats 1000000 in
theorem may_any (a : A2) (w : World) (ha : isA a) : Calls Try.prog 22 #[adr a] w fun e w' => e = .returned (.bool (mayA a)) ∧ Below w.heap.size w w' := by
  obtain ⟨h, p⟩ := a
  obtain ⟨⟨h0, h1⟩, h2, h3⟩ := ha
  dsimp only at h0 h1 h2 h3
  unfold adr
  dsimp only
  by_cases c1 : h = 0
  · subst c1
    go_enter Try.func22, Try.ntmps22
    go_wp2
    go_ret
    exact ⟨ret_b (by simp [mayA]), (Below.refl _ _).alloc (Nat.le_refl _) _⟩
  · have t1 : (h != 0) = true := by rw [bne_iff_ne]; exact c1
    have H1 := Lib.hid c1; clear c1
    by_cases c2 : 1 ≤ p
    · by_cases c3 : p ≤ 65535
      · go_enter Try.func22, Try.ntmps22
        go_wp2
        go_ret
        exact ⟨ret_b (mayA_t (a := (h, p)) H1.out (by omega) (by omega)).symm, (Below.refl _ _).alloc (Nat.le_refl _) _⟩
      · go_enter Try.func22, Try.ntmps22
        go_wp2
        go_ret
        exact ⟨ret_b (mayA_f (a := (h, p)) (.inr (.inr (by simp; omega)))).symm, (Below.refl _ _).alloc (Nat.le_refl _) _⟩
    · go_enter Try.func22, Try.ntmps22
      go_wp2
      go_ret
      exact ⟨ret_b (mayA_f (a := (h, p)) (.inr (.inl (by simp; omega)))).symm, (Below.refl _ _).alloc (Nat.le_refl _) _⟩

/-- as much of an address as is looked at -/
def partA (a : A2) (m : Int) : A2 := if m = 0 then (0, 0) else if m = 1 then (a.1, 0) else a
theorem partA_isA {a : A2} (h : isA a) (m : Int) : isA (partA a m) := by
  unfold partA
  split
  · exact ⟨⟨by simp, by simp⟩, by simp, by simp⟩
  · split
    · exact ⟨h.1, by simp, by simp⟩
    · exact h
/-- may a box be made so? -/
def isWayB (m : Int) : Bool := decide (0 ≤ m) && decide (m ≤ 2)
def boxOK (x : Bx) : Bool := decide (x.host ≠ 0) && (decide (1 ≤ x.lo) && (decide (x.lo ≤ x.hi) && (decide (x.hi ≤ 65535) && (isWayB x.map && (isWayB x.filter && (decide (1 ≤ x.life) && (decide (x.life ≤ 1099511627776) && (decide (1 ≤ x.most) && decide (x.most ≤ 100)))))))))
end Go.Proofs.Ythfdnidcmkjmoaa
