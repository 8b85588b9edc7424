/-
  The contract of the document's own embrasureref01.Same: whether two rows of bytes are the same. Conditions: the slices read as bytes.
-/
import Derived.Test.YthfdnidcmkjmoaaBts
namespace Go.Proofs.Ythfdnidcmkjmoaa
open Go.RowKit
set_option linter.unusedVariables false

def Alike (xs ys : List Int) (k : Nat) : Prop := ∀ j, j < k → xs.getD j 0 = ys.getD j 0
theorem Alike.zero (xs ys : List Int) : Alike xs ys 0 := fun j h => by omega
theorem Alike.succ {xs ys : List Int} {k : Nat} (h : Alike xs ys k) {x y : Int} (hx : xs.getD k 0 = x) (hy : ys.getD k 0 = y) (e : x = y) : Alike xs ys (k + 1) := fun j hj => by
  rcases Nat.lt_or_ge j k with h' | h'
  · exact h j h'
  · obtain rfl : j = k := by omega
    omega
theorem Alike.eq {xs ys : List Int} {n : Nat} (h : Alike xs ys n) (hx : xs.length = n) (hy : ys.length = n) : xs = ys := by
  refine List.ext_getElem (by omega) fun i h1 h2 => ?_
  have := h i (by omega)
  simpa [List.getD, h1, h2] using this
theorem getD_ne {xs ys : List Int} {k : Nat} {x y : Int} (hx : xs.getD k 0 = x) (hy : ys.getD k 0 = y) (h : ¬ x = y) : ¬ xs = ys := fun e => h (by rw [← hx, ← hy, e])

set_option maxHeartbeats 1000000 in
theorem same_some (b1 o1 b2 o2 n c1 c2 : Nat) (xs ys : List Int) (w : World) (hn : 0 < n) (hc1 : n ≤ maxLen) (hx : xs.length = n) (hy : ys.length = n)
    (hcx : ∀ j, j < n → w.cell? ⟨b1, o1 + j, none⟩ = some (.int .u8 (xs.getD j 0))) (hcy : ∀ j, j < n → w.cell? ⟨b2, o2 + j, none⟩ = some (.int .u8 (ys.getD j 0))) :
    Calls Try.prog 21 #[.slice (some ⟨b1, o1, none⟩) n c1, .slice (some ⟨b2, o2, none⟩) n c2] w fun e w' => e = .returned (.bool (decide (xs = ys))) ∧ ∃ q, w' = w.drewN q := by
  unfold maxLen at hc1
  have HX := Lib.hid hx; clear hx
  have HY := Lib.hid hy; clear hy
  have HCX := Lib.hid hcx; clear hcx
  have HCY := Lib.hid hcy; clear hcy
  have hnn : ((n : Int) != (n : Int)) = false := by simp
  go_enter Try.func21, Try.ntmps21
  go_wp2
  go_loopw [5] (fun i wr => ∃ (k q : Nat), k ≤ n ∧ i = .int .i64 k ∧ wr = w.drewN q ∧ Alike xs ys k) (fun i _ => n - (intOf i).toNat)
  case atStart => exact ⟨0, 0, by omega, rfl, rfl, Alike.zero _ _⟩
  case round =>
    obtain ⟨k, q, hk, rfl, rfl, hA⟩ := hrel
    have HA := Lib.hid hA; clear hA
    by_cases hkn : k < n
    · have h1 := HCX.out k hkn
      have h2 := HCY.out k hkn
      obtain ⟨x, hxx⟩ : ∃ x, xs.getD k 0 = x := ⟨_, rfl⟩
      obtain ⟨y, hyy⟩ : ∃ y, ys.getD k 0 = y := ⟨_, rfl⟩
      rw [hxx] at h1
      rw [hyy] at h2
      have HXX := Lib.hid hxx; clear hxx
      have HYY := Lib.hid hyy; clear hyy
      by_cases hxy : x = y
      · have t1 : (x != y) = false := by simp [hxy]
        have HE := Lib.hid hxy; clear hxy
        go_wp2
        go_quiet (fail)
        go_wp2
        go_roundw
        case rel => exact ⟨k + 1, _, by omega, by go_num, rfl, HA.out.succ HXX.out HYY.out HE.out⟩
        case measure => simp [intOf]; omega
      · have t1 : (x != y) = true := by simp [hxy]
        have E := Lib.hid (getD_ne HXX.out HYY.out hxy)
        clear hxy
        go_wp2
        go_quiet (fail)
        go_wp2
        go_ret
        exact ⟨ret_bool (by simp [E.out]), q + nq, by rw [World.drewN_drewN]⟩
    · have E := Lib.hid (HA.out.eq (n := k) (by have := HX.out; omega) (by have := HY.out; omega))
      go_wp2
      go_ret
      exact ⟨ret_bool (by simp [E.out]), _, rfl⟩

set_option maxHeartbeats 400000 in
theorem same_none (A1 A2 : Option Addr) (c1 c2 : Nat) (w : World) :
    Calls Try.prog 21 #[.slice A1 0 c1, .slice A2 0 c2] w fun e w' => e = .returned (.bool true) ∧ ∃ q, w' = w.drewN q := by
  go_enter Try.func21, Try.ntmps21
  go_wp2
  refine wp_loop_rounds 1 ?_
  rw [rounds_succ]
  go_wp2
  go_ret
  exact ⟨rfl, 0, rfl⟩

set_option maxHeartbeats 400000 in
theorem same_len (A1 A2 : Option Addr) (n m c1 c2 : Nat) (w : World) (h : ¬ n = m) :
    Calls Try.prog 21 #[.slice A1 n c1, .slice A2 m c2] w fun e w' => e = .returned (.bool false) ∧ ∃ q, w' = w.drewN q := by
  have t : ((n : Int) != (m : Int)) = true := by rw [bne_iff_ne]; omega
  clear h
  go_enter Try.func21, Try.ntmps21
  go_wp2
  go_ret
  exact ⟨rfl, 0, rfl⟩

/-- the document's own Same -/
theorem same_any (A1 A2 : Option Addr) (n m c1 c2 : Nat) (xs ys : List Int) (w : World) (hn : n ≤ maxLen) (h1 : Bts w A1 n xs) (h2 : Bts w A2 m ys) :
    Calls Try.prog 21 #[.slice A1 n c1, .slice A2 m c2] w fun e w' => e = .returned (.bool (decide (xs = ys))) ∧ ∃ q, w' = w.drewN q := by
  obtain ⟨l1, _, k1⟩ := h1
  obtain ⟨l2, _, k2⟩ := h2
  by_cases hnm : n = m
  · subst hnm
    rcases Nat.eq_zero_or_pos n with h0 | h0
    · subst h0
      obtain rfl : xs = [] := List.eq_nil_of_length_eq_zero l1
      obtain rfl : ys = [] := List.eq_nil_of_length_eq_zero l2
      exact (same_none A1 A2 c1 c2 w).mono fun e w' h => ⟨h.1, h.2⟩
    · obtain ⟨b1, o1, rfl, _, hx⟩ := k1 h0
      obtain ⟨b2, o2, rfl, _, hy⟩ := k2 h0
      exact same_some b1 o1 b2 o2 n c1 c2 xs ys w h0 hn l1 l2 hx hy
  · have hne : ¬ xs = ys := fun e => hnm (by rw [← l1, ← l2, e])
    exact (same_len A1 A2 n m c1 c2 w hnm).mono fun e w' h => ⟨by rw [h.1]; simp [hne], h.2⟩

theorem same_self (A1 A2 : Option Addr) (n c1 c2 : Nat) (xs : List Int) (w : World) (hn : n ≤ maxLen) (h1 : Bts w A1 n xs) (h2 : Bts w A2 n xs) :
    Calls Try.prog 21 #[.slice A1 n c1, .slice A2 n c2] w fun e w' => e = .returned (.bool true) ∧ ∃ q, w' = w.drewN q :=
  (same_any A1 A2 n n c1 c2 xs xs w hn h1 h2).mono fun e w' h => ⟨by rw [h.1]; simp, h.2⟩
end Go.Proofs.Ythfdnidcmkjmoaa
