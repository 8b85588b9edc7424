/-
  The contract of the document's own embrasureref02.Rows: are two rows of rows of bytes the same. Conditions: the slices read as rows of bytes.
-/
import Derived.Test.YtadbidgikgffhaaRowsOf
namespace Go.Proofs.Ytadbidgikgffhaa
open Go.RowKit
set_option linter.unusedVariables false

theorem Rs.some_of {w : World} {A : Option Addr} {n : Nat} {rss : List (List Int)} (h : Rs w A n rss) (hn : 0 < n) : ∃ b off, A = some ⟨b, off, none⟩ ∧ b < w.heap.size := by
  obtain ⟨b, off, v, h1, h2, _⟩ := h.2 0 hn
  exact ⟨b, off, h1, h2⟩
theorem Rs.cell {w : World} {b off n : Nat} {rss : List (List Int)} (h : Rs w (some ⟨b, off, none⟩) n rss) {j : Nat} (hj : j < n) : ∃ A m c, w.cell? ⟨b, off + j, none⟩ = some (.slice A m c) ∧ Bts w A m (rss.getD j []) ∧ m ≤ c ∧ c ≤ maxLen ∧ (A = none → m = 0 ∧ c = 0) := by
  obtain ⟨b', off', v, e, h2, h3, A, m, c, rfl, h4, h5, h6, h7, _⟩ := h.2 j hj
  simp only [Option.some.injEq, Addr.mk.injEq] at e
  obtain ⟨rfl, rfl, _⟩ := e
  exact ⟨A, m, c, h3, h4, h5, h6, h7⟩

def AlikeR (xs ys : List (List Int)) (k : Nat) : Prop := ∀ j, j < k → xs.getD j [] = ys.getD j []
theorem AlikeR.zero (xs ys : List (List Int)) : AlikeR xs ys 0 := fun j h => by omega
theorem AlikeR.succ {xs ys : List (List Int)} {k : Nat} (h : AlikeR xs ys k) (e : xs.getD k [] = ys.getD k []) : AlikeR xs ys (k + 1) := fun j hj => by
  rcases Nat.lt_or_ge j k with h' | h'
  · exact h j h'
  · obtain rfl : j = k := by omega
    exact e
theorem AlikeR.eq {xs ys : List (List Int)} {n : Nat} (h : AlikeR xs ys n) (hx : xs.length = n) (hy : ys.length = n) : xs = ys := by
  refine List.ext_getElem (by omega) fun i h1 h2 => ?_
  have := h i (by omega)
  simpa [List.getD, h1, h2] using this

set_option maxHeartbeats 1000000 in
theorem rows_some (b1 o1 b2 o2 n c1 c2 : Nat) (xs ys : List (List Int)) (w : World) (hn : 0 < n) (hc1 : n ≤ maxLen) (hx : Rs w (some ⟨b1, o1, none⟩) n xs) (hy : Rs w (some ⟨b2, o2, none⟩) n ys) :
    Calls Try.prog 16 #[.slice (some ⟨b1, o1, none⟩) n c1, .slice (some ⟨b2, o2, none⟩) n c2] w fun e w' => e = .returned (.bool (decide (xs = ys))) ∧ ∃ q, w' = w.drewN q := by
  unfold maxLen at hc1
  have HX := Lib.hid hx; clear hx
  have HY := Lib.hid hy; clear hy
  have hnn : ((n : Int) != (n : Int)) = false := by simp
  go_enter Try.func16, Try.ntmps16
  go_wp2
  go_loopw [5] (fun i wr => ∃ (k q : Nat), k ≤ n ∧ i = .int .i64 k ∧ wr = w.drewN q ∧ AlikeR xs ys k) (fun i _ => n - (intOf i).toNat)
  case atStart => exact ⟨0, 0, by omega, rfl, rfl, AlikeR.zero _ _⟩
  case round =>
    obtain ⟨k, q, hk, rfl, rfl, hA⟩ := hrel
    have HA := Lib.hid hA; clear hA
    by_cases hkn : k < n
    · obtain ⟨A1, n1, d1, h1, hb1, hn1, hd1, _⟩ := HX.out.cell hkn
      obtain ⟨A2, n2, d2, h2, hb2, hn2, hd2, _⟩ := HY.out.cell hkn
      have HS : Hid (∀ q p, Calls Try.prog 13 #[.slice A1 n1 d1, .slice A2 n2 d2] (w.drewN (q + p)) fun e w' => e = .returned (.bool (decide (xs.getD k [] = ys.getD k []))) ∧ ∃ m, w' = w.drewN (q + m)) :=
        Lib.hid (fun q p => (same_any A1 A2 n1 n2 d1 d2 _ _ _ (Nat.le_trans hn1 hd1) (hb1.drewN (q + p)) (hb2.drewN (q + p))).mono fun e w' ⟨h1, m, hm⟩ => ⟨h1, p + m, by rw [hm, World.drewN_drewN, Nat.add_assoc]⟩)
      clear hb1 hb2 hd1 hd2
      by_cases hxy : xs.getD k [] = ys.getD k []
      · have HE := Lib.hid hxy
        have HS2 : Hid (∀ q p, Calls Try.prog 13 #[.slice A1 n1 d1, .slice A2 n2 d2] (w.drewN (q + p)) fun e w' => e = .returned (.bool true) ∧ ∃ m, w' = w.drewN (q + m)) := Lib.hid (fun q p => (HS.out q p).mono fun e w' h => ⟨by rw [h.1, decide_eq_true hxy], h.2⟩)
        clear hxy HS
        go_wp2
        go_quiet (first | (go_at_call 13; exact HS2.out _ _))
        go_wp2
        go_roundw
        case rel => exact ⟨k + 1, _, by omega, by go_num, rfl, HA.out.succ HE.out⟩
        case measure => simp [intOf]; omega
      · have E : Hid (¬ xs = ys) := Lib.hid (fun e => hxy (by rw [e]))
        have HS2 : Hid (∀ q p, Calls Try.prog 13 #[.slice A1 n1 d1, .slice A2 n2 d2] (w.drewN (q + p)) fun e w' => e = .returned (.bool false) ∧ ∃ m, w' = w.drewN (q + m)) := Lib.hid (fun q p => (HS.out q p).mono fun e w' h => ⟨by rw [h.1, decide_eq_false hxy], h.2⟩)
        clear hxy HS
        go_wp2
        go_quiet (first | (go_at_call 13; exact HS2.out _ _))
        go_wp2
        go_ret
        exact ⟨ret_bool (by simp [E.out]), q + nq, by rw [World.drewN_drewN]⟩
    · have E := Lib.hid (HA.out.eq (n := k) (by have := HX.out.1; omega) (by have := HY.out.1; omega))
      go_wp2
      go_ret
      exact ⟨ret_bool (by simp [E.out]), _, rfl⟩

set_option maxHeartbeats 400000 in
theorem rows_none (A1 A2 : Option Addr) (c1 c2 : Nat) (w : World) :
    Calls Try.prog 16 #[.slice A1 0 c1, .slice A2 0 c2] w fun e w' => e = .returned (.bool true) ∧ ∃ q, w' = w.drewN q := by
  go_enter Try.func16, Try.ntmps16
  go_wp2
  refine wp_loop_rounds 1 ?_
  rw [rounds_succ]
  go_wp2
  go_ret
  exact ⟨rfl, 0, rfl⟩
set_option maxHeartbeats 400000 in
theorem rows_unlike (A1 A2 : Option Addr) (n m c1 c2 : Nat) (w : World) (h : ¬ n = m) :
    Calls Try.prog 16 #[.slice A1 n c1, .slice A2 m c2] w fun e w' => e = .returned (.bool false) ∧ ∃ q, w' = w.drewN q := by
  have t : ((n : Int) != (m : Int)) = true := by rw [bne_iff_ne]; omega
  clear h
  go_enter Try.func16, Try.ntmps16
  go_wp2
  go_ret
  exact ⟨rfl, 0, rfl⟩
/-- the document's own Rows -/
theorem rows_any (A1 A2 : Option Addr) (n m c1 c2 : Nat) (xs ys : List (List Int)) (w : World) (hn : n ≤ maxLen) (h1 : Rs w A1 n xs) (h2 : Rs w A2 m ys) :
    Calls Try.prog 16 #[.slice A1 n c1, .slice A2 m c2] w fun e w' => e = .returned (.bool (decide (xs = ys))) ∧ ∃ q, w' = w.drewN q := by
  by_cases hnm : n = m
  · subst hnm
    rcases Nat.eq_zero_or_pos n with h0 | h0
    · subst h0
      obtain rfl : xs = [] := List.eq_nil_of_length_eq_zero h1.1
      obtain rfl : ys = [] := List.eq_nil_of_length_eq_zero h2.1
      exact (rows_none A1 A2 c1 c2 w).mono fun e w' h => ⟨h.1, h.2⟩
    · obtain ⟨b1, o1, rfl, _⟩ := h1.some_of h0
      obtain ⟨b2, o2, rfl, _⟩ := h2.some_of h0
      exact rows_some b1 o1 b2 o2 n c1 c2 xs ys w h0 hn h1 h2
  · have hne : ¬ xs = ys := fun e => hnm (by rw [← h1.1, ← h2.1, e])
    exact (rows_unlike A1 A2 n m c1 c2 w hnm).mono fun e w' h => ⟨by rw [h.1]; simp [hne], h.2⟩

end Go.Proofs.Ytadbidgikgffhaa
