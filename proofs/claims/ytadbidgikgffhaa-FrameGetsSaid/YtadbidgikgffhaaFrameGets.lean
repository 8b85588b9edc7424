/-
  The statement FrameGets holds: the frame with which any bytes begin, all rows of any bytes, and a row's frame are what the document says. Conditions: none beyond the row's own.
-/
import Derived.Deep.RegionHeld3
import Derived.Test.YtadbidgikgffhaaAll
import Derived.Test.YtadbidgikgffhaaAwake
import Derived.Test.YtadbidgikgffhaaRowsIn
import Derived.Test.YtadbidgikgffhaaRows
import Derived.WalkKit
import Derived.ProofKit
import Derived.OpenShut
import Derived.ShutString
import Derived.ChangeOld
import Derived.Below
namespace Go.Proofs.Ytadbidgikgffhaa.frameGets
open Go.ChangeShapes Go.WideShapes Go.ChangeAt Go.RowKit
open Go.ChangeMaps (open_string shut_string)
set_option linter.unusedVariables false

theorem own : ownKnob Try.prog.godebug = none := by kernel_rfl
theorem laidOut : laidOutB Try.prog = true := by kernel_rfl

open Go.Shelf
attribute [local go_sem] Oper.semAt_some

theorem grown_box {A W : World} {b g t : Nat} {v : Value} (h : A.grownBy W (some b)) (hc : Boxed A g t v) (hb : g ≠ b) : Boxed W g t v := hc.kept h (fun e => hb (by injection e))
theorem count_at (A : Option Addr) (m c : Nat) (zs : List Int) (w : World) (h : Bts w A m zs) (hmc : m ≤ c) (hc : c ≤ maxLen) (hm : m ≤ 1000000) {q : Nat} (hq : (Fr.rows zs).length = q) :
    Calls Try.prog 17 #[.slice A m c] w fun e w' => e = .returned (.int .i64 (q : Nat)) ∧ Below w.heap.size w w' :=
  (count_any A m c zs w h hmc hc hm).mono fun e w' h => ⟨by rw [h.1, hq], h.2⟩

/-- what a frame of a row is: nothing, if it is too long -/
def putOf (r : List Int) : List Int := if r.length ≤ 1200 then Fr.put r else []
def codeOf (r : List Int) : Int := if r.length ≤ 1200 then 0 else 4
def PutsAns (w : World) (r : List Int) (e : Ending) (w' : World) : Prop :=
  ∃ A c, e = .returned (.tuple #[.slice A (putOf r).length c, .int .i64 (codeOf r)]) ∧ Bts w' A (putOf r).length (putOf r) ∧ Below w.heap.size w w'
theorem puts_any (A : Option Addr) (n c : Nat) (zs : List Int) (w : World) (h : Bts w A n zs) (hnil : A = none → n = 0 ∧ c = 0) :
    Calls Try.prog 11 #[.slice A n c] w (PutsAns w zs) := by
  have hl := h.len
  by_cases hn : n ≤ 1200
  · refine (fput_ok A n c zs w h hnil hn).mono ?_
    rintro e w' ⟨v, rfl, ho, hb⟩
    obtain ⟨A', c', rfl, _, _, hbt⟩ := own_form ho (put_bd h.bd)
    exact ⟨A', c', by simp [putOf, codeOf, hl, hn], by simpa [putOf, hl, hn] using hbt, hb⟩
  · refine (fput_long A n c w (by omega)).mono ?_
    rintro e w' ⟨rfl, rfl⟩
    exact ⟨none, 0, by simp [putOf, codeOf, hl, hn], by simpa [putOf, hl, hn] using Bts.zero, Below.refl _ _⟩
theorem ref_puts_any (A : Option Addr) (n c : Nat) (zs : List Int) (w : World) (h : Bts w A n zs) (hnil : A = none → n = 0 ∧ c = 0) :
    Calls Try.prog 12 #[.slice A n c] w (PutsAns w zs) := by
  have hl := h.len
  by_cases hn : n ≤ 1200
  · refine (ref_fput_ok A n c zs w h hnil hn).mono ?_
    rintro e w' ⟨v, rfl, ho, hb⟩
    obtain ⟨A', c', rfl, _, _, hbt⟩ := own_form ho (put_bd h.bd)
    exact ⟨A', c', by simp [putOf, codeOf, hl, hn], by simpa [putOf, hl, hn] using hbt, hb⟩
  · refine (ref_fput_long A n c w (by omega)).mono ?_
    rintro e w' ⟨rfl, rfl⟩
    exact ⟨none, 0, by simp [putOf, codeOf, hl, hn], by simpa [putOf, hl, hn] using Bts.zero, Below.refl _ _⟩
theorem putOf_le (r : List Int) : (putOf r).length ≤ 1202 := by
  unfold putOf
  split
  · exact (Fr.put_le r (by assumption)).1
  · simp
def SplitsAns (w : World) (zs : List Int) (e : Ending) (w' : World) : Prop :=
  ∃ A n c, e = .returned (.tuple #[.slice A n c, .int .i64 (Fr.stop zs)]) ∧ (Fr.stop zs = 0 → n = (Fr.rows zs).length ∧ Rs w' A n (Fr.rows zs)) ∧ (¬ Fr.stop zs = 0 → n = 0) ∧ Below w.heap.size w w'
theorem splits_any (A : Option Addr) (m c : Nat) (zs : List Int) (w : World) (h : Bts w A m zs) (hmc : m ≤ c) (hc : c ≤ maxLen) (hm : m ≤ 1000000) :
    Calls Try.prog 14 #[.slice A m c] w (SplitsAns w zs) := by
  refine (split_any A m c zs w h hmc hc hm).mono ?_
  rintro e w' ⟨v, rfl, ho, hb⟩
  by_cases h0 : Fr.stop zs = 0
  · rw [if_pos h0] at ho
    obtain ⟨A', c', rfl, _, _, h3⟩ := ho.rs
    exact ⟨A', _, c', rfl, fun _ => ⟨rfl, h3⟩, fun h => absurd h0 h, hb⟩
  · rw [if_neg h0] at ho
    obtain ⟨A', c', rfl, _, _, h3⟩ := ho.rs
    exact ⟨A', _, c', rfl, fun h => absurd h h0, fun _ => rfl, hb⟩
theorem all_rs (A : Option Addr) (m c : Nat) (zs : List Int) (w : World) (h : Bts w A m zs) (hmc : m ≤ c) (hc : c ≤ maxLen) (hm : m ≤ 1000000) :
    Calls Try.prog 15 #[.slice A m c] w fun e w' => ∃ A' c', e = .returned (.tuple #[.slice A' (Fr.rows zs).length c', .int .i64 (Fr.stop zs)]) ∧ Rs w' A' (Fr.rows zs).length (Fr.rows zs) ∧ (Fr.rows zs).length ≤ c' ∧ Below w.heap.size w w' := by
  refine (ref_all A m c zs w h hmc hc hm).mono ?_
  rintro e w' ⟨v, rfl, ho, hb⟩
  obtain ⟨A', c', rfl, h1, _, h3⟩ := ho.rs
  exact ⟨A', c', rfl, h3, h1, hb⟩
theorem gets_any (A : Option Addr) (n c : Nat) (zs : List Int) (w : World) (h : Bts w A n zs) (hnc : n ≤ c) (hc : c ≤ maxLen) :
    Calls Try.prog 9 #[.slice A n c] w fun e w' => ∃ A' c', e = .returned (.tuple #[.slice A' (Fr.row zs).length c', .int .i64 (Fr.size zs : Int), .int .i64 (Fr.code zs)]) ∧ Bts w' A' (Fr.row zs).length (Fr.row zs) ∧ Below w.heap.size w w' := by
  refine (fget_any A n c zs w h hnc hc).mono ?_
  rintro e w' ⟨v, rfl, ho, hb⟩
  obtain ⟨A', c', rfl, _, _, hbt⟩ := own_form ho (Fr.row_bd h.bd)
  exact ⟨A', c', rfl, hbt, hb⟩
theorem ref_gets_any (A : Option Addr) (n c : Nat) (zs : List Int) (w : World) (h : Bts w A n zs) (hnc : n ≤ c) (hc : c ≤ maxLen) :
    Calls Try.prog 10 #[.slice A n c] w fun e w' => ∃ A' c', e = .returned (.tuple #[.slice A' (Fr.row zs).length c', .int .i64 (Fr.size zs : Int), .int .i64 (Fr.code zs)]) ∧ Bts w' A' (Fr.row zs).length (Fr.row zs) ∧ Below w.heap.size w w' := by
  refine (ref_fget_any A n c zs w h hnc hc).mono ?_
  rintro e w' ⟨v, rfl, ho, hb⟩
  obtain ⟨A', c', rfl, _, _, hbt⟩ := own_form ho (Fr.row_bd h.bd)
  exact ⟨A', c', rfl, hbt, hb⟩
theorem same_refl {w : World} (A1 A2 : Option Addr) (n c1 c2 : Nat) (xs : List Int) (h1 : Bts w A1 n xs) (h2 : Bts w A2 n xs) (hn : n ≤ 1000000) :
    Calls Try.prog 13 #[.slice A1 n c1, .slice A2 n c2] w fun e w' => e = .returned (.bool true) ∧ ∃ q, w' = w.drewN q :=
  same_self A1 A2 n c1 c2 xs w (by unfold maxLen; omega) h1 h2
theorem rows_yes_same (A1 A2 : Option Addr) (n c1 c2 : Nat) (rss : List (List Int)) (w : World) (hn : n ≤ 1000000) (h1 : Rs w A1 n rss) (h2 : Rs w A2 n rss) :
    Calls Try.prog 16 #[.slice A1 n c1, .slice A2 n c2] w fun e w' => e = .returned (.bool true) ∧ ∃ q, w' = w.drewN q :=
  (rows_any A1 A2 n n c1 c2 rss rss w (by unfold maxLen; omega) h1 h2).mono fun e w' h => ⟨by rw [h.1]; simp, h.2⟩

/-- left in the plain way alone -/
def Only (Q : Exit → Act → World → Prop) : Exit → Act → World → Prop
  | .normal, a, w => Q .normal a w
  | _, _, _ => False
theorem Only.all {Q : Exit → Act → World → Prop} : ∀ e a w, Only Q e a w → Q e a w
  | .normal, _, _, h => h
  | .exit _, _, _, h => h.elim
  | .goto _, _, _, h => h.elim
  | .ret, _, _, h => h.elim
  | .panic _, _, _, h => h.elim
  | .outgrown, _, _, h => h.elim

set_option maxRecDepth 100000 in
set_option maxHeartbeats 4000000 in
theorem walk (a0 : Option Addr) (len0 cap0 : Nat) (z0 : List Int) (a1 : Option Addr) (len1 cap1 : Nat) (z1 : List Int) (w : World) (w0 : IsRow .u8 w a0 len0 cap0 z0) (w1 : IsRow .u8 w a1 len1 cap1 z1) :
    Calls Try.prog 3 #[.slice a0 len0 cap0, .slice a1 len1 cap1] w fun e w' => e = .returned (.bool true) ∧ Below w.heap.size w w' := by
  obtain ⟨hb0, hc0, hm0⟩ := bts_of_row w0
  obtain ⟨hb1, hc1, hm1⟩ := bts_of_row w1
  have HN0 := Lib.hid (nil_of_row w0)
  have HN1 := Lib.hid (nil_of_row w1)
  have HC0 := Lib.hid hm0; have HC1 := Lib.hid hm1
  unfold maxLen at hm0 hm1
  clear w0 w1
  generalize z0.take len0 = bs at *
  generalize z1.take len1 = rs at *
  have HB0 := Lib.hid hb0; have HB1 := Lib.hid hb1
  clear hb0 hb1
  refine (callsIn_wide (n := 6)).1 ?_
  refine callsIn_of_wp_marks Try.func3 rfl trivial ?_ rfl
  refine wpIn_wide.2 ?_
  simp only [Try.ntmps3, List.size_toArray, List.length_cons, List.length_nil, Nat.reduceAdd, Nat.reduceSub, Array.replicate_succ, Array.replicate_zero, List.push_toArray, List.append_toArray, List.nil_append, List.cons_append]
  go_wp2_with fail
  refine (awake_any _).mono ?_
  rintro e W1 ⟨rfl, hb1⟩
  have bxR := Boxed.below (Boxed.new w 4 (.bool false)) hb1 (by simp)
  have HW1 : Hid (Below w.heap.size w W1) := Lib.hid (((Below.refl _ w).alloc (Nat.le_refl _) _).trans (hb1.mono (by simp)))
  have hsz1 : w.heap.size < W1.heap.size := bxR.lt
  clear hb1
  by_cases hlen : len0 ≤ 4000 ∧ len1 ≤ 4000
  · obtain ⟨hl0, hl1⟩ := hlen
    have HR1 := Lib.hid bxR; clear bxR
    have HBS1 := Lib.hid (HB0.out.below HW1.out); have HRS1 := Lib.hid (HB1.out.below HW1.out)
    have hrow := Fr.row_le bs
    have hput := putOf_le rs
    have HRN : Hid ((Fr.rows bs).length ≤ 4000) := Lib.hid (by have := Fr.rows_len bs; have := HB0.out.len; omega)
    go_wp2_with fail
    refine (gets_any a0 len0 cap0 bs W1 HBS1.out hc0 HC0.out).mono ?_
    rintro e w2 ⟨A2, c2, rfl, hbt2, hb2⟩
    have HX2 := Lib.hid hbt2; have HB2 := Lib.hid hb2; clear hbt2 hb2
    have hz2 := HB2.out.size
    go_wp2_with fail
    refine (ref_gets_any a0 len0 cap0 bs w2 (HBS1.out.below HB2.out) hc0 HC0.out).mono ?_
    rintro e w3 ⟨A3, c3, rfl, hbt3, hb3⟩
    have HX3 := Lib.hid hbt3; have HB3 : Hid (Below W1.heap.size W1 w3) := Lib.hid (HB2.out.trans (hb3.mono hz2)); have HX2' := Lib.hid (HX2.out.below hb3); clear hbt3 hb3
    have hz3 := HB3.out.size
    go_wp2_with fail
    refine (puts_any a1 len1 cap1 rs w3 (HRS1.out.below HB3.out) HN1.out).mono ?_
    rintro e w4 ⟨A4, c4, rfl, hbt4, hb4⟩
    have HX4 := Lib.hid hbt4; have HB4 : Hid (Below W1.heap.size W1 w4) := Lib.hid (HB3.out.trans (hb4.mono hz3)); have HXa4 := Lib.hid (HX2'.out.below hb4); have HXb4 := Lib.hid (HX3.out.below hb4); clear hbt4 hb4
    have hz4 := HB4.out.size
    go_wp2_with fail
    refine (ref_puts_any a1 len1 cap1 rs w4 (HRS1.out.below HB4.out) HN1.out).mono ?_
    rintro e w5 ⟨A5, c5, rfl, hbt5, hb5⟩
    have HX5 := Lib.hid hbt5; have HB5 : Hid (Below W1.heap.size W1 w5) := Lib.hid (HB4.out.trans (hb5.mono hz4)); have HXa5 := Lib.hid (HXa4.out.below hb5); have HXb5 := Lib.hid (HXb4.out.below hb5); have HXc5 := Lib.hid (HX4.out.below hb5); clear hbt5 hb5
    have hz5 := HB5.out.size
    clear HX2 HX3 HX2' HXa4 HXb4 HX4
    have t1 : (Fr.code bs != Fr.code bs) = false := by simp
    have t2 : (((Fr.size bs : Nat) : Int) != ((Fr.size bs : Nat) : Int)) = false := by simp
    have t3 : (codeOf rs != codeOf rs) = false := by simp
    generalize Fr.row bs = rw at *
    generalize putOf rs = pr at *
    generalize codeOf rs = cr at *
    generalize Fr.code bs = cb at *
    generalize Fr.size bs = sb at *
    go_wp2_with (first
      | (go_at_call 13; (with_reducible refine (same_refl _ _ _ _ _ _ HXa5.out HXb5.out (by omega)).mono ?_); rintro e w6 ⟨rfl, q6, rfl⟩)
      | (go_at_call 13; (with_reducible refine (same_refl _ _ _ _ _ _ (HXc5.out.drewN q6) (HX5.out.drewN q6) (by omega)).mono ?_); rintro e w7 ⟨rfl, q7, rfl⟩)
      | fail)
    have HW5 : Hid (Below W1.heap.size W1 (w5.drewN (q6 + q7))) := Lib.hid (below_drewN' HB5.out _)
    refine (splits_any a0 len0 cap0 bs (w5.drewN (q6 + q7)) ((HBS1.out.below HB5.out).drewN _) hc0 HC0.out (by omega)).mono ?_
    rintro e w8 ⟨A8, n8, c8, rfl, hk0, hk1, hb8⟩
    have HK0 := Lib.hid hk0; have HK1 := Lib.hid hk1; have HB8 : Hid (Below W1.heap.size W1 w8) := Lib.hid (HW5.out.trans (hb8.mono HW5.out.size)); clear hk0 hk1 hb8
    have hz8 := HB8.out.size
    go_wp2_with fail
    refine (all_rs a0 len0 cap0 bs w8 (HBS1.out.below HB8.out) hc0 HC0.out (by omega)).mono ?_
    rintro e w9 ⟨A9, c9, rfl, hrs9, hc9, hb9⟩
    have HR9 := Lib.hid hrs9; have HB89 := Lib.hid hb9; have HB9 : Hid (Below W1.heap.size W1 w9) := Lib.hid (HB8.out.trans (hb9.mono hz8)); clear hrs9 hb9
    have hz9 := HB9.out.size
    obtain ⟨kk, hkk⟩ : ∃ kk, Fr.stop bs = kk := ⟨_, rfl⟩
    rw [hkk] at HK0 HK1 ⊢
    clear hkk
    have t4 : (kk != kk) = false := by simp
    obtain ⟨WA, hWA⟩ : ∃ WA, w9.alloc (.cells #[.slice A9 (Fr.rows bs).length c9] 30) = WA := ⟨_, rfl⟩
    have hcA : WA.cell? ⟨w9.heap.size, 0, none⟩ = some (.slice A9 (Fr.rows bs).length c9) := by rw [← hWA]; exact (Boxed.new w9 30 _).cell
    have HBA : Hid (Below W1.heap.size W1 WA) := Lib.hid (by rw [← hWA]; exact HB9.out.alloc hz9 _)
    have HRA : Hid (∀ q, Rs (WA.drewN q) A9 (Fr.rows bs).length (Fr.rows bs)) := Lib.hid (fun q => by rw [← hWA]; exact (HR9.out.alloc _).drewN q)
    have hszA : WA.heap.size = w9.heap.size + 1 := by rw [← hWA]; simp
    have HBXA : Hid (Boxed WA w9.heap.size 30 (.slice A9 (Fr.rows bs).length c9)) := Lib.hid (by rw [← hWA]; exact Boxed.new w9 30 _)
    have HWA := Lib.hid hWA; clear hWA
    have HRL : Hid ((Fr.rows bs).length ≤ 4000) := HRN
    by_cases hk : kk = 0
    · have t6 : (kk != 0) = false := by simp [hk]
      have t7 : (kk == 0) = true := by simp [hk]
      obtain ⟨rfl, hrs8⟩ := HK0.out hk
      clear hk
      have HR8 : Hid (∀ q, Rs (WA.drewN q) A8 (Fr.rows bs).length (Fr.rows bs)) := Lib.hid (fun q => by rw [← HWA.out]; exact ((hrs8.below HB89.out).alloc _).drewN q)
      clear hrs8 HK0 HK1
      have K16 : Hid (∀ w', w'.cell? ⟨w9.heap.size, 0, none⟩ = some (.slice A9 (Fr.rows bs).length c9) → Below WA.heap.size WA w' → Calls Try.prog 16 #[.slice A8 (Fr.rows bs).length c8, .slice A9 (Fr.rows bs).length c9] w' fun e w'' => e = .returned (.bool true) ∧ w''.cell? ⟨w9.heap.size, 0, none⟩ = some (.slice A9 (Fr.rows bs).length c9) ∧ Below WA.heap.size WA w'') := Lib.hid (fun w' h1 h2 =>
        (rows_yes_same A8 A9 (Fr.rows bs).length c8 c9 (Fr.rows bs) w' (by have := HRL.out; omega) ((HR8.out 0).below h2) ((HRA.out 0).below h2)).mono (by rintro e w'' ⟨rfl, q, rfl⟩; exact ⟨rfl, by simpa using h1, below_drewN' h2 _⟩))
      have K17 : Hid (∀ w', w'.cell? ⟨w9.heap.size, 0, none⟩ = some (.slice A9 (Fr.rows bs).length c9) → Below WA.heap.size WA w' → Calls Try.prog 17 #[.slice a0 len0 cap0] w' fun e w'' => e = .returned (.int .i64 ((Fr.rows bs).length : Nat)) ∧ w''.cell? ⟨w9.heap.size, 0, none⟩ = some (.slice A9 (Fr.rows bs).length c9) ∧ Below WA.heap.size WA w'') := Lib.hid (fun w' h1 h2 =>
        (count_at a0 len0 cap0 bs w' ((HBS1.out.below HBA.out).below h2) hc0 HC0.out (by omega) rfl).mono (by rintro e w'' ⟨rfl, hb⟩; exact ⟨rfl, (hb.cell (p := ⟨w9.heap.size, 0, none⟩) (lt_of_cell h1)).trans h1, h2.trans (hb.mono h2.size)⟩))
      have hbA : Below WA.heap.size WA WA.drew := (Below.refl _ _).drew
      have hcA1 : WA.drew.cell? ⟨w9.heap.size, 0, none⟩ = some (.slice A9 (Fr.rows bs).length c9) := hcA
      have t5 : (((Fr.rows bs).length : Int) != ((Fr.rows bs).length : Int)) = false := by simp
      go_wp2_with fail
      rw [HWA.out]
      refine Code.wp_mono (Q := Only _) Only.all ?_
      refine wp_region_held_drew (S := fun w' => w'.cell? ⟨w9.heap.size, 0, none⟩ = some (.slice A9 (Fr.rows bs).length c9) ∧ Below WA.heap.size WA w') (by kernel_rfl) ⟨hcA, (Below.refl _ _).drew⟩ (fun hHeld => ?_)
      refine wpAnyH_take (i := 0) (oi := _) (v := ?_) rfl (by kernel_rfl) (by kernel_rfl) (by kernel_rfl) (fun _ _ _ h => h) (Or.inl ⟨by rfl, ?_⟩) (by assumption) ?_
      case refine_2 => intro w hSw; (try dsimp only at hSw); go_simp; first | done | (with_reducible rfl)
      try simp only [Act.put, List.getElem_toArray, List.getElem_cons_zero, List.setIfInBounds_toArray, List.set_cons_zero, List.set_cons_succ]
      refine wpAnyH_take (i := 1) (oi := _) (v := ?_) rfl (by kernel_rfl) (by kernel_rfl) (by kernel_rfl) (fun _ _ _ h => h) (Or.inl ⟨by rfl, ?_⟩) (by assumption) ?_
      case refine_2 => intro w hSw; (try dsimp only at hSw); go_simp; first | done | (with_reducible rfl)
      try simp only [Act.put, List.getElem_toArray, List.getElem_cons_zero, List.getElem_cons_succ, List.setIfInBounds_toArray, List.set_cons_zero, List.set_cons_succ]
      refine wpAnyH_take (i := 2) (oi := _) (v := ?_) rfl (by kernel_rfl) (by kernel_rfl) (by kernel_rfl) (fun _ _ _ h => h) (Or.inl ⟨by rfl, ?_⟩) (by assumption) ?_
      case refine_2 => intro w hSw; (try dsimp only at hSw); go_simp; first | done | (with_reducible rfl)
      try simp only [Act.put, List.getElem_toArray, List.getElem_cons_zero, List.getElem_cons_succ, List.setIfInBounds_toArray, List.set_cons_zero, List.set_cons_succ]
      refine wpAnyH_take (i := 3) (oi := _) (v := ?_) rfl (by kernel_rfl) (by kernel_rfl) (by kernel_rfl) (fun _ _ _ h => h) (Or.inl ⟨by rfl, ?_⟩) (by assumption) ?_
      case refine_2 => intro w hSw; (try dsimp only at hSw); go_simp; first | done | (with_reducible rfl)
      try simp only [Act.put, List.getElem_toArray, List.getElem_cons_zero, List.getElem_cons_succ, List.setIfInBounds_toArray, List.set_cons_zero, List.set_cons_succ]
      refine wpAnyH_take (i := 4) (oi := _) (v := ?_) rfl (by kernel_rfl) (by kernel_rfl) (by kernel_rfl) (fun _ _ _ h => h) (Or.inl ⟨by rfl, ?_⟩) (by assumption) ?_
      case refine_2 => intro w hSw; (try dsimp only at hSw); go_simp; first | done | (with_reducible rfl)
      try simp only [Act.put, List.getElem_toArray, List.getElem_cons_zero, List.getElem_cons_succ, List.setIfInBounds_toArray, List.set_cons_zero, List.set_cons_succ]
      refine wpAnyH_take (i := 5) (oi := _) (v := ?_) rfl (by kernel_rfl) (by kernel_rfl) (by kernel_rfl) (fun _ _ _ h => h) (Or.inl ⟨by rfl, ?_⟩) (by assumption) ?_
      case refine_2 => intro w hSw; (try dsimp only at hSw); go_simp; first | done | (with_reducible rfl)
      try simp only [Act.put, List.getElem_toArray, List.getElem_cons_zero, List.getElem_cons_succ, List.setIfInBounds_toArray, List.set_cons_zero, List.set_cons_succ]
      refine wpAnyH_take (i := 6) (oi := _) (v := ?_) rfl (by kernel_rfl) (by kernel_rfl) (by kernel_rfl) (fun _ _ _ h => h) (Or.inl ⟨by rfl, ?_⟩) (by assumption) ?_
      case refine_2 => intro w hSw; (try dsimp only at hSw); go_simp; first | done | (with_reducible rfl)
      try simp only [Act.put, List.getElem_toArray, List.getElem_cons_zero, List.getElem_cons_succ, List.setIfInBounds_toArray, List.set_cons_zero, List.set_cons_succ]
      refine wpAnyH_take (i := 7) (oi := _) (v := ?_) rfl (by kernel_rfl) (by kernel_rfl) (by kernel_rfl) (fun _ _ _ h => h) (Or.inl ⟨by rfl, ?_⟩) (by assumption) ?_
      case refine_2 => intro w hSw; (try dsimp only at hSw); go_simp; first | done | (with_reducible rfl)
      try simp only [Act.put, List.getElem_toArray, List.getElem_cons_zero, List.getElem_cons_succ, List.setIfInBounds_toArray, List.set_cons_zero, List.set_cons_succ]
      refine wpAnyH_take (i := 8) (oi := _) (v := ?_) rfl (by kernel_rfl) (by kernel_rfl) (by kernel_rfl) (fun _ _ _ h => h) (Or.inl ⟨by rfl, ?_⟩) (by assumption) ?_
      case refine_2 => intro w hSw; (try dsimp only at hSw); go_simp; first | done | (with_reducible rfl)
      try simp only [Act.put, List.getElem_toArray, List.getElem_cons_zero, List.getElem_cons_succ, List.setIfInBounds_toArray, List.set_cons_zero, List.set_cons_succ]
      refine wpAnyH_ready (rs := [9]) (by kernel_rfl) (by simp) ?_
      refine AllReadyH.cons rfl (fun K hK => ?_) AllReadyH.nil
      go_simp
      go_at_call 16
      refine (K16.out _ hHeld.1 hHeld.2).mono ?_
      rintro e w10 ⟨rfl, hc10, hb10⟩
      refine hK.out _ _ ⟨hc10, hb10⟩ (fun hHeld => ?_)
      clear hK K
      try simp only [Act.put, List.getElem_toArray, List.getElem_cons_zero, List.getElem_cons_succ, List.setIfInBounds_toArray, List.set_cons_zero, List.set_cons_succ]
      refine wpAnyH_take (i := 10) (oi := _) (v := ?_) rfl (by kernel_rfl) (by kernel_rfl) (by kernel_rfl) (fun _ _ _ h => h) (Or.inl ⟨by rfl, ?_⟩) (by assumption) ?_
      case refine_2 => intro w hSw; (try dsimp only at hSw); go_simp; first | done | (with_reducible rfl)
      try simp only [Act.put, List.getElem_toArray, List.getElem_cons_zero, List.getElem_cons_succ, List.setIfInBounds_toArray, List.set_cons_zero, List.set_cons_succ]
      refine wpAnyH_take (i := 11) (oi := _) (v := ?_) rfl (by kernel_rfl) (by kernel_rfl) (by kernel_rfl) (fun _ _ _ h => h) (Or.inl ⟨by rfl, ?_⟩) (by assumption) ?_
      case refine_2 => intro w hSw; (try dsimp only at hSw); go_simp; first | done | (with_reducible rfl)
      try simp only [Act.put, List.getElem_toArray, List.getElem_cons_zero, List.getElem_cons_succ, List.setIfInBounds_toArray, List.set_cons_zero, List.set_cons_succ]
      refine wpAnyH_take (i := 12) (oi := _) (v := ?_) rfl (by kernel_rfl) (by kernel_rfl) (by kernel_rfl) (fun _ _ _ h => h) (Or.inl ⟨by rfl, ?_⟩) (by assumption) ?_
      case refine_2 => intro w hSw; (try dsimp only at hSw); go_simp; first | done | (with_reducible rfl)
      try simp only [Act.put, List.getElem_toArray, List.getElem_cons_zero, List.getElem_cons_succ, List.setIfInBounds_toArray, List.set_cons_zero, List.set_cons_succ]
      refine wpAnyH_take (i := 13) (oi := _) (v := ?_) rfl (by kernel_rfl) (by kernel_rfl) (by kernel_rfl) (fun _ _ _ h => h) (Or.inl ⟨by rfl, ?_⟩) (by assumption) ?_
      case refine_2 => intro w hSw; (try dsimp only at hSw); go_simp; first | done | (with_reducible rfl)
      try simp only [Act.put, List.getElem_toArray, List.getElem_cons_zero, List.getElem_cons_succ, List.setIfInBounds_toArray, List.set_cons_zero, List.set_cons_succ]
      refine wpAnyH_take (i := 14) (oi := _) (v := ?_) rfl (by kernel_rfl) (by kernel_rfl) (by kernel_rfl) (fun _ _ _ h => h) (Or.inl ⟨by rfl, ?_⟩) (by assumption) ?_
      case refine_2 => intro w hSw; (try dsimp only at hSw); go_simp; first | done | (with_reducible rfl)
      try simp only [Act.put, List.getElem_toArray, List.getElem_cons_zero, List.getElem_cons_succ, List.setIfInBounds_toArray, List.set_cons_zero, List.set_cons_succ]
      refine wpAnyH_take (i := 15) (oi := _) (v := ?_) rfl (by kernel_rfl) (by kernel_rfl) (by kernel_rfl) (fun _ _ _ h => h) (Or.inl ⟨by rfl, ?_⟩) (by assumption) ?_
      case refine_2 => intro w hSw; (try dsimp only at hSw); go_simp; first | done | (with_reducible rfl)
      try simp only [Act.put, List.getElem_toArray, List.getElem_cons_zero, List.getElem_cons_succ, List.setIfInBounds_toArray, List.set_cons_zero, List.set_cons_succ]
      refine wpAnyH_take (i := 16) (oi := _) (v := ?_) rfl (by kernel_rfl) (by kernel_rfl) (by kernel_rfl) (fun _ _ _ h => h) (Or.inl ⟨by rfl, ?_⟩) (by assumption) ?_
      case refine_2 => intro w hSw; (try dsimp only at hSw); go_simp; first | done | (with_reducible rfl)
      try simp only [Act.put, List.getElem_toArray, List.getElem_cons_zero, List.getElem_cons_succ, List.setIfInBounds_toArray, List.set_cons_zero, List.set_cons_succ]
      refine wpAnyH_take (i := 17) (oi := _) (v := undef) rfl (by kernel_rfl) (by kernel_rfl) (by kernel_rfl) (fun _ _ _ h => h) (Or.inr ⟨by rfl, rfl⟩) (by assumption) ?_
      try simp only [Act.put, List.getElem_toArray, List.getElem_cons_zero, List.getElem_cons_succ, List.setIfInBounds_toArray, List.set_cons_zero, List.set_cons_succ]
      refine wpAnyH_take (i := 18) (oi := _) (v := undef) rfl (by kernel_rfl) (by kernel_rfl) (by kernel_rfl) (fun _ _ _ h => h) (Or.inr ⟨by rfl, rfl⟩) (by assumption) ?_
      try simp only [Act.put, List.getElem_toArray, List.getElem_cons_zero, List.getElem_cons_succ, List.setIfInBounds_toArray, List.set_cons_zero, List.set_cons_succ]
      refine wpAnyH_take (i := 19) (oi := _) (v := undef) rfl (by kernel_rfl) (by kernel_rfl) (by kernel_rfl) (fun _ _ _ h => h) (Or.inr ⟨by rfl, rfl⟩) (by assumption) ?_
      try simp only [Act.put, List.getElem_toArray, List.getElem_cons_zero, List.getElem_cons_succ, List.setIfInBounds_toArray, List.set_cons_zero, List.set_cons_succ]
      refine wpAnyH_take (i := 20) (oi := _) (v := ?_) rfl (by kernel_rfl) (by kernel_rfl) (by kernel_rfl) (fun _ _ _ h => h) (Or.inl ⟨by rfl, ?_⟩) (by assumption) ?_
      case refine_2 => intro w hSw; (try dsimp only at hSw); go_simp; first | done | (with_reducible rfl)
      try simp only [Act.put, List.getElem_toArray, List.getElem_cons_zero, List.getElem_cons_succ, List.setIfInBounds_toArray, List.set_cons_zero, List.set_cons_succ]
      refine wpAnyH_take (i := 21) (oi := _) (v := ?_) rfl (by kernel_rfl) (by kernel_rfl) (by kernel_rfl) (fun _ _ _ h => h) (Or.inl ⟨by rfl, ?_⟩) (by assumption) ?_
      case refine_2 => intro w hSw; (try dsimp only at hSw); go_simp; first | done | (with_reducible rfl)
      try simp only [Act.put, List.getElem_toArray, List.getElem_cons_zero, List.getElem_cons_succ, List.setIfInBounds_toArray, List.set_cons_zero, List.set_cons_succ]
      refine wpAnyH_take (i := 22) (oi := _) (v := ?_) rfl (by kernel_rfl) (by kernel_rfl) (by kernel_rfl) (fun _ _ _ h => h) (Or.inl ⟨by rfl, ?_⟩) (by assumption) ?_
      case refine_2 => intro w hSw; (try dsimp only at hSw); go_simp; first | done | (with_reducible rfl)
      try simp only [Act.put, List.getElem_toArray, List.getElem_cons_zero, List.getElem_cons_succ, List.setIfInBounds_toArray, List.set_cons_zero, List.set_cons_succ]
      refine wpAnyH_take (i := 23) (oi := _) (v := ?_) rfl (by kernel_rfl) (by kernel_rfl) (by kernel_rfl) (fun _ _ _ h => h) (Or.inl ⟨by rfl, ?_⟩) (by assumption) ?_
      case refine_2 => intro w hSw; (try dsimp only at hSw); go_simp; first | done | (with_reducible rfl)
      try simp only [Act.put, List.getElem_toArray, List.getElem_cons_zero, List.getElem_cons_succ, List.setIfInBounds_toArray, List.set_cons_zero, List.set_cons_succ]
      refine wpAnyH_take (i := 25) (oi := _) (v := ?_) rfl (by kernel_rfl) (by kernel_rfl) (by kernel_rfl) (fun _ _ _ h => h) (Or.inl ⟨by rfl, ?_⟩) (by assumption) ?_
      case refine_2 => intro w hSw; (try dsimp only at hSw); go_simp; first | done | (with_reducible rfl)
      try simp only [Act.put, List.getElem_toArray, List.getElem_cons_zero, List.getElem_cons_succ, List.setIfInBounds_toArray, List.set_cons_zero, List.set_cons_succ]
      refine wpAnyH_take (i := 26) (oi := _) (v := ?_) rfl (by kernel_rfl) (by kernel_rfl) (by kernel_rfl) (fun _ _ _ h => h) (Or.inl ⟨by rfl, ?_⟩) (by assumption) ?_
      case refine_2 => intro w hSw; (try dsimp only at hSw); go_simp; first | done | (with_reducible rfl)
      try simp only [Act.put, List.getElem_toArray, List.getElem_cons_zero, List.getElem_cons_succ, List.setIfInBounds_toArray, List.set_cons_zero, List.set_cons_succ]
      refine wpAnyH_ready (rs := [24]) (by kernel_rfl) (by simp) ?_
      refine AllReadyH.cons rfl (fun K hK => ?_) AllReadyH.nil
      go_simp
      go_at_call 17
      refine (K17.out _ hHeld.1 hHeld.2).mono ?_
      rintro e w11 ⟨rfl, hc11, hb11⟩
      refine hK.out _ _ ⟨hc11, hb11⟩ (fun hHeld => ?_)
      clear hK K
      try simp only [Act.put, List.getElem_toArray, List.getElem_cons_zero, List.getElem_cons_succ, List.setIfInBounds_toArray, List.set_cons_zero, List.set_cons_succ]
      refine wpAnyH_take (i := 27) (oi := _) (v := ?_) rfl (by kernel_rfl) (by kernel_rfl) (by kernel_rfl) (fun _ _ _ h => h) (Or.inl ⟨by rfl, ?_⟩) (by assumption) ?_
      case refine_2 => intro w hSw; (try dsimp only at hSw); go_simp; first | done | (with_reducible rfl)
      try simp only [Act.put, List.getElem_toArray, List.getElem_cons_zero, List.getElem_cons_succ, List.setIfInBounds_toArray, List.set_cons_zero, List.set_cons_succ]
      refine wpAnyH_take (i := 28) (oi := _) (v := ?_) rfl (by kernel_rfl) (by kernel_rfl) (by kernel_rfl) (fun _ _ _ h => h) (Or.inl ⟨by rfl, ?_⟩) (by assumption) ?_
      case refine_2 => intro w hSw; (try dsimp only at hSw); go_simp; first | done | (with_reducible rfl)
      try simp only [Act.put, List.getElem_toArray, List.getElem_cons_zero, List.getElem_cons_succ, List.setIfInBounds_toArray, List.set_cons_zero, List.set_cons_succ]
      refine wpAnyH_done (by kernel_rfl) ?_ _
      have HB11 : Hid (Below WA.heap.size WA w11) := Lib.hid hb11
      have HBX11 := Lib.hid (Boxed.below HBXA.out hb11 HBXA.out.lt)
      have HW11 : Hid (Below W1.heap.size W1 w11) := Lib.hid (HBA.out.trans (hb11.mono HBA.out.size))
      have HBS11 := Lib.hid (HBS1.out.below HW11.out)
      have HRA11 := Lib.hid ((HRA.out 0).below HB11.out)
      have hszB : WA.heap.size ≤ w11.heap.size := hb11.size
      clear hb11 hc11 hcA hcA1 hbA
      clear K17
      simp only [Only]
      go_wp2_with (go_at_call 18; refine (all_any a0 _ cap0 bs _ (HBS11.out.alloc _) HN0.out (by omega)).mono ?_; rintro e W7 ⟨Ar, cr7, Bk, rfl, hbox7, hBk, hbt7, hnr, hcr, har, hb7⟩)
      have bxj := Boxed.below (Boxed.new w11 3 (.int .i64 0)) hb7 (by simp)
      have hszj : w11.heap.size < W7.heap.size := bxj.lt
      have HBN7 := Lib.hid bxj
      have HB117 : Hid (Below w11.heap.size w11 W7) := Lib.hid (((Below.refl _ w11).alloc (Nat.le_refl _) _).trans (hb7.mono (by simp)))
      have hlt7 : ∀ x ∈ blk Bk Ar len0, x < W7.heap.size := blk_all (lt_of_cell hbox7) (fun h ad e => hbt7.lt h ad e)
      have hne : w11.heap.size ∉ blk Bk Ar len0 := fun hm => blk_all (p := fun x => x ≠ w11.heap.size) (by simp at hBk; omega) (fun h ad e => by have := har ad e; simp at this; omega) _ hm rfl
      have hst := all_tells 5 Bk (blk Bk Ar len0) Ar len0 cr7 bs W7 hlt7 hbox7 (blk_self _ _ _) (blk_addr _ _ _) hbt7 hnr hcr (by omega)
      have HA7 := Lib.hid (Boxed.below HBX11.out HB117.out HBX11.out.lt)
      have HR7 := Lib.hid (Boxed.below HR1.out (HW11.out.trans (HB117.out.mono HW11.out.size)) HR1.out.lt)
      have HW7 : Hid (Below w.heap.size w W7) := Lib.hid (HW1.out.trans ((HW11.out.trans (HB117.out.mono HW11.out.size)).mono HW1.out.size))
      have hszW := HW11.out.size
      clear hbox7 hBk hbt7 hcr har hb7 bxj
      refine (wpIn_wide (n := 6)).1 ?_
      apply range_told (F := Fence.wide) (n := 6) (f := 26) (own := #[.pointer (some ⟨Bk, 0, none⟩)]) ⟨rfl, by omega, trivial, enters_of Try.func26 (by kernel_rfl) rfl, hst⟩ rfl (Below.refl _ _) hlt7 (fun _ => rfl)
        (fun (pre : List ItemA) W => Boxed W w11.heap.size 3 (.int .i64 (pre.length : Int)) ∧ W7.grownBy W (some w11.heap.size))
        (fun _ _ _ => False)
        ⟨(fun s X Y row hs hg hr => ⟨hs.1.kept hg (fun e => by have := (hr _ e.symm).1; omega), grown_then hs.2 hg (fun r e => (hr r e).1)⟩),
        (fun _ _ _ _ _ hs _ _ => hs),
        (fun pre x => okA_own _ _ pre x)⟩
        ⟨HBN7.out, World.grownBy.refl _ _⟩
      case hassign =>
        intro l x W K hK
        simp only [encA]
        gi_wp2
        exact hK
      case hbody =>
        rintro l pre ⟨v, r⟩ W hWs ⟨bx, hg⟩ ⟨hsl, hpre⟩
        have hcj := bx.cell
        have hfj := bx.frozen
        have hcA := (grown_box hg HA7.out (by omega)).cell
        have hpl : pre.length < (Fr.rows bs).length := by
          have h1 := hpre.length_le
          simp at h1; omega
        have hr : (Fr.rows bs).getD pre.length [] = r := by
          obtain ⟨t, ht⟩ := hpre
          rw [← ht]
          simp [List.getD]
        have HBW11 : Hid (Below w11.heap.size w11 W) := Lib.hid (HB117.out.grown hg HB117.out.size (fun g e => by injection e; omega))
        have HRW := Lib.hid (HRA11.out.below HBW11.out)
        obtain ⟨b9, o9, rfl, _⟩ := HRW.out.some_of (by omega)
        obtain ⟨Aq, mq, dq, hcq, hbq, hmq, hdq, _⟩ := HRW.out.cell hpl
        rw [hr] at hbq
        obtain ⟨Av, nv, cv, rfl, hbv, _, _, _, _⟩ := hsl
        obtain rfl : nv = mq := by rw [← hbv.len, hbq.len]
        have hnv : nv ≤ 1200 := by rw [← hbv.len]; exact Fr.rows_mem_len bs r (by obtain ⟨t, ht⟩ := hpre; rw [← ht]; simp)
        have HV := Lib.hid hbv; have HQ := Lib.hid hbq
        have HPL : Hid ((pre ++ [((.slice Av nv cv : Value), r)]).length = pre.length + 1) := Lib.hid (by simp)
        have HBX := Lib.hid bx; have HG := Lib.hid hg
        have hpl2 : pre.length < 4000 := by have := HRL.out; omega
        have b1 : decide (((Fr.rows bs).length : Int) ≤ ((pre.length : Nat) : Int)) = false := by simp; omega
        clear hpre hr hbv hbq bx hg hmq hdq
        generalize pre.length = q at *
        gi_wp2_with (refine ⟨trivial, ?_⟩; gi_at_call 13; refine (CallsIn.inRound l (callsIn_wide.2 (same_refl _ _ _ _ _ _ HV.out HQ.out (by omega)))).mono ?_; rintro e w12 ⟨rfl, q12, rfl⟩)
        have hdr : Kept (blk Bk Ar len0) true W7.heap.size W (W.drewN q12) := ⟨Nat.le_refl _, fun _ _ => rfl, fun _ _ _ h _ => h⟩
        have hbd : Boxed (W.drewN q12) w11.heap.size 3 (.int .i64 (q : Int)) := HBX.out
        have hgd : W7.grownBy (W.drewN q12) (some w11.heap.size) := ⟨HG.out.os, HG.out.tape, HG.out.output, HG.out.size, HG.out.block⟩
        exact ⟨hdr.trans (Kept.set (by omega) hne _), by rw [HPL.out]; exact hbd.set (.int .i64 ((q : Int) + 1)), grown_set hgd _⟩
      case hstop =>
        rintro D c pre W hD hpre hf hK
        exact hf.elim
      case hdone =>
        rintro D xs W hD hxs ⟨bx, hg⟩ hK
        have hxl : xs.length = (Fr.rows bs).length := by have := congrArg List.length hxs; rwa [List.length_map] at this
        rw [hxl] at bx
        clear hxs hxl
        have hcj := bx.cell
        have hcA := (grown_box hg HA7.out (by omega)).cell
        have bxR := grown_box hg HR7.out (by omega)
        have hcR := bxR.cell
        have hfR := bxR.frozen
        have HBW : Hid (Below w.heap.size w W) := Lib.hid (HW7.out.grown hg HW7.out.size (fun g e => by injection e; omega))
        have b5 : (((Fr.rows bs).length : Int) == ((Fr.rows bs).length : Int)) = true := by simp
        have HK2 := Lib.hid hK
        clear bx hg bxR hK
        go_wp2
        have hKb : (W.setCell ⟨w.heap.size, 0, none⟩ (.bool true)).heap[D]? = some (.deferred (some [])) := (KeepsOthers.setCell W ⟨w.heap.size, 0, none⟩ (.bool true)).same D _ HK2.out rfl
        refine ⟨by simp, .inl ⟨_, _, rfl, run_takeDeferred hKb, ?_⟩⟩
        have d1 := World.cell?_setCell_same' W ⟨w.heap.size, 0, none⟩ (.bool true) (by rw [hcR]; rfl)
        have d2 := cell_kept d1 (grownBy_putObj' _ D (.deferred none)) (fun r e => by cases e; exact ⟨_, hKb, rfl⟩)
        exact ⟨.bool true, by simp [results, Try.results3, go_sem, d2], rfl, (HBW.out.setCell (p := ⟨w.heap.size, 0, none⟩) (Nat.le_refl _) _).trans (belowK_b (w := w) (Nat.le_refl _) _ D _ _ (by omega) hKb rfl rfl)⟩
    · have t6 : (kk != 0) = true := by rw [bne_iff_ne]; exact hk
      have t7 : (kk == 0) = false := by simp [hk]
      obtain rfl : n8 = 0 := HK1.out hk
      clear hk HK0 HK1
      have K17 : Hid (∀ w', w'.cell? ⟨w9.heap.size, 0, none⟩ = some (.slice A9 (Fr.rows bs).length c9) → Below WA.heap.size WA w' → Calls Try.prog 17 #[.slice a0 len0 cap0] w' fun e w'' => e = .returned (.int .i64 ((Fr.rows bs).length : Nat)) ∧ w''.cell? ⟨w9.heap.size, 0, none⟩ = some (.slice A9 (Fr.rows bs).length c9) ∧ Below WA.heap.size WA w'') := Lib.hid (fun w' h1 h2 =>
        (count_at a0 len0 cap0 bs w' ((HBS1.out.below HBA.out).below h2) hc0 HC0.out (by omega) rfl).mono (by rintro e w'' ⟨rfl, hb⟩; exact ⟨rfl, (hb.cell (p := ⟨w9.heap.size, 0, none⟩) (lt_of_cell h1)).trans h1, h2.trans (hb.mono h2.size)⟩))
      have hbA : Below WA.heap.size WA WA.drew := (Below.refl _ _).drew
      have hcA1 : WA.drew.cell? ⟨w9.heap.size, 0, none⟩ = some (.slice A9 (Fr.rows bs).length c9) := hcA
      have t5 : (((Fr.rows bs).length : Int) != ((Fr.rows bs).length : Int)) = false := by simp
      go_wp2_with fail
      rw [HWA.out]
      refine Code.wp_mono (Q := Only _) Only.all ?_
      refine wp_region_held_drew (S := fun w' => w'.cell? ⟨w9.heap.size, 0, none⟩ = some (.slice A9 (Fr.rows bs).length c9) ∧ Below WA.heap.size WA w') (by kernel_rfl) ⟨hcA, (Below.refl _ _).drew⟩ (fun hHeld => ?_)
      refine wpAnyH_take (i := 0) (oi := _) (v := ?_) rfl (by kernel_rfl) (by kernel_rfl) (by kernel_rfl) (fun _ _ _ h => h) (Or.inl ⟨by rfl, ?_⟩) (by assumption) ?_
      case refine_2 => intro w hSw; (try dsimp only at hSw); go_simp; first | done | (with_reducible rfl)
      try simp only [Act.put, List.getElem_toArray, List.getElem_cons_zero, List.setIfInBounds_toArray, List.set_cons_zero, List.set_cons_succ]
      refine wpAnyH_take (i := 1) (oi := _) (v := ?_) rfl (by kernel_rfl) (by kernel_rfl) (by kernel_rfl) (fun _ _ _ h => h) (Or.inl ⟨by rfl, ?_⟩) (by assumption) ?_
      case refine_2 => intro w hSw; (try dsimp only at hSw); go_simp; first | done | (with_reducible rfl)
      try simp only [Act.put, List.getElem_toArray, List.getElem_cons_zero, List.getElem_cons_succ, List.setIfInBounds_toArray, List.set_cons_zero, List.set_cons_succ]
      refine wpAnyH_take (i := 2) (oi := _) (v := ?_) rfl (by kernel_rfl) (by kernel_rfl) (by kernel_rfl) (fun _ _ _ h => h) (Or.inl ⟨by rfl, ?_⟩) (by assumption) ?_
      case refine_2 => intro w hSw; (try dsimp only at hSw); go_simp; first | done | (with_reducible rfl)
      try simp only [Act.put, List.getElem_toArray, List.getElem_cons_zero, List.getElem_cons_succ, List.setIfInBounds_toArray, List.set_cons_zero, List.set_cons_succ]
      refine wpAnyH_take (i := 3) (oi := _) (v := ?_) rfl (by kernel_rfl) (by kernel_rfl) (by kernel_rfl) (fun _ _ _ h => h) (Or.inl ⟨by rfl, ?_⟩) (by assumption) ?_
      case refine_2 => intro w hSw; (try dsimp only at hSw); go_simp; first | done | (with_reducible rfl)
      try simp only [Act.put, List.getElem_toArray, List.getElem_cons_zero, List.getElem_cons_succ, List.setIfInBounds_toArray, List.set_cons_zero, List.set_cons_succ]
      refine wpAnyH_take (i := 4) (oi := _) (v := ?_) rfl (by kernel_rfl) (by kernel_rfl) (by kernel_rfl) (fun _ _ _ h => h) (Or.inl ⟨by rfl, ?_⟩) (by assumption) ?_
      case refine_2 => intro w hSw; (try dsimp only at hSw); go_simp; first | done | (with_reducible rfl)
      try simp only [Act.put, List.getElem_toArray, List.getElem_cons_zero, List.getElem_cons_succ, List.setIfInBounds_toArray, List.set_cons_zero, List.set_cons_succ]
      refine wpAnyH_take (i := 5) (oi := _) (v := ?_) rfl (by kernel_rfl) (by kernel_rfl) (by kernel_rfl) (fun _ _ _ h => h) (Or.inl ⟨by rfl, ?_⟩) (by assumption) ?_
      case refine_2 => intro w hSw; (try dsimp only at hSw); go_simp; first | done | (with_reducible rfl)
      try simp only [Act.put, List.getElem_toArray, List.getElem_cons_zero, List.getElem_cons_succ, List.setIfInBounds_toArray, List.set_cons_zero, List.set_cons_succ]
      refine wpAnyH_take (i := 6) (oi := _) (v := ?_) rfl (by kernel_rfl) (by kernel_rfl) (by kernel_rfl) (fun _ _ _ h => h) (Or.inl ⟨by rfl, ?_⟩) (by assumption) ?_
      case refine_2 => intro w hSw; (try dsimp only at hSw); go_simp; first | done | (with_reducible rfl)
      try simp only [Act.put, List.getElem_toArray, List.getElem_cons_zero, List.getElem_cons_succ, List.setIfInBounds_toArray, List.set_cons_zero, List.set_cons_succ]
      refine wpAnyH_take (i := 7) (oi := _) (v := undef) rfl (by kernel_rfl) (by kernel_rfl) (by kernel_rfl) (fun _ _ _ h => h) (Or.inr ⟨by rfl, rfl⟩) (by assumption) ?_
      try simp only [Act.put, List.getElem_toArray, List.getElem_cons_zero, List.getElem_cons_succ, List.setIfInBounds_toArray, List.set_cons_zero, List.set_cons_succ]
      refine wpAnyH_take (i := 8) (oi := _) (v := undef) rfl (by kernel_rfl) (by kernel_rfl) (by kernel_rfl) (fun _ _ _ h => h) (Or.inr ⟨by rfl, rfl⟩) (by assumption) ?_
      try simp only [Act.put, List.getElem_toArray, List.getElem_cons_zero, List.getElem_cons_succ, List.setIfInBounds_toArray, List.set_cons_zero, List.set_cons_succ]
      refine wpAnyH_take (i := 9) (oi := _) (v := undef) rfl (by kernel_rfl) (by kernel_rfl) (by kernel_rfl) (fun _ _ _ h => h) (Or.inr ⟨by rfl, rfl⟩) (by assumption) ?_
      try simp only [Act.put, List.getElem_toArray, List.getElem_cons_zero, List.getElem_cons_succ, List.setIfInBounds_toArray, List.set_cons_zero, List.set_cons_succ]
      refine wpAnyH_take (i := 10) (oi := _) (v := undef) rfl (by kernel_rfl) (by kernel_rfl) (by kernel_rfl) (fun _ _ _ h => h) (Or.inr ⟨by rfl, rfl⟩) (by assumption) ?_
      try simp only [Act.put, List.getElem_toArray, List.getElem_cons_zero, List.getElem_cons_succ, List.setIfInBounds_toArray, List.set_cons_zero, List.set_cons_succ]
      refine wpAnyH_take (i := 11) (oi := _) (v := ?_) rfl (by kernel_rfl) (by kernel_rfl) (by kernel_rfl) (fun _ _ _ h => h) (Or.inl ⟨by rfl, ?_⟩) (by assumption) ?_
      case refine_2 => intro w hSw; (try dsimp only at hSw); go_simp; first | done | (with_reducible rfl)
      try simp only [Act.put, List.getElem_toArray, List.getElem_cons_zero, List.getElem_cons_succ, List.setIfInBounds_toArray, List.set_cons_zero, List.set_cons_succ]
      refine wpAnyH_take (i := 12) (oi := _) (v := ?_) rfl (by kernel_rfl) (by kernel_rfl) (by kernel_rfl) (fun _ _ _ h => h) (Or.inl ⟨by rfl, ?_⟩) (by assumption) ?_
      case refine_2 => intro w hSw; (try dsimp only at hSw); go_simp; first | done | (with_reducible rfl)
      try simp only [Act.put, List.getElem_toArray, List.getElem_cons_zero, List.getElem_cons_succ, List.setIfInBounds_toArray, List.set_cons_zero, List.set_cons_succ]
      refine wpAnyH_take (i := 13) (oi := _) (v := ?_) rfl (by kernel_rfl) (by kernel_rfl) (by kernel_rfl) (fun _ _ _ h => h) (Or.inl ⟨by rfl, ?_⟩) (by assumption) ?_
      case refine_2 => intro w hSw; (try dsimp only at hSw); go_simp; first | done | (with_reducible rfl)
      try simp only [Act.put, List.getElem_toArray, List.getElem_cons_zero, List.getElem_cons_succ, List.setIfInBounds_toArray, List.set_cons_zero, List.set_cons_succ]
      refine wpAnyH_take (i := 14) (oi := _) (v := ?_) rfl (by kernel_rfl) (by kernel_rfl) (by kernel_rfl) (fun _ _ _ h => h) (Or.inl ⟨by rfl, ?_⟩) (by assumption) ?_
      case refine_2 => intro w hSw; (try dsimp only at hSw); go_simp; first | done | (with_reducible rfl)
      try simp only [Act.put, List.getElem_toArray, List.getElem_cons_zero, List.getElem_cons_succ, List.setIfInBounds_toArray, List.set_cons_zero, List.set_cons_succ]
      refine wpAnyH_take (i := 15) (oi := _) (v := ?_) rfl (by kernel_rfl) (by kernel_rfl) (by kernel_rfl) (fun _ _ _ h => h) (Or.inl ⟨by rfl, ?_⟩) (by assumption) ?_
      case refine_2 => intro w hSw; (try dsimp only at hSw); go_simp; first | done | (with_reducible rfl)
      try simp only [Act.put, List.getElem_toArray, List.getElem_cons_zero, List.getElem_cons_succ, List.setIfInBounds_toArray, List.set_cons_zero, List.set_cons_succ]
      refine wpAnyH_take (i := 16) (oi := _) (v := ?_) rfl (by kernel_rfl) (by kernel_rfl) (by kernel_rfl) (fun _ _ _ h => h) (Or.inl ⟨by rfl, ?_⟩) (by assumption) ?_
      case refine_2 => intro w hSw; (try dsimp only at hSw); go_simp; first | done | (with_reducible rfl)
      try simp only [Act.put, List.getElem_toArray, List.getElem_cons_zero, List.getElem_cons_succ, List.setIfInBounds_toArray, List.set_cons_zero, List.set_cons_succ]
      refine wpAnyH_take (i := 17) (oi := _) (v := ?_) rfl (by kernel_rfl) (by kernel_rfl) (by kernel_rfl) (fun _ _ _ h => h) (Or.inl ⟨by rfl, ?_⟩) (by assumption) ?_
      case refine_2 => intro w hSw; (try dsimp only at hSw); go_simp; first | done | (with_reducible rfl)
      try simp only [Act.put, List.getElem_toArray, List.getElem_cons_zero, List.getElem_cons_succ, List.setIfInBounds_toArray, List.set_cons_zero, List.set_cons_succ]
      refine wpAnyH_take (i := 18) (oi := _) (v := ?_) rfl (by kernel_rfl) (by kernel_rfl) (by kernel_rfl) (fun _ _ _ h => h) (Or.inl ⟨by rfl, ?_⟩) (by assumption) ?_
      case refine_2 => intro w hSw; (try dsimp only at hSw); go_simp; first | done | (with_reducible rfl)
      try simp only [Act.put, List.getElem_toArray, List.getElem_cons_zero, List.getElem_cons_succ, List.setIfInBounds_toArray, List.set_cons_zero, List.set_cons_succ]
      refine wpAnyH_take (i := 19) (oi := _) (v := ?_) rfl (by kernel_rfl) (by kernel_rfl) (by kernel_rfl) (fun _ _ _ h => h) (Or.inl ⟨by rfl, ?_⟩) (by assumption) ?_
      case refine_2 => intro w hSw; (try dsimp only at hSw); go_simp; first | done | (with_reducible rfl)
      try simp only [Act.put, List.getElem_toArray, List.getElem_cons_zero, List.getElem_cons_succ, List.setIfInBounds_toArray, List.set_cons_zero, List.set_cons_succ]
      refine wpAnyH_take (i := 20) (oi := _) (v := ?_) rfl (by kernel_rfl) (by kernel_rfl) (by kernel_rfl) (fun _ _ _ h => h) (Or.inl ⟨by rfl, ?_⟩) (by assumption) ?_
      case refine_2 => intro w hSw; (try dsimp only at hSw); go_simp; first | done | (with_reducible rfl)
      try simp only [Act.put, List.getElem_toArray, List.getElem_cons_zero, List.getElem_cons_succ, List.setIfInBounds_toArray, List.set_cons_zero, List.set_cons_succ]
      refine wpAnyH_take (i := 21) (oi := _) (v := ?_) rfl (by kernel_rfl) (by kernel_rfl) (by kernel_rfl) (fun _ _ _ h => h) (Or.inl ⟨by rfl, ?_⟩) (by assumption) ?_
      case refine_2 => intro w hSw; (try dsimp only at hSw); go_simp; first | done | (with_reducible rfl)
      try simp only [Act.put, List.getElem_toArray, List.getElem_cons_zero, List.getElem_cons_succ, List.setIfInBounds_toArray, List.set_cons_zero, List.set_cons_succ]
      refine wpAnyH_take (i := 22) (oi := _) (v := ?_) rfl (by kernel_rfl) (by kernel_rfl) (by kernel_rfl) (fun _ _ _ h => h) (Or.inl ⟨by rfl, ?_⟩) (by assumption) ?_
      case refine_2 => intro w hSw; (try dsimp only at hSw); go_simp; first | done | (with_reducible rfl)
      try simp only [Act.put, List.getElem_toArray, List.getElem_cons_zero, List.getElem_cons_succ, List.setIfInBounds_toArray, List.set_cons_zero, List.set_cons_succ]
      refine wpAnyH_take (i := 23) (oi := _) (v := ?_) rfl (by kernel_rfl) (by kernel_rfl) (by kernel_rfl) (fun _ _ _ h => h) (Or.inl ⟨by rfl, ?_⟩) (by assumption) ?_
      case refine_2 => intro w hSw; (try dsimp only at hSw); go_simp; first | done | (with_reducible rfl)
      try simp only [Act.put, List.getElem_toArray, List.getElem_cons_zero, List.getElem_cons_succ, List.setIfInBounds_toArray, List.set_cons_zero, List.set_cons_succ]
      refine wpAnyH_take (i := 25) (oi := _) (v := ?_) rfl (by kernel_rfl) (by kernel_rfl) (by kernel_rfl) (fun _ _ _ h => h) (Or.inl ⟨by rfl, ?_⟩) (by assumption) ?_
      case refine_2 => intro w hSw; (try dsimp only at hSw); go_simp; first | done | (with_reducible rfl)
      try simp only [Act.put, List.getElem_toArray, List.getElem_cons_zero, List.getElem_cons_succ, List.setIfInBounds_toArray, List.set_cons_zero, List.set_cons_succ]
      refine wpAnyH_take (i := 26) (oi := _) (v := ?_) rfl (by kernel_rfl) (by kernel_rfl) (by kernel_rfl) (fun _ _ _ h => h) (Or.inl ⟨by rfl, ?_⟩) (by assumption) ?_
      case refine_2 => intro w hSw; (try dsimp only at hSw); go_simp; first | done | (with_reducible rfl)
      try simp only [Act.put, List.getElem_toArray, List.getElem_cons_zero, List.getElem_cons_succ, List.setIfInBounds_toArray, List.set_cons_zero, List.set_cons_succ]
      refine wpAnyH_ready (rs := [24]) (by kernel_rfl) (by simp) ?_
      refine AllReadyH.cons rfl (fun K hK => ?_) AllReadyH.nil
      go_simp
      go_at_call 17
      refine (K17.out _ hHeld.1 hHeld.2).mono ?_
      rintro e w11 ⟨rfl, hc11, hb11⟩
      refine hK.out _ _ ⟨hc11, hb11⟩ (fun hHeld => ?_)
      clear hK K
      try simp only [Act.put, List.getElem_toArray, List.getElem_cons_zero, List.getElem_cons_succ, List.setIfInBounds_toArray, List.set_cons_zero, List.set_cons_succ]
      refine wpAnyH_take (i := 27) (oi := _) (v := ?_) rfl (by kernel_rfl) (by kernel_rfl) (by kernel_rfl) (fun _ _ _ h => h) (Or.inl ⟨by rfl, ?_⟩) (by assumption) ?_
      case refine_2 => intro w hSw; (try dsimp only at hSw); go_simp; first | done | (with_reducible rfl)
      try simp only [Act.put, List.getElem_toArray, List.getElem_cons_zero, List.getElem_cons_succ, List.setIfInBounds_toArray, List.set_cons_zero, List.set_cons_succ]
      refine wpAnyH_take (i := 28) (oi := _) (v := ?_) rfl (by kernel_rfl) (by kernel_rfl) (by kernel_rfl) (fun _ _ _ h => h) (Or.inl ⟨by rfl, ?_⟩) (by assumption) ?_
      case refine_2 => intro w hSw; (try dsimp only at hSw); go_simp; first | done | (with_reducible rfl)
      try simp only [Act.put, List.getElem_toArray, List.getElem_cons_zero, List.getElem_cons_succ, List.setIfInBounds_toArray, List.set_cons_zero, List.set_cons_succ]
      refine wpAnyH_done (by kernel_rfl) ?_ _
      have HB11 : Hid (Below WA.heap.size WA w11) := Lib.hid hb11
      have HBX11 := Lib.hid (Boxed.below HBXA.out hb11 HBXA.out.lt)
      have HW11 : Hid (Below W1.heap.size W1 w11) := Lib.hid (HBA.out.trans (hb11.mono HBA.out.size))
      have HBS11 := Lib.hid (HBS1.out.below HW11.out)
      have HRA11 := Lib.hid ((HRA.out 0).below HB11.out)
      have hszB : WA.heap.size ≤ w11.heap.size := hb11.size
      clear hb11 hc11 hcA hcA1 hbA
      clear K17
      simp only [Only]
      go_wp2_with (go_at_call 18; refine (all_any a0 _ cap0 bs _ (HBS11.out.alloc _) HN0.out (by omega)).mono ?_; rintro e W7 ⟨Ar, cr7, Bk, rfl, hbox7, hBk, hbt7, hnr, hcr, har, hb7⟩)
      have bxj := Boxed.below (Boxed.new w11 3 (.int .i64 0)) hb7 (by simp)
      have hszj : w11.heap.size < W7.heap.size := bxj.lt
      have HBN7 := Lib.hid bxj
      have HB117 : Hid (Below w11.heap.size w11 W7) := Lib.hid (((Below.refl _ w11).alloc (Nat.le_refl _) _).trans (hb7.mono (by simp)))
      have hlt7 : ∀ x ∈ blk Bk Ar len0, x < W7.heap.size := blk_all (lt_of_cell hbox7) (fun h ad e => hbt7.lt h ad e)
      have hne : w11.heap.size ∉ blk Bk Ar len0 := fun hm => blk_all (p := fun x => x ≠ w11.heap.size) (by simp at hBk; omega) (fun h ad e => by have := har ad e; simp at this; omega) _ hm rfl
      have hst := all_tells 5 Bk (blk Bk Ar len0) Ar len0 cr7 bs W7 hlt7 hbox7 (blk_self _ _ _) (blk_addr _ _ _) hbt7 hnr hcr (by omega)
      have HA7 := Lib.hid (Boxed.below HBX11.out HB117.out HBX11.out.lt)
      have HR7 := Lib.hid (Boxed.below HR1.out (HW11.out.trans (HB117.out.mono HW11.out.size)) HR1.out.lt)
      have HW7 : Hid (Below w.heap.size w W7) := Lib.hid (HW1.out.trans ((HW11.out.trans (HB117.out.mono HW11.out.size)).mono HW1.out.size))
      have hszW := HW11.out.size
      clear hbox7 hBk hbt7 hcr har hb7 bxj
      refine (wpIn_wide (n := 6)).1 ?_
      apply range_told (F := Fence.wide) (n := 6) (f := 26) (own := #[.pointer (some ⟨Bk, 0, none⟩)]) ⟨rfl, by omega, trivial, enters_of Try.func26 (by kernel_rfl) rfl, hst⟩ rfl (Below.refl _ _) hlt7 (fun _ => rfl)
        (fun (pre : List ItemA) W => Boxed W w11.heap.size 3 (.int .i64 (pre.length : Int)) ∧ W7.grownBy W (some w11.heap.size))
        (fun _ _ _ => False)
        ⟨(fun s X Y row hs hg hr => ⟨hs.1.kept hg (fun e => by have := (hr _ e.symm).1; omega), grown_then hs.2 hg (fun r e => (hr r e).1)⟩),
        (fun _ _ _ _ _ hs _ _ => hs),
        (fun pre x => okA_own _ _ pre x)⟩
        ⟨HBN7.out, World.grownBy.refl _ _⟩
      case hassign =>
        intro l x W K hK
        simp only [encA]
        gi_wp2
        exact hK
      case hbody =>
        rintro l pre ⟨v, r⟩ W hWs ⟨bx, hg⟩ ⟨hsl, hpre⟩
        have hcj := bx.cell
        have hfj := bx.frozen
        have hcA := (grown_box hg HA7.out (by omega)).cell
        have hpl : pre.length < (Fr.rows bs).length := by
          have h1 := hpre.length_le
          simp at h1; omega
        have hr : (Fr.rows bs).getD pre.length [] = r := by
          obtain ⟨t, ht⟩ := hpre
          rw [← ht]
          simp [List.getD]
        have HBW11 : Hid (Below w11.heap.size w11 W) := Lib.hid (HB117.out.grown hg HB117.out.size (fun g e => by injection e; omega))
        have HRW := Lib.hid (HRA11.out.below HBW11.out)
        obtain ⟨b9, o9, rfl, _⟩ := HRW.out.some_of (by omega)
        obtain ⟨Aq, mq, dq, hcq, hbq, hmq, hdq, _⟩ := HRW.out.cell hpl
        rw [hr] at hbq
        obtain ⟨Av, nv, cv, rfl, hbv, _, _, _, _⟩ := hsl
        obtain rfl : nv = mq := by rw [← hbv.len, hbq.len]
        have hnv : nv ≤ 1200 := by rw [← hbv.len]; exact Fr.rows_mem_len bs r (by obtain ⟨t, ht⟩ := hpre; rw [← ht]; simp)
        have HV := Lib.hid hbv; have HQ := Lib.hid hbq
        have HPL : Hid ((pre ++ [((.slice Av nv cv : Value), r)]).length = pre.length + 1) := Lib.hid (by simp)
        have HBX := Lib.hid bx; have HG := Lib.hid hg
        have hpl2 : pre.length < 4000 := by have := HRL.out; omega
        have b1 : decide (((Fr.rows bs).length : Int) ≤ ((pre.length : Nat) : Int)) = false := by simp; omega
        clear hpre hr hbv hbq bx hg hmq hdq
        generalize pre.length = q at *
        gi_wp2_with (refine ⟨trivial, ?_⟩; gi_at_call 13; refine (CallsIn.inRound l (callsIn_wide.2 (same_refl _ _ _ _ _ _ HV.out HQ.out (by omega)))).mono ?_; rintro e w12 ⟨rfl, q12, rfl⟩)
        have hdr : Kept (blk Bk Ar len0) true W7.heap.size W (W.drewN q12) := ⟨Nat.le_refl _, fun _ _ => rfl, fun _ _ _ h _ => h⟩
        have hbd : Boxed (W.drewN q12) w11.heap.size 3 (.int .i64 (q : Int)) := HBX.out
        have hgd : W7.grownBy (W.drewN q12) (some w11.heap.size) := ⟨HG.out.os, HG.out.tape, HG.out.output, HG.out.size, HG.out.block⟩
        exact ⟨hdr.trans (Kept.set (by omega) hne _), by rw [HPL.out]; exact hbd.set (.int .i64 ((q : Int) + 1)), grown_set hgd _⟩
      case hstop =>
        rintro D c pre W hD hpre hf hK
        exact hf.elim
      case hdone =>
        rintro D xs W hD hxs ⟨bx, hg⟩ hK
        have hxl : xs.length = (Fr.rows bs).length := by have := congrArg List.length hxs; rwa [List.length_map] at this
        rw [hxl] at bx
        clear hxs hxl
        have hcj := bx.cell
        have hcA := (grown_box hg HA7.out (by omega)).cell
        have bxR := grown_box hg HR7.out (by omega)
        have hcR := bxR.cell
        have hfR := bxR.frozen
        have HBW : Hid (Below w.heap.size w W) := Lib.hid (HW7.out.grown hg HW7.out.size (fun g e => by injection e; omega))
        have b5 : (((Fr.rows bs).length : Int) == ((Fr.rows bs).length : Int)) = true := by simp
        have HK2 := Lib.hid hK
        clear bx hg bxR hK
        go_wp2
        have hKb : (W.setCell ⟨w.heap.size, 0, none⟩ (.bool true)).heap[D]? = some (.deferred (some [])) := (KeepsOthers.setCell W ⟨w.heap.size, 0, none⟩ (.bool true)).same D _ HK2.out rfl
        refine ⟨by simp, .inl ⟨_, _, rfl, run_takeDeferred hKb, ?_⟩⟩
        have d1 := World.cell?_setCell_same' W ⟨w.heap.size, 0, none⟩ (.bool true) (by rw [hcR]; rfl)
        have d2 := cell_kept d1 (grownBy_putObj' _ D (.deferred none)) (fun r e => by cases e; exact ⟨_, hKb, rfl⟩)
        exact ⟨.bool true, by simp [results, Try.results3, go_sem, d2], rfl, (HBW.out.setCell (p := ⟨w.heap.size, 0, none⟩) (Nat.le_refl _) _).trans (belowK_b (w := w) (Nat.le_refl _) _ D _ _ (by omega) hKb rfl rfl)⟩
  · by_cases hl0 : len0 ≤ 4000
    · have hl1 : 4000 < len1 := by omega
      clear hlen
      have hcR := bxR.cell
      have hfR := bxR.frozen
      have hc5 : (W1.setCell ⟨w.heap.size, 0, none⟩ (.bool true)).cell? ⟨w.heap.size, 0, none⟩ = some (.bool true) := World.cell?_setCell_same' _ _ _ (by rw [hcR]; rfl)
      have HB2 := Lib.hid (HW1.out.setCell (p := ⟨w.heap.size, 0, none⟩) (Nat.le_refl _) (.bool true))
      go_wp2
      exact ⟨.bool true, by simp [results, Try.results3, go_sem, hc5], rfl, HB2.out⟩
    · have hl1 : 4000 < len0 := by omega
      clear hlen hl0
      have hcR := bxR.cell
      have hfR := bxR.frozen
      have hc5 : (W1.setCell ⟨w.heap.size, 0, none⟩ (.bool true)).cell? ⟨w.heap.size, 0, none⟩ = some (.bool true) := World.cell?_setCell_same' _ _ _ (by rw [hcR]; rfl)
      have HB2 := Lib.hid (HW1.out.setCell (p := ⟨w.heap.size, 0, none⟩) (Nat.le_refl _) (.bool true))
      go_wp2
      exact ⟨.bool true, by simp [results, Try.results3, go_sem, hc5], rfl, HB2.out⟩

/-! ### THE ROW's STEP: WRITTEN OUT: LEAVE IT -/
set_option maxRecDepth 100000 in
theorem lifted (os : Os) (started : os.Started) (H : Type) (enc : TypeId × Value → H) :
    ReturnsInHanded {} Try.checked os 3 .any (Rows.frameGetsSpec.pre6 enc Try.prog Try.f3 Rows.frameGetsRow.domain false) (Rows.frameGetsSpec.post enc Try.prog Try.f3 false true false false) := by
  refine returnsInHanded_of_change (C := Try.checked) own started (by kernel_rfl) Try.func3
    (ChangeSpec.witness6 (enc := enc) (C := Try.checked) false ⟨#[], #[.slice none 0 0, .slice none 0 0], []⟩ 8 (by kernel_rfl) (by kernel_rfl) (by kernel_rfl) (by kernel_rfl)) ?_
  intro W base args ds gs before hval0 hW hcnd _
  have hval : ∀ (j : Nat) t v, Try.f3.params[j]? = some t → args[j]? = some v → Value.okWide Try.prog W .any base t v := hval0
  have hW' := hW
  obtain ⟨p, q, hA0, hV, rfl, hfz, hnd⟩ := hW
  have hA : DataW.TrodAll enc Try.prog W 0 (fun _ => true) true Try.f3.params.toList args.toList ds p := hA0
  rw [Try.params3] at hA hval
  obtain ⟨v0, vs0, d0, ds0, p0, q0, hargs, rfl, rfl, h0, r0⟩ := trodAll_cons hA
  obtain ⟨v1, vs1, d1, ds1, p1, q1, rfl, rfl, rfl, h1, r1⟩ := trodAll_cons r0
  obtain ⟨rfl, rfl, rfl⟩ := trodAll_nil r1
  obtain rfl : args = #[v0, v1] := by cases args; simp_all
  obtain ⟨rfl, rfl⟩ := trodVars_none hV
  obtain ⟨a0, len0, cap0, rfl⟩ := okWide_slice Try.underlying22 (hval 0 22 v0 rfl rfl)
  have k0 := h0
  have lt0 : ∀ x ∈ p0, x.block < W.heap.size := by obtain ⟨m, hm⟩ := k0; exact DataW.trod_lt m _ _ _ hm
  obtain ⟨z0, w0⟩ : ∃ zs, IsRow .u8 W a0 len0 cap0 zs := by
    obtain ⟨fuel, hf⟩ := h0
    rcases open_ints Try.underlying22 Try.underlying5 (by kernel_rfl) hf with ⟨hcs, _⟩ | ⟨x, l, c, zs, hcs, _, hl, hm, hz, _, hcell, hwz⟩
    · simp [Value.cells] at hcs
      obtain ⟨rfl, rfl, rfl⟩ := hcs
      exact ⟨[], .inl ⟨rfl, rfl, rfl, rfl⟩⟩
    · simp [Value.cells] at hcs
      obtain ⟨rfl, rfl, rfl⟩ := hcs
      exact ⟨zs, .inr ⟨_, rfl, hl, hm, by simpa using hz, hcell, hwz⟩⟩
  obtain ⟨a1, len1, cap1, rfl⟩ := okWide_slice Try.underlying22 (hval 1 22 v1 rfl rfl)
  have k1 := h1
  have lt1 : ∀ x ∈ p1, x.block < W.heap.size := by obtain ⟨m, hm⟩ := k1; exact DataW.trod_lt m _ _ _ hm
  obtain ⟨z1, w1⟩ : ∃ zs, IsRow .u8 W a1 len1 cap1 zs := by
    obtain ⟨fuel, hf⟩ := h1
    rcases open_ints Try.underlying22 Try.underlying5 (by kernel_rfl) hf with ⟨hcs, _⟩ | ⟨x, l, c, zs, hcs, _, hl, hm, hz, _, hcell, hwz⟩
    · simp [Value.cells] at hcs
      obtain ⟨rfl, rfl, rfl⟩ := hcs
      exact ⟨[], .inl ⟨rfl, rfl, rfl, rfl⟩⟩
    · simp [Value.cells] at hcs
      obtain ⟨rfl, rfl, rfl⟩ := hcs
      exact ⟨zs, .inr ⟨_, rfl, hl, hm, by simpa using hz, hcell, hwz⟩⟩
  clear hA0 hval0
  refine (walk a0 len0 cap0 z0 a1 len1 cap1 z1 W w0 w1).mono fun e W' ⟨he, bel⟩ => ?_
  subst he
  exact ⟨_, rfl, _, _, _, [], _, [], hW', trodAll_mk1 (shut_bool Try.underlying4 _), (trodAll_cons_mk (Below.trod laidOut (by kernel_rfl) (of_decide_eq_true (by kernel_rfl)) k0 bel lt0) (trodAll_cons_mk (Below.trod laidOut (by kernel_rfl) (of_decide_eq_true (by kernel_rfl)) k1 bel lt1) trodAll_mk0)), rfl, bel.frame _, fun h => by cases h⟩

theorem over : Rows.frameGetsRow.holds Try.pinned (OpenSpec.ofChange Rows.frameGetsSpec) :=
  OpenClaim.holds_of_wide 3 Try.f3 rfl rfl rfl rfl rfl rfl rfl ⟨rfl, rfl, rfl, rfl, rfl⟩ rfl rfl rfl rfl rfl (by kernel_rfl) Try.func3 (by kernel_rfl)
    (of_decide_eq_true (by kernel_rfl)) (by unfold Func.isWrapper; first | (rw [if_pos (by decide +kernel)]; kernel_rfl) | (rw [if_neg (by decide +kernel)]; exact ⟨rfl, rfl⟩))
    (fun os started H enc _ => lifted os started H enc)

/-- ████ THE STATEMENT ████ -/
theorem proved : Rows.FrameGetsSaid := over
#print axioms proved
end Go.Proofs.Ytadbidgikgffhaa.frameGets
