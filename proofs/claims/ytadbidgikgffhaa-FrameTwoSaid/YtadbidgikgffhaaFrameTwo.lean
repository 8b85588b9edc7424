/-
  The statement FrameTwo holds: rows joined in two parts, and the parts one behind the other, are the rows joined at once. Conditions: none beyond the row's own.
-/
import Derived.Test.YtadbidgikgffhaaAwake
import Derived.Test.YtadbidgikgffhaaRowsIn
import Derived.Test.YtadbidgikgffhaaRows
import Derived.WalkKit
import Derived.ProofKit
import Derived.OpenShut
import Derived.ShutString
import Derived.ChangeOld
import Derived.Below
namespace Go.Proofs.Ytadbidgikgffhaa.frameTwo
open Go.ChangeShapes Go.WideShapes Go.ChangeAt Go.RowKit
open Go.ChangeMaps (open_string shut_string)
set_option linter.unusedVariables false

theorem own : ownKnob Try.prog.godebug = none := by kernel_rfl
theorem laidOut : laidOutB Try.prog = true := by kernel_rfl

theorem same_refl {w : World} (A1 A2 : Option Addr) (n c1 c2 : Nat) (xs : List Int) (h1 : Bts w A1 n xs) (h2 : Bts w A2 n xs) (hn : n ≤ 1000000) :
    Calls Try.prog 13 #[.slice A1 n c1, .slice A2 n c2] w fun e w' => e = .returned (.bool true) ∧ ∃ q, w' = w.drewN q :=
  same_self A1 A2 n c1 c2 xs w (by unfold maxLen; omega) h1 h2

set_option maxRecDepth 100000 in
set_option maxHeartbeats 4000000 in
theorem walk (a0 : Option Addr) (len0 cap0 : Nat) (z0 : List (List Int)) (a1 : Option Addr) (len1 cap1 : Nat) (z1 : List (List Int)) (w : World) (w0 : IsRows w a0 len0 cap0 z0) (w1 : IsRows w a1 len1 cap1 z1) :
    Calls Try.prog 7 #[.slice a0 len0 cap0, .slice a1 len1 cap1] w fun e w' => e = .returned (.bool true) ∧ Below w.heap.size w w' := by
  obtain ⟨hr0, hc0, hm0, hn0⟩ := w0
  obtain ⟨hr1, hc1, hm1, hn1⟩ := w1
  unfold maxLen at hm0 hm1
  by_cases hbig : len0 ≤ 30 ∧ len1 ≤ 30
  · obtain ⟨hs0, hs1⟩ := hbig
    have HR0 := Lib.hid hr0; have HR1 := Lib.hid hr1; have HN0 := Lib.hid hn0; have HN1 := Lib.hid hn1
    have HL0 := Lib.hid hr0.1; have HL1 := Lib.hid hr1.1
    obtain ⟨vs0, hv0, hcl0, hsl0⟩ := hr0.vals
    obtain ⟨vs1, hv1, hcl1, hsl1⟩ := hr1.vals
    have HV0 := Lib.hid hv0; have HV1 := Lib.hid hv1
    have HCL0 : Hid (∀ ad, a0 = some ad → ∀ j u, vs0[j]? = some u → w.cell? (ad.add j) = some u) := Lib.hid hcl0
    have HCL1 : Hid (∀ ad, a1 = some ad → ∀ j u, vs1[j]? = some u → w.cell? (ad.add j) = some u) := Lib.hid hcl1
    have HSL0 : Hid (∀ j u, vs0[j]? = some u → Sl w u (z0.getD j []) (fun _ => True)) := Lib.hid hsl0
    have HSL1 : Hid (∀ j u, vs1[j]? = some u → Sl w u (z1.getD j []) (fun _ => True)) := Lib.hid hsl1
    have HO0 : Hid (∀ u ∈ vs0, u.oneCell' = true) := Lib.hid (fun u hu => by
      obtain ⟨j, hj, e⟩ := List.getElem_of_mem hu
      exact (hsl0 j u (by rw [List.getElem?_eq_getElem hj, e])).oneCell)
    have HO1 : Hid (∀ u ∈ vs1, u.oneCell' = true) := Lib.hid (fun u hu => by
      obtain ⟨j, hj, e⟩ := List.getElem_of_mem hu
      exact (hsl1 j u (by rw [List.getElem?_eq_getElem hj, e])).oneCell)
    clear hr0 hr1 hn0 hn1 hv0 hv1 hcl0 hcl1 hsl0 hsl1
    -- what the third Join is handed
    have HCELL : Hid (∀ {a : Option Addr} {vs : List Value} {W : World}, Below w.heap.size w W → (∀ ad, a = some ad → ∀ j u, vs[j]? = some u → w.cell? (ad.add j) = some u) → ∀ ad, a = some ad → ∀ j u, vs[j]? = some u → W.cell? (ad.add j) = some u) := Lib.hid (fun hb h ad e j u hu => by
      have h1 := h ad e j u hu
      exact (hb.cell (p := ad.add j) (lt_of_cell h1)).trans h1)
    have HRS : Hid (∀ {W v} {base : Nat}, Below w.heap.size w W → W.ownsRow base 22 1 v (len0 + len1) (vs0 ++ vs1) → ∃ A c, v = .slice A (len0 + len1) c ∧ len0 + len1 ≤ c ∧ c ≤ maxLen ∧ (A = none → len0 + len1 = 0 ∧ c = 0) ∧ Rs W A (len0 + len1) (z0 ++ z1)) := Lib.hid (fun hb ho =>
      rs_of_own ho (by have := HL0.out; have := HL1.out; simp; omega) (vals_append (fun j u hu => (HSL0.out j u hu).below hb) (fun j u hu => (HSL1.out j u hu).below hb) (by have := HL0.out; have := HV0.out; omega)))
    by_cases hsh : Shorts z0 ∧ Shorts z1
    · obtain ⟨hz0, hz1⟩ := hsh
      have HZ0 := Lib.hid hz0; have HZ1 := Lib.hid hz1
      have hj0 := (Fr.join_len z0 hz0).1
      have hj1 := (Fr.join_len z1 hz1).1
      have HJA := Lib.hid (Fr.join_append z0 z1)
      have HJB0 := Lib.hid (join_bd' HR0.out); have HJB1 := Lib.hid (join_bd' HR1.out)
      have HRJ := Lib.hid (rows_join (z0 ++ z1) (Shorts.append.2 ⟨hz0, hz1⟩)).1
      have hj0' : (Fr.join z0).length ≤ 36060 := by have := HL0.out; omega
      have hj1' : (Fr.join z1).length ≤ 36060 := by have := HL1.out; omega
      clear hz0 hz1 hj0 hj1
      go_enter Try.func7, Try.ntmps7
      go_wp2_with fail
      refine (awake_any _).mono ?_
      rintro e w2 ⟨rfl, hb2⟩
      have HB2 := Lib.hid hb2; clear hb2
      go_wp2_with fail
      refine (join_ok a0 len0 cap0 z0 w2 (HR0.out.below HB2.out) (by omega) HZ0.out).mono ?_
      rintro e w3 ⟨v3, rfl, ho3, hb3⟩
      obtain ⟨A3, c3, rfl, hnc3, hc3, hbt3⟩ := own_form ho3 HJB0.out
      have HN3 := Lib.hid (own_nil ho3); have HBT3 := Lib.hid hbt3; clear ho3 hbt3
      have HW3 : Hid (Below w.heap.size w w3) := Lib.hid (HB2.out.trans (hb3.mono HB2.out.size)); clear hb3
      go_wp2_with fail
      refine (join_ok a1 len1 cap1 z1 w3 (HR1.out.below HW3.out) (by omega) HZ1.out).mono ?_
      rintro e w4 ⟨v4, rfl, ho4, hb4⟩
      obtain ⟨A4, c4, rfl, hnc4, hc4, hbt4⟩ := own_form ho4 HJB1.out
      have HN4 := Lib.hid (own_nil ho4); have HBT4 := Lib.hid hbt4; clear ho4 hbt4
      have HBX4 := Lib.hid (HBT3.out.below hb4)
      have HW4 : Hid (Below w.heap.size w w4) := Lib.hid (HW3.out.trans (hb4.mono HW3.out.size)); clear hb4
      go_wp2_with (first
        | (at_builtin; refine wpList_append_rows rfl (.tmp 32) (.tmp 33) rfl w4.heap.size _ 0 [] rfl (lit_rows w4) a0 len0 cap0 vs0 rfl HV0.out (HCELL.out (HW4.out.alloc HW4.out.size _) HCL0.out) HO0.out HN0.out (by omega) (by simp) ?_; intro v5 w5 ho5 hg5; rw [List.nil_append, Nat.zero_add] at ho5; have HB5 := Lib.hid (rows_grown_below (lit_rows w4) ((Below.refl w4.heap.size w4).alloc (Nat.le_refl _) _) (Nat.le_refl _) hg5); have HW5 : Hid (Below w.heap.size w w5) := Lib.hid (HW4.out.trans (HB5.out.mono HW4.out.size)); have HO5 := Lib.hid ho5; clear hg5 ho5)
        | (at_builtin; refine wpList_append_rows rfl (.tmp 34) (.tmp 35) rfl w4.heap.size _ len0 vs0 rfl HO5.out a1 len1 cap1 vs1 rfl HV1.out (HCELL.out HW5.out HCL1.out) HO1.out HN1.out (by omega) HB5.out.size ?_; intro v6 w6 ho6 hg6; have HB6 := Lib.hid (rows_grown_below HO5.out HB5.out (Nat.le_refl _) hg6); have HW6 : Hid (Below w.heap.size w w6) := Lib.hid (HW4.out.trans (HB6.out.mono HW4.out.size)); obtain ⟨A6, c6, rfl, hnc6, hc6, hn6, hrs6⟩ := HRS.out HW6.out ho6; have HR6 := Lib.hid hrs6; clear hg6 ho6 hrs6 hn6))
      refine (join_ok A6 (len0 + len1) c6 (z0 ++ z1) w6 HR6.out (by omega) (Shorts.append.2 ⟨HZ0.out, HZ1.out⟩)).mono ?_
      rintro e w7 ⟨v7, rfl, ho7, hb7⟩
      rw [HJA.out, List.length_append] at ho7
      obtain ⟨A7, c7, rfl, hnc7, hc7, hbt7⟩ := own_form ho7 (mem_append_bd HJB0.out HJB1.out)
      have HBT7 := Lib.hid hbt7
      have HC7 := Lib.hid hc7
      have HBX7 := Lib.hid ((HBX4.out.below HB6.out).below hb7)
      have HBY7 := Lib.hid ((HBT4.out.below HB6.out).below hb7)
      have HW7 : Hid (Below w.heap.size w w7) := Lib.hid (HW6.out.trans (hb7.mono HW6.out.size)); clear hb7 ho7 hbt7
      have HRL : Hid ((Fr.rows (Fr.join z0 ++ Fr.join z1)).length = len0 + len1) := Lib.hid (by rw [← HJA.out, HRJ.out]; have := HL0.out; have := HL1.out; simp; omega)
      clear HJA HRJ
      go_wp2_with (first
        | (at_builtin; refine wpList_append_bts_w (by kernel_rfl) (.tmp 57) (.tmp 58) rfl w7.heap.size _ 0 [] rfl (lit_own w7) A3 (Fr.join z0).length c3 (Fr.join z0) rfl (HBX7.out.alloc _) HN3.out (by omega) (by simp) ?_; intro v8 w8 ho8 hg8; rw [List.nil_append, Nat.zero_add] at ho8; have HB8 := Lib.hid (own_grown_below (lit_own w7) ((Below.refl w7.heap.size w7).alloc (Nat.le_refl _) _) (Nat.le_refl _) hg8); have HO8 := Lib.hid ho8; clear hg8 ho8)
        | (at_builtin; refine wpList_append_bts_w (by kernel_rfl) (.tmp 59) (.tmp 60) rfl w7.heap.size _ (Fr.join z0).length (Fr.join z0) rfl HO8.out A4 (Fr.join z1).length c4 (Fr.join z1) rfl (HBY7.out.below HB8.out) HN4.out (by omega) HB8.out.size ?_; intro v9 w9 ho9 hg9; have HB9 := Lib.hid (own_grown_below HO8.out HB8.out (Nat.le_refl _) hg9); obtain ⟨A9, c9, rfl, hnc9, hc9, hbt9⟩ := own_form ho9 (mem_append_bd HJB0.out HJB1.out); have HBT9 := Lib.hid hbt9; have HBZ9 := Lib.hid (HBT7.out.below HB9.out); clear hg9 ho9 hbt9)
        | (go_at_call 13; refine (same_refl _ _ _ _ _ _ HBZ9.out HBT9.out (by omega)).mono ?_; rintro e w10 ⟨rfl, q10, rfl⟩)
        | (go_at_call 17; refine (count_any _ _ _ _ _ (HBZ9.out.drewN _) hnc7 HC7.out (by omega)).mono ?_; rintro e w11 ⟨rfl, hb11⟩; have HB11 := Lib.hid hb11; clear hb11; rw [HRL.out]))
      go_ret
      refine ⟨rfl, ?_⟩
      have h1 := HW7.out.trans (HB9.out.mono HW7.out.size)
      exact (below_drewN' h1 _).trans (HB11.out.mono h1.size)
    · have HNS := Lib.hid hsh
      have HJB0 := Lib.hid (join_bd' HR0.out); have HJB1 := Lib.hid (join_bd' HR1.out)
      by_cases hz0 : Shorts z0
      · have hz1 : ¬ Shorts z1 := fun h => hsh ⟨hz0, h⟩
        have HZ0 := Lib.hid hz0; have HZ1 := Lib.hid hz1
        have hj0 := (Fr.join_len z0 hz0).1
        have hj0' : (Fr.join z0).length ≤ 36060 := by have := HL0.out; omega
        clear hz0 hz1 hsh hj0
        go_enter Try.func7, Try.ntmps7
        go_wp2_with fail
        refine (awake_any _).mono ?_
        rintro e w2 ⟨rfl, hb2⟩
        have HB2 := Lib.hid hb2; clear hb2
        go_wp2_with fail
        refine (join_ok a0 len0 cap0 z0 w2 (HR0.out.below HB2.out) (by omega) HZ0.out).mono ?_
        rintro e w3 ⟨v3, rfl, ho3, hb3⟩
        obtain ⟨A3, c3, rfl, hnc3, hc3, hbt3⟩ := own_form ho3 HJB0.out
        clear ho3 hbt3
        have HW3 : Hid (Below w.heap.size w w3) := Lib.hid (HB2.out.trans (hb3.mono HB2.out.size)); clear hb3
        go_wp2_with fail
        refine (join_no a1 len1 cap1 z1 w3 (HR1.out.below HW3.out) (by omega) HZ1.out).mono ?_
        rintro e w4 ⟨rfl, hb4⟩
        have HW4 : Hid (Below w.heap.size w w4) := Lib.hid (HW3.out.trans (hb4.mono HW3.out.size)); clear hb4
        go_wp2_with (first
          | (at_builtin; refine wpList_append_rows rfl (.tmp 32) (.tmp 33) rfl w4.heap.size _ 0 [] rfl (lit_rows w4) a0 len0 cap0 vs0 rfl HV0.out (HCELL.out (HW4.out.alloc HW4.out.size _) HCL0.out) HO0.out HN0.out (by omega) (by simp) ?_; intro v5 w5 ho5 hg5; rw [List.nil_append, Nat.zero_add] at ho5; have HB5 := Lib.hid (rows_grown_below (lit_rows w4) ((Below.refl w4.heap.size w4).alloc (Nat.le_refl _) _) (Nat.le_refl _) hg5); have HW5 : Hid (Below w.heap.size w w5) := Lib.hid (HW4.out.trans (HB5.out.mono HW4.out.size)); have HO5 := Lib.hid ho5; clear hg5 ho5)
          | (at_builtin; refine wpList_append_rows rfl (.tmp 34) (.tmp 35) rfl w4.heap.size _ len0 vs0 rfl HO5.out a1 len1 cap1 vs1 rfl HV1.out (HCELL.out HW5.out HCL1.out) HO1.out HN1.out (by omega) HB5.out.size ?_; intro v6 w6 ho6 hg6; have HB6 := Lib.hid (rows_grown_below HO5.out HB5.out (Nat.le_refl _) hg6); have HW6 : Hid (Below w.heap.size w w6) := Lib.hid (HW4.out.trans (HB6.out.mono HW4.out.size)); obtain ⟨A6, c6, rfl, hnc6, hc6, hn6, hrs6⟩ := HRS.out HW6.out ho6; have HR6 := Lib.hid hrs6; clear hg6 ho6 hrs6 hn6))
        refine (join_no A6 (len0 + len1) c6 (z0 ++ z1) w6 HR6.out (by omega) (fun h => HNS.out (Shorts.append.1 h))).mono ?_
        rintro e w7 ⟨rfl, hb7⟩
        have HW7 : Hid (Below w.heap.size w w7) := Lib.hid (HW6.out.trans (hb7.mono HW6.out.size)); clear hb7
        go_wp2_with fail
        go_ret
        exact ⟨rfl, HW7.out⟩
      · by_cases hz1 : Shorts z1
        · have HZ0 := Lib.hid hz0; have HZ1 := Lib.hid hz1
          have hj1 := (Fr.join_len z1 hz1).1
          have hj1' : (Fr.join z1).length ≤ 36060 := by have := HL1.out; omega
          clear hz0 hz1 hsh hj1
          go_enter Try.func7, Try.ntmps7
          go_wp2_with fail
          refine (awake_any _).mono ?_
          rintro e w2 ⟨rfl, hb2⟩
          have HB2 := Lib.hid hb2; clear hb2
          go_wp2_with fail
          refine (join_no a0 len0 cap0 z0 w2 (HR0.out.below HB2.out) (by omega) HZ0.out).mono ?_
          rintro e w3 ⟨rfl, hb3⟩
          have HW3 : Hid (Below w.heap.size w w3) := Lib.hid (HB2.out.trans (hb3.mono HB2.out.size)); clear hb3
          go_wp2_with fail
          refine (join_ok a1 len1 cap1 z1 w3 (HR1.out.below HW3.out) (by omega) HZ1.out).mono ?_
          rintro e w4 ⟨v4, rfl, ho4, hb4⟩
          obtain ⟨A4, c4, rfl, hnc4, hc4, hbt4⟩ := own_form ho4 HJB1.out
          clear ho4 hbt4
          have HW4 : Hid (Below w.heap.size w w4) := Lib.hid (HW3.out.trans (hb4.mono HW3.out.size)); clear hb4
          go_wp2_with (first
            | (at_builtin; refine wpList_append_rows rfl (.tmp 32) (.tmp 33) rfl w4.heap.size _ 0 [] rfl (lit_rows w4) a0 len0 cap0 vs0 rfl HV0.out (HCELL.out (HW4.out.alloc HW4.out.size _) HCL0.out) HO0.out HN0.out (by omega) (by simp) ?_; intro v5 w5 ho5 hg5; rw [List.nil_append, Nat.zero_add] at ho5; have HB5 := Lib.hid (rows_grown_below (lit_rows w4) ((Below.refl w4.heap.size w4).alloc (Nat.le_refl _) _) (Nat.le_refl _) hg5); have HW5 : Hid (Below w.heap.size w w5) := Lib.hid (HW4.out.trans (HB5.out.mono HW4.out.size)); have HO5 := Lib.hid ho5; clear hg5 ho5)
            | (at_builtin; refine wpList_append_rows rfl (.tmp 34) (.tmp 35) rfl w4.heap.size _ len0 vs0 rfl HO5.out a1 len1 cap1 vs1 rfl HV1.out (HCELL.out HW5.out HCL1.out) HO1.out HN1.out (by omega) HB5.out.size ?_; intro v6 w6 ho6 hg6; have HB6 := Lib.hid (rows_grown_below HO5.out HB5.out (Nat.le_refl _) hg6); have HW6 : Hid (Below w.heap.size w w6) := Lib.hid (HW4.out.trans (HB6.out.mono HW4.out.size)); obtain ⟨A6, c6, rfl, hnc6, hc6, hn6, hrs6⟩ := HRS.out HW6.out ho6; have HR6 := Lib.hid hrs6; clear hg6 ho6 hrs6 hn6))
          refine (join_no A6 (len0 + len1) c6 (z0 ++ z1) w6 HR6.out (by omega) (fun h => HNS.out (Shorts.append.1 h))).mono ?_
          rintro e w7 ⟨rfl, hb7⟩
          have HW7 : Hid (Below w.heap.size w w7) := Lib.hid (HW6.out.trans (hb7.mono HW6.out.size)); clear hb7
          go_wp2_with fail
          go_ret
          exact ⟨rfl, HW7.out⟩
        · have HZ0 := Lib.hid hz0; have HZ1 := Lib.hid hz1
          clear hz0 hz1 hsh
          go_enter Try.func7, Try.ntmps7
          go_wp2_with fail
          refine (awake_any _).mono ?_
          rintro e w2 ⟨rfl, hb2⟩
          have HB2 := Lib.hid hb2; clear hb2
          go_wp2_with fail
          refine (join_no a0 len0 cap0 z0 w2 (HR0.out.below HB2.out) (by omega) HZ0.out).mono ?_
          rintro e w3 ⟨rfl, hb3⟩
          have HW3 : Hid (Below w.heap.size w w3) := Lib.hid (HB2.out.trans (hb3.mono HB2.out.size)); clear hb3
          go_wp2_with fail
          refine (join_no a1 len1 cap1 z1 w3 (HR1.out.below HW3.out) (by omega) HZ1.out).mono ?_
          rintro e w4 ⟨rfl, hb4⟩
          have HW4 : Hid (Below w.heap.size w w4) := Lib.hid (HW3.out.trans (hb4.mono HW3.out.size)); clear hb4
          go_wp2_with (first
            | (at_builtin; refine wpList_append_rows rfl (.tmp 32) (.tmp 33) rfl w4.heap.size _ 0 [] rfl (lit_rows w4) a0 len0 cap0 vs0 rfl HV0.out (HCELL.out (HW4.out.alloc HW4.out.size _) HCL0.out) HO0.out HN0.out (by omega) (by simp) ?_; intro v5 w5 ho5 hg5; rw [List.nil_append, Nat.zero_add] at ho5; have HB5 := Lib.hid (rows_grown_below (lit_rows w4) ((Below.refl w4.heap.size w4).alloc (Nat.le_refl _) _) (Nat.le_refl _) hg5); have HW5 : Hid (Below w.heap.size w w5) := Lib.hid (HW4.out.trans (HB5.out.mono HW4.out.size)); have HO5 := Lib.hid ho5; clear hg5 ho5)
            | (at_builtin; refine wpList_append_rows rfl (.tmp 34) (.tmp 35) rfl w4.heap.size _ len0 vs0 rfl HO5.out a1 len1 cap1 vs1 rfl HV1.out (HCELL.out HW5.out HCL1.out) HO1.out HN1.out (by omega) HB5.out.size ?_; intro v6 w6 ho6 hg6; have HB6 := Lib.hid (rows_grown_below HO5.out HB5.out (Nat.le_refl _) hg6); have HW6 : Hid (Below w.heap.size w w6) := Lib.hid (HW4.out.trans (HB6.out.mono HW4.out.size)); obtain ⟨A6, c6, rfl, hnc6, hc6, hn6, hrs6⟩ := HRS.out HW6.out ho6; have HR6 := Lib.hid hrs6; clear hg6 ho6 hrs6 hn6))
          refine (join_no A6 (len0 + len1) c6 (z0 ++ z1) w6 HR6.out (by omega) (fun h => HNS.out (Shorts.append.1 h))).mono ?_
          rintro e w7 ⟨rfl, hb7⟩
          have HW7 : Hid (Below w.heap.size w w7) := Lib.hid (HW6.out.trans (hb7.mono HW6.out.size)); clear hb7
          go_wp2_with fail
          go_ret
          exact ⟨rfl, HW7.out⟩
  · by_cases hs0 : len0 ≤ 30
    · have hs1 : 30 < len1 := by omega
      clear hbig
      go_enter Try.func7, Try.ntmps7
      go_wp2_with (go_at_call 8; refine (awake_any _).mono ?_; rintro e w2 ⟨rfl, hb2⟩; have HB2 := Lib.hid hb2; clear hb2)
      go_ret
      exact ⟨rfl, HB2.out⟩
    · have hs1 : 30 < len0 := by omega
      clear hbig hs0
      go_enter Try.func7, Try.ntmps7
      go_wp2_with (go_at_call 8; refine (awake_any _).mono ?_; rintro e w2 ⟨rfl, hb2⟩; have HB2 := Lib.hid hb2; clear hb2)
      go_ret
      exact ⟨rfl, HB2.out⟩

/-! ### THE ROW's STEP: WRITTEN OUT: LEAVE IT -/
set_option maxRecDepth 100000 in
theorem lifted (os : Os) (started : os.Started) (H : Type) (enc : TypeId × Value → H) :
    ReturnsInHanded {} Try.checked os 7 .any (Rows.frameTwoSpec.pre6 enc Try.prog Try.f7 Rows.frameTwoRow.domain false) (Rows.frameTwoSpec.post enc Try.prog Try.f7 false true false false) := by
  refine returnsInHanded_of_change (C := Try.checked) own started (by kernel_rfl) Try.func7
    (ChangeSpec.witness6 (enc := enc) (C := Try.checked) false ⟨#[], #[.slice none 0 0, .slice none 0 0], []⟩ 8 (by kernel_rfl) (by kernel_rfl) (by kernel_rfl) (by kernel_rfl)) ?_
  intro W base args ds gs before hval0 hW hcnd _
  have hval : ∀ (j : Nat) t v, Try.f7.params[j]? = some t → args[j]? = some v → Value.okWide Try.prog W .any base t v := hval0
  have hW' := hW
  obtain ⟨p, q, hA0, hV, rfl, hfz, hnd⟩ := hW
  have hA : DataW.TrodAll enc Try.prog W 0 (fun _ => true) true Try.f7.params.toList args.toList ds p := hA0
  rw [Try.params7] at hA hval
  obtain ⟨v0, vs0, d0, ds0, p0, q0, hargs, rfl, rfl, h0, r0⟩ := trodAll_cons hA
  obtain ⟨v1, vs1, d1, ds1, p1, q1, rfl, rfl, rfl, h1, r1⟩ := trodAll_cons r0
  obtain ⟨rfl, rfl, rfl⟩ := trodAll_nil r1
  obtain rfl : args = #[v0, v1] := by cases args; simp_all
  obtain ⟨rfl, rfl⟩ := trodVars_none hV
  obtain ⟨a0, len0, cap0, rfl⟩ := okWide_slice Try.underlying30 (hval 0 30 v0 rfl rfl)
  have k0 := h0
  have lt0 : ∀ x ∈ p0, x.block < W.heap.size := by obtain ⟨m, hm⟩ := k0; exact DataW.trod_lt m _ _ _ hm
  obtain ⟨z0, w0⟩ : ∃ rss, IsRows W a0 len0 cap0 rss := isRows_open h0
  obtain ⟨a1, len1, cap1, rfl⟩ := okWide_slice Try.underlying30 (hval 1 30 v1 rfl rfl)
  have k1 := h1
  have lt1 : ∀ x ∈ p1, x.block < W.heap.size := by obtain ⟨m, hm⟩ := k1; exact DataW.trod_lt m _ _ _ hm
  obtain ⟨z1, w1⟩ : ∃ rss, IsRows W a1 len1 cap1 rss := isRows_open h1
  clear hA0 hval0
  refine (walk a0 len0 cap0 z0 a1 len1 cap1 z1 W w0 w1).mono fun e W' ⟨he, bel⟩ => ?_
  subst he
  exact ⟨_, rfl, _, _, _, [], _, [], hW', trodAll_mk1 (shut_bool Try.underlying4 _), (trodAll_cons_mk (Below.trod laidOut (by kernel_rfl) (of_decide_eq_true (by kernel_rfl)) k0 bel lt0) (trodAll_cons_mk (Below.trod laidOut (by kernel_rfl) (of_decide_eq_true (by kernel_rfl)) k1 bel lt1) trodAll_mk0)), rfl, bel.frame _, fun h => by cases h⟩

theorem over : Rows.frameTwoRow.holds Try.pinned (OpenSpec.ofChange Rows.frameTwoSpec) :=
  OpenClaim.holds_of_wide 7 Try.f7 rfl rfl rfl rfl rfl rfl rfl ⟨rfl, rfl, rfl, rfl, rfl⟩ rfl rfl rfl rfl rfl (by kernel_rfl) Try.func7 (by kernel_rfl)
    (of_decide_eq_true (by kernel_rfl)) (by unfold Func.isWrapper; first | (rw [if_pos (by decide +kernel)]; kernel_rfl) | (rw [if_neg (by decide +kernel)]; exact ⟨rfl, rfl⟩))
    (fun os started H enc _ => lifted os started H enc)

/-- ████ THE STATEMENT ████ -/
theorem proved : Rows.FrameTwoSaid := over
#print axioms proved
end Go.Proofs.Ytadbidgikgffhaa.frameTwo
