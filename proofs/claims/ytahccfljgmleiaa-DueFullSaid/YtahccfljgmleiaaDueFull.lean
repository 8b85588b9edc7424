/-
  DueFull: as many as 200 timers are set, one more is refused unless its name is there; all are told, in order. Conditions: none.
-/
import Derived.Test.YtahccfljgmleiaaFullIn
import Derived.Test.YtahccfljgmleiaaRows
import Derived.WalkKit
import Derived.ProofKit
import Derived.OpenShut
import Derived.ShutString
import Derived.ChangeOld
import Derived.Below
namespace Go.Proofs.Ytahccfljgmleiaa.dueFull
open Go.ChangeShapes Go.WideShapes Go.ChangeAt Go.RowKit
open Go.ChangeMaps (open_string shut_string)
set_option linter.unusedVariables false

theorem own : ownKnob Try.prog.godebug = none := by kernel_rfl
theorem laidOut : laidOutB Try.prog = true := by kernel_rfl

attribute [local go_sem] Oper.semAt_some
open Go.Shelf
theorem full_set (xs : Nat → Int) (hx : ∀ i, 0 ≤ xs i ∧ xs i ≤ 65535) (k : Nat) (hk : k < 200) (t : Int) (ht : xs k = t) (tb bm : Nat) (W : World) (h : Du W tb bm (tabF xs k)) :
    Calls Try.prog 11 #[.pointer (some ⟨tb, 0, none⟩), .string (str (nmF k)), .int .i64 t] W (Turned W tb bm (tabF xs (k + 1)) (.int .i64 0)) := by
  subst ht
  have := set_any tb bm _ (nmF k) (xs k) W h
  rwa [set_zero hx hk] at this
set_option maxRecDepth 100000 in
set_option maxHeartbeats 4000000 in
theorem walk (a0 : Option Addr) (len0 cap0 : Nat) (z0 : List Int) (a1 : ByteArray) (w : World) (w0 : IsRow .u16 w a0 len0 cap0 z0) (w1 : a1.size ≤ maxLen) :
    Calls Try.prog 4 #[.slice a0 len0 cap0, .string a1] w fun e w' => e = .returned (.bool true) ∧ Below w.heap.size w w' := by
  obtain ⟨hU, hlc, hcm⟩ := u16s_of_row w0
  obtain ⟨x1, rfl⟩ := str_of a1 w1
  clear w0
  unfold maxLen at hcm
  have HU := Lib.hid hU
  have hx : ∀ i, 0 ≤ timeF len0 z0 i ∧ timeF len0 z0 i ≤ 65535 := fun i => by
    unfold timeF
    split
    · omega
    · exact hU.bd _
  clear hU
  obtain ⟨M, hM⟩ := full hx
  have HX := Lib.hid hx; have HM := Lib.hid hM
  clear hx hM
  refine (callsIn_wide (n := 8)).1 ?_
  refine callsIn_of_wp_marks Try.func4 rfl trivial ?_ rfl
  refine wpIn_wide.2 ?_
  simp only [Try.ntmps4, List.size_toArray, List.length_cons, List.length_nil, Nat.reduceSub, Nat.reduceAdd, Array.replicate_succ, Array.replicate_zero, List.push_toArray, List.append_toArray, List.nil_append, List.cons_append]
  go_wp2_with fail
  refine (awake_any _).mono ?_
  rintro e w1 ⟨rfl, hb⟩
  have h0 : Boxed w1 w.heap.size 4 (.bool false) := bx_after (Boxed.new w 4 (.bool false)) hb (by simp)
  have HB1 : Hid (Below w.heap.size w w1) := Lib.hid (((Below.refl _ w).alloc (Nat.le_refl _) _).trans (hb.mono (by simp)))
  have hz1 : w.heap.size < w1.heap.size := h0.lt
  have HC1 := Lib.hid h0
  clear hb h0
  go_wp2_with fail
  refine (new_any _).mono ?_
  rintro e w2 ⟨rfl, hD, hb⟩
  obtain ⟨tb, htb⟩ : ∃ tb, tb = w1.heap.size + 1 := ⟨_, rfl⟩
  obtain ⟨bm, hbm⟩ : ∃ bm, bm = w1.heap.size := ⟨_, rfl⟩
  have hc2 := bx_after HC1.out hb hz1
  have HB2 : Hid (Below w.heap.size w w2) := Lib.hid (HB1.out.trans (hb.mono (by omega)))
  rw [← htb, ← hbm] at hD
  rw [← htb]
  have hbw : bm = w1.heap.size ∧ tb = w1.heap.size + 1 := ⟨hbm, htb⟩
  have HBW := Lib.hid (show w.heap.size < bm ∧ w.heap.size < tb ∧ bm ≠ tb by omega)
  have HD2 := Lib.hid hD; have HC2 := Lib.hid hc2
  clear hb hD hc2 hbw htb hbm hz1 HC1 HB1
  go_wp2
  go_loopw [6, 7] (fun nn i wr => ∃ k : Nat, k ≤ 200 ∧ i = .int .i64 k ∧ (k = 200 → nn = .string (str (nmF 199))) ∧ Du wr tb bm (tabF (timeF len0 z0) k) ∧ Boxed wr w.heap.size 4 (.bool false) ∧ Below w.heap.size w wr) (fun _ i _ => 200 - (intOf i).toNat)
  case atStart => exact ⟨0, by omega, rfl, (fun h => by cases h), HD2.out, HC2.out, HB2.out⟩
  case round =>
    obtain ⟨k, hk, rfl, hn, hD, hC, hB⟩ := hrel
    have HN := Lib.hid hn; have HD := Lib.hid hD; have HC := Lib.hid hC; have HB := Lib.hid hB
    clear hn hD hC hB
    by_cases hlt : k < 200
    · obtain ⟨q, hq, hq2⟩ : ∃ q : Nat, (k : Int).tdiv 26 = (q : Int) ∧ q = k / 26 := ⟨k / 26, by rw [Int.tdiv_eq_ediv_of_nonneg (by omega)]; omega, rfl⟩
      obtain ⟨r, hr, hr2⟩ : ∃ r : Nat, (k : Int).tmod 26 = (r : Int) ∧ r = k % 26 := ⟨k % 26, by rw [Int.tmod_eq_emod_of_nonneg (by omega)]; omega, rfl⟩
      have hq3 : q ≤ 7 := by omega
      have hr3 : r ≤ 25 := by omega
      have hq4 : (k : Int) / 26 = (q : Int) := by omega
      have hr4 : (k : Int) % 26 = (r : Int) := by omega
      have hnm : nmF k = ky [110, UInt8.ofNat (97 + q), UInt8.ofNat (97 + r)] (by simp) := by rw [hq2, hr2]; rfl
      have HNM := Lib.hid hnm; have HQ := Lib.hid (And.intro hq2 hr2)
      clear hnm hq2 hr2
      have hcv := fun W => conv_three W q r (by omega) hr3
      rw [← HNM.out] at hcv
      have HW : Hid (∀ (o : Obj), Du (wr.alloc o) tb bm (tabF (timeF len0 z0) k)) := Lib.hid (fun o => HD.out.after ((Below.refl _ wr).alloc (Nat.le_refl _) _))
      have HE : Hid (∀ (o : Obj) (W : World), Keeps (· = bm) (wr.alloc o) W → Boxed W w.heap.size 4 (.bool false) ∧ Below w.heap.size w W) := Lib.hid (fun o W hk =>
        ⟨bx_keeps (bx_after HC.out ((Below.refl _ wr).alloc (Nat.le_refl _) _) HC.out.lt) hk (by show ¬ w.heap.size = bm; have := HBW.out; omega), HB.out.trans ((((Below.refl _ wr).alloc (Nat.le_refl _) o).mono HB.out.size).trans (hk.below (fun k e => by have := HBW.out; omega) (by have := HB.out.size; simp; omega)))⟩)
      by_cases hl : len0 = 0
      · subst hl
        go_wp2_with fail
        refine (full_set _ HX.out k hlt 0 rfl tb bm _ (HW.out _)).mono ?_
        rintro e w3 ⟨rfl, hD, hk⟩
        have HD3 := Lib.hid hD; have HE3 := Lib.hid (HE.out _ _ hk)
        clear hD hk
        go_wp2
        go_roundw
        case rel => exact ⟨k + 1, by omega, by go_num, (fun h => by have : k = 199 := by omega
                                                                    subst this; rfl), HD3.out, HE3.out.1, HE3.out.2⟩
        case measure => simp [intOf]; omega
      · obtain ⟨b, off, rfl, hb, hc⟩ := HU.out.cells (by omega)
        obtain ⟨u, hu, hu2⟩ : ∃ u : Nat, (k : Int).tmod (len0 : Int) = (u : Int) ∧ u = k % len0 := ⟨k % len0, by rw [Int.tmod_eq_emod_of_nonneg (by omega)]; omega, rfl⟩
        have hu3 : u < len0 := by rw [hu2]; exact Nat.mod_lt _ (by omega)
        have hu4 : (k : Int) % (len0 : Int) = (u : Int) := by rw [hu2]; omega
        have hcu := (cell_below (a := ⟨b, off + u, none⟩) HB.out hb).trans (hc u hu3)
        have HT : Hid (timeF len0 z0 k = z0.getD u 0) := Lib.hid (by unfold timeF; rw [if_neg hl, hu2])
        obtain ⟨t, ht⟩ : ∃ t, t = z0.getD u 0 := ⟨_, rfl⟩
        have ht3 : 0 ≤ t ∧ t ≤ 65535 := by rw [ht]; exact HU.out.bd u
        rw [← ht] at hcu
        have HT2 : Hid (timeF len0 z0 k = t) := Lib.hid (by rw [HT.out, ht])
        clear hc ht hu2
        have l0 : decide ((0 : Int) < (len0 : Int)) = true := by simp; omega
        go_wp2_with fail
        refine (full_set _ HX.out k hlt t HT2.out tb bm _ (HW.out _)).mono ?_
        rintro e w3 ⟨rfl, hD, hk⟩
        have HD3 := Lib.hid hD; have HE3 := Lib.hid (HE.out _ _ hk)
        clear hD hk
        go_wp2
        go_roundw
        case rel => exact ⟨k + 1, by omega, by go_num, (fun h => by have : k = 199 := by omega
                                                                    subst this; rfl), HD3.out, HE3.out.1, HE3.out.2⟩
        case measure => simp [intOf]; omega
    · obtain rfl : k = 200 := by omega
      obtain rfl := HN.out rfl
      go_wp2_with fail
      refine (set_any tb bm _ kAn 5 wr HD.out).mono ?_
      rintro e w3 ⟨rfl, hD, hk⟩
      rw [HM.out.code]
      rw [HM.out.same] at hD
      have HD3 := Lib.hid hD; have HK3 := Lib.hid hk
      clear hD hk
      go_wp2_with fail
      refine (set_any tb bm _ (nmF 199) 7 w3 HD3.out).mono ?_
      rintro e w4 ⟨rfl, hD, hk⟩
      rw [HM.out.code']
      rw [HM.out.set] at hD
      have HD4 := Lib.hid hD; have HK4 := Lib.hid (HK3.out.trans hk)
      clear hD hk
      go_wp2_with fail
      refine (names_any tb bm M w4 HD4.out).mono ?_
      rintro e w5 ⟨v5, rfl, ⟨A5, c5, rfl, hc5, _⟩, hb5⟩
      have hl5 : (namesL M).length = 200 := by unfold namesL; rw [List.length_map]; exact HM.out.len
      rw [hl5] at hc5 ⊢
      have HD5 := Lib.hid (HD4.out.after hb5)
      have hne : ¬ w.heap.size = bm := by have := HBW.out; omega
      have hC4 := bx_keeps HC.out HK4.out hne
      have HC5 := Lib.hid (bx_after hC4 hb5 hC4.lt)
      have hB4 : Below w.heap.size w w4 := HB.out.trans (HK4.out.below (fun k e => by have := HBW.out; omega) HB.out.size)
      have HB5 := Lib.hid (hB4.trans (hb5.mono hB4.size))
      clear hb5 hC4 hB4 hne hl5
      by_cases hx : (str x1).size ≤ 60
      · have l1 : decide ((60 : Int) < ((str x1).size : Int)) = false := by simp; omega
        go_wp2_with fail
        refine (due_any _ _ _).mono ?_
        rintro e w6 ⟨rfl, rfl⟩
        go_wp2_with fail
        have h5 : Boxed (w5.alloc (.cells #[.int .i64 0] 3)) w5.heap.size 3 (.int .i64 0) := Boxed.new w5 3 _
        have h6 : Boxed ((w5.alloc (.cells #[.int .i64 0] 3)).alloc (.cells #[.int .i64 0] 3)) (w5.heap.size + 1) 3 (.int .i64 0) := by
          have := Boxed.new (w5.alloc (.cells #[.int .i64 0] 3)) 3 (.int .i64 0)
          rwa [World.size_alloc] at this
        obtain ⟨W0, hW0⟩ : ∃ W0, W0 = ((((w5.alloc (.cells #[.int .i64 0] 3)).alloc (.cells #[.int .i64 0] 3)).alloc (.cells #[.pointer (some ⟨tb, 0, none⟩)] 25)).alloc (.cells #[.int .i64 1073741824] 3)) := ⟨_, rfl⟩
        have hb4 : Below w5.heap.size w5 W0 := by rw [hW0]; exact ((((Below.refl _ w5).alloc (Nat.le_refl _) _).alloc (by simp) _).alloc (by simp; omega) _).alloc (by simp; omega) _
        have hs0 : W0.heap.size = w5.heap.size + 4 := by rw [hW0]; simp
        have hlt5 := HD5.out.lt
        have hbw := HBW.out
        have hr5 := HC5.out.lt
        have HDW : Hid (Du W0 tb bm M) := Lib.hid (HD5.out.after hb4)
        have HP : Hid (Pfu w w.heap.size w5.heap.size (w5.heap.size + 1) [] W0) := Lib.hid ⟨bx_after HC5.out hb4 hr5, by rw [hW0]; exact ((h5.alloc _).alloc _).alloc _, by rw [hW0]; exact (h6.alloc _).alloc _, HB5.out.trans (hb4.mono (by omega))⟩
        have HT : Hid (W0.cell? ⟨w5.heap.size + 1 + 1, 0, none⟩ = some (.pointer (some ⟨tb, 0, none⟩))) := Lib.hid (by
          rw [hW0]
          have := ((Boxed.new ((w5.alloc (.cells #[.int .i64 0] 3)).alloc (.cells #[.int .i64 0] 3)) 25 (.pointer (some ⟨tb, 0, none⟩))).alloc (.cells #[.int .i64 1073741824] 3)).cell
          rwa [World.size_alloc, World.size_alloc] at this)
        have HN9 : Hid (W0.cell? ⟨w5.heap.size + 1 + 1 + 1, 0, none⟩ = some (.int .i64 1073741824)) := Lib.hid (by
          rw [hW0]
          have := (Boxed.new (((w5.alloc (.cells #[.int .i64 0] 3)).alloc (.cells #[.int .i64 0] 3)).alloc (.cells #[.pointer (some ⟨tb, 0, none⟩)] 25)) 3 (.int .i64 1073741824)).cell
          rwa [World.size_alloc, World.size_alloc, World.size_alloc] at this)
        have HW := Lib.hid hW0.symm
        rw [show (((w5.alloc (.cells #[.int .i64 0] 3)).alloc (.cells #[.int .i64 0] 3)).alloc (.cells #[.pointer (some ⟨tb, 0, none⟩)] 25)).alloc (.cells #[.int .i64 1073741824] 3) = W0 from HW.out]
        have HS0 := Lib.hid hs0
        have hgs : ∀ g ∈ [w5.heap.size + 1 + 1, w5.heap.size + 1 + 1 + 1], g < W0.heap.size := by intro g hg; simp at hg; omega
        have HE : Hid ((w.heap.size ≠ bm ∧ w.heap.size ≠ tb ∧ w5.heap.size ≠ bm ∧ w5.heap.size ≠ tb ∧ w5.heap.size + 1 ≠ bm ∧ w5.heap.size + 1 ≠ tb) ∧ tb < W0.heap.size ∧ bm < W0.heap.size ∧ w.heap.size ≤ bm ∧ w.heap.size ≤ W0.heap.size ∧ w.heap.size < w5.heap.size) := Lib.hid (by omega)
        have HPS : Hid (Still W0 bm (Pfu w w.heap.size w5.heap.size (w5.heap.size + 1))) := Lib.hid (pfu_still HE.out.1.1 HE.out.1.2.2.1 HE.out.1.2.2.2.2.1 HE.out.2.2.2.1 HE.out.2.2.2.2.1)
        clear h5 h6 hb4 hs0 hW0 hlt5 hr5 hbw
        refine (wpIn_wide (n := 8)).1 ?_
        apply range_stand (F := Fence.wide) (n := 8) (f := 23) (own := #[.pointer (some ⟨w5.heap.size + 1 + 1, 0, none⟩), .pointer (some ⟨w5.heap.size + 1 + 1 + 1, 0, none⟩)]) (k0 := M.length)
          ⟨rfl, by omega, trivial, enters_of Try.func23 (by kernel_rfl) rfl, due_tells 7 tb bm (w5.heap.size + 1 + 1) (w5.heap.size + 1 + 1 + 1) 1073741824 W0 HT.out HN9.out⟩ rfl (Below.refl _ _) hgs (fun _ => rfl)
          (JS tb bm 1073741824 M (Pfu w w.heap.size w5.heap.size (w5.heap.size + 1))) (MS tb bm 1073741824 M (Pfu w w.heap.size w5.heap.size (w5.heap.size + 1))) (fun _ _ => False)
          (loop_adm HPS.out HE.out.2.2.1) (loop_own HPS.out HE.out.2.1 HE.out.2.2.1) (loop_ownM HPS.out HE.out.2.1 HE.out.2.2.1)
          (fun c s X Y row hs _ _ => hs) (loop_ownE HE.out.2.1 HE.out.2.2.1) (loop_start HDW.out HP.out)
        case hassign =>
          intro l x W K hK
          simp only [encE]
          gi_wp2
          exact hK
        case hbody =>
          rintro lr k ⟨x, t⟩ V hVs hm
          have HMS := Lib.hid hm
          obtain ⟨done, rest, a1, a2, a3, a4, a5, b0, b1, b2, b3⟩ := hm
          have t6 : t ≤ 1073741824 := a5
          have l2 : decide ((t : Int) < lastT done) = false := by
            have := lastT_le HM.out.tbl a1
            simp only [decide_eq_false_iff_not]
            show ¬ t < lastT done
            have h9 : lastT done ≤ t := this
            omega
          have hdl : done.length < 200 := by
            have := HM.out.len
            rw [a1] at this
            simp at this; omega
          have c1 := b1.cell
          have f1 := b1.frozen
          have c2 := b2.cell
          have f2 := b2.frozen
          have HB0 := Lib.hid b0; have HB1 := Lib.hid b1; have HB2 := Lib.hid b2
          clear a1 a2 a3 a4 a5 b0 b1 b2 b3
          gi_wp2
          have hE := HE.out
          have hS0 := HS0.out
          refine ⟨(kept_set (by omega) (by simp <;> omega)).trans (kept_set (by omega) (by simp <;> omega)), loop_next HMS.out (fun L h => (h.set hE.1.2.2.2.2.2 hE.1.2.2.2.2.1).set hE.1.2.2.2.1 hE.1.2.2.1) (fun d hp => ⟨(hp.1.other (by omega) _).other (by omega) _, ?_, ?_, (hp.2.2.2.setCell (p := ⟨w5.heap.size + 1, 0, none⟩) (by show w.heap.size ≤ w5.heap.size + 1; omega) _).setCell (p := ⟨w5.heap.size, 0, none⟩) (by show w.heap.size ≤ w5.heap.size; omega) _⟩)⟩
          · have e1 := hp.2.1.cell
            rw [HB1.out.cell] at e1
            have e3 : (done.length : Int) = (d.length : Int) := by simpa using e1
            have e2 : done.length = d.length := by omega
            rw [List.length_append, ← e2]
            exact (HB1.out.other (by omega) _).set _
          · rw [lastT_snoc]
            exact ((HB2.out.set _).other (by omega) _)
        case hdone =>
          rintro D k V hD hj hf hK
          obtain ⟨done, rest, e1, e2, hd, _, hp⟩ := loop_end hj hf
          rw [take_all (fun e he => by have := HM.out.times e he; omega)] at e2
          subst e2
          obtain rfl : rest = [] := by simpa using e1
          have HD7 := Lib.hid hd; have HP7 := Lib.hid hp; have HK7 := Lib.hid hK
          clear e1 hd hp hj hf hK
          go_wp2_with fail
          refine (next_any' tb bm [] V HD7.out).mono ?_
          rintro e w6 ⟨rfl, hb6⟩
          rw [show firstOf [] = (⟨[], Nat.zero_le _⟩, 0, false) from rfl]
          have hn6 : Boxed w6 w5.heap.size 3 (.int .i64 200) := by
            have := bx_after HP7.out.2.1 hb6 HP7.out.2.1.lt
            rw [HM.out.len] at this
            exact this
          have hr6 := bx_after HP7.out.1 hb6 HP7.out.1.lt
          have HD6 : Hid (Du w6 tb bm []) := Lib.hid (HD7.out.after hb6)
          have HK6 : Hid (w6.heap[D]? = some (.deferred (some []))) := Lib.hid ((hb6.block D (Array.getElem?_eq_some_iff.1 HK7.out).1).trans HK7.out)
          have HB6 : Hid (Below w.heap.size w w6) := Lib.hid (HP7.out.2.2.2.trans (hb6.mono HP7.out.2.2.2.size))
          have hn7 := hn6.cell
          have HR6 := Lib.hid hr6
          have HE6 : Hid (w6.heap.size = w6.heap.size) := Lib.hid rfl
          clear hb6 hn6 hr6
          go_wp2_with fail
          refine (drop_any tb bm [] x1 w6 HD6.out).mono ?_
          rintro e w8 ⟨rfl, hD, hk⟩
          rw [show inL [] x1 = false from rfl]
          have HK8 := Lib.hid hk
          have hr8 := bx_keeps HR6.out HK8.out HE.out.1.1
          have c8 := hr8.cell
          have f8 := hr8.frozen
          have HR8 := Lib.hid hr8
          clear hD hk hr8 hn7
          have hD8 : Hid ((w8.setCell ⟨w.heap.size, 0, none⟩ (.bool true)).heap[D]? = some (.deferred (some []))) := Lib.hid ((heap_setCell_other _ ⟨w.heap.size, 0, none⟩ D _ (by show D ≠ w.heap.size; have := HE.out; have := HP7.out.1.lt; omega)).trans ((HK8.out.block D (Array.getElem?_eq_some_iff.1 HK6.out).1 (by show ¬ D = bm; have := HE.out; omega)).trans HK6.out))
          have hB8 : Hid (Below w.heap.size w (w8.setCell ⟨w.heap.size, 0, none⟩ (.bool true))) := Lib.hid ((HB6.out.trans (HK8.out.below (fun k e => by have := HE.out; omega) HB6.out.size)).setCell (p := ⟨w.heap.size, 0, none⟩) (Nat.le_refl _) _)
          have hR9 : Hid (((w8.setCell ⟨w.heap.size, 0, none⟩ (.bool true)).putObj D (.deferred none)).cell? ⟨w.heap.size, 0, none⟩ = some (.bool true)) := Lib.hid (by
            have h1 := HR8.out.set (.bool true)
            refine (Boxed.kept h1 (grownBy_putObj' _ D (.deferred none)) (fun e => ?_)).cell
            have e2 := Option.some.inj e
            have := HE.out
            omega)
          go_wp2
          refine ⟨by simp, .inl ⟨_, _, rfl, run_takeDeferred hD8.out, ?_⟩⟩
          have c9 := hR9.out
          exact ⟨.bool true, by simp [results, Try.results4, go_sem, c9], rfl, hB8.out.trans (belowK_b (w := w) (Nat.le_refl _) _ D _ _ (by have := HE.out; omega) hD8.out rfl rfl)⟩
        case hstop =>
          rintro D c V hD h hK
          exact h.elim
      · have l1 : decide ((60 : Int) < ((str x1).size : Int)) = true := by simp; omega
        have c0 := HC5.out.cell
        have f0 := HC5.out.frozen
        have c9 := (HC5.out.set (.bool true)).cell
        go_wp2
        exact ⟨.bool true, by simp [results, Try.results4, go_sem, c9], rfl, HB5.out.setCell (p := ⟨w.heap.size, 0, none⟩) (Nat.le_refl _) _⟩

/-! ### THE ROW's STEP: WRITTEN OUT: LEAVE IT -/
set_option maxRecDepth 100000 in
theorem lifted (os : Os) (started : os.Started) (H : Type) (enc : TypeId × Value → H) :
    ReturnsInHanded {} Try.checked os 4 .any (Rows.dueFullSpec.pre6 enc Try.prog Try.f4 Rows.dueFullRow.domain false) (Rows.dueFullSpec.post enc Try.prog Try.f4 false true false false) := by
  refine returnsInHanded_of_change (C := Try.checked) own started (by kernel_rfl) Try.func4
    (ChangeSpec.witness6 (enc := enc) (C := Try.checked) false ⟨#[], #[.slice none 0 0, .string ByteArray.empty], []⟩ 8 (by kernel_rfl) (by kernel_rfl) (by kernel_rfl) (by kernel_rfl)) ?_
  intro W base args ds gs before hval0 hW hcnd _
  have hval : ∀ (j : Nat) t v, Try.f4.params[j]? = some t → args[j]? = some v → Value.okWide Try.prog W .any base t v := hval0
  have hW' := hW
  obtain ⟨p, q, hA0, hV, rfl, hfz, hnd⟩ := hW
  have hA : DataW.TrodAll enc Try.prog W 0 (fun _ => true) true Try.f4.params.toList args.toList ds p := hA0
  rw [Try.params4] at hA hval
  obtain ⟨v0, vs0, d0, ds0, p0, q0, hargs, rfl, rfl, h0, r0⟩ := trodAll_cons hA
  obtain ⟨v1, vs1, d1, ds1, p1, q1, rfl, rfl, rfl, h1, r1⟩ := trodAll_cons r0
  obtain ⟨rfl, rfl, rfl⟩ := trodAll_nil r1
  obtain rfl : args = #[v0, v1] := by cases args; simp_all
  obtain ⟨rfl, rfl⟩ := trodVars_none hV
  obtain ⟨a0, len0, cap0, rfl⟩ := okWide_slice Try.underlying44 (hval 0 44 v0 rfl rfl)
  have k0 := h0
  have lt0 : ∀ x ∈ p0, x.block < W.heap.size := by obtain ⟨m, hm⟩ := k0; exact DataW.trod_lt m _ _ _ hm
  obtain ⟨z0, w0⟩ : ∃ zs, IsRow .u16 W a0 len0 cap0 zs := by
    obtain ⟨fuel, hf⟩ := h0
    rcases open_ints Try.underlying44 Try.underlying45 (by kernel_rfl) hf with ⟨hcs, _⟩ | ⟨x, l, c, zs, hcs, _, hl, hm, hz, _, hcell, hwz⟩
    · simp [Value.cells] at hcs
      obtain ⟨rfl, rfl, rfl⟩ := hcs
      exact ⟨[], .inl ⟨rfl, rfl, rfl, rfl⟩⟩
    · simp [Value.cells] at hcs
      obtain ⟨rfl, rfl, rfl⟩ := hcs
      exact ⟨zs, .inr ⟨_, rfl, hl, hm, by simpa using hz, hcell, hwz⟩⟩
  obtain ⟨a1, rfl, rfl, rfl, w1⟩ := open_string Try.underlying9 (hval 1 9 v1 rfl rfl) h1
  clear hA0 hval0
  refine (walk a0 len0 cap0 z0 a1 W w0 w1).mono fun e W' ⟨he, bel⟩ => ?_
  subst he
  exact ⟨_, rfl, _, _, _, [], _, [], hW', trodAll_mk1 (shut_bool Try.underlying4 _), (trodAll_cons_mk (Below.trod laidOut (by kernel_rfl) (of_decide_eq_true (by kernel_rfl)) k0 bel lt0) (trodAll_cons_mk (shut_string Try.underlying9 w1) trodAll_mk0)), rfl, bel.frame _, fun h => by cases h⟩

theorem over : Rows.dueFullRow.holds Try.pinned (OpenSpec.ofChange Rows.dueFullSpec) :=
  OpenClaim.holds_of_wide 4 Try.f4 rfl rfl rfl rfl rfl rfl rfl ⟨rfl, rfl, rfl, rfl, rfl⟩ rfl rfl rfl rfl rfl (by kernel_rfl) Try.func4 (by kernel_rfl)
    (of_decide_eq_true (by kernel_rfl)) (by unfold Func.isWrapper; first | (rw [if_pos (by decide +kernel)]; kernel_rfl) | (rw [if_neg (by decide +kernel)]; exact ⟨rfl, rfl⟩))
    (fun os started H enc _ => lifted os started H enc)

/-- ████ THE STATEMENT ████ -/
theorem proved : Rows.DueFullSaid := over
#print axioms proved
end Go.Proofs.Ytahccfljgmleiaa.dueFull
