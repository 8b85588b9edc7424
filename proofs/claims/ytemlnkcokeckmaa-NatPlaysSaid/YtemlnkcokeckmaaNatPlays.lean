/-
  NatPlays: whatever box there is, and whatever goes out, comes, is asked for and dropped, and however it is rebooted, each answer and all bindings behind each step are what the document says. Conditions: none but the statement's own.
-/
import Derived.Deep.CutRange
import Derived.Deep.RegionWith
import Derived.Deep.Cut
import Derived.Test.YtemlnkcokeckmaaNpw
import Derived.Test.YtemlnkcokeckmaaRows
import Derived.WalkKit
import Derived.ProofKit
import Derived.OpenShut
import Derived.ShutString
import Derived.ChangeOld
import Derived.Below
namespace Go.Proofs.Ytemlnkcokeckmaa.natPlays
open Go.ChangeShapes Go.WideShapes Go.ChangeAt Go.RowKit
open Go.ChangeMaps (open_string shut_string)
set_option linter.unusedVariables false

theorem own : ownKnob Try.prog.godebug = none := by kernel_rfl
theorem laidOut : laidOutB Try.prog = true := by kernel_rfl

set_option maxRecDepth 100000 in
set_option maxHeartbeats 80000000 in
theorem walk (v0 : Value) (s0 : Bx) (v1 : Value) (s1 : List Dz) (w : World) (w0 : IsBox w v0 s0) (w1 : IsDzs w v1 s1) :
    Calls Try.prog 3 #[v0, v1] w fun e w' => e = .returned (.bool true) ∧ Below w.heap.size w w' := by
  obtain ⟨rfl, hbx⟩ := w0
  obtain ⟨A, cap, rfl, hnc, hcm, hdzs⟩ := w1
  unfold maxLen at hcm
  have HD := Lib.hid hdzs; have HBX := Lib.hid hbx
  have hg38 := noGuard38
  have hs0 := (Hs.nil w).box (boxCells s0) 24 rfl
  have HNW := Lib.hid (fun W => new_any s0 W HBX.out)
  have HMY := Lib.hid (fun W => rmay_any s0 W)
  have HB2 : Hid (box2 s0 = decide (RMay s0)) := Lib.hid (box2_may HBX.out)
  have HCELL : Hid (∀ W, Hs w [(w.heap.size, .cells (boxCells s0) 24 (0, 0))] W → (W.cell? ⟨w.heap.size, 0, none⟩ = some (.int .u32 s0.host) ∧ W.cell? ⟨w.heap.size, 1, none⟩ = some (.int .i64 s0.lo) ∧ W.cell? ⟨w.heap.size, 2, none⟩ = some (.int .i64 s0.hi) ∧ W.cell? ⟨w.heap.size, 3, none⟩ = some (.int .i64 s0.map) ∧ W.cell? ⟨w.heap.size, 4, none⟩ = some (.int .i64 s0.filter) ∧ W.cell? ⟨w.heap.size, 5, none⟩ = some (.int .i64 s0.life) ∧ W.cell? ⟨w.heap.size, 6, none⟩ = some (.int .i64 s0.most)) ∧ w.heap.size < W.heap.size) := Lib.hid (fun W h => by
    have hc := fun j => (h.cells (b := w.heap.size) (C := boxCells s0) (t := 24) (by simp) j).1
    exact ⟨⟨hc 0, hc 1, hc 2, hc 3, hc 4, hc 5, hc 6⟩, (Array.getElem?_eq_some_iff.1 (h.held (w.heap.size, .cells (boxCells s0) 24 (0, 0)) (by simp))).1⟩)
  have HS0 := Lib.hid hs0
  clear hdzs hbx hs0
  unfold boxCells at HNW HMY ⊢
  have HQ : Hid (∀ W, (binOp .neq 24 (.agg #[.int .u32 s0.host, .int .i64 s0.lo, .int .i64 s0.hi, .int .i64 s0.map, .int .i64 s0.filter, .int .i64 s0.life, .int .i64 s0.most]) (.agg #[.int .u32 s0.host, .int .i64 s0.lo, .int .i64 s0.hi, .int .i64 s0.map, .int .i64 s0.filter, .int .i64 s0.life, .int .i64 s0.most])).run Try.prog W = .ok (.bool false) W) := Lib.hid (fun W => by have hg24 := noGuard24; go_simp)
  go_enter Try.func3, Try.ntmps3
  go_wp2_with fail
  refine (awake_any _).mono ?_
  rintro e w1 ⟨rfl, hb1⟩
  have HS1 := Lib.hid (HS0.out.below hb1)
  obtain ⟨⟨c0, c1, c2, c3, c4, c5, c6⟩, cl⟩ := HCELL.out _ HS1.out
  clear hb1
  go_wp2_with fail
  refine (HNW.out _).mono ?_
  intro e w2 hr
  have HS2 := Lib.hid (HS1.out.below hr.1)
  have hr2 := hr.2
  rw [HB2.out] at hr2
  clear c0 c1 c2 c3 c4 c5 c6 cl
  obtain ⟨⟨c0, c1, c2, c3, c4, c5, c6⟩, cl⟩ := HCELL.out _ HS2.out
  by_cases hm : RMay s0
  · rw [if_pos (by simpa using hm)] at hr2
    obtain ⟨g, rfl, hgl, hna⟩ := hr2
    have HM := Lib.hid hm
    have HP2 : Hid (Pl w g s0 0 [] [(w.heap.size, .cells (boxCells s0) 24 (0, 0))] w2) := Lib.hid (by
      refine ⟨⟨_, _, hna, rfl, fun k hk => ?_, fun p hp hk => ?_⟩, HS2.out.held, HS2.out.low⟩
      · rcases hk with rfl | hk | ⟨d, hd, _⟩
        · exact Nat.le_trans HS1.out.low.size hgl
        · cases hk
        · cases hd
      · have h1 : p = (w.heap.size, .cells (boxCells s0) 24 (0, 0)) := by simpa using hp
        have h2 := (HCELL.out _ HS1.out).2
        rcases hk with e | hk | ⟨d, hd, _⟩
        · rw [h1] at e; dsimp only at e; omega
        · cases hk
        · cases hd)
    have HD1 : Hid (decide (RMay s0) = true) := Lib.hid (decide_eq_true hm)
    clear hr hna hgl hm
    go_wp2_with fail
    refine (HMY.out _).mono ?_
    rw [HD1.out]
    rintro e w3 ⟨rfl, hb3⟩
    have HP3 := Lib.hid (HP2.out.below hb3)
    clear hb3 c0 c1 c2 c3 c4 c5 c6 cl
    have HPC : Hid (∀ W, Pl w g s0 0 [] [(w.heap.size, .cells (boxCells s0) 24 (0, 0))] W → Calls Try.prog 16 #[.pointer (some ⟨g, 0, none⟩)] W fun e W' => e = .returned (.agg (boxCells s0)) ∧ Pl w g s0 0 [] [(w.heap.size, .cells (boxCells s0) 24 (0, 0))] W') := Lib.hid (fun W hp => by
      obtain ⟨kv, L, h1, _⟩ := hp.bo
      exact (box_any g s0 0 kv L W h1).mono fun e W' hq => ⟨hq.1, hp.below hq.2⟩)
    have HHS : Hid (∀ W, Pl w g s0 0 [] [(w.heap.size, .cells (boxCells s0) 24 (0, 0))] W → Hs w [(w.heap.size, .cells (boxCells s0) 24 (0, 0))] W) := Lib.hid (fun W hp => ⟨hp.held, hp.low⟩)
    obtain ⟨⟨c0, c1, c2, c3, c4, c5, c6⟩, cl⟩ := HCELL.out _ (HHS.out _ HP3.out)
    have HDR : Hid (∀ q, Pl w g s0 0 [] [(w.heap.size, .cells (boxCells s0) 24 (0, 0))] (w3.drewN q)) := Lib.hid (fun q => HP3.out.drewN q)
    unfold boxCells at HPC
    have hq := HQ.out
    clear HQ
    go_upto_region 6 with (fail)
    go_cut [50] from 39 (fun v50 wb => v50 = .bool false ∧ Hid (Pl w g s0 0 [] [(w.heap.size, .cells (boxCells s0) 24 (0, 0))] wb))
    case first =>
      go_region_with (go_at_call 16; (refine (HPC.out _ ?_).mono ?_; exact HDR.out _; rintro e w4 ⟨rfl, hp4⟩; have HP4 := Lib.hid hp4; obtain ⟨⟨d0, d1, d2, d3, d4, d5, d6⟩, dl⟩ := HCELL.out _ (HHS.out _ hp4); clear hp4))
      all_goals go_wp2
      all_goals (try simp only [Act.put, List.getElem_toArray, List.getElem_cons_zero, List.getElem_cons_succ, List.setIfInBounds_toArray, List.set_cons_zero, List.set_cons_succ])
      all_goals (go_meet; case rel => first | exact ⟨rfl, HP4⟩ | exact ⟨rfl, Lib.hid (HP4.out.drewN 1)⟩ | exact ⟨rfl, Lib.hid (HP4.out.drewN _)⟩)
    case rest =>
      obtain ⟨rfl, HP5⟩ := hcut
      obtain ⟨wb, rfl⟩ : ∃ wb, wb = wc := ⟨_, rfl⟩
      obtain ⟨⟨c0, c1, c2, c3, c4, c5, c6⟩, cl⟩ := HCELL.out _ (HHS.out _ HP5.out)
      have HT0 : Hid (Tw w g s0 0 [] wb.heap.size 0 [] [] (wb.alloc (.cells (natCells s0 (.slice none 0 0) 0) 36))) := Lib.hid (by
        have h1 := HP5.out.box (natCells s0 (.slice none 0 0) 0) 36 rfl
        exact Tw.begin (o := (wb.heap.size, .cells (natCells s0 (.slice none 0 0) 0) 36 (0, 0))) (h1.sub (fun p hp => by simp at hp; subst hp; simp)) ⟨World.alloc_heap_new _ _, World.ownsRow_nil _ _ _ _, fun d hd => by cases hd⟩ rfl rfl HP5.out.low.size (by simp))
      unfold natCells at HT0
      clear HPC HHS HCELL HP5 HDR HP3 HP2 HS0 HS1 HS2 HNW HMY HB2 HD1
      go_wp2
      clear c0 c1 c2 c3 c4 c5 c6 cl
      go_loopw [9, 8] (fun iv nv wr => ∃ (k : Nat) (T : Int) (M : List Bn) (LL : List Rb), k ≤ s1.length ∧ k ≤ 60 ∧ iv = .int .i64 (k : Int) ∧ nv = .int .i64 T ∧ Hid (St s0 T M LL) ∧ Hid (Tw w g s0 T M wb.heap.size T LL [] wr)) (fun iv _ _ => s1.length - (intOf iv).toNat)
      case atStart => exact ⟨0, 0, [], [], by omega, by omega, rfl, rfl, Lib.hid (St.nil HM.out), HT0⟩
      case round =>
        obtain ⟨k, T, M, LL, hk, hk60, rfl, rfl, HS, HT⟩ := hrel
        clear HT0
        by_cases hgo : k < s1.length ∧ k < 60
        · have hkz : (k : Int) < (s1.length : Int) := by omega
          have hkz2 : (k : Int) < 60 := by omega
          obtain ⟨d, hz⟩ : ∃ d, s1[k]? = some d := ⟨_, List.getElem?_eq_getElem hgo.1⟩
          obtain ⟨bb, off, rfl, hbl, hat⟩ := HD.out (by omega)
          have hda := hat k hgo.1
          rw [List.getD_eq_getElem?_getD, hz] at hda
          dsimp only [Option.getD] at hda
          have HDA := Lib.hid (hda.below HT.out.low)
          obtain ⟨⟨m0, m1, m2, m3, m4, m5, m6, m7⟩, -, hww, hia, hib, -, -⟩ := HDA.out.parts
          obtain ⟨ww0, ww1⟩ := hww
          have HIA := Lib.hid hia; have HIB := Lib.hid hib
          have ht0 := HS.out.t0; have ht1 := HS.out.t1
          obtain ⟨DO, hDO⟩ : ∃ o : Nat × Obj, o = (wr.heap.size, .cells #[.int .i64 d.kind, .int .i64 d.wait, .int .u32 d.a.1, .int .i64 d.a.2, .int .u32 d.b.1, .int .i64 d.b.2, .int .i64 d.port, .int .i64 d.till] 40 (0, 0)) := ⟨_, rfl⟩
          have HT1 : Hid (Tw w g s0 T M wb.heap.size T LL [DO] (wr.alloc (.cells #[.int .i64 d.kind, .int .i64 d.wait, .int .u32 d.a.1, .int .i64 d.a.2, .int .u32 d.b.1, .int .i64 d.b.2, .int .i64 d.port, .int .i64 d.till] 40))) := Lib.hid (by rw [hDO]; exact HT.out.box _ 40 rfl)
          obtain ⟨W1, hW1⟩ : ∃ W1, wr.alloc (.cells #[.int .i64 d.kind, .int .i64 d.wait, .int .u32 d.a.1, .int .i64 d.a.2, .int .u32 d.b.1, .int .i64 d.b.2, .int .i64 d.port, .int .i64 d.till] 40) = W1 := ⟨_, rfl⟩
          rw [hW1] at HT1
          have HDC : Hid (∀ n1 M1 n2 L2 os W, Tw w g s0 n1 M1 wb.heap.size n2 L2 os W → DO ∈ os → (W.cell? ⟨wr.heap.size, 2, none⟩ = some (.int .u32 d.a.1) ∧ W.cell? ⟨wr.heap.size, 3, none⟩ = some (.int .i64 d.a.2) ∧ W.cell? ⟨wr.heap.size, 4, none⟩ = some (.int .u32 d.b.1) ∧ W.cell? ⟨wr.heap.size, 5, none⟩ = some (.int .i64 d.b.2) ∧ W.cell? ⟨wr.heap.size, 6, none⟩ = some (.int .i64 d.port) ∧ W.cell? ⟨wr.heap.size, 7, none⟩ = some (.int .i64 d.till)) ∧ wr.heap.size < W.heap.size) := Lib.hid (fun n1 M1 n2 L2 os W h hm => by
            rw [hDO] at hm
            have hc := fun j => (h.cells hm j).1
            exact ⟨⟨hc 2, hc 3, hc 4, hc 5, hc 6, hc 7⟩, h.lt hm⟩)
          clear hz hda hia hib hat
          have hcells := fun j => (HT1.out.cells (b := wr.heap.size) (C := #[.int .i64 d.kind, .int .i64 d.wait, .int .u32 d.a.1, .int .i64 d.a.2, .int .u32 d.b.1, .int .i64 d.b.2, .int .i64 d.port, .int .i64 d.till]) (t := 40) (by rw [hDO]; simp) j).1
          obtain ⟨n0, n1, n2, n3, n4, n5, n6, n7⟩ : W1.cell? ⟨wr.heap.size, 0, none⟩ = some (.int .i64 d.kind) ∧ W1.cell? ⟨wr.heap.size, 1, none⟩ = some (.int .i64 d.wait) ∧ W1.cell? ⟨wr.heap.size, 2, none⟩ = some (.int .u32 d.a.1) ∧ W1.cell? ⟨wr.heap.size, 3, none⟩ = some (.int .i64 d.a.2) ∧ W1.cell? ⟨wr.heap.size, 4, none⟩ = some (.int .u32 d.b.1) ∧ W1.cell? ⟨wr.heap.size, 5, none⟩ = some (.int .i64 d.b.2) ∧ W1.cell? ⟨wr.heap.size, 6, none⟩ = some (.int .i64 d.port) ∧ W1.cell? ⟨wr.heap.size, 7, none⟩ = some (.int .i64 d.till) := ⟨hcells 0, hcells 1, hcells 2, hcells 3, hcells 4, hcells 5, hcells 6, hcells 7⟩
          have ml : wr.heap.size < W1.heap.size := by have := HT1.out.lt (p := DO) (by simp); rw [hDO] at this; exact this
          obtain ⟨q, hq⟩ : ∃ q : Bool, (decide (-100 < d.wait) && decide (d.wait < 1125899906842624)) = q := ⟨_, rfl⟩
          clear hcells hDO
          go_upto_region 13 with (fail)
          go_upto_region 14 with (fail)
          clear m0 m1 m2 m3 m4 m5 m6 m7
          go_cut [75] from 54 to 209 (fun v75 wc => v75 = .bool q ∧ wc = W1)
          case first =>
            by_cases hw1 : -100 < d.wait
            · by_cases hw2 : d.wait < 1125899906842624
              · go_wp2
                go_meet
                case rel => exact ⟨by rw [← hq]; simp [hw1, hw2], rfl⟩
              · have hw3 : (1125899906842624 : Int) ≤ d.wait := by omega
                go_wp2
                go_meet
                case rel => exact ⟨by rw [← hq, decide_eq_false (show ¬ d.wait < 1125899906842624 by omega), Bool.and_false], rfl⟩
            · have hw3 : d.wait ≤ -100 := by omega
              go_wp2
              go_meet
              case rel => exact ⟨by rw [← hq, decide_eq_false (show ¬ -100 < d.wait by omega), Bool.false_and], rfl⟩
          case rest =>
          obtain ⟨rfl, hwc⟩ := hcut
          rw [hwc]
          clear hwc hW1
          go_upto_if 75 with (fail)
          go_cut [8] from 54 to 209 (fun v8 wc => ∃ t : Int, v8 = .int .i64 t ∧ -9223372036854775808 ≤ t ∧ wc = W1)
          case first =>
            cases q with
            | true =>
              have hw : -100 < d.wait ∧ d.wait < 1125899906842624 := by simpa using hq
              obtain ⟨hw1, hw2⟩ := hw
              go_wp2
              go_meet
              case rel => exact ⟨_, rfl, by omega, rfl⟩
            | false =>
              go_wp2
              go_meet
              case rel => exact ⟨_, rfl, by omega, rfl⟩
          case rest =>
          obtain ⟨t, rfl, htl, hwc⟩ := hcut
          rw [hwc]
          have HTL := Lib.hid htl
          have m0 := n0; have m2 := n2; have m3 := n3; have m4 := n4; have m5 := n5; have m6 := n6; have m7 := n7
          clear hwc htl ww0 ww1 hq n0 n1 n2 n3 n4 n5 n6 n7
          by_cases h0 : d.kind = 0
          · rw [h0] at m0
            as_aux_lemma =>
            have HC1 := Lib.hid (tw_out HT1.out HM.out HS.out t d.a d.b HIA.out HIB.out)
            have HC2 := Lib.hid (fun os V n1 M1 (h : Tw w g s0 n1 M1 wb.heap.size T LL os V) e1 e2 => tw_rout h HM.out HS.out t d.a d.b HIA.out HIB.out HTL.out e1 e2)
            generalize outS s0 T M t d.a d.b = R at HC1 HC2
            obtain ⟨⟨ra, rc⟩, r2, n1, M1⟩ := R
            dsimp only at HC1 HC2
            unfold ansA adr at HC1 HC2
            have HC3 := Lib.hid (fun os V h => HC2.out os V n1 M1 h rfl rfl)
            clear HC2
            try dsimp only at HC1 HC3
            go_wp2_with fail
            refine HC1.out.mono ?_
            rintro e V1 ⟨rfl, hq1⟩
            have HT2 := Lib.hid (hq1.box (k := V1.heap.size) #[.int .u32 ra, .int .i64 rc] 38 rfl)
            obtain ⟨⟨p2, p3, p4, p5, p6, p7⟩, pl⟩ := HDC.out _ _ _ _ _ _ hq1 (by simp)
            clear hq1 HC1 HT1 ml m0 m2 m3 m4 m5 m6 m7
            go_wp2_with fail
            refine (HC3.out _ _ HT2.out).mono ?_
            rintro e V2 ⟨rfl, n2, L2, hq2, haft⟩
            have HA := Lib.hid haft
            have a0 := (hq2.cells (b := V1.heap.size) (C := #[.int .u32 ra, .int .i64 rc]) (t := 38) (by simp) 0).1
            have a1 := (hq2.cells (b := V1.heap.size) (C := #[.int .u32 ra, .int .i64 rc]) (t := 38) (by simp) 1).1
            have al : V1.heap.size < V2.heap.size := hq2.lt (p := (V1.heap.size, .cells #[.int .u32 ra, .int .i64 rc] 38 (0, 0))) (by simp)
            simp only [List.getElem?_toArray, List.getElem?_cons_zero, List.getElem?_cons_succ] at a0 a1
            have HX : Hid (Tw w g s0 n1 M1 wb.heap.size n2 L2 [] (V2.alloc (.cells #[.int .u32 ra, .int .i64 rc] 38))) := Lib.hid ((hq2.sub (os' := []) (by simp)).alloc _)
            clear hq2 haft HC3 HT2 p2 p3 p4 p5 p6 p7 pl
    
            go_wp2_with fail
            refine (tw_all HX.out HM.out HS.out HA.out).mono ?_
            rintro e V4 ⟨⟨u, rfl, hu⟩, ht4⟩
            obtain ⟨OB, ht4b, hob⟩ := ht4.hold_bs hu
            have HT4 := Lib.hid ht4b; have HOB := Lib.hid hob
            clear ht4 ht4b hob hu HX
            go_wp2_with fail
            refine (tw_rall HT4.out HM.out HS.out HA.out).mono ?_
            rintro e V5 ⟨⟨u2, rfl, hu2⟩, ht5⟩
            have HSB := Lib.hid (same_bs (HOB.out _ _ _ _ _ ht5) hu2)
            have HT5 := Lib.hid ht5
            clear hu2 ht5 HOB HT4
            go_wp2_with fail
            refine HSB.out.mono ?_
            rintro e V6 ⟨rfl, hb6⟩
            have HT6 := Lib.hid ((HT5.out.below hb6).sub (os' := []) (by simp))
            have HST := Lib.hid (HA.out.st HS.out)
            clear hb6 HT5 HSB HA
            obtain ⟨T2, hT2⟩ : ∃ T2, endT T t = T2 := ⟨_, rfl⟩
            rw [hT2] at HT6 HST
            have t20 := HST.out.t0
            obtain ⟨z8, f8, rl⟩ := HT6.out.now
            clear hT2
            go_wp2
            go_roundw
            case rel => exact ⟨k + 1, T2, _, _, by omega, by omega, by go_num, by go_num, HST, HT6⟩
            case measure => simp [intOf]; omega
          · by_cases h1 : d.kind = 1
            · have kb0 : (d.kind == (0 : Int)) = false := by simpa using h0
              have kd0 : decide (d.kind = (0 : Int)) = false := decide_eq_false h0
              rw [h1] at m0
              as_aux_lemma =>
              have HC1 := Lib.hid (tw_in HT1.out HM.out HS.out t d.port d.b HIB.out)
              have HC2 := Lib.hid (fun os V n1 M1 (h : Tw w g s0 n1 M1 wb.heap.size T LL os V) e1 e2 => tw_rin h HM.out HS.out t d.port d.b HIB.out e1 e2)
              generalize inS s0 T M t d.port d.b = R at HC1 HC2
              obtain ⟨⟨ra, rc⟩, r2, n1, M1⟩ := R
              dsimp only at HC1 HC2
              unfold ansA adr at HC1 HC2
              have HC3 := Lib.hid (fun os V h => HC2.out os V n1 M1 h rfl rfl)
              clear HC2
              try dsimp only at HC1 HC3
              go_wp2_with fail
              refine HC1.out.mono ?_
              rintro e V1 ⟨rfl, hq1⟩
              have HT2 := Lib.hid (hq1.box (k := V1.heap.size) #[.int .u32 ra, .int .i64 rc] 38 rfl)
              obtain ⟨⟨p2, p3, p4, p5, p6, p7⟩, pl⟩ := HDC.out _ _ _ _ _ _ hq1 (by simp)
              clear hq1 HC1 HT1 ml m0 m2 m3 m4 m5 m6 m7
              go_wp2_with fail
              refine (HC3.out _ _ HT2.out).mono ?_
              rintro e V2 ⟨rfl, n2, L2, hq2, haft⟩
              have HA := Lib.hid haft
              have a0 := (hq2.cells (b := V1.heap.size) (C := #[.int .u32 ra, .int .i64 rc]) (t := 38) (by simp) 0).1
              have a1 := (hq2.cells (b := V1.heap.size) (C := #[.int .u32 ra, .int .i64 rc]) (t := 38) (by simp) 1).1
              have al : V1.heap.size < V2.heap.size := hq2.lt (p := (V1.heap.size, .cells #[.int .u32 ra, .int .i64 rc] 38 (0, 0))) (by simp)
              simp only [List.getElem?_toArray, List.getElem?_cons_zero, List.getElem?_cons_succ] at a0 a1
              have HX : Hid (Tw w g s0 n1 M1 wb.heap.size n2 L2 [] (V2.alloc (.cells #[.int .u32 ra, .int .i64 rc] 38))) := Lib.hid ((hq2.sub (os' := []) (by simp)).alloc _)
              clear hq2 haft HC3 HT2 p2 p3 p4 p5 p6 p7 pl
      
              go_wp2_with fail
              refine (tw_all HX.out HM.out HS.out HA.out).mono ?_
              rintro e V4 ⟨⟨u, rfl, hu⟩, ht4⟩
              obtain ⟨OB, ht4b, hob⟩ := ht4.hold_bs hu
              have HT4 := Lib.hid ht4b; have HOB := Lib.hid hob
              clear ht4 ht4b hob hu HX
              go_wp2_with fail
              refine (tw_rall HT4.out HM.out HS.out HA.out).mono ?_
              rintro e V5 ⟨⟨u2, rfl, hu2⟩, ht5⟩
              have HSB := Lib.hid (same_bs (HOB.out _ _ _ _ _ ht5) hu2)
              have HT5 := Lib.hid ht5
              clear hu2 ht5 HOB HT4
              go_wp2_with fail
              refine HSB.out.mono ?_
              rintro e V6 ⟨rfl, hb6⟩
              have HT6 := Lib.hid ((HT5.out.below hb6).sub (os' := []) (by simp))
              have HST := Lib.hid (HA.out.st HS.out)
              clear hb6 HT5 HSB HA
              obtain ⟨T2, hT2⟩ : ∃ T2, endT T t = T2 := ⟨_, rfl⟩
              rw [hT2] at HT6 HST
              have t20 := HST.out.t0
              obtain ⟨z8, f8, rl⟩ := HT6.out.now
              clear hT2
              go_wp2
              go_roundw
              case rel => exact ⟨k + 1, T2, _, _, by omega, by omega, by go_num, by go_num, HST, HT6⟩
              case measure => simp [intOf]; omega
            · by_cases h2 : d.kind = 2
              · have kb0 : (d.kind == (0 : Int)) = false := by simpa using h0
                have kd0 : decide (d.kind = (0 : Int)) = false := decide_eq_false h0
                have kb1 : (d.kind == (1 : Int)) = false := by simpa using h1
                have kd1 : decide (d.kind = (1 : Int)) = false := decide_eq_false h1
                rw [h2] at m0
                as_aux_lemma =>
                have HC1 := Lib.hid (tw_ask HT1.out HM.out HS.out t d.a d.port d.till HIA.out)
                have HC2 := Lib.hid (fun os V n1 M1 (h : Tw w g s0 n1 M1 wb.heap.size T LL os V) e1 e2 => tw_rask h HM.out HS.out t d.a d.port d.till HIA.out e1 e2)
                generalize askS s0 T M t d.a d.port d.till = R at HC1 HC2
                obtain ⟨ra, r2, n1, M1⟩ := R
                dsimp only at HC1 HC2
                unfold ansI adr at HC1 HC2
                have HC3 := Lib.hid (fun os V h => HC2.out os V n1 M1 h rfl rfl)
                clear HC2
                try dsimp only at HC1 HC3
                go_wp2_with fail
                refine HC1.out.mono ?_
                rintro e V1 ⟨rfl, hq1⟩
                have HT2 := Lib.hid hq1
                obtain ⟨⟨p2, p3, p4, p5, p6, p7⟩, pl⟩ := HDC.out _ _ _ _ _ _ hq1 (by simp)
                clear hq1 HC1 HT1 ml m0 m2 m3 m4 m5 m6 m7
                go_wp2_with fail
                refine (HC3.out _ _ HT2.out).mono ?_
                rintro e V2 ⟨rfl, n2, L2, hq2, haft⟩
                have HA := Lib.hid haft
                have HX : Hid (Tw w g s0 n1 M1 wb.heap.size n2 L2 [] V2) := Lib.hid (hq2.sub (os' := []) (by simp))
                clear hq2 haft HC3 HT2 p2 p3 p4 p5 p6 p7 pl
        
                go_wp2_with fail
                refine (tw_all HX.out HM.out HS.out HA.out).mono ?_
                rintro e V4 ⟨⟨u, rfl, hu⟩, ht4⟩
                obtain ⟨OB, ht4b, hob⟩ := ht4.hold_bs hu
                have HT4 := Lib.hid ht4b; have HOB := Lib.hid hob
                clear ht4 ht4b hob hu HX
                go_wp2_with fail
                refine (tw_rall HT4.out HM.out HS.out HA.out).mono ?_
                rintro e V5 ⟨⟨u2, rfl, hu2⟩, ht5⟩
                have HSB := Lib.hid (same_bs (HOB.out _ _ _ _ _ ht5) hu2)
                have HT5 := Lib.hid ht5
                clear hu2 ht5 HOB HT4
                go_wp2_with fail
                refine HSB.out.mono ?_
                rintro e V6 ⟨rfl, hb6⟩
                have HT6 := Lib.hid ((HT5.out.below hb6).sub (os' := []) (by simp))
                have HST := Lib.hid (HA.out.st HS.out)
                clear hb6 HT5 HSB HA
                obtain ⟨T2, hT2⟩ : ∃ T2, endT T t = T2 := ⟨_, rfl⟩
                rw [hT2] at HT6 HST
                have t20 := HST.out.t0
                obtain ⟨z8, f8, rl⟩ := HT6.out.now
                clear hT2
                go_wp2
                go_roundw
                case rel => exact ⟨k + 1, T2, _, _, by omega, by omega, by go_num, by go_num, HST, HT6⟩
                case measure => simp [intOf]; omega
              · by_cases h3 : d.kind = 3
                · have kb0 : (d.kind == (0 : Int)) = false := by simpa using h0
                  have kd0 : decide (d.kind = (0 : Int)) = false := decide_eq_false h0
                  have kb1 : (d.kind == (1 : Int)) = false := by simpa using h1
                  have kd1 : decide (d.kind = (1 : Int)) = false := decide_eq_false h1
                  have kb2 : (d.kind == (2 : Int)) = false := by simpa using h2
                  have kd2 : decide (d.kind = (2 : Int)) = false := decide_eq_false h2
                  rw [h3] at m0
                  as_aux_lemma =>
                  have HC1 := Lib.hid (fun os V n2 L2 (h : Tw w g s0 T M wb.heap.size n2 L2 os V) => tw_drop h HM.out HS.out t d.a)
                  have HC2 := Lib.hid (fun os V n1 M1 (h : Tw w g s0 n1 M1 wb.heap.size T LL os V) => tw_rdrop h HM.out HS.out t d.a)
                  generalize dropS T M t d.a = R at HC1 HC2
                  obtain ⟨r1, n1, M1⟩ := R
                  dsimp only at HC1 HC2
                  unfold adr at HC1 HC2
                  have HCA := Lib.hid (fun V (h : Tw w g s0 T M wb.heap.size T LL [DO] V) => HC1.out [DO] V T LL h)
                  have HCB := Lib.hid (fun V (h : Tw w g s0 T M wb.heap.size T LL [DO] V) => HC2.out [DO] V T M h)
                  have HTD : Hid (∀ q, Tw w g s0 T M wb.heap.size T LL [DO] (W1.drewN q)) := Lib.hid (fun q => HT1.out.drewN q)
                  clear HT1
                  go_upto_region 36 with (fail)
                  go_region_with (first
                    | (go_at_call 23; first
                      | (refine (HCA.out _ ?_).mono ?_; exact HTD.out _; rintro e V1 ⟨rfl, hq1⟩; have HTA := Lib.hid hq1; obtain ⟨⟨p2, p3, p4, p5, p6, p7⟩, pl⟩ := HDC.out _ _ _ _ _ _ hq1 (by simp); clear hq1)
                      | (refine (HC1.out [DO] _ _ _ HTB.out).mono ?_; rintro e V1 ⟨rfl, hq1⟩; have HTA := Lib.hid hq1; clear hq1))
                    | (go_at_call 24; first
                      | (refine (HCB.out _ ?_).mono ?_; exact HTD.out _; rintro e V2 ⟨rfl, n2, L2, hq2, haft⟩; have HTB := Lib.hid hq2; have HA := Lib.hid haft; obtain ⟨⟨s2, s3, s4, s5, s6, s7⟩, sl⟩ := HDC.out _ _ _ _ _ _ hq2 (by simp); clear hq2 haft)
                      | (refine (HC2.out [DO] _ _ _ HTA.out).mono ?_; rintro e V2 ⟨rfl, n2, L2, hq2, haft⟩; have HTB := Lib.hid hq2; have HA := Lib.hid haft; clear hq2 haft)))
                  all_goals (try simp only [Act.put, List.getElem_toArray, List.getElem_cons_zero, List.getElem_cons_succ, List.setIfInBounds_toArray, List.set_cons_zero, List.set_cons_succ])
                  all_goals (
                    clear ml m0 m2 m3 m4 m5 m6 m7
                    clear HCA HCB
                    first | (have HX : Hid (Tw w g s0 n1 M1 wb.heap.size n2 L2 [] V2) := Lib.hid (HTB.out.sub (os' := []) (by simp))) | (have HX : Hid (Tw w g s0 n1 M1 wb.heap.size n2 L2 [] V1) := Lib.hid (HTA.out.sub (os' := []) (by simp)))
                    clear HTA HTB HC1 HC2 HTD
                    go_wp2_with fail
                    refine (tw_all HX.out HM.out HS.out HA.out).mono ?_
                    rintro e V4 ⟨⟨u, rfl, hu⟩, ht4⟩
                    obtain ⟨OB, ht4b, hob⟩ := ht4.hold_bs hu
                    have HT4 := Lib.hid ht4b; have HOB := Lib.hid hob
                    clear ht4 ht4b hob hu HX
                    go_wp2_with fail
                    refine (tw_rall HT4.out HM.out HS.out HA.out).mono ?_
                    rintro e V5 ⟨⟨u2, rfl, hu2⟩, ht5⟩
                    have HSB := Lib.hid (same_bs (HOB.out _ _ _ _ _ ht5) hu2)
                    have HT5 := Lib.hid ht5
                    clear hu2 ht5 HOB HT4
                    go_wp2_with fail
                    refine HSB.out.mono ?_
                    rintro e V6 ⟨rfl, hb6⟩
                    have HT6 := Lib.hid ((HT5.out.below hb6).sub (os' := []) (by simp))
                    have HST := Lib.hid (HA.out.st HS.out)
                    clear hb6 HT5 HSB HA
                    obtain ⟨T2, hT2⟩ : ∃ T2, endT T t = T2 := ⟨_, rfl⟩
                    rw [hT2] at HT6 HST
                    have t20 := HST.out.t0
                    obtain ⟨z8, f8, rl⟩ := HT6.out.now
                    clear hT2
                    go_wp2
                    go_roundw
                    case rel => exact ⟨k + 1, T2, _, _, by omega, by omega, by go_num, by go_num, HST, HT6⟩
                    case measure => simp [intOf]; omega)
                · have kb0 : (d.kind == (0 : Int)) = false := by simpa using h0
                  have kd0 : decide (d.kind = (0 : Int)) = false := decide_eq_false h0
                  have kb1 : (d.kind == (1 : Int)) = false := by simpa using h1
                  have kd1 : decide (d.kind = (1 : Int)) = false := decide_eq_false h1
                  have kb2 : (d.kind == (2 : Int)) = false := by simpa using h2
                  have kd2 : decide (d.kind = (2 : Int)) = false := decide_eq_false h2
                  have kb3 : (d.kind == (3 : Int)) = false := by simpa using h3
                  have kd3 : decide (d.kind = (3 : Int)) = false := decide_eq_false h3
                  as_aux_lemma =>
                  have HC1 := Lib.hid (tw_reboot HT1.out)
                  go_wp2_with fail
                  refine HC1.out.mono ?_
                  rintro e V1 ⟨rfl, hq1⟩
                  have HT2 := Lib.hid hq1
                  have HA : Hid (Aft s0 t 0 [] [] 0 [] 0 []) := Lib.hid (aft_boot HM.out t)
                  have HX : Hid (Tw w g s0 0 [] wb.heap.size 0 [] [] ((V1.setCell ⟨wb.heap.size, 7, none⟩ (.slice none 0 0)).setCell ⟨wb.heap.size, 8, none⟩ (.int .i64 0))) := Lib.hid ((tw_rboot hq1).sub (os' := []) (by simp))
                  obtain ⟨v', hra', -⟩ := hq1.refc
                  obtain ⟨z7, z8, zf⟩ := hra'.cells.2
                  have f7 := zf 7; have f8 := zf 8
                  have rl := hra'.lt
                  clear hq1 HC1 HT1 hra' zf ml m0 m2 m3 m4 m5 m6 m7
                  have HS : Hid (St s0 0 [] []) := Lib.hid (St.nil HM.out)
          
                  go_wp2_with fail
                  refine (tw_all HX.out HM.out HS.out HA.out).mono ?_
                  rintro e V4 ⟨⟨u, rfl, hu⟩, ht4⟩
                  obtain ⟨OB, ht4b, hob⟩ := ht4.hold_bs hu
                  have HT4 := Lib.hid ht4b; have HOB := Lib.hid hob
                  clear ht4 ht4b hob hu HX
                  go_wp2_with fail
                  refine (tw_rall HT4.out HM.out HS.out HA.out).mono ?_
                  rintro e V5 ⟨⟨u2, rfl, hu2⟩, ht5⟩
                  have HSB := Lib.hid (same_bs (HOB.out _ _ _ _ _ ht5) hu2)
                  have HT5 := Lib.hid ht5
                  clear hu2 ht5 HOB HT4
                  go_wp2_with fail
                  refine HSB.out.mono ?_
                  rintro e V6 ⟨rfl, hb6⟩
                  have HT6 := Lib.hid ((HT5.out.below hb6).sub (os' := []) (by simp))
                  have HST := Lib.hid (HA.out.st HS.out)
                  clear hb6 HT5 HSB HA
                  obtain ⟨T2, hT2⟩ : ∃ T2, endT 0 t = T2 := ⟨_, rfl⟩
                  rw [hT2] at HT6 HST
                  have t20 := HST.out.t0
                  obtain ⟨z8, f8, rl⟩ := HT6.out.now
                  clear hT2
                  go_wp2
                  go_roundw
                  case rel => exact ⟨k + 1, T2, _, _, by omega, by omega, by go_num, by go_num, HST, HT6⟩
                  case measure => simp [intOf]; omega
        · have hs : ((k : Int) < (s1.length : Int) ∧ (k : Int) < 60) → False := fun h => hgo ⟨by omega, by omega⟩
          have HLW := Lib.hid HT.out.low
          clear HT HS
          by_cases h1 : k < s1.length
          · have h2 : (60 : Int) ≤ (k : Int) := by omega
            have h3 : (k : Int) < (s1.length : Int) := by omega
            go_wp2
            go_ret
            exact ⟨rfl, HLW.out⟩
          · have h3 : (s1.length : Int) ≤ (k : Int) := by omega
            go_wp2
            go_ret
            exact ⟨rfl, HLW.out⟩
  · rw [if_neg (by simpa using hm)] at hr2
    have HD1 : Hid (decide (RMay s0) = false) := Lib.hid (decide_eq_false hm)
    have HL2 := Lib.hid HS2.out.low
    clear hr hm
    subst hr2
    go_wp2_with fail
    refine (HMY.out _).mono ?_
    rw [HD1.out]
    rintro e w3 ⟨rfl, hb3⟩
    have HL3 := Lib.hid (HL2.out.trans (hb3.mono HL2.out.size))
    clear hb3
    go_wp2
    go_ret
    exact ⟨rfl, HL3.out⟩

/-! ### THE ROW's STEP: WRITTEN OUT: LEAVE IT -/
set_option maxRecDepth 100000 in
theorem lifted (os : Os) (started : os.Started) (H : Type) (enc : TypeId × Value → H) :
    ReturnsInHanded {} Try.checked os 3 .any (Rows.natPlaysSpec.pre6 enc Try.prog Try.f3 Rows.natPlaysRow.domain false) (Rows.natPlaysSpec.post enc Try.prog Try.f3 false true false false) := by
  refine returnsInHanded_of_change (C := Try.checked) own started (by kernel_rfl) Try.func3
    (ChangeSpec.witness6 (enc := enc) (C := Try.checked) false ⟨#[], #[.agg #[.int .u32 0, .int .i64 0, .int .i64 0, .int .i64 0, .int .i64 0, .int .i64 0, .int .i64 0], .slice none 0 0], []⟩ 8 (by kernel_rfl) (by kernel_rfl) (by kernel_rfl) (by kernel_rfl)) ?_
  intro W base args ds gs before hval0 hW hcnd _
  have hval : ∀ (j : Nat) t v, Try.f3.params[j]? = some t → args[j]? = some v → Value.okWide Try.prog W .any base t v := hval0
  have hW' := hW
  obtain ⟨p, q, hA0, hV, rfl, hfz, hnd⟩ := hW
  have hA : DataW.TrodAll enc Try.prog W 0 (fun _ => true) true Try.f3.params.toList args.toList ds p := hA0
  rw [Try.params3] at hA hval
  obtain ⟨v0, vs0, d0, ds0, p0, q0, hargs, rfl, rfl, h0, r0⟩ := trodAll_cons hA
  obtain ⟨v1, vs1, d1, ds1, p1, q1, rfl, rfl, rfl, h1, r1⟩ := trodAll_cons r0
  obtain ⟨rfl, rfl, rfl⟩ := trodAll_nil r1
  obtain rfl : args = #[v0, v1] := by cases args; simp_all
  obtain ⟨rfl, rfl⟩ := trodVars_none hV
  have k0 := h0
  have lt0 : ∀ x ∈ p0, x.block < W.heap.size := by obtain ⟨m, hm⟩ := k0; exact DataW.trod_lt m _ _ _ hm
  obtain ⟨s0, w0⟩ := open_box (hval 0 24 v0 rfl rfl) h0
  have k1 := h1
  have lt1 : ∀ x ∈ p1, x.block < W.heap.size := by obtain ⟨m, hm⟩ := k1; exact DataW.trod_lt m _ _ _ hm
  obtain ⟨s1, w1⟩ := open_dzs (hval 1 25 v1 rfl rfl) h1
  clear hA0 hval0
  refine (walk v0 s0 v1 s1 W w0 w1).mono fun e W' ⟨he, bel⟩ => ?_
  subst he
  exact ⟨_, rfl, _, _, _, [], _, [], hW', trodAll_mk1 (shut_bool Try.underlying4 _), (trodAll_cons_mk (Below.trod laidOut (by kernel_rfl) (of_decide_eq_true (by kernel_rfl)) k0 bel lt0) (trodAll_cons_mk (Below.trod laidOut (by kernel_rfl) (of_decide_eq_true (by kernel_rfl)) k1 bel lt1) trodAll_mk0)), rfl, bel.frame _, fun h => by cases h⟩

theorem over : Rows.natPlaysRow.holds Try.pinned (OpenSpec.ofChange Rows.natPlaysSpec) :=
  OpenClaim.holds_of_wide 3 Try.f3 rfl rfl rfl rfl rfl rfl rfl ⟨rfl, rfl, rfl, rfl, rfl⟩ rfl rfl rfl rfl rfl (by kernel_rfl) Try.func3 (by kernel_rfl)
    (of_decide_eq_true (by kernel_rfl)) (by unfold Func.isWrapper; first | (rw [if_pos (by decide +kernel)]; kernel_rfl) | (rw [if_neg (by decide +kernel)]; exact ⟨rfl, rfl⟩))
    (fun os started H enc _ => lifted os started H enc)

/-- ████ THE STATEMENT ████ -/
theorem proved : Rows.NatPlaysSaid := over
#print axioms proved
end Go.Proofs.Ytemlnkcokeckmaa.natPlays
