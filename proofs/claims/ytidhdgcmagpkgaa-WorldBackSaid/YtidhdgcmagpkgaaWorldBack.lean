/-
  What is sent back to where it came from, at once, by a host in the open net, or next to the other one, comes to the port that it was sent from; what comes from a host behind no box comes from its own address (60 steps). Condition: none beyond the statement's own.
-/
import Derived.Deep.CutRange
import Derived.Deep.Cut
import Derived.Test.YtidhdgcmagpkgaaWb
import Derived.Test.YtidhdgcmagpkgaaRows
import Derived.WalkKit
import Derived.ProofKit
import Derived.OpenShut
import Derived.ShutString
import Derived.ChangeOld
import Derived.Below
namespace Go.Proofs.Ytidhdgcmagpkgaa.worldBack
open Go.ChangeShapes Go.WideShapes Go.ChangeAt Go.RowKit
open Go.ChangeMaps (open_string shut_string)
set_option linter.unusedVariables false

theorem own : ownKnob Try.prog.godebug = none := by kernel_rfl
theorem laidOut : laidOutB Try.prog = true := by kernel_rfl

set_option maxRecDepth 100000 in
set_option maxHeartbeats 16000000 in
theorem walk (v0 : Value) (s0 : Pn) (v1 : Value) (s1 : List Gs) (w : World) (w0 : IsPlan w v0 s0) (w1 : IsGos w v1 s1) :
    Calls Try.prog 3 #[v0, v1] w fun e w' => e = .returned (.bool true) ∧ Below w.heap.size w w' := by
  obtain ⟨A0, A1, A2, c0, c1, c2, rfl, PV⟩ := w0
  obtain ⟨As, cs, rfl, hsc, hscm, hsat, hsg⟩ := w1
  have hm38 := noGuard38
  have hs0 := (Hs.nil w).box (k := w.heap.size) #[.slice A0 s0.bx.length c0, .slice A1 s0.bh.length c1, .slice A2 s0.hs.length c2] 26 rfl
  have h26 : Hid ((w.heap.size, Obj.cells #[.slice A0 s0.bx.length c0, .slice A1 s0.bh.length c1, .slice A2 s0.hs.length c2] 26 (0, 0)) ∈ [(w.heap.size, Obj.cells #[.slice A0 s0.bx.length c0, .slice A1 s0.bh.length c1, .slice A2 s0.hs.length c2] 26 (0, 0))]) := Lib.hid (by simp)
  have HS0 := Lib.hid hs0
  have HPV := Lib.hid PV
  have HSAT := Lib.hid hsat
  have HSG := Lib.hid hsg
  unfold maxLen at hscm
  obtain ⟨N, hN⟩ : ∃ N, s1.length = N := ⟨_, rfl⟩
  have HNS := Lib.hid hN
  rw [hN] at hsc ⊢
  clear hs0 PV hsat hsg hN
  go_enter Try.func3, Try.ntmps3
  go_wp2_with fail
  refine (awake_wd _).mono ?_
  rintro e V1 ⟨rfl, hb1⟩
  have HS1 := Lib.hid (HS0.out.below hb1)
  obtain ⟨os, hos⟩ : ∃ os, [(w.heap.size, Obj.cells #[.slice A0 s0.bx.length c0, .slice A1 s0.bh.length c1, .slice A2 s0.hs.length c2] 26 (0, 0))] = os := ⟨_, rfl⟩
  rw [hos] at HS1 h26
  have HOS := Lib.hid hos
  clear hb1 HS0 hos
  have f0 := (HS1.out.cells h26.out 0).1
  have f1 := (HS1.out.cells h26.out 1).1
  have f2 := (HS1.out.cells h26.out 2).1
  simp at f0 f1 f2
  go_wp2_with fail
  refine (small_wd HPV.out _).mono ?_
  rintro e V2 ⟨rfl, hb2⟩
  have HS2 := Lib.hid (HS1.out.below hb2)
  have HLOW := Lib.hid HS2.out.low
  clear hb2 HS1 f0 f1 f2
  cases hsm : smallP s0 with
  | false =>
    clear hsm
    go_wp2
    go_ret
    exact ⟨rfl, HLOW.out⟩
  | true =>
    clear hsm
    have f0 := (HS2.out.cells h26.out 0).1
    have f1 := (HS2.out.cells h26.out 1).1
    have f2 := (HS2.out.cells h26.out 2).1
    simp at f0 f1 f2
    have HPV2 := Lib.hid (HPV.out.below HS2.out.low)
    have HNEW := Lib.hid HPV2.out.new
    go_wp2_with fail
    refine HNEW.out.mono ?_
    intro e V3 hm
    clear f0 f1 f2 HNEW
    rcases hm with ⟨_, rfl, hb3⟩ | ⟨hok, wb, bv, sv, hv, rfl, hp⟩
    · have HE := Lib.hid (HLOW.out.trans (hb3.mono HLOW.out.size))
      clear hb3
      go_wp2
      go_ret
      exact ⟨rfl, HE.out⟩
    · have hplan := okNew_parts hok HPV.out.ib HPV.out.is
      have HINV : Hid (OkPlan (sitesOf s0.bx s0.bh) s0.hs (s0.bx.map freshP) ∧ OkT 0 (s0.bx.map freshP)) := Lib.hid ⟨hplan, fun b hb => ⟨hplan.ok b hb, by obtain ⟨x, _, rfl⟩ := List.mem_map.1 hb; exact Int.le_refl _⟩⟩
      have HW0 := Lib.hid (hp.rebase HLOW.out HS2.out.held)
      clear hp hok HPV2 HLOW HS2 hplan
      obtain ⟨S, hS⟩ : ∃ S, sitesOf s0.bx s0.bh = S := ⟨_, rfl⟩
      obtain ⟨bs0, hbs0⟩ : ∃ bs0, s0.bx.map freshP = bs0 := ⟨_, rfl⟩
      rw [hS, hbs0] at HINV HW0
      obtain ⟨H, hH⟩ : ∃ H, s0.hs = H := ⟨_, rfl⟩
      rw [hH] at HINV HW0
      obtain ⟨n, hn⟩ : ∃ n, H.length = n := ⟨_, rfl⟩
      have hn16 : n ≤ 16 := by have := HINV.out.1.h16; omega
      have HN : Hid (H.length = n ∧ s0.hs = H) := Lib.hid ⟨hn, hH⟩
      clear hS hbs0 hH hn
      go_wp2
      go_loopg [7, 8] 60 (fun gg s7 s8 wr => ∃ (i : Nat) (nw wn : Int) (bs : List Bp), i ≤ 60 ∧ 60 - i ≤ gg ∧ s7 = .int .i64 nw ∧ s8 = .int .i64 (i : Int) ∧ 0 ≤ nw ∧ nw ≤ (i : Int) * 8589934592 ∧ wn ≤ nw ∧ Hid (Wp w wb bv sv hv S H bs wn os wr) ∧ Hid (OkPlan S H bs ∧ OkT nw bs))
      case atStart => exact ⟨0, 0, 0, bs0, by omega, by omega, rfl, rfl, by omega, by omega, by omega, HW0, HINV⟩
      case round =>
        obtain ⟨i, nw, wn, bs, hi, hig, rfl, rfl, hnw0, hnw1, hwn, HW, HI⟩ := hrel
        clear HW0 HINV
        by_cases hiN : i < N
        case neg =>
          have hz : ¬ (i : Int) < (N : Int) := by omega
          have HLOW := Lib.hid HW.out.low
          go_wp2
          go_ret
          exact ⟨rfl, HLOW.out⟩
        have hz : (i : Int) < (N : Int) := by omega
        by_cases hi6 : i < 60
        case neg =>
          have hz6 : ¬ (i : Int) < 60 := by omega
          have HLOW := Lib.hid HW.out.low
          go_wp2
          go_ret
          exact ⟨rfl, HLOW.out⟩
        have hz6 : (i : Int) < 60 := by omega
        obtain ⟨⟨gw, gh, gp, ⟨t1, t2⟩, gb⟩, hgi⟩ : ∃ g, s1[i]? = some g := ⟨_, List.getElem?_eq_getElem (by have := HNS.out; omega)⟩
        have hisg := HSG.out _ (List.mem_of_getElem? hgi)
        obtain ⟨sb, so, rfl, hsb, hcell⟩ := HSAT.out (by have := HNS.out; omega)
        have hq := fun j hj => (HW.out.low.cell (p := ⟨sb, so + i * 6 + j, none⟩) hsb).trans (hcell i _ hgi j hj)
        have q0 : wr.cell? ⟨sb, so + i * 6, none⟩ = some (.int .i64 gw) := hq 0 (by omega)
        have q1 : wr.cell? ⟨sb, so + i * 6 + 1, none⟩ = some (.int .i64 gh) := hq 1 (by omega)
        have q2 : wr.cell? ⟨sb, so + i * 6 + 2, none⟩ = some (.int .i64 gp) := hq 2 (by omega)
        have q3 : wr.cell? ⟨sb, so + i * 6 + 3, none⟩ = some (.int .u32 t1) := hq 3 (by omega)
        have q4 : wr.cell? ⟨sb, so + i * 6 + 4, none⟩ = some (.int .i64 t2) := hq 4 (by omega)
        have q5 : wr.cell? ⟨sb, so + i * 6 + 5, none⟩ = some (.bool gb) := hq 5 (by omega)
        have HG : Hid (W64 gw ∧ W64 gh ∧ W64 gp ∧ isA (t1, t2)) := Lib.hid hisg
        have hbw : sb < wr.heap.size := Nat.lt_of_lt_of_le hsb HW.out.low.size
        have HW9 := Lib.hid (HW.out.box (k := wr.heap.size) #[.int .i64 gw, .int .i64 gh, .int .i64 gp, .int .u32 t1, .int .i64 t2, .bool gb] 38 rfl)
        obtain ⟨k9, hk9⟩ : ∃ k, wr.heap.size = k := ⟨_, rfl⟩
        clear hq hcell hgi hisg
        go_upto_region 13 with fail
        obtain ⟨W9, hW9⟩ : ∃ W9, wr.alloc (.cells #[.int .i64 gw, .int .i64 gh, .int .i64 gp, .int .u32 t1, .int .i64 t2, .bool gb] 38) = W9 := ⟨_, rfl⟩
        rw [hW9] at HW9 ⊢
        try rw [hk9]
        rw [hk9] at HW9
        clear hW9 q0 q1 q2 q3 q4 q5 hk9 hbw HW
        have w5 := (HW9.out.cells (b := k9) (C := #[.int .i64 gw, .int .i64 gh, .int .i64 gp, .int .u32 t1, .int .i64 t2, .bool gb]) (t := 38) (by simp) 0).1
        simp at w5
        obtain ⟨q, hq⟩ : ∃ q, (decide (0 < gw) && decide (gw < 8589934592)) = q := ⟨_, rfl⟩
        go_cut [59] from 38 to 143 (fun v59 wc => v59 = .bool q ∧ wc = W9)
        case first =>
          by_cases hw1 : 0 < gw
          · go_wp2
            go_meet
            case rel => exact ⟨by rw [← hq, decide_eq_true hw1, Bool.true_and], rfl⟩
          · go_wp2
            go_meet
            case rel => exact ⟨by rw [← hq, decide_eq_false (show ¬ 0 < gw by omega), Bool.false_and], rfl⟩
        case rest =>
        obtain ⟨rfl, hwc⟩ := hcut
        rw [hwc]
        clear hwc
        go_upto_if 59 with (fail)
        go_cut [7] from 38 to 143 (fun v7 wc => ∃ t : Int, v7 = .int .i64 t ∧ nw ≤ t ∧ t ≤ ((i + 1 : Nat) : Int) * 8589934592 ∧ wc = W9)
        case first =>
          cases q with
          | true =>
            have hw : 0 < gw ∧ gw < 8589934592 := by simpa using hq
            obtain ⟨hw1, hw2⟩ := hw
            go_wp2
            go_meet
            case rel => exact ⟨nw + gw, by go_num, by omega, by omega, rfl⟩
          | false =>
            go_wp2
            go_meet
            case rel => exact ⟨nw, rfl, by omega, by omega, rfl⟩
        case rest =>
        obtain ⟨t, rfl, ht0, ht1, hwc⟩ := hcut
        rw [hwc]
        have htm : t < 1099511627776 := by omega
        clear hwc hq w5
        have hway := way_wp HW9.out HI.out.1.okS HI.out.1.ok HI.out.1.len HI.out.1.s16 HI.out.1.h16 HI.out.1.okH t gh gp (t1, t2) ⟨HG.out.2.2.1.1, HG.out.2.2.1.2⟩ HG.out.2.2.2
        obtain ⟨⟨⟨h', ⟨f1, f2⟩, ⟨g1, g2⟩, c'⟩, bs2, wn2⟩, hR⟩ : ∃ R, wayM S H bs wn t gh gp (t1, t2) = R := ⟨_, rfl⟩
        have HSTEP := Lib.hid (way_step HI.out.1 HI.out.2 ht0 (by omega) (by omega) HG.out.2.2.2 HG.out.2.2.1 _ hR)
        have HBACK := Lib.hid (way_back HI.out.1 (HI.out.2.mono ht0) (by omega) htm HG.out.2.2.1 _ hR)
        rw [hR] at hway
        unfold adr at hway
        dsimp only at hway HSTEP HBACK
        have HWAY := Lib.hid hway
        obtain ⟨w51, w52, w53, w54⟩ : W9.cell? ⟨k9, 1, none⟩ = some (.int .i64 gh) ∧ W9.cell? ⟨k9, 2, none⟩ = some (.int .i64 gp) ∧ W9.cell? ⟨k9, 3, none⟩ = some (.int .u32 t1) ∧ W9.cell? ⟨k9, 4, none⟩ = some (.int .i64 t2) := by
          have h9 := fun j => (HW9.out.cells (b := k9) (C := #[.int .i64 gw, .int .i64 gh, .int .i64 gp, .int .u32 t1, .int .i64 t2, .bool gb]) (t := 38) (by simp) j).1
          exact ⟨h9 1, h9 2, h9 3, h9 4⟩
        clear hway hR
        go_wp2_with fail
        refine HWAY.out.mono ?_
        rintro e V4 ⟨rfl, hw5⟩
        clear w51 w52 w53 w54 HWAY HW9
        have hw6 := (hw5.box (k := V4.heap.size) #[.int .u32 f1, .int .i64 f2] 36 rfl).box (k := V4.heap.size + 1) #[.int .u32 g1, .int .i64 g2] 36 (by simp)
        by_cases hc : c' = 0
        case neg =>
          have hcb : (c' != 0) = true := by simpa using hc
          have HW7 := Lib.hid (hw6.sub (os' := os) (fun p hp => List.mem_cons_of_mem _ (List.mem_cons_of_mem _ (List.mem_cons_of_mem _ hp))))
          clear hw5 hw6 HBACK
          go_wp2
          go_roundg (60 - (i + 1))
          case measure => omega
          case rel => exact ⟨i + 1, t, wn2, bs2, by omega, by omega, rfl, by go_num, by omega, ht1, HSTEP.out.2.2.1, HW7, Lib.hid ⟨HSTEP.out.1, HSTEP.out.2.1⟩⟩
        subst hc
        obtain ⟨k, j, rfl, hkl, rfl, hjl, rfl, hb1, hb2⟩ := HBACK.out rfl
        obtain ⟨⟨hx, ou⟩, hHk⟩ : ∃ s, H[k]? = some s := ⟨_, List.getElem?_eq_getElem hkl⟩
        obtain ⟨⟨jx, oj⟩, hHj⟩ : ∃ s, H[j]? = some s := ⟨_, List.getElem?_eq_getElem hjl⟩
        obtain ⟨eo1, eo2⟩ := own_at_h (q := gp) hHk
        obtain ⟨_, eo3⟩ := own_at_h (q := 0) hHj
        rw [eo1, eo2] at hb1
        rw [eo1, eo2, eo3] at hb2
        have HB1 := Lib.hid hb1; have HB2 := Lib.hid hb2
        have hkn : k < n := by have := HN.out.1; omega
        have hjn : j < n := by have := HN.out.1; omega
        have hpv := HPV.out.below hw6.low
        obtain ⟨hb_, ho_, rfl, hbl, hcell⟩ := hpv.s (by rw [HN.out.2]; omega)
        rw [HN.out.2] at hcell
        obtain ⟨y0, y1⟩ := hcell k _ hHk
        dsimp only at y0 y1
        have h26' := h26.out
        have f2' := (hw6.cells (List.mem_cons_of_mem _ (List.mem_cons_of_mem _ (List.mem_cons_of_mem _ h26.out))) 2).1
        simp at f2'
        rw [HN.out.2, HN.out.1] at f2'
        obtain ⟨w51, w52⟩ : ((V4.alloc (.cells #[.int .u32 f1, .int .i64 f2] 36)).alloc (.cells #[.int .u32 g1, .int .i64 g2] 36)).cell? ⟨k9, 1, none⟩ = some (.int .i64 (k : Int)) ∧ ((V4.alloc (.cells #[.int .u32 f1, .int .i64 f2] 36)).alloc (.cells #[.int .u32 g1, .int .i64 g2] 36)).cell? ⟨k9, 2, none⟩ = some (.int .i64 gp) := by
          have h9 := fun j => (hw6.cells (b := k9) (C := #[.int .i64 gw, .int .i64 (k : Int), .int .i64 gp, .int .u32 t1, .int .i64 t2, .bool gb]) (t := 38) (by simp) j).1
          exact ⟨h9 1, h9 2⟩
        have HW6 := Lib.hid hw6
        clear hb1 hb2 hcell hpv hw5 HBACK eo1 h26'
        go_upto_region 17 with fail
        obtain ⟨VB, hVB⟩ : ∃ VB, (V4.alloc (.cells #[.int .u32 f1, .int .i64 f2] 36)).alloc (.cells #[.int .u32 g1, .int .i64 g2] 36) = VB := ⟨_, rfl⟩
        rw [hVB] at HW6 hw6 y0 y1 f2' w51 w52 ⊢
        have hsz : VB.heap.size = V4.heap.size + 2 := by rw [← hVB]; simp
        clear hVB
        have HCB : Hid (∀ o, (VB.alloc o).cell? ⟨w.heap.size, 2, none⟩ = some (.slice (some ⟨hb_, ho_, none⟩) n c2) ∧ (VB.alloc o).cell? ⟨hb_, ho_ + k * 2, none⟩ = some (.int .u32 hx) ∧ (VB.alloc o).cell? ⟨k9, 1, none⟩ = some (.int .i64 (k : Int)) ∧ (VB.alloc o).cell? ⟨k9, 2, none⟩ = some (.int .i64 gp)) := Lib.hid (fun o => by
          have hbo : Below VB.heap.size VB (VB.alloc o) := (Below.refl _ VB).alloc (Nat.le_refl _) _
          exact ⟨(hbo.cell (World.block_lt_of_cell? _ _ f2')).trans f2', (hbo.cell (World.block_lt_of_cell? _ _ y0)).trans y0, (hbo.cell (World.block_lt_of_cell? _ _ w51)).trans w51, (hbo.cell (World.block_lt_of_cell? _ _ w52)).trans w52⟩)
        refine wp_region_held_drew (S := fun W => W.cell? ⟨w.heap.size, 2, none⟩ = some (.slice (some ⟨hb_, ho_, none⟩) n c2) ∧ W.cell? ⟨hb_, ho_ + k * 2, none⟩ = some (.int .u32 hx) ∧ W.cell? ⟨k9, 1, none⟩ = some (.int .i64 (k : Int)) ∧ W.cell? ⟨k9, 2, none⟩ = some (.int .i64 gp)) (by kernel_rfl) ⟨f2', y0, w51, w52⟩ (fun hHeld => ?_)
        refine wpAnyH_take (i := 0) (oi := _) (v := ?_) rfl (by kernel_rfl) (by kernel_rfl) (by kernel_rfl) (fun _ _ _ h => h) (Or.inl ⟨by rfl, ?_⟩) (by assumption) ?_
        case refine_2 => intro w hSw; (try dsimp only at hSw); obtain ⟨z1, z2, z3, z4⟩ := hSw; go_simp; first | done | (with_reducible rfl)
        try simp only [Act.put, List.getElem_toArray, List.getElem_cons_zero, List.setIfInBounds_toArray, List.set_cons_zero, List.set_cons_succ]
        refine wpAnyH_take (i := 1) (oi := _) (v := ?_) rfl (by kernel_rfl) (by kernel_rfl) (by kernel_rfl) (fun _ _ _ h => h) (Or.inl ⟨by rfl, ?_⟩) (by assumption) ?_
        case refine_2 => intro w hSw; (try dsimp only at hSw); obtain ⟨z1, z2, z3, z4⟩ := hSw; go_simp; first | done | (with_reducible rfl)
        try simp only [Act.put, List.getElem_toArray, List.getElem_cons_zero, List.getElem_cons_succ, List.setIfInBounds_toArray, List.set_cons_zero, List.set_cons_succ]
        refine wpAnyH_take (i := 2) (oi := _) (v := ?_) rfl (by kernel_rfl) (by kernel_rfl) (by kernel_rfl) (fun _ _ _ h => h) (Or.inl ⟨by rfl, ?_⟩) (by assumption) ?_
        case refine_2 => intro w hSw; (try dsimp only at hSw); obtain ⟨z1, z2, z3, z4⟩ := hSw; go_simp; first | done | (with_reducible rfl)
        try simp only [Act.put, List.getElem_toArray, List.getElem_cons_zero, List.getElem_cons_succ, List.setIfInBounds_toArray, List.set_cons_zero, List.set_cons_succ]
        refine wpAnyH_take (i := 3) (oi := _) (v := ?_) rfl (by kernel_rfl) (by kernel_rfl) (by kernel_rfl) (fun _ _ _ h => h) (Or.inl ⟨by rfl, ?_⟩) (by assumption) ?_
        case refine_2 => intro w hSw; (try dsimp only at hSw); obtain ⟨z1, z2, z3, z4⟩ := hSw; go_simp; first | done | (with_reducible rfl)
        try simp only [Act.put, List.getElem_toArray, List.getElem_cons_zero, List.getElem_cons_succ, List.setIfInBounds_toArray, List.set_cons_zero, List.set_cons_succ]
        refine wpAnyH_take (i := 4) (oi := _) (v := ?_) rfl (by kernel_rfl) (by kernel_rfl) (by kernel_rfl) (fun _ _ _ h => h) (Or.inl ⟨by rfl, ?_⟩) (by assumption) ?_
        case refine_2 => intro w hSw; (try dsimp only at hSw); obtain ⟨z1, z2, z3, z4⟩ := hSw; go_simp; first | done | (with_reducible rfl)
        try simp only [Act.put, List.getElem_toArray, List.getElem_cons_zero, List.getElem_cons_succ, List.setIfInBounds_toArray, List.set_cons_zero, List.set_cons_succ]
        refine wpAnyH_take (i := 5) (oi := _) (v := ?_) rfl (by kernel_rfl) (by kernel_rfl) (by kernel_rfl) (fun _ _ _ h => h) (Or.inl ⟨by rfl, ?_⟩) (by assumption) ?_
        case refine_2 => intro w hSw; (try dsimp only at hSw); obtain ⟨z1, z2, z3, z4⟩ := hSw; go_simp; first | done | (with_reducible rfl)
        try simp only [Act.put, List.getElem_toArray, List.getElem_cons_zero, List.getElem_cons_succ, List.setIfInBounds_toArray, List.set_cons_zero, List.set_cons_succ]
        refine wpAnyH_take (i := 6) (oi := _) (v := ?_) rfl (by kernel_rfl) (by kernel_rfl) (by kernel_rfl) (fun _ _ _ h => h) (Or.inl ⟨by rfl, ?_⟩) (by assumption) ?_
        case refine_2 => intro w hSw; (try dsimp only at hSw); obtain ⟨z1, z2, z3, z4⟩ := hSw; go_simp; first | done | (with_reducible rfl)
        try simp only [Act.put, List.getElem_toArray, List.getElem_cons_zero, List.getElem_cons_succ, List.setIfInBounds_toArray, List.set_cons_zero, List.set_cons_succ]
        refine wpAnyH_take (i := 7) (oi := _) (v := ?_) rfl (by kernel_rfl) (by kernel_rfl) (by kernel_rfl) (fun _ _ _ h => h) (Or.inl ⟨by rfl, ?_⟩) (by assumption) ?_
        case refine_2 => intro w hSw; (try dsimp only at hSw); obtain ⟨z1, z2, z3, z4⟩ := hSw; go_simp; first | done | (with_reducible rfl)
        try simp only [Act.put, List.getElem_toArray, List.getElem_cons_zero, List.getElem_cons_succ, List.setIfInBounds_toArray, List.set_cons_zero, List.set_cons_succ]
        refine wpAnyH_take (i := 8) (oi := _) (v := ?_) rfl (by kernel_rfl) (by kernel_rfl) (by kernel_rfl) (fun _ _ _ h => h) (Or.inl ⟨by rfl, ?_⟩) (by assumption) ?_
        case refine_2 => intro w hSw; (try dsimp only at hSw); obtain ⟨z1, z2, z3, z4⟩ := hSw; go_simp; first | done | (with_reducible rfl)
        try simp only [Act.put, List.getElem_toArray, List.getElem_cons_zero, List.getElem_cons_succ, List.setIfInBounds_toArray, List.set_cons_zero, List.set_cons_succ]
        refine wpAnyH_take (i := 9) (oi := _) (v := ?_) rfl (by kernel_rfl) (by kernel_rfl) (by kernel_rfl) (fun _ _ _ h => h) (Or.inl ⟨by rfl, ?_⟩) (by assumption) ?_
        case refine_2 => intro w hSw; (try dsimp only at hSw); obtain ⟨z1, z2, z3, z4⟩ := hSw; go_simp; first | done | (with_reducible rfl)
        try simp only [Act.put, List.getElem_toArray, List.getElem_cons_zero, List.getElem_cons_succ, List.setIfInBounds_toArray, List.set_cons_zero, List.set_cons_succ]
        refine wpAnyH_ready (rs := [10]) (by kernel_rfl) (by simp) ?_
        refine AllReadyH.cons rfl (fun K hK => ?_) AllReadyH.nil
        go_simp
        refine hK.out _ _ (HCB.out _) (fun hHeld => ?_)
        clear hK K
        try simp only [Act.put, List.getElem_toArray, List.getElem_cons_zero, List.getElem_cons_succ, List.setIfInBounds_toArray, List.set_cons_zero, List.set_cons_succ]
        refine wpAnyH_ready (rs := [11]) (by kernel_rfl) (by simp) ?_
        refine AllReadyH.cons rfl (fun K hK => ?_) AllReadyH.nil
        go_simp
        refine hK.out _ _ (HCB.out _) (fun hHeld => ?_)
        clear hK K
        try simp only [Act.put, List.getElem_toArray, List.getElem_cons_zero, List.getElem_cons_succ, List.setIfInBounds_toArray, List.set_cons_zero, List.set_cons_succ]
        refine wpAnyH_done (by kernel_rfl) ?_ _
        have hw7 : Wp w wb bv sv hv S H bs2 wn2 ((VB.heap.size, .cells #[.int .u32 hx, .int .i64 gp] 36 (0, 0)) :: (V4.heap.size + 1, .cells #[.int .u32 g1, .int .i64 g2] 36 (0, 0)) :: (V4.heap.size, .cells #[.int .u32 f1, .int .i64 f2] 36 (0, 0)) :: (k9, .cells #[.int .i64 gw, .int .i64 (k : Int), .int .i64 gp, .int .u32 t1, .int .i64 t2, .bool gb] 38 (0, 0)) :: os) (VB.alloc (.cells #[.int .u32 hx, .int .i64 gp] 36)).drew := (hw6.box (k := VB.heap.size) #[.int .u32 hx, .int .i64 gp] 36 rfl).drewN 1
        obtain ⟨VC, hVC⟩ : ∃ VC, (VB.alloc (.cells #[.int .u32 hx, .int .i64 gp] 36)).drew = VC := ⟨_, rfl⟩
        rw [hVC] at hw7 ⊢
        clear hVC f2' y0 y1 w51 w52 hw6 HW6 HCB
        have HW7 := Lib.hid hw7
        have HOK : Hid (∀ q, Calls Try.prog 10 #[.pointer (some ⟨wb, 0, none⟩), .int .i64 (k : Int)] (VC.drewN q) fun e V' => e = .returned (.int .i64 ou) ∧ V' = VC.drewN q) := Lib.hid (fun q => by rw [← eo2]; exact outer_any (HW7.out.drewN q) HI.out.1.h16 k)
        have HOJ : Hid (∀ q, Calls Try.prog 10 #[.pointer (some ⟨wb, 0, none⟩), .int .i64 (j : Int)] (VC.drewN q) fun e V' => e = .returned (.int .i64 oj) ∧ V' = VC.drewN q) := Lib.hid (fun q => by rw [← eo3]; exact outer_any (HW7.out.drewN q) HI.out.1.h16 j)
        have x51 : VC.cell? ⟨k9, 1, none⟩ = some (.int .i64 (k : Int)) := (hw7.cells (b := k9) (C := #[.int .i64 gw, .int .i64 (k : Int), .int .i64 gp, .int .u32 t1, .int .i64 t2, .bool gb]) (t := 38) (by simp) 1).1
        obtain ⟨xo0, xo1, -⟩ := hw7.c2 (k := VB.heap.size) (u := .int .u32 hx) (v := .int .i64 gp) (t := 36) (by simp)
        rw [hsz] at xo0 xo1
        obtain ⟨xf0, xf1, -⟩ := hw7.c2 (k := V4.heap.size) (u := .int .u32 f1) (v := .int .i64 f2) (t := 36) (by simp)
        obtain ⟨xg0, xg1, -⟩ := hw7.c2 (k := V4.heap.size + 1) (u := .int .u32 g1) (v := .int .i64 g2) (t := 36) (by simp)
        clear hw7
        go_upto_region 18 with fail
        go_cut [99] from 38 to 143 (fun v99 wc => v99 = .bool false ∧ wc = VC)
        case first =>
          go_wp2_with fail
          refine (HOK.out 0).mono ?_
          rintro e V5 ⟨rfl, he5⟩
          have he6 : V5 = VC := he5
          rw [he6]
          clear he5 he6
          by_cases hou : ou = -1
          · have e9 := HB1.out hou
            simp only [Prod.mk.injEq] at e9
            obtain ⟨rfl, rfl⟩ := e9
            subst hou
            go_wp2
            go_meet
            case rel => exact ⟨by simp, rfl⟩
          · have houb : (ou == (-1 : Int)) = false := by simpa using hou
            go_wp2
            go_meet
            case rel => exact ⟨rfl, rfl⟩
        case rest =>
        obtain ⟨rfl, hwc⟩ := hcut
        rw [hwc]
        clear hwc
        go_upto_region 20 with fail
        go_cut [113] from 38 to 143 (fun v113 wc => v113 = .bool (decide (¬ oj = -1) && decide (¬ oj = ou)) ∧ ∃ qd, wc = VC.drewN qd)
        case first =>
          by_cases hoj : oj = -1
          · have hojb : (oj != (-1 : Int)) = false := by simpa using hoj
            subst hoj
            go_wp2
            go_quiet (first | (with_reducible exact Calls.quiet_of_same (HOJ.out _)) | (with_reducible exact Calls.quiet_of_same (HOK.out _)))
            go_wp2
            go_meet
            case rel => exact ⟨by simp, _, rfl⟩
          · have hojb : (oj != (-1 : Int)) = true := by simpa using hoj
            go_wp2
            go_quiet (first | (with_reducible exact Calls.quiet_of_same (HOJ.out _)) | (with_reducible exact Calls.quiet_of_same (HOK.out _)))
            go_wp2
            go_meet
            have e9 : (oj != ou) = !decide (oj = ou) := by by_cases h9 : oj = ou <;> simp [h9]
            case rel => exact ⟨by simp [hoj, e9], _, rfl⟩
        case rest =>
        obtain ⟨rfl, qd, hwc⟩ := hcut
        rw [hwc]
        have HW8 := Lib.hid (HW7.out.drewN qd)
        obtain ⟨VD, hVD⟩ : ∃ VD, VC.drewN qd = VD := ⟨_, rfl⟩
        rw [hVD] at HW8 ⊢
        clear hwc hVD x51 xo0 xo1 xf0 xf1 xg0 xg1 HOK HOJ HW7
        cases hbq : (decide (¬ oj = -1) && decide (¬ oj = ou)) with
        | true =>
          have HW9 := Lib.hid (HW8.out.sub (os' := os) (fun p hp => by simp [hp]))
          go_wp2
          go_roundg (60 - (i + 1))
          case measure => omega
          case rel => exact ⟨i + 1, wn2, wn2, bs2, by omega, by omega, rfl, by go_num, by omega, ht1, Int.le_refl _, HW9, Lib.hid ⟨HSTEP.out.1, HSTEP.out.2.1⟩⟩
        | false =>
          have hor : oj = -1 ∨ oj = ou := by
            by_cases h1 : oj = -1
            · exact .inl h1
            · by_cases h2 : oj = ou
              · exact .inr h2
              · simp [h1, h2] at hbq
          have e1 := HB2.out hor
          clear hbq hor
          have hway := way_wp HW8.out HSTEP.out.1.okS HSTEP.out.1.ok HSTEP.out.1.len HSTEP.out.1.s16 HSTEP.out.1.h16 HSTEP.out.1.okH wn2 j g2 (f1, f2) ⟨HSTEP.out.2.2.2.2.2.1, HSTEP.out.2.2.2.2.2.2⟩ HSTEP.out.2.2.2.1
          obtain ⟨⟨R1, bs3, wn3⟩, hR2⟩ : ∃ R, wayM S H bs2 wn2 wn2 j g2 (f1, f2) = R := ⟨_, rfl⟩
          have HSTEP2 := Lib.hid (way_step HSTEP.out.1 HSTEP.out.2.1 (Int.le_refl wn2) (Int.le_refl wn2) (by omega) HSTEP.out.2.2.2.1 HSTEP.out.2.2.2.2.2 _ hR2)
          rw [hR2] at hway e1
          dsimp only at e1
          subst e1
          unfold adr at hway
          dsimp only at hway HSTEP2
          have HWAY := Lib.hid hway
          obtain ⟨xf0, xf1, -⟩ := HW8.out.c2 (k := V4.heap.size) (u := .int .u32 f1) (v := .int .i64 f2) (t := 36) (by simp)
          obtain ⟨xg0, xg1, -⟩ := HW8.out.c2 (k := V4.heap.size + 1) (u := .int .u32 g1) (v := .int .i64 g2) (t := 36) (by simp)
          clear hway hR2
          go_wp2_with fail
          refine HWAY.out.mono ?_
          rintro e V6 ⟨rfl, hw9⟩
          have hw10 := (hw9.box (k := V6.heap.size) #[.int .u32 g1, .int .i64 g2] 36 rfl).box (k := V6.heap.size + 1) #[.int .u32 hx, .int .i64 gp] 36 (by simp)
          clear xf0 xf1 xg0 xg1
          have x51 : ((V6.alloc (.cells #[.int .u32 g1, .int .i64 g2] 36)).alloc (.cells #[.int .u32 hx, .int .i64 gp] 36)).cell? ⟨k9, 1, none⟩ = some (.int .i64 (k : Int)) := (hw10.cells (b := k9) (C := #[.int .i64 gw, .int .i64 (k : Int), .int .i64 gp, .int .u32 t1, .int .i64 t2, .bool gb]) (t := 38) (by simp) 1).1
          obtain ⟨xo0, xo1, -⟩ := hw10.c2 (k := VB.heap.size) (u := .int .u32 hx) (v := .int .i64 gp) (t := 36) (by simp)
          rw [hsz] at xo0 xo1
          obtain ⟨xg0, xg1, -⟩ := hw10.c2 (k := V4.heap.size + 1) (u := .int .u32 g1) (v := .int .i64 g2) (t := 36) (by simp)
          obtain ⟨xp0, xp1, -⟩ := hw10.c2 (k := V6.heap.size) (u := .int .u32 g1) (v := .int .i64 g2) (t := 36) (by simp)
          obtain ⟨xr0, xr1, -⟩ := hw10.c2 (k := V6.heap.size + 1) (u := .int .u32 hx) (v := .int .i64 gp) (t := 36) (by simp)
          have HW11 := Lib.hid (hw10.sub (os' := os) (fun p hp => by simp [hp]))
          clear hw9 hw10 HWAY
          go_upto_region 22 with fail
          obtain ⟨VE, hVE⟩ : ∃ VE, (V6.alloc (.cells #[.int .u32 g1, .int .i64 g2] 36)).alloc (.cells #[.int .u32 hx, .int .i64 gp] 36) = VE := ⟨_, rfl⟩
          rw [hVE] at HW11 x51 xo0 xo1 xg0 xg1 xp0 xp1 xr0 xr1 ⊢
          clear hVE
          go_wp2
          go_roundg (60 - (i + 1))
          case measure => omega
          case rel => exact ⟨i + 1, wn2, wn3, bs3, by omega, by omega, rfl, by go_num, by omega, ht1, HSTEP2.out.2.2.1, HW11, Lib.hid ⟨HSTEP2.out.1, HSTEP2.out.2.1⟩⟩

/-! ### THE ROW's STEP: WRITTEN OUT: LEAVE IT -/
set_option maxRecDepth 100000 in
theorem lifted (os : Os) (started : os.Started) (H : Type) (enc : TypeId × Value → H) :
    ReturnsInHanded {} Try.checked os 3 .any (Rows.worldBackSpec.pre6 enc Try.prog Try.f3 Rows.worldBackRow.domain false) (Rows.worldBackSpec.post enc Try.prog Try.f3 false true false false) := by
  refine returnsInHanded_of_change (C := Try.checked) own started (by kernel_rfl) Try.func3
    (ChangeSpec.witness6 (enc := enc) (C := Try.checked) false ⟨#[], #[.agg #[.slice none 0 0, .slice none 0 0, .slice none 0 0], .slice none 0 0], []⟩ 8 (by kernel_rfl) (by kernel_rfl) (by kernel_rfl) (by kernel_rfl)) ?_
  intro W base args ds gs before hval0 hW hcnd _
  have hval : ∀ (j : Nat) t v, Try.f3.params[j]? = some t → args[j]? = some v → Value.okWide Try.prog W .any base t v := hval0
  have hW' := hW
  obtain ⟨p, q, hA0, hV, rfl, hfz, hnd⟩ := hW
  have hA : DataW.TrodAll enc Try.prog W 0 (fun _ => true) true Try.f3.params.toList args.toList ds p := hA0
  rw [Try.params3] at hA hval
  obtain ⟨v0, vs0, d0, ds0, p0, q0, hargs, rfl, rfl, h0, r0⟩ := trodAll_cons hA
  obtain ⟨v1, vs1, d1, ds1, p1, q1, rfl, rfl, rfl, h1, r1⟩ := trodAll_cons r0
  obtain ⟨rfl, rfl, rfl⟩ := trodAll_nil r1
  obtain rfl : args = #[v0, v1] := by cases args; simp_all
  obtain ⟨rfl, rfl⟩ := trodVars_none hV
  have k0 := h0
  have lt0 : ∀ x ∈ p0, x.block < W.heap.size := by obtain ⟨m, hm⟩ := k0; exact DataW.trod_lt m _ _ _ hm
  obtain ⟨s0, w0⟩ := open_plan (hval 0 26 v0 rfl rfl) h0
  have k1 := h1
  have lt1 : ∀ x ∈ p1, x.block < W.heap.size := by obtain ⟨m, hm⟩ := k1; exact DataW.trod_lt m _ _ _ hm
  obtain ⟨s1, w1⟩ := open_gos (hval 1 27 v1 rfl rfl) h1
  clear hA0 hval0
  refine (walk v0 s0 v1 s1 W w0 w1).mono fun e W' ⟨he, bel⟩ => ?_
  subst he
  exact ⟨_, rfl, _, _, _, [], _, [], hW', trodAll_mk1 (shut_bool Try.underlying4 _), (trodAll_cons_mk (Below.trod laidOut (by kernel_rfl) (of_decide_eq_true (by kernel_rfl)) k0 bel lt0) (trodAll_cons_mk (Below.trod laidOut (by kernel_rfl) (of_decide_eq_true (by kernel_rfl)) k1 bel lt1) trodAll_mk0)), rfl, bel.frame _, fun h => by cases h⟩

theorem over : Rows.worldBackRow.holds Try.pinned (OpenSpec.ofChange Rows.worldBackSpec) :=
  OpenClaim.holds_of_wide 3 Try.f3 rfl rfl rfl rfl rfl rfl rfl ⟨rfl, rfl, rfl, rfl, rfl⟩ rfl rfl rfl rfl rfl (by kernel_rfl) Try.func3 (by kernel_rfl)
    (of_decide_eq_true (by kernel_rfl)) (by unfold Func.isWrapper; first | (rw [if_pos (by decide +kernel)]; kernel_rfl) | (rw [if_neg (by decide +kernel)]; exact ⟨rfl, rfl⟩))
    (fun os started H enc _ => lifted os started H enc)

/-- ████ THE STATEMENT ████ -/
theorem proved : Rows.WorldBackSaid := over
#print axioms proved
end Go.Proofs.Ytidhdgcmagpkgaa.worldBack
