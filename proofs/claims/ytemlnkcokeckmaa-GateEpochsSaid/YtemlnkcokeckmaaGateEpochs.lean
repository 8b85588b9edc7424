/-
  What is proved: an answer of a gateway tells how long it is up, since it was made or rebooted last, and behind a reboot nothing that was granted is there (GateEpochs answers true for every input). Conditions: none beside the statement's own.
-/
import Derived.Deep.RegionWith
import Derived.Deep.Cut
import Derived.Deep.RegionHeld
import Derived.Test.YtemlnkcokeckmaaGx
import Derived.Test.YtemlnkcokeckmaaGw
import Derived.Test.YtemlnkcokeckmaaRows
import Derived.WalkKit
import Derived.ProofKit
import Derived.OpenShut
import Derived.ShutString
import Derived.ChangeOld
import Derived.Below
namespace Go.Proofs.Ytemlnkcokeckmaa.gateEpochs
open Go.ChangeShapes Go.WideShapes Go.ChangeAt Go.RowKit
open Go.ChangeMaps (open_string shut_string)
set_option linter.unusedVariables false

theorem own : ownKnob Try.prog.godebug = none := by kernel_rfl
theorem laidOut : laidOutB Try.prog = true := by kernel_rfl

set_option linter.unusedSimpArgs false
set_option maxRecDepth 100000 in
set_option maxHeartbeats 80000000 in
theorem walk (v0 : Value) (s0 : (Int × Int × Int)) (v1 : Value) (s1 : A2) (w : World) (w0 : IsTri w v0 s0) (w1 : IsAdr w v1 s1) :
    Calls Try.prog 11 #[v0, v1] w fun e w' => e = .returned (.bool true) ∧ Below w.heap.size w w' := by
  obtain ⟨ta, tb, tc⟩ := s0
  obtain ⟨rfl, ⟨a0, a1⟩, ⟨b0, b1⟩, ⟨c0, c1⟩⟩ := w0
  obtain ⟨rfl, ha⟩ := w1
  dsimp only at a0 a1 b0 b1 c0 c1 ⊢
  have HA := Lib.hid ha
  have hah := ha.1
  obtain ⟨B, hB⟩ : ∃ B, B = ta + tb := ⟨_, rfl⟩
  obtain ⟨C, hC⟩ : ∃ C, C = B + tc := ⟨_, rfl⟩
  have HB : Hid (ta + tb = B) := Lib.hid hB.symm
  have HCC : Hid (B + tc = C) := Lib.hid hC.symm
  have hB0 : ta ≤ B := by omega
  have hB1 : B ≤ 131070 := by omega
  have hB2 : B - ta ≤ 65535 := by omega
  have hC0 : B ≤ C := by omega
  have hC1 : C ≤ 196605 := by omega
  have hC2 : C - B ≤ 65535 := by omega
  clear ha hB hC
  unfold adr
  have hs0 := ((Hs.nil w).box #[.int .u16 ta, .int .u16 tb, .int .u16 tc] 84 rfl).box (k := w.heap.size + 1) #[.int .u32 s1.1, .int .i64 s1.2] 38 (by simp)
  go_enter Try.func11, Try.ntmps11
  go_wp2_with fail
  refine (gawake_any _).mono ?_
  rintro e w1 ⟨rfl, hb1⟩
  have hs1 := hs0.below hb1
  clear hs0 hb1
  go_wp2_with fail
  have h25 := box25 0 (by omega) w1
  refine h25.mono ?_
  rintro e w2 ⟨rfl, hb2⟩
  have HNEW := Lib.hid (new_hs (bxC 0) (bxC_is 0) (bxC_2 0) (hs1.below hb2))
  clear hs1 hb2 h25
  go_wp2_with fail
  refine HNEW.out.mono ?_
  rintro e V1 ⟨g, rfl, hp1⟩
  have HP1 := Lib.hid hp1
  have hcA := fun j => (hp1.cells (b := w.heap.size) (C := #[.int .u16 ta, .int .u16 tb, .int .u16 tc]) (t := 84) (by simp) j).1
  have p0 := hcA 0
  have p1 := hcA 1
  have p2 := hcA 2
  have pl := hp1.lt (p := (w.heap.size, .cells #[.int .u16 ta, .int .u16 tb, .int .u16 tc] 84 (0, 0))) (by simp)
  have hcB := fun j => (hp1.cells (b := w.heap.size + 1) (C := #[.int .u32 s1.1, .int .i64 s1.2]) (t := 38) (by simp) j).1
  have p3 := hcB 0
  have p4 := hcB 1
  have pm := hp1.lt (p := (w.heap.size + 1, .cells #[.int .u32 s1.1, .int .i64 s1.2] 38 (0, 0))) (by simp)
  simp only [List.getElem?_toArray, List.getElem?_cons_zero, List.getElem?_cons_succ] at p0 p1 p2 p3 p4
  dsimp only at pl pm
  have HLOW := Lib.hid hp1.low
  clear hp1 HNEW hcA hcB
  by_cases q3 : s1.1 = 0
  · have z3 : (s1.1 == (0 : Int)) = true := by simp [q3]
    clear q3
    go_wp2
    go_ret
    exact ⟨rfl, HLOW.out⟩
  have z3 : (s1.1 == (0 : Int)) = false := by simpa using q3
  have HQ3 := Lib.hid q3
  clear q3
  by_cases q4 : s1.2 < 1
  · go_wp2
    go_ret
    exact ⟨rfl, HLOW.out⟩
  by_cases q5 : 65535 < s1.2
  · go_wp2
    go_ret
    exact ⟨rfl, HLOW.out⟩
  have HMA : Hid (mayA s1 = true) := Lib.hid (mayA_t HQ3.out (by omega) (by omega))
  have HGN := Lib.hid (gnew_pl HP1.out true true 1073741824 ta ⟨by omega, by omega⟩ ⟨by omega, by omega⟩)
  clear HLOW HP1
  go_wp2_with fail
  rw [HB.out, HCC.out]
  refine HGN.out.mono ?_
  rintro e V2 ⟨gb, nm, av, os', rfl, hg2, han⟩
  obtain ⟨os0, hos⟩ : ∃ os0, os0 = os' ++ [(w.heap.size + 1, Obj.cells #[.int .u32 s1.1, .int .i64 s1.2] 38 (0, 0)), (w.heap.size, Obj.cells #[.int .u16 ta, .int .u16 tb, .int .u16 tc] 84 (0, 0))] := ⟨_, rfl⟩
  rw [← hos] at hg2 han
  have HFM : Hid ((w.heap.size + 1, Obj.cells #[.int .u32 s1.1, .int .i64 s1.2] 38 (0, 0)) ∈ os0) := Lib.hid (by rw [hos]; simp)
  have HG2 := Lib.hid hg2
  have HAN := Lib.hid han
  clear hg2 han hos HGN p0 p1 p2 p3 p4 pl pm z3 q4 q5
  go_upto_region 12 with (fail)
  obtain ⟨M1, hM1⟩ : ∃ M1, M1 = [askB (s1.1, 5) 40003 (B + 536870912)] := ⟨_, rfl⟩
  obtain ⟨L1, hL1⟩ : ∃ L1 : Pp.Le, L1 = ⟨0, 5, 40003, 536870912, 0, 0, B - ta, 0⟩ := ⟨_, rfl⟩
  have hok0 : Okb (bxC 0) [] := Okb.nil (by decide)
  have hgB : (goes 0 B && mayA s1) = true := by
    have : goes 0 B = true := by unfold goes; simp only [Bool.and_eq_true, decide_eq_true_eq]; omega
    rw [this, HMA.out]; rfl
  have hsv : portA ⟨0, 5, 40003, 536870912, 0, 0, 0, 0⟩ (epoV ta B) (srvS (bxC 0) 1073741824 B (liveM [] B) B (s1.1, 5) 40003 536870912) = L1 ∧ (srvS (bxC 0) 1073741824 B (liveM [] B) B (s1.1, 5) 40003 536870912).M = M1 := by
    have h1 := srv_new (x := bxC 0) (bxC_ok 0) (by decide) (most := 1073741824) (t := B) (a := (s1.1, 5)) (p := 40003) (s := 536870912) (by unfold goes; simp only [Bool.and_eq_true, decide_eq_true_eq]; omega) (mayA_t HQ3.out (by show (1 : Int) ≤ 5; decide) (by show (5 : Int) ≤ 65535; decide)) (by decide) (by decide) (by omega)
    rw [show liveM [] B = [] from rfl, h1, hM1, hL1]
    have e1 : wish0 (bxC 0) 40003 = 40003 := by decide
    have e2 : min (536870912 : Int) 1073741824 = 536870912 := by decide
    have e3 : epoV ta B = B - ta := by unfold epoV; rw [if_neg (by omega)]; omega
    rw [e1, e2, e3]
    exact ⟨rfl, rfl⟩
  have HASK : Hid (∀ os' W, Gm w gb g nm (bxC 0) 1073741824 ta av f0 0 0 [] os' W → Calls Try.prog 33 #[Pp.leV ⟨0, 5, 40003, 536870912, 0, 0, 0, 0⟩, .bool false] W fun e V' => ∃ u OB, e = .returned u ∧ Gm w gb g nm (bxC 0) 1073741824 ta av f0 0 0 [] (OB ++ os') V' ∧ (∀ s' f' c' n' M' os1 W, Gm w gb g nm (bxC 0) 1073741824 s' av f' c' n' M' os1 W → (∀ r ∈ OB, r ∈ os1) → Pp.Row W u (Pp.askR ⟨0, 5, 40003, 536870912, 0, 0, 0, 0⟩ false))) := Lib.hid (fun os' W hW => ask_gm2 hW ⟨0, 5, 40003, 536870912, 0, 0, 0, 0⟩ (by constructor <;> simp [Pp.W64]) false)
  have HHEAR : Hid (∀ os' W u, Gm w gb g nm (bxC 0) 1073741824 ta av f0 0 0 [] os' W → (∀ r ∈ os0, r ∈ os') → (∀ s' f' c' n' M' os1 W, Gm w gb g nm (bxC 0) 1073741824 s' av f' c' n' M' os1 W → (∀ r ∈ os', r ∈ os1) → Pp.Row W u (Pp.askR ⟨0, 5, 40003, 536870912, 0, 0, 0, 0⟩ false)) → Calls Try.prog 32 #[.pointer (some ⟨gb, 0, none⟩), .int .i64 B, adr s1, u] W fun e V' => ∃ u', e = .returned u' ∧ Pp.Row V' u' (Pp.ansR L1 false) ∧ ∃ f', Gm w gb g nm (bxC 0) 1073741824 ta av f' 0 B M1 os' V') := Lib.hid (fun os' W u hW hm hr => by
    have h := hear_yes hW (bxC_ok 0) hok0 ok_nil B s1 HA.out u ⟨0, 5, 40003, 536870912, 0, 0, 0, 0⟩ (an_more HAN.out hm) hr a0 (by omega) (by omega) (by decide) hgB (by decide)
    dsimp only at h
    rw [hsv.1, hsv.2] at h
    exact h)
  have HREAD : Hid (∀ W u, Pp.Row W u (Pp.ansR L1 false) → Calls Try.prog 34 #[u] W fun e W' => e = .returned (Pp.okV L1 false) ∧ Below W.heap.size W W') := Lib.hid (fun W u hr => Pp.read_ans_yes hr ⟨by rw [hL1]; constructor <;> simp [Pp.W64] <;> omega, by rw [hL1]; simp [Pp.ansB, Pp.portB, Pp.fitsB]; omega, rfl⟩)
  have HS : Hid (∀ f' c' n' M' os1 W, Gm w gb g nm (bxC 0) 1073741824 ta av f' c' n' M' os1 W → (∀ r ∈ os0, r ∈ os1) → (fun W => W.heap[w.heap.size + 1]? = some (.cells #[.int .u32 s1.1, .int .i64 s1.2] 38 (0, 0))) W) := Lib.hid (fun f' c' n' M' os1 W hW hm => hW.held (hm _ HFM.out))
  unfold Pp.leV Pp.leA at HASK
  unfold adr at HHEAR
  unfold Pp.okV Pp.leV Pp.leA at HREAD
  dsimp only at HASK
  have HL1 := Lib.hid hL1
  have HM1 := Lib.hid hM1
  clear hL1 hM1 hok0 hgB hsv
  go_cut [12, 13, 14] from 18 (fun v12 v13 v14 wc => ∃ q : Nat, v12 = .pointer (some ⟨q, 0, none⟩) ∧ v13 = .bool false ∧ v14 = .int .i64 0 ∧ Hid (∃ f', Gm w gb g nm (bxC 0) 1073741824 ta av f' 0 B M1 ((q, .cells (Pp.leA L1) 64 (0, 0)) :: os0) wc))
  case first =>
    have HC := Lib.hid (HG2.out.drewN 1)
    refine wp_region_held_drew (S := (fun W => W.heap[w.heap.size + 1]? = some (.cells #[.int .u32 s1.1, .int .i64 s1.2] 38 (0, 0)))) (by kernel_rfl) (HS.out _ _ _ _ _ _ HC.out (fun r hr => by simp [hr])) (fun hHeld => ?_)
    refine wpAnyH_take (i := 0) (oi := _) (v := ?_) rfl (by kernel_rfl) (by kernel_rfl) (by kernel_rfl) (fun _ _ _ h => h) (Or.inl ⟨by rfl, ?_⟩) (by assumption) ?_
    case refine_2 => intro w hSw; (try dsimp only at hSw); obtain ⟨k0, k1, kl⟩ := ad_cells hSw; clear hSw; go_simp; first | done | (with_reducible rfl)
    try simp only [Act.put, List.getElem_toArray, List.getElem_cons_zero, List.getElem_cons_succ, List.setIfInBounds_toArray, List.set_cons_zero, List.set_cons_succ]
    refine wpAnyH_take (i := 1) (oi := _) (v := ?_) rfl (by kernel_rfl) (by kernel_rfl) (by kernel_rfl) (fun _ _ _ h => h) (Or.inl ⟨by rfl, ?_⟩) (by assumption) ?_
    case refine_2 => intro w hSw; (try dsimp only at hSw); obtain ⟨k0, k1, kl⟩ := ad_cells hSw; clear hSw; go_simp; first | done | (with_reducible rfl)
    try simp only [Act.put, List.getElem_toArray, List.getElem_cons_zero, List.getElem_cons_succ, List.setIfInBounds_toArray, List.set_cons_zero, List.set_cons_succ]
    refine wpAnyH_take (i := 2) (oi := _) (v := ?_) rfl (by kernel_rfl) (by kernel_rfl) (by kernel_rfl) (fun _ _ _ h => h) (Or.inl ⟨by rfl, ?_⟩) (by assumption) ?_
    case refine_2 => intro w hSw; (try dsimp only at hSw); obtain ⟨k0, k1, kl⟩ := ad_cells hSw; clear hSw; go_simp; first | done | (with_reducible rfl)
    try simp only [Act.put, List.getElem_toArray, List.getElem_cons_zero, List.getElem_cons_succ, List.setIfInBounds_toArray, List.set_cons_zero, List.set_cons_succ]
    refine wpAnyH_take (i := 3) (oi := _) (v := ?_) rfl (by kernel_rfl) (by kernel_rfl) (by kernel_rfl) (fun _ _ _ h => h) (Or.inl ⟨by rfl, ?_⟩) (by assumption) ?_
    case refine_2 => intro w hSw; (try dsimp only at hSw); obtain ⟨k0, k1, kl⟩ := ad_cells hSw; clear hSw; go_simp; first | done | (with_reducible rfl)
    try simp only [Act.put, List.getElem_toArray, List.getElem_cons_zero, List.getElem_cons_succ, List.setIfInBounds_toArray, List.set_cons_zero, List.set_cons_succ]
    refine wpAnyH_ready (rs := [4, 11]) (by kernel_rfl) (by simp) ?_
    refine (AllReadyH.cons rfl (fun K hK => ?_) (AllReadyH.cons rfl (fun K hK => ?_) AllReadyH.nil))
    · go_simp
      go_at_call 33
      refine (HASK.out _ _ HC.out).mono ?_
      rintro e W1b ⟨u, OB, rfl, hg, hrw⟩
      have HC := Lib.hid hg
      have HRW := Lib.hid hrw
      clear hg hrw
      refine hK.out _ _ (HS.out _ _ _ _ _ _ HC.out (fun r hr => by simp [hr])) (fun hHeld => ?_)
      clear hK K
      try simp only [Act.put, List.getElem_toArray, List.getElem_cons_zero, List.getElem_cons_succ, List.setIfInBounds_toArray, List.set_cons_zero, List.set_cons_succ]
      refine wpAnyH_ready (rs := [5, 11]) (by kernel_rfl) (by simp) ?_
      refine (AllReadyH.cons rfl (fun K hK => ?_) (AllReadyH.cons rfl (fun K hK => ?_) AllReadyH.nil))
      · go_simp
        go_at_call 32
        refine (HHEAR.out _ _ _ HC.out (fun r hr => by simp [hr]) (fun s1 f1 c1 n1 M1 os1 W hW hs => HRW.out s1 f1 c1 n1 M1 os1 W hW (fun r hr => hs r (by simp [hr])))).mono ?_
        rintro e W2b ⟨u2, rfl, hro, f2, hg⟩
        have HC := Lib.hid hg
        have HRO := Lib.hid hro
        obtain ⟨A2, d2, rfl⟩ := row_form hro
        clear hg hro
        refine hK.out _ _ (HS.out _ _ _ _ _ _ HC.out (fun r hr => by simp [hr])) (fun hHeld => ?_)
        clear hK K
        try simp only [Act.put, List.getElem_toArray, List.getElem_cons_zero, List.getElem_cons_succ, List.setIfInBounds_toArray, List.set_cons_zero, List.set_cons_succ]
        refine wpAnyH_ready (rs := [6, 11]) (by kernel_rfl) (by simp) ?_
        refine (AllReadyH.cons rfl (fun K hK => ?_) (AllReadyH.cons rfl (fun K hK => ?_) AllReadyH.nil))
        · go_simp
          go_at_call 34
          refine (HREAD.out _ _ HRO.out).mono ?_
          rintro e W3b ⟨rfl, hb⟩
          have HC := Lib.hid ((HC.out.below hb).sub (os' := os0) (fun r hr => by simp [hr]))
          clear hb
          refine hK.out _ _ (HS.out _ _ _ _ _ _ HC.out (fun r hr => by simp [hr])) (fun hHeld => ?_)
          clear hK K
          try simp only [Act.put, List.getElem_toArray, List.getElem_cons_zero, List.getElem_cons_succ, List.setIfInBounds_toArray, List.set_cons_zero, List.set_cons_succ]
          refine wpAnyH_take (i := 7) (oi := _) (v := ?_) rfl (by kernel_rfl) (by kernel_rfl) (by kernel_rfl) (fun _ _ _ h => h) (Or.inl ⟨by rfl, ?_⟩) (by assumption) ?_
          case refine_2 => intro w hSw; (try dsimp only at hSw); obtain ⟨k0, k1, kl⟩ := ad_cells hSw; clear hSw; go_simp; first | done | (with_reducible rfl)
          try simp only [Act.put, List.getElem_toArray, List.getElem_cons_zero, List.getElem_cons_succ, List.setIfInBounds_toArray, List.set_cons_zero, List.set_cons_succ]
          refine wpAnyH_take (i := 8) (oi := _) (v := ?_) rfl (by kernel_rfl) (by kernel_rfl) (by kernel_rfl) (fun _ _ _ h => h) (Or.inl ⟨by rfl, ?_⟩) (by assumption) ?_
          case refine_2 => intro w hSw; (try dsimp only at hSw); obtain ⟨k0, k1, kl⟩ := ad_cells hSw; clear hSw; go_simp; first | done | (with_reducible rfl)
          try simp only [Act.put, List.getElem_toArray, List.getElem_cons_zero, List.getElem_cons_succ, List.setIfInBounds_toArray, List.set_cons_zero, List.set_cons_succ]
          refine wpAnyH_take (i := 9) (oi := _) (v := ?_) rfl (by kernel_rfl) (by kernel_rfl) (by kernel_rfl) (fun _ _ _ h => h) (Or.inl ⟨by rfl, ?_⟩) (by assumption) ?_
          case refine_2 => intro w hSw; (try dsimp only at hSw); obtain ⟨k0, k1, kl⟩ := ad_cells hSw; clear hSw; go_simp; first | done | (with_reducible rfl)
          try simp only [Act.put, List.getElem_toArray, List.getElem_cons_zero, List.getElem_cons_succ, List.setIfInBounds_toArray, List.set_cons_zero, List.set_cons_succ]
          refine wpAnyH_take (i := 10) (oi := _) (v := ?_) rfl (by kernel_rfl) (by kernel_rfl) (by kernel_rfl) (fun _ _ _ h => h) (Or.inl ⟨by rfl, ?_⟩) (by assumption) ?_
          case refine_2 => intro w hSw; (try dsimp only at hSw); obtain ⟨k0, k1, kl⟩ := ad_cells hSw; clear hSw; go_simp; first | done | (with_reducible rfl)
          try simp only [Act.put, List.getElem_toArray, List.getElem_cons_zero, List.getElem_cons_succ, List.setIfInBounds_toArray, List.set_cons_zero, List.set_cons_succ]
          refine wpAnyH_ready (rs := [11]) (by kernel_rfl) (by simp) ?_
          refine (AllReadyH.cons rfl (fun K hK => ?_) AllReadyH.nil)
          go_simp
          have HN : Hid (∀ r ∈ os0, r.1 ≠ W3b.heap.size) := Lib.hid (fun r hr e => by have hlt : r.1 < W3b.heap.size := HC.out.lt (p := r) (by simp [hr]); omega)
          have HLW : Hid (w.heap.size ≤ W3b.heap.size) := Lib.hid HC.out.low.size
          have HPRE := Lib.hid HC.out
          have HC := Lib.hid (HC.out.box (k := W3b.heap.size) #[.int .i64 0, .int .i64 0, .int .i64 0, .int .i64 0, .int .u64 0, .int .i64 0, .int .i64 0, .int .u32 0] 64 rfl)
          refine hK.out _ _ (HS.out _ _ _ _ _ _ HC.out (fun r hr => by simp [hr])) (fun hHeld => ?_)
          clear hK K
          try simp only [Act.put, List.getElem_toArray, List.getElem_cons_zero, List.getElem_cons_succ, List.setIfInBounds_toArray, List.set_cons_zero, List.set_cons_succ]
          refine wpAnyH_ready (rs := [12]) (by kernel_rfl) (by simp) ?_
          refine (AllReadyH.cons rfl (fun K hK => ?_) AllReadyH.nil)
          have HU := Lib.hid (le_cells (l := Pp.zeroL) (g := W3b.heap.size) (HC.out.held (p := (W3b.heap.size, .cells #[.int .i64 0, .int .i64 0, .int .i64 0, .int .i64 0, .int .u64 0, .int .i64 0, .int .i64 0, .int .u32 0] 64 (0, 0))) List.mem_cons_self))
          obtain ⟨⟨y0, y1, y2, y3, y4, y5, y6, y7⟩, fz, yl⟩ := HU.out
          go_simp
          clear y0 y1 y2 y3 y4 y5 y6 y7 fz yl HU
          have HC := Lib.hid (HPRE.out.box (k := W3b.heap.size) (Pp.leA L1) 64 rfl)
          refine hK.out _ _ (HS.out _ _ _ _ _ _ HC.out (fun r hr => by simp [hr])) (fun hHeld => ?_)
          clear hK K
          try simp only [Act.put, List.getElem_toArray, List.getElem_cons_zero, List.getElem_cons_succ, List.setIfInBounds_toArray, List.set_cons_zero, List.set_cons_succ]
          refine wpAnyH_take (i := 13) (oi := _) (v := ?_) rfl (by kernel_rfl) (by kernel_rfl) (by kernel_rfl) (fun _ _ _ h => h) (Or.inl ⟨by rfl, ?_⟩) (by assumption) ?_
          case refine_2 => intro w hSw; (try dsimp only at hSw); obtain ⟨k0, k1, kl⟩ := ad_cells hSw; clear hSw; go_simp; first | done | (with_reducible rfl)
          try simp only [Act.put, List.getElem_toArray, List.getElem_cons_zero, List.getElem_cons_succ, List.setIfInBounds_toArray, List.set_cons_zero, List.set_cons_succ]
          refine wpAnyH_take (i := 14) (oi := _) (v := ?_) rfl (by kernel_rfl) (by kernel_rfl) (by kernel_rfl) (fun _ _ _ h => h) (Or.inl ⟨by rfl, ?_⟩) (by assumption) ?_
          case refine_2 => intro w hSw; (try dsimp only at hSw); obtain ⟨k0, k1, kl⟩ := ad_cells hSw; clear hSw; go_simp; first | done | (with_reducible rfl)
          try simp only [Act.put, List.getElem_toArray, List.getElem_cons_zero, List.getElem_cons_succ, List.setIfInBounds_toArray, List.set_cons_zero, List.set_cons_succ]
          refine wpAnyH_done (by kernel_rfl) ?_ _
          go_wp2
          go_meet
          case rel => exact ⟨_, rfl, rfl, rfl, Lib.hid ⟨_, HC.out⟩⟩
        · go_simp
          have HN : Hid (∀ r ∈ os0, r.1 ≠ W2b.heap.size) := Lib.hid (fun r hr e => by have hlt : r.1 < W2b.heap.size := HC.out.lt (p := r) (by simp [hr]); omega)
          have HLW : Hid (w.heap.size ≤ W2b.heap.size) := Lib.hid HC.out.low.size
          have HC := Lib.hid (HC.out.box (k := W2b.heap.size) #[.int .i64 0, .int .i64 0, .int .i64 0, .int .i64 0, .int .u64 0, .int .i64 0, .int .i64 0, .int .u32 0] 64 rfl)
          have HRO := Lib.hid (HRO.out.below ((Below.refl _ _).alloc (Nat.le_refl _) (.cells #[.int .i64 0, .int .i64 0, .int .i64 0, .int .i64 0, .int .u64 0, .int .i64 0, .int .i64 0, .int .u32 0] 64)))
          refine hK.out _ _ (HS.out _ _ _ _ _ _ HC.out (fun r hr => by simp [hr])) (fun hHeld => ?_)
          clear hK K
          try simp only [Act.put, List.getElem_toArray, List.getElem_cons_zero, List.getElem_cons_succ, List.setIfInBounds_toArray, List.set_cons_zero, List.set_cons_succ]
          refine wpAnyH_ready (rs := [6]) (by kernel_rfl) (by simp) ?_
          refine (AllReadyH.cons rfl (fun K hK => ?_) AllReadyH.nil)
          go_simp
          go_at_call 34
          refine (HREAD.out _ _ HRO.out).mono ?_
          rintro e W3a ⟨rfl, hb⟩
          have HC := Lib.hid ((HC.out.below hb).sub (os' := (W2b.heap.size, .cells #[.int .i64 0, .int .i64 0, .int .i64 0, .int .i64 0, .int .u64 0, .int .i64 0, .int .i64 0, .int .u32 0] 64 (0, 0)) :: os0) (fun r hr => by rcases List.mem_cons.1 hr with hr | hr; (subst hr; simp); simp [hr]))
          clear hb
          refine hK.out _ _ (HS.out _ _ _ _ _ _ HC.out (fun r hr => by simp [hr])) (fun hHeld => ?_)
          clear hK K
          try simp only [Act.put, List.getElem_toArray, List.getElem_cons_zero, List.getElem_cons_succ, List.setIfInBounds_toArray, List.set_cons_zero, List.set_cons_succ]
          refine wpAnyH_take (i := 7) (oi := _) (v := ?_) rfl (by kernel_rfl) (by kernel_rfl) (by kernel_rfl) (fun _ _ _ h => h) (Or.inl ⟨by rfl, ?_⟩) (by assumption) ?_
          case refine_2 => intro w hSw; (try dsimp only at hSw); obtain ⟨k0, k1, kl⟩ := ad_cells hSw; clear hSw; go_simp; first | done | (with_reducible rfl)
          try simp only [Act.put, List.getElem_toArray, List.getElem_cons_zero, List.getElem_cons_succ, List.setIfInBounds_toArray, List.set_cons_zero, List.set_cons_succ]
          refine wpAnyH_take (i := 8) (oi := _) (v := ?_) rfl (by kernel_rfl) (by kernel_rfl) (by kernel_rfl) (fun _ _ _ h => h) (Or.inl ⟨by rfl, ?_⟩) (by assumption) ?_
          case refine_2 => intro w hSw; (try dsimp only at hSw); obtain ⟨k0, k1, kl⟩ := ad_cells hSw; clear hSw; go_simp; first | done | (with_reducible rfl)
          try simp only [Act.put, List.getElem_toArray, List.getElem_cons_zero, List.getElem_cons_succ, List.setIfInBounds_toArray, List.set_cons_zero, List.set_cons_succ]
          refine wpAnyH_take (i := 9) (oi := _) (v := ?_) rfl (by kernel_rfl) (by kernel_rfl) (by kernel_rfl) (fun _ _ _ h => h) (Or.inl ⟨by rfl, ?_⟩) (by assumption) ?_
          case refine_2 => intro w hSw; (try dsimp only at hSw); obtain ⟨k0, k1, kl⟩ := ad_cells hSw; clear hSw; go_simp; first | done | (with_reducible rfl)
          try simp only [Act.put, List.getElem_toArray, List.getElem_cons_zero, List.getElem_cons_succ, List.setIfInBounds_toArray, List.set_cons_zero, List.set_cons_succ]
          refine wpAnyH_take (i := 10) (oi := _) (v := ?_) rfl (by kernel_rfl) (by kernel_rfl) (by kernel_rfl) (fun _ _ _ h => h) (Or.inl ⟨by rfl, ?_⟩) (by assumption) ?_
          case refine_2 => intro w hSw; (try dsimp only at hSw); obtain ⟨k0, k1, kl⟩ := ad_cells hSw; clear hSw; go_simp; first | done | (with_reducible rfl)
          try simp only [Act.put, List.getElem_toArray, List.getElem_cons_zero, List.getElem_cons_succ, List.setIfInBounds_toArray, List.set_cons_zero, List.set_cons_succ]
          refine wpAnyH_ready (rs := [12]) (by kernel_rfl) (by simp) ?_
          refine (AllReadyH.cons rfl (fun K hK => ?_) AllReadyH.nil)
          have HU := Lib.hid (le_cells (l := Pp.zeroL) (g := W2b.heap.size) (HC.out.held (p := (W2b.heap.size, .cells #[.int .i64 0, .int .i64 0, .int .i64 0, .int .i64 0, .int .u64 0, .int .i64 0, .int .i64 0, .int .u32 0] 64 (0, 0))) List.mem_cons_self))
          obtain ⟨⟨y0, y1, y2, y3, y4, y5, y6, y7⟩, fz, yl⟩ := HU.out
          go_simp
          clear y0 y1 y2 y3 y4 y5 y6 y7 fz yl HU
          have HC := Lib.hid (HC.out.put8 L1 HN.out HLW.out (l0 := Pp.zeroL))
          refine hK.out _ _ (HS.out _ _ _ _ _ _ HC.out (fun r hr => by simp [hr])) (fun hHeld => ?_)
          clear hK K
          try simp only [Act.put, List.getElem_toArray, List.getElem_cons_zero, List.getElem_cons_succ, List.setIfInBounds_toArray, List.set_cons_zero, List.set_cons_succ]
          refine wpAnyH_take (i := 13) (oi := _) (v := ?_) rfl (by kernel_rfl) (by kernel_rfl) (by kernel_rfl) (fun _ _ _ h => h) (Or.inl ⟨by rfl, ?_⟩) (by assumption) ?_
          case refine_2 => intro w hSw; (try dsimp only at hSw); obtain ⟨k0, k1, kl⟩ := ad_cells hSw; clear hSw; go_simp; first | done | (with_reducible rfl)
          try simp only [Act.put, List.getElem_toArray, List.getElem_cons_zero, List.getElem_cons_succ, List.setIfInBounds_toArray, List.set_cons_zero, List.set_cons_succ]
          refine wpAnyH_take (i := 14) (oi := _) (v := ?_) rfl (by kernel_rfl) (by kernel_rfl) (by kernel_rfl) (fun _ _ _ h => h) (Or.inl ⟨by rfl, ?_⟩) (by assumption) ?_
          case refine_2 => intro w hSw; (try dsimp only at hSw); obtain ⟨k0, k1, kl⟩ := ad_cells hSw; clear hSw; go_simp; first | done | (with_reducible rfl)
          try simp only [Act.put, List.getElem_toArray, List.getElem_cons_zero, List.getElem_cons_succ, List.setIfInBounds_toArray, List.set_cons_zero, List.set_cons_succ]
          refine wpAnyH_done (by kernel_rfl) ?_ _
          go_wp2
          go_meet
          case rel => exact ⟨_, rfl, rfl, rfl, Lib.hid ⟨_, HC.out⟩⟩
      · go_simp
        have HN : Hid (∀ r ∈ os0, r.1 ≠ W1b.heap.size) := Lib.hid (fun r hr e => by have hlt : r.1 < W1b.heap.size := HC.out.lt (p := r) (by simp [hr]); omega)
        have HLW : Hid (w.heap.size ≤ W1b.heap.size) := Lib.hid HC.out.low.size
        have HC := Lib.hid (HC.out.box (k := W1b.heap.size) #[.int .i64 0, .int .i64 0, .int .i64 0, .int .i64 0, .int .u64 0, .int .i64 0, .int .i64 0, .int .u32 0] 64 rfl)
        refine hK.out _ _ (HS.out _ _ _ _ _ _ HC.out (fun r hr => by simp [hr])) (fun hHeld => ?_)
        clear hK K
        try simp only [Act.put, List.getElem_toArray, List.getElem_cons_zero, List.getElem_cons_succ, List.setIfInBounds_toArray, List.set_cons_zero, List.set_cons_succ]
        refine wpAnyH_ready (rs := [5]) (by kernel_rfl) (by simp) ?_
        refine (AllReadyH.cons rfl (fun K hK => ?_) AllReadyH.nil)
        go_simp
        go_at_call 32
        refine (HHEAR.out _ _ _ HC.out (fun r hr => by simp [hr]) (fun s1 f1 c1 n1 M1 os1 W hW hs => HRW.out s1 f1 c1 n1 M1 os1 W hW (fun r hr => hs r (by simp [hr])))).mono ?_
        rintro e W2a ⟨u2, rfl, hro, f2, hg⟩
        have HC := Lib.hid hg
        have HRO := Lib.hid hro
        obtain ⟨A2, d2, rfl⟩ := row_form hro
        clear hg hro
        refine hK.out _ _ (HS.out _ _ _ _ _ _ HC.out (fun r hr => by simp [hr])) (fun hHeld => ?_)
        clear hK K
        try simp only [Act.put, List.getElem_toArray, List.getElem_cons_zero, List.getElem_cons_succ, List.setIfInBounds_toArray, List.set_cons_zero, List.set_cons_succ]
        refine wpAnyH_ready (rs := [6]) (by kernel_rfl) (by simp) ?_
        refine (AllReadyH.cons rfl (fun K hK => ?_) AllReadyH.nil)
        go_simp
        go_at_call 34
        refine (HREAD.out _ _ HRO.out).mono ?_
        rintro e W3a ⟨rfl, hb⟩
        have HC := Lib.hid ((HC.out.below hb).sub (os' := (W1b.heap.size, .cells #[.int .i64 0, .int .i64 0, .int .i64 0, .int .i64 0, .int .u64 0, .int .i64 0, .int .i64 0, .int .u32 0] 64 (0, 0)) :: os0) (fun r hr => by rcases List.mem_cons.1 hr with hr | hr; (subst hr; simp); simp [hr]))
        clear hb
        refine hK.out _ _ (HS.out _ _ _ _ _ _ HC.out (fun r hr => by simp [hr])) (fun hHeld => ?_)
        clear hK K
        try simp only [Act.put, List.getElem_toArray, List.getElem_cons_zero, List.getElem_cons_succ, List.setIfInBounds_toArray, List.set_cons_zero, List.set_cons_succ]
        refine wpAnyH_take (i := 7) (oi := _) (v := ?_) rfl (by kernel_rfl) (by kernel_rfl) (by kernel_rfl) (fun _ _ _ h => h) (Or.inl ⟨by rfl, ?_⟩) (by assumption) ?_
        case refine_2 => intro w hSw; (try dsimp only at hSw); obtain ⟨k0, k1, kl⟩ := ad_cells hSw; clear hSw; go_simp; first | done | (with_reducible rfl)
        try simp only [Act.put, List.getElem_toArray, List.getElem_cons_zero, List.getElem_cons_succ, List.setIfInBounds_toArray, List.set_cons_zero, List.set_cons_succ]
        refine wpAnyH_take (i := 8) (oi := _) (v := ?_) rfl (by kernel_rfl) (by kernel_rfl) (by kernel_rfl) (fun _ _ _ h => h) (Or.inl ⟨by rfl, ?_⟩) (by assumption) ?_
        case refine_2 => intro w hSw; (try dsimp only at hSw); obtain ⟨k0, k1, kl⟩ := ad_cells hSw; clear hSw; go_simp; first | done | (with_reducible rfl)
        try simp only [Act.put, List.getElem_toArray, List.getElem_cons_zero, List.getElem_cons_succ, List.setIfInBounds_toArray, List.set_cons_zero, List.set_cons_succ]
        refine wpAnyH_take (i := 9) (oi := _) (v := ?_) rfl (by kernel_rfl) (by kernel_rfl) (by kernel_rfl) (fun _ _ _ h => h) (Or.inl ⟨by rfl, ?_⟩) (by assumption) ?_
        case refine_2 => intro w hSw; (try dsimp only at hSw); obtain ⟨k0, k1, kl⟩ := ad_cells hSw; clear hSw; go_simp; first | done | (with_reducible rfl)
        try simp only [Act.put, List.getElem_toArray, List.getElem_cons_zero, List.getElem_cons_succ, List.setIfInBounds_toArray, List.set_cons_zero, List.set_cons_succ]
        refine wpAnyH_take (i := 10) (oi := _) (v := ?_) rfl (by kernel_rfl) (by kernel_rfl) (by kernel_rfl) (fun _ _ _ h => h) (Or.inl ⟨by rfl, ?_⟩) (by assumption) ?_
        case refine_2 => intro w hSw; (try dsimp only at hSw); obtain ⟨k0, k1, kl⟩ := ad_cells hSw; clear hSw; go_simp; first | done | (with_reducible rfl)
        try simp only [Act.put, List.getElem_toArray, List.getElem_cons_zero, List.getElem_cons_succ, List.setIfInBounds_toArray, List.set_cons_zero, List.set_cons_succ]
        refine wpAnyH_ready (rs := [12]) (by kernel_rfl) (by simp) ?_
        refine (AllReadyH.cons rfl (fun K hK => ?_) AllReadyH.nil)
        have HU := Lib.hid (le_cells (l := Pp.zeroL) (g := W1b.heap.size) (HC.out.held (p := (W1b.heap.size, .cells #[.int .i64 0, .int .i64 0, .int .i64 0, .int .i64 0, .int .u64 0, .int .i64 0, .int .i64 0, .int .u32 0] 64 (0, 0))) List.mem_cons_self))
        obtain ⟨⟨y0, y1, y2, y3, y4, y5, y6, y7⟩, fz, yl⟩ := HU.out
        go_simp
        clear y0 y1 y2 y3 y4 y5 y6 y7 fz yl HU
        have HC := Lib.hid (HC.out.put8 L1 HN.out HLW.out (l0 := Pp.zeroL))
        refine hK.out _ _ (HS.out _ _ _ _ _ _ HC.out (fun r hr => by simp [hr])) (fun hHeld => ?_)
        clear hK K
        try simp only [Act.put, List.getElem_toArray, List.getElem_cons_zero, List.getElem_cons_succ, List.setIfInBounds_toArray, List.set_cons_zero, List.set_cons_succ]
        refine wpAnyH_take (i := 13) (oi := _) (v := ?_) rfl (by kernel_rfl) (by kernel_rfl) (by kernel_rfl) (fun _ _ _ h => h) (Or.inl ⟨by rfl, ?_⟩) (by assumption) ?_
        case refine_2 => intro w hSw; (try dsimp only at hSw); obtain ⟨k0, k1, kl⟩ := ad_cells hSw; clear hSw; go_simp; first | done | (with_reducible rfl)
        try simp only [Act.put, List.getElem_toArray, List.getElem_cons_zero, List.getElem_cons_succ, List.setIfInBounds_toArray, List.set_cons_zero, List.set_cons_succ]
        refine wpAnyH_take (i := 14) (oi := _) (v := ?_) rfl (by kernel_rfl) (by kernel_rfl) (by kernel_rfl) (fun _ _ _ h => h) (Or.inl ⟨by rfl, ?_⟩) (by assumption) ?_
        case refine_2 => intro w hSw; (try dsimp only at hSw); obtain ⟨k0, k1, kl⟩ := ad_cells hSw; clear hSw; go_simp; first | done | (with_reducible rfl)
        try simp only [Act.put, List.getElem_toArray, List.getElem_cons_zero, List.getElem_cons_succ, List.setIfInBounds_toArray, List.set_cons_zero, List.set_cons_succ]
        refine wpAnyH_done (by kernel_rfl) ?_ _
        go_wp2
        go_meet
        case rel => exact ⟨_, rfl, rfl, rfl, Lib.hid ⟨_, HC.out⟩⟩
    · go_simp
      have HN : Hid (∀ r ∈ os0, r.1 ≠ V2.heap.size) := Lib.hid (fun r hr e => by have hlt : r.1 < V2.heap.size := HC.out.lt (p := r) (by simp [hr]); omega)
      have HLW : Hid (w.heap.size ≤ V2.heap.size) := Lib.hid HC.out.low.size
      have HC := Lib.hid (HC.out.box (k := V2.heap.size) #[.int .i64 0, .int .i64 0, .int .i64 0, .int .i64 0, .int .u64 0, .int .i64 0, .int .i64 0, .int .u32 0] 64 rfl)
      refine hK.out _ _ (HS.out _ _ _ _ _ _ HC.out (fun r hr => by simp [hr])) (fun hHeld => ?_)
      clear hK K
      try simp only [Act.put, List.getElem_toArray, List.getElem_cons_zero, List.getElem_cons_succ, List.setIfInBounds_toArray, List.set_cons_zero, List.set_cons_succ]
      refine wpAnyH_ready (rs := [4]) (by kernel_rfl) (by simp) ?_
      refine (AllReadyH.cons rfl (fun K hK => ?_) AllReadyH.nil)
      go_simp
      go_at_call 33
      refine (HASK.out _ _ HC.out).mono ?_
      rintro e W1a ⟨u, OB, rfl, hg, hrw⟩
      have HC := Lib.hid hg
      have HRW := Lib.hid hrw
      clear hg hrw
      refine hK.out _ _ (HS.out _ _ _ _ _ _ HC.out (fun r hr => by simp [hr])) (fun hHeld => ?_)
      clear hK K
      try simp only [Act.put, List.getElem_toArray, List.getElem_cons_zero, List.getElem_cons_succ, List.setIfInBounds_toArray, List.set_cons_zero, List.set_cons_succ]
      refine wpAnyH_ready (rs := [5]) (by kernel_rfl) (by simp) ?_
      refine (AllReadyH.cons rfl (fun K hK => ?_) AllReadyH.nil)
      go_simp
      go_at_call 32
      refine (HHEAR.out _ _ _ HC.out (fun r hr => by simp [hr]) (fun s1 f1 c1 n1 M1 os1 W hW hs => HRW.out s1 f1 c1 n1 M1 os1 W hW (fun r hr => hs r (by simp [hr])))).mono ?_
      rintro e W2a ⟨u2, rfl, hro, f2, hg⟩
      have HC := Lib.hid hg
      have HRO := Lib.hid hro
      obtain ⟨A2, d2, rfl⟩ := row_form hro
      clear hg hro
      refine hK.out _ _ (HS.out _ _ _ _ _ _ HC.out (fun r hr => by simp [hr])) (fun hHeld => ?_)
      clear hK K
      try simp only [Act.put, List.getElem_toArray, List.getElem_cons_zero, List.getElem_cons_succ, List.setIfInBounds_toArray, List.set_cons_zero, List.set_cons_succ]
      refine wpAnyH_ready (rs := [6]) (by kernel_rfl) (by simp) ?_
      refine (AllReadyH.cons rfl (fun K hK => ?_) AllReadyH.nil)
      go_simp
      go_at_call 34
      refine (HREAD.out _ _ HRO.out).mono ?_
      rintro e W3a ⟨rfl, hb⟩
      have HC := Lib.hid ((HC.out.below hb).sub (os' := (V2.heap.size, .cells #[.int .i64 0, .int .i64 0, .int .i64 0, .int .i64 0, .int .u64 0, .int .i64 0, .int .i64 0, .int .u32 0] 64 (0, 0)) :: os0) (fun r hr => by rcases List.mem_cons.1 hr with hr | hr; (subst hr; simp); simp [hr]))
      clear hb
      refine hK.out _ _ (HS.out _ _ _ _ _ _ HC.out (fun r hr => by simp [hr])) (fun hHeld => ?_)
      clear hK K
      try simp only [Act.put, List.getElem_toArray, List.getElem_cons_zero, List.getElem_cons_succ, List.setIfInBounds_toArray, List.set_cons_zero, List.set_cons_succ]
      refine wpAnyH_take (i := 7) (oi := _) (v := ?_) rfl (by kernel_rfl) (by kernel_rfl) (by kernel_rfl) (fun _ _ _ h => h) (Or.inl ⟨by rfl, ?_⟩) (by assumption) ?_
      case refine_2 => intro w hSw; (try dsimp only at hSw); obtain ⟨k0, k1, kl⟩ := ad_cells hSw; clear hSw; go_simp; first | done | (with_reducible rfl)
      try simp only [Act.put, List.getElem_toArray, List.getElem_cons_zero, List.getElem_cons_succ, List.setIfInBounds_toArray, List.set_cons_zero, List.set_cons_succ]
      refine wpAnyH_take (i := 8) (oi := _) (v := ?_) rfl (by kernel_rfl) (by kernel_rfl) (by kernel_rfl) (fun _ _ _ h => h) (Or.inl ⟨by rfl, ?_⟩) (by assumption) ?_
      case refine_2 => intro w hSw; (try dsimp only at hSw); obtain ⟨k0, k1, kl⟩ := ad_cells hSw; clear hSw; go_simp; first | done | (with_reducible rfl)
      try simp only [Act.put, List.getElem_toArray, List.getElem_cons_zero, List.getElem_cons_succ, List.setIfInBounds_toArray, List.set_cons_zero, List.set_cons_succ]
      refine wpAnyH_take (i := 9) (oi := _) (v := ?_) rfl (by kernel_rfl) (by kernel_rfl) (by kernel_rfl) (fun _ _ _ h => h) (Or.inl ⟨by rfl, ?_⟩) (by assumption) ?_
      case refine_2 => intro w hSw; (try dsimp only at hSw); obtain ⟨k0, k1, kl⟩ := ad_cells hSw; clear hSw; go_simp; first | done | (with_reducible rfl)
      try simp only [Act.put, List.getElem_toArray, List.getElem_cons_zero, List.getElem_cons_succ, List.setIfInBounds_toArray, List.set_cons_zero, List.set_cons_succ]
      refine wpAnyH_take (i := 10) (oi := _) (v := ?_) rfl (by kernel_rfl) (by kernel_rfl) (by kernel_rfl) (fun _ _ _ h => h) (Or.inl ⟨by rfl, ?_⟩) (by assumption) ?_
      case refine_2 => intro w hSw; (try dsimp only at hSw); obtain ⟨k0, k1, kl⟩ := ad_cells hSw; clear hSw; go_simp; first | done | (with_reducible rfl)
      try simp only [Act.put, List.getElem_toArray, List.getElem_cons_zero, List.getElem_cons_succ, List.setIfInBounds_toArray, List.set_cons_zero, List.set_cons_succ]
      refine wpAnyH_ready (rs := [12]) (by kernel_rfl) (by simp) ?_
      refine (AllReadyH.cons rfl (fun K hK => ?_) AllReadyH.nil)
      have HU := Lib.hid (le_cells (l := Pp.zeroL) (g := V2.heap.size) (HC.out.held (p := (V2.heap.size, .cells #[.int .i64 0, .int .i64 0, .int .i64 0, .int .i64 0, .int .u64 0, .int .i64 0, .int .i64 0, .int .u32 0] 64 (0, 0))) List.mem_cons_self))
      obtain ⟨⟨y0, y1, y2, y3, y4, y5, y6, y7⟩, fz, yl⟩ := HU.out
      go_simp
      clear y0 y1 y2 y3 y4 y5 y6 y7 fz yl HU
      have HC := Lib.hid (HC.out.put8 L1 HN.out HLW.out (l0 := Pp.zeroL))
      refine hK.out _ _ (HS.out _ _ _ _ _ _ HC.out (fun r hr => by simp [hr])) (fun hHeld => ?_)
      clear hK K
      try simp only [Act.put, List.getElem_toArray, List.getElem_cons_zero, List.getElem_cons_succ, List.setIfInBounds_toArray, List.set_cons_zero, List.set_cons_succ]
      refine wpAnyH_take (i := 13) (oi := _) (v := ?_) rfl (by kernel_rfl) (by kernel_rfl) (by kernel_rfl) (fun _ _ _ h => h) (Or.inl ⟨by rfl, ?_⟩) (by assumption) ?_
      case refine_2 => intro w hSw; (try dsimp only at hSw); obtain ⟨k0, k1, kl⟩ := ad_cells hSw; clear hSw; go_simp; first | done | (with_reducible rfl)
      try simp only [Act.put, List.getElem_toArray, List.getElem_cons_zero, List.getElem_cons_succ, List.setIfInBounds_toArray, List.set_cons_zero, List.set_cons_succ]
      refine wpAnyH_take (i := 14) (oi := _) (v := ?_) rfl (by kernel_rfl) (by kernel_rfl) (by kernel_rfl) (fun _ _ _ h => h) (Or.inl ⟨by rfl, ?_⟩) (by assumption) ?_
      case refine_2 => intro w hSw; (try dsimp only at hSw); obtain ⟨k0, k1, kl⟩ := ad_cells hSw; clear hSw; go_simp; first | done | (with_reducible rfl)
      try simp only [Act.put, List.getElem_toArray, List.getElem_cons_zero, List.getElem_cons_succ, List.setIfInBounds_toArray, List.set_cons_zero, List.set_cons_succ]
      refine wpAnyH_done (by kernel_rfl) ?_ _
      go_wp2
      go_meet
      case rel => exact ⟨_, rfl, rfl, rfl, Lib.hid ⟨_, HC.out⟩⟩
  case rest =>
    obtain ⟨q1, rfl, rfl, rfl, HQ⟩ := hcut
    clear HASK HHEAR HREAD HG2 HS
    obtain ⟨f1, hg3⟩ := HQ.out
    have hy := le_cells (l := L1) (g := q1) (hg3.held (p := (q1, .cells (Pp.leA L1) 64 (0, 0))) List.mem_cons_self)
    rw [HL1.out] at hy
    dsimp only at hy
    obtain ⟨⟨y0, y1, y2, y3, y4, y5, y6, y7⟩, yf, yl⟩ := hy
    have hlv := live_ask (a := (s1.1, 5)) (p := 40003) (u := B + 536870912) (t := B) (by omega)
    have hal := all_gm hg3 (by rw [HM1.out]; exact ok_one _ _ _) B (by unfold goes; simp only [Bool.and_eq_true, decide_eq_true_eq]; omega)
    rw [show liveM M1 B = M1 by rw [HM1.out]; exact hlv] at hal
    have HALL := Lib.hid hal
    clear hg3 HQ hlv hal
    go_wp2_with fail
    refine HALL.out.mono ?_
    rintro e V4 ⟨⟨v, l4, rfl, hp4, hbs4⟩, hg4⟩
    rw [HM1.out] at hp4
    have e4 := List.perm_singleton.1 hp4
    subst e4
    obtain ⟨bb4, c4, rfl, hb4, hc4⟩ := isBs_one hbs4
    have HRB := Lib.hid (greboot_gm (hg4.sub (os' := os0) (fun r hr => by simp [hr])) B)
    clear hp4 hbs4 hg4 HALL y0 y1 y2 y3 y4 y5 y6 y7 yf yl hb4 hc4
    go_wp2_with fail
    refine HRB.out.mono ?_
    rintro e V5 ⟨rfl, hg5⟩
    have HG5 := Lib.hid hg5
    clear hg5 HRB HL1 HM1
    go_upto_region 16 with (fail)
    obtain ⟨M2, hM2⟩ : ∃ M2, M2 = [askB (s1.1, 6) 40000 (C + 5)] := ⟨_, rfl⟩
    obtain ⟨L2, hL2⟩ : ∃ L2 : Pp.Le, L2 = ⟨2, 6, 40000, 5, 0, 0, C - B, 3405803777⟩ := ⟨_, rfl⟩
    have hok0 : Okb (bxC 0) [] := Okb.nil (by decide)
    have hgC : (goes 0 C && mayA s1) = true := by
      have : goes 0 C = true := by unfold goes; simp only [Bool.and_eq_true, decide_eq_true_eq]; omega
      rw [this, HMA.out]; rfl
    have hsv : (pcpS (bxC 0) 1073741824 B (keptF f0 (liveM [] C)) 0 (liveM [] C) C s1 ⟨2, 6, 0, 5, 0, 0, 0, 0⟩ s1.1).ans = L2 ∧ (pcpS (bxC 0) 1073741824 B (keptF f0 (liveM [] C)) 0 (liveM [] C) C s1 ⟨2, 6, 0, 5, 0, 0, 0, 0⟩ s1.1).M = M2 := by
      have h1 := srv_new (x := bxC 0) (bxC_ok 0) (by decide) (most := 1073741824) (t := C) (a := (s1.1, 6)) (p := 0) (s := 5) (by unfold goes; simp only [Bool.and_eq_true, decide_eq_true_eq]; omega) (mayA_t HQ3.out (by show (1 : Int) ≤ 6; decide) (by show (6 : Int) ≤ 65535; decide)) (by decide) (by decide) (by omega)
      have e1 : wish0 (bxC 0) 0 = 40000 := by decide
      have e2 : min (5 : Int) 1073741824 = 5 := by decide
      have e3 : epoV B C = C - B := by unfold epoV; rw [if_neg (by omega)]; omega
      rw [e1, e2] at h1
      unfold pcpS
      rw [if_neg (by simp), show liveM [] C = [] from rfl, if_neg (by simp)]
      dsimp only
      rw [h1, if_neg (by show ¬ (40000 : Int) = 0; decide), e3, hL2, hM2]
      exact ⟨rfl, rfl⟩
    have HASK : Hid (∀ os' W, Gm w gb g nm (bxC 0) 1073741824 B av f0 0 0 [] os' W → Calls Try.prog 36 #[Pp.leV ⟨2, 6, 0, 5, 0, 0, 0, 0⟩, .int .u32 s1.1] W fun e V' => ∃ u OB, e = .returned u ∧ Gm w gb g nm (bxC 0) 1073741824 B av f0 0 0 [] (OB ++ os') V' ∧ (∀ s' f' c' n' M' os1 W, Gm w gb g nm (bxC 0) 1073741824 s' av f' c' n' M' os1 W → (∀ r ∈ OB, r ∈ os1) → Pp.Row W u (Pp.paskR ⟨2, 6, 0, 5, 0, 0, 0, 0⟩ s1.1))) := Lib.hid (fun os' W hW => pask_gm hW ⟨2, 6, 0, 5, 0, 0, 0, 0⟩ (by constructor <;> simp [Pp.W64]) s1.1 ⟨hah.1, by omega⟩)
    have HHEAR : Hid (∀ os' W u, Gm w gb g nm (bxC 0) 1073741824 B av f0 0 0 [] os' W → (∀ r ∈ os0, r ∈ os') → (∀ s' f' c' n' M' os1 W, Gm w gb g nm (bxC 0) 1073741824 s' av f' c' n' M' os1 W → (∀ r ∈ os', r ∈ os1) → Pp.Row W u (Pp.paskR ⟨2, 6, 0, 5, 0, 0, 0, 0⟩ s1.1)) → Calls Try.prog 32 #[.pointer (some ⟨gb, 0, none⟩), .int .i64 C, adr s1, u] W fun e V' => ∃ u', e = .returned u' ∧ Pp.Row V' u' (Pp.pansR L2) ∧ ∃ f' c', Gm w gb g nm (bxC 0) 1073741824 B av f' c' C M2 os' V') := Lib.hid (fun os' W u hW hm hr => by
      have h := hear_pyes hW (bxC_ok 0) hok0 ok_nil C s1 HA.out u ⟨2, 6, 0, 5, 0, 0, 0, 0⟩ s1.1 (by constructor <;> simp [Pp.W64]) ⟨hah.1, by omega⟩ (an_more HAN.out hm) hr (by omega) (by omega) (by omega) (by decide) (by unfold maxLen; decide) (by decide) hgC (by unfold Pp.Pas Pp.Pan; simp)
      rw [hsv.1, hsv.2] at h
      exact h.mono fun e V' hq => by obtain ⟨u', q1, q2, q3⟩ := hq; exact ⟨u', q1, q2, _, _, q3⟩)
    have HREAD : Hid (∀ W u, Pp.Row W u (Pp.pansR L2) → Calls Try.prog 35 #[u] W fun e W' => e = .returned (Pp.pbT L2 0) ∧ Below W.heap.size W W') := Lib.hid (fun W u hr => by
      have h := pread_ans hr
      rwa [Pp.pbR_yes ⟨by rw [hL2]; constructor <;> simp [Pp.W64] <;> omega, by rw [hL2]; unfold Pp.Pan; simp; omega, rfl⟩] at h)
    have HS : Hid (∀ f' c' n' M' os1 W, Gm w gb g nm (bxC 0) 1073741824 B av f' c' n' M' os1 W → (∀ r ∈ os0, r ∈ os1) → (fun W => W.heap[w.heap.size + 1]? = some (.cells #[.int .u32 s1.1, .int .i64 s1.2] 38 (0, 0))) W) := Lib.hid (fun f' c' n' M' os1 W hW hm => hW.held (hm _ HFM.out))
    unfold Pp.leV Pp.leA at HASK
    unfold adr at HHEAR
    unfold Pp.pbT Pp.leV Pp.leA at HREAD
    dsimp only at HASK
    have HL2 := Lib.hid hL2
    have HM2 := Lib.hid hM2
    clear hL2 hM2 hok0 hgC hsv
    go_cut [15, 16] from 18 (fun v15 v16 wc => ∃ q : Nat, v15 = .pointer (some ⟨q, 0, none⟩) ∧ v16 = .int .i64 0 ∧ Hid (∃ f' c', Gm w gb g nm (bxC 0) 1073741824 B av f' c' C M2 ((q, .cells (Pp.leA L2) 64 (0, 0)) :: os0) wc))
    case first =>
      have HC := Lib.hid (HG5.out.drewN 1)
      refine wp_region_held_drew (S := (fun W => W.heap[w.heap.size + 1]? = some (.cells #[.int .u32 s1.1, .int .i64 s1.2] 38 (0, 0)))) (by kernel_rfl) (HS.out _ _ _ _ _ _ HC.out (fun r hr => by simp [hr])) (fun hHeld => ?_)
      refine wpAnyH_take (i := 0) (oi := _) (v := ?_) rfl (by kernel_rfl) (by kernel_rfl) (by kernel_rfl) (fun _ _ _ h => h) (Or.inl ⟨by rfl, ?_⟩) (by assumption) ?_
      case refine_2 => intro w hSw; (try dsimp only at hSw); obtain ⟨k0, k1, kl⟩ := ad_cells hSw; clear hSw; go_simp; first | done | (with_reducible rfl)
      try simp only [Act.put, List.getElem_toArray, List.getElem_cons_zero, List.getElem_cons_succ, List.setIfInBounds_toArray, List.set_cons_zero, List.set_cons_succ]
      refine wpAnyH_take (i := 1) (oi := _) (v := ?_) rfl (by kernel_rfl) (by kernel_rfl) (by kernel_rfl) (fun _ _ _ h => h) (Or.inl ⟨by rfl, ?_⟩) (by assumption) ?_
      case refine_2 => intro w hSw; (try dsimp only at hSw); obtain ⟨k0, k1, kl⟩ := ad_cells hSw; clear hSw; go_simp; first | done | (with_reducible rfl)
      try simp only [Act.put, List.getElem_toArray, List.getElem_cons_zero, List.getElem_cons_succ, List.setIfInBounds_toArray, List.set_cons_zero, List.set_cons_succ]
      refine wpAnyH_take (i := 2) (oi := _) (v := ?_) rfl (by kernel_rfl) (by kernel_rfl) (by kernel_rfl) (fun _ _ _ h => h) (Or.inl ⟨by rfl, ?_⟩) (by assumption) ?_
      case refine_2 => intro w hSw; (try dsimp only at hSw); obtain ⟨k0, k1, kl⟩ := ad_cells hSw; clear hSw; go_simp; first | done | (with_reducible rfl)
      try simp only [Act.put, List.getElem_toArray, List.getElem_cons_zero, List.getElem_cons_succ, List.setIfInBounds_toArray, List.set_cons_zero, List.set_cons_succ]
      refine wpAnyH_take (i := 3) (oi := _) (v := ?_) rfl (by kernel_rfl) (by kernel_rfl) (by kernel_rfl) (fun _ _ _ h => h) (Or.inl ⟨by rfl, ?_⟩) (by assumption) ?_
      case refine_2 => intro w hSw; (try dsimp only at hSw); obtain ⟨k0, k1, kl⟩ := ad_cells hSw; clear hSw; go_simp; first | done | (with_reducible rfl)
      try simp only [Act.put, List.getElem_toArray, List.getElem_cons_zero, List.getElem_cons_succ, List.setIfInBounds_toArray, List.set_cons_zero, List.set_cons_succ]
      refine wpAnyH_take (i := 4) (oi := _) (v := ?_) rfl (by kernel_rfl) (by kernel_rfl) (by kernel_rfl) (fun _ _ _ h => h) (Or.inl ⟨by rfl, ?_⟩) (by assumption) ?_
      case refine_2 => intro w hSw; (try dsimp only at hSw); obtain ⟨k0, k1, kl⟩ := ad_cells hSw; clear hSw; go_simp; first | done | (with_reducible rfl)
      try simp only [Act.put, List.getElem_toArray, List.getElem_cons_zero, List.getElem_cons_succ, List.setIfInBounds_toArray, List.set_cons_zero, List.set_cons_succ]
      refine wpAnyH_take (i := 5) (oi := _) (v := ?_) rfl (by kernel_rfl) (by kernel_rfl) (by kernel_rfl) (fun _ _ _ h => h) (Or.inl ⟨by rfl, ?_⟩) (by assumption) ?_
      case refine_2 => intro w hSw; (try dsimp only at hSw); obtain ⟨k0, k1, kl⟩ := ad_cells hSw; clear hSw; go_simp; first | done | (with_reducible rfl)
      try simp only [Act.put, List.getElem_toArray, List.getElem_cons_zero, List.getElem_cons_succ, List.setIfInBounds_toArray, List.set_cons_zero, List.set_cons_succ]
      refine wpAnyH_ready (rs := [6, 12]) (by kernel_rfl) (by simp) ?_
      refine (AllReadyH.cons rfl (fun K hK => ?_) (AllReadyH.cons rfl (fun K hK => ?_) AllReadyH.nil))
      · go_simp
        go_at_call 36
        refine (HASK.out _ _ HC.out).mono ?_
        rintro e W1b ⟨u, OB, rfl, hg, hrw⟩
        have HC := Lib.hid hg
        have HRW := Lib.hid hrw
        clear hg hrw
        refine hK.out _ _ (HS.out _ _ _ _ _ _ HC.out (fun r hr => by simp [hr])) (fun hHeld => ?_)
        clear hK K
        try simp only [Act.put, List.getElem_toArray, List.getElem_cons_zero, List.getElem_cons_succ, List.setIfInBounds_toArray, List.set_cons_zero, List.set_cons_succ]
        refine wpAnyH_ready (rs := [7, 12]) (by kernel_rfl) (by simp) ?_
        refine (AllReadyH.cons rfl (fun K hK => ?_) (AllReadyH.cons rfl (fun K hK => ?_) AllReadyH.nil))
        · go_simp
          go_at_call 32
          refine (HHEAR.out _ _ _ HC.out (fun r hr => by simp [hr]) (fun s1 f1 c1 n1 M1 os1 W hW hs => HRW.out s1 f1 c1 n1 M1 os1 W hW (fun r hr => hs r (by simp [hr])))).mono ?_
          rintro e W2b ⟨u2, rfl, hro, f2, c2, hg⟩
          have HC := Lib.hid hg
          have HRO := Lib.hid hro
          obtain ⟨A2, d2, rfl⟩ := row_form hro
          clear hg hro
          refine hK.out _ _ (HS.out _ _ _ _ _ _ HC.out (fun r hr => by simp [hr])) (fun hHeld => ?_)
          clear hK K
          try simp only [Act.put, List.getElem_toArray, List.getElem_cons_zero, List.getElem_cons_succ, List.setIfInBounds_toArray, List.set_cons_zero, List.set_cons_succ]
          refine wpAnyH_ready (rs := [8, 12]) (by kernel_rfl) (by simp) ?_
          refine (AllReadyH.cons rfl (fun K hK => ?_) (AllReadyH.cons rfl (fun K hK => ?_) AllReadyH.nil))
          · go_simp
            go_at_call 35
            refine (HREAD.out _ _ HRO.out).mono ?_
            rintro e W3b ⟨rfl, hb⟩
            have HC := Lib.hid ((HC.out.below hb).sub (os' := os0) (fun r hr => by simp [hr]))
            clear hb
            refine hK.out _ _ (HS.out _ _ _ _ _ _ HC.out (fun r hr => by simp [hr])) (fun hHeld => ?_)
            clear hK K
            try simp only [Act.put, List.getElem_toArray, List.getElem_cons_zero, List.getElem_cons_succ, List.setIfInBounds_toArray, List.set_cons_zero, List.set_cons_succ]
            refine wpAnyH_take (i := 9) (oi := _) (v := ?_) rfl (by kernel_rfl) (by kernel_rfl) (by kernel_rfl) (fun _ _ _ h => h) (Or.inl ⟨by rfl, ?_⟩) (by assumption) ?_
            case refine_2 => intro w hSw; (try dsimp only at hSw); obtain ⟨k0, k1, kl⟩ := ad_cells hSw; clear hSw; go_simp; first | done | (with_reducible rfl)
            try simp only [Act.put, List.getElem_toArray, List.getElem_cons_zero, List.getElem_cons_succ, List.setIfInBounds_toArray, List.set_cons_zero, List.set_cons_succ]
            refine wpAnyH_take (i := 10) (oi := _) (v := ?_) rfl (by kernel_rfl) (by kernel_rfl) (by kernel_rfl) (fun _ _ _ h => h) (Or.inl ⟨by rfl, ?_⟩) (by assumption) ?_
            case refine_2 => intro w hSw; (try dsimp only at hSw); obtain ⟨k0, k1, kl⟩ := ad_cells hSw; clear hSw; go_simp; first | done | (with_reducible rfl)
            try simp only [Act.put, List.getElem_toArray, List.getElem_cons_zero, List.getElem_cons_succ, List.setIfInBounds_toArray, List.set_cons_zero, List.set_cons_succ]
            refine wpAnyH_take (i := 11) (oi := _) (v := ?_) rfl (by kernel_rfl) (by kernel_rfl) (by kernel_rfl) (fun _ _ _ h => h) (Or.inl ⟨by rfl, ?_⟩) (by assumption) ?_
            case refine_2 => intro w hSw; (try dsimp only at hSw); obtain ⟨k0, k1, kl⟩ := ad_cells hSw; clear hSw; go_simp; first | done | (with_reducible rfl)
            try simp only [Act.put, List.getElem_toArray, List.getElem_cons_zero, List.getElem_cons_succ, List.setIfInBounds_toArray, List.set_cons_zero, List.set_cons_succ]
            refine wpAnyH_ready (rs := [12]) (by kernel_rfl) (by simp) ?_
            refine (AllReadyH.cons rfl (fun K hK => ?_) AllReadyH.nil)
            go_simp
            have HN : Hid (∀ r ∈ os0, r.1 ≠ W3b.heap.size) := Lib.hid (fun r hr e => by have hlt : r.1 < W3b.heap.size := HC.out.lt (p := r) (by simp [hr]); omega)
            have HLW : Hid (w.heap.size ≤ W3b.heap.size) := Lib.hid HC.out.low.size
            have HPRE := Lib.hid HC.out
            have HC := Lib.hid (HC.out.box (k := W3b.heap.size) #[.int .i64 0, .int .i64 0, .int .i64 0, .int .i64 0, .int .u64 0, .int .i64 0, .int .i64 0, .int .u32 0] 64 rfl)
            refine hK.out _ _ (HS.out _ _ _ _ _ _ HC.out (fun r hr => by simp [hr])) (fun hHeld => ?_)
            clear hK K
            try simp only [Act.put, List.getElem_toArray, List.getElem_cons_zero, List.getElem_cons_succ, List.setIfInBounds_toArray, List.set_cons_zero, List.set_cons_succ]
            refine wpAnyH_ready (rs := [13]) (by kernel_rfl) (by simp) ?_
            refine (AllReadyH.cons rfl (fun K hK => ?_) AllReadyH.nil)
            have HU := Lib.hid (le_cells (l := Pp.zeroL) (g := W3b.heap.size) (HC.out.held (p := (W3b.heap.size, .cells #[.int .i64 0, .int .i64 0, .int .i64 0, .int .i64 0, .int .u64 0, .int .i64 0, .int .i64 0, .int .u32 0] 64 (0, 0))) List.mem_cons_self))
            obtain ⟨⟨y0, y1, y2, y3, y4, y5, y6, y7⟩, fz, yl⟩ := HU.out
            go_simp
            clear y0 y1 y2 y3 y4 y5 y6 y7 fz yl HU
            have HC := Lib.hid (HPRE.out.box (k := W3b.heap.size) (Pp.leA L2) 64 rfl)
            refine hK.out _ _ (HS.out _ _ _ _ _ _ HC.out (fun r hr => by simp [hr])) (fun hHeld => ?_)
            clear hK K
            try simp only [Act.put, List.getElem_toArray, List.getElem_cons_zero, List.getElem_cons_succ, List.setIfInBounds_toArray, List.set_cons_zero, List.set_cons_succ]
            refine wpAnyH_take (i := 14) (oi := _) (v := ?_) rfl (by kernel_rfl) (by kernel_rfl) (by kernel_rfl) (fun _ _ _ h => h) (Or.inl ⟨by rfl, ?_⟩) (by assumption) ?_
            case refine_2 => intro w hSw; (try dsimp only at hSw); obtain ⟨k0, k1, kl⟩ := ad_cells hSw; clear hSw; go_simp; first | done | (with_reducible rfl)
            try simp only [Act.put, List.getElem_toArray, List.getElem_cons_zero, List.getElem_cons_succ, List.setIfInBounds_toArray, List.set_cons_zero, List.set_cons_succ]
            refine wpAnyH_done (by kernel_rfl) ?_ _
            go_wp2
            go_meet
            case rel => exact ⟨_, rfl, rfl, Lib.hid ⟨_, _, HC.out⟩⟩
          · go_simp
            have HN : Hid (∀ r ∈ os0, r.1 ≠ W2b.heap.size) := Lib.hid (fun r hr e => by have hlt : r.1 < W2b.heap.size := HC.out.lt (p := r) (by simp [hr]); omega)
            have HLW : Hid (w.heap.size ≤ W2b.heap.size) := Lib.hid HC.out.low.size
            have HC := Lib.hid (HC.out.box (k := W2b.heap.size) #[.int .i64 0, .int .i64 0, .int .i64 0, .int .i64 0, .int .u64 0, .int .i64 0, .int .i64 0, .int .u32 0] 64 rfl)
            have HRO := Lib.hid (HRO.out.below ((Below.refl _ _).alloc (Nat.le_refl _) (.cells #[.int .i64 0, .int .i64 0, .int .i64 0, .int .i64 0, .int .u64 0, .int .i64 0, .int .i64 0, .int .u32 0] 64)))
            refine hK.out _ _ (HS.out _ _ _ _ _ _ HC.out (fun r hr => by simp [hr])) (fun hHeld => ?_)
            clear hK K
            try simp only [Act.put, List.getElem_toArray, List.getElem_cons_zero, List.getElem_cons_succ, List.setIfInBounds_toArray, List.set_cons_zero, List.set_cons_succ]
            refine wpAnyH_ready (rs := [8]) (by kernel_rfl) (by simp) ?_
            refine (AllReadyH.cons rfl (fun K hK => ?_) AllReadyH.nil)
            go_simp
            go_at_call 35
            refine (HREAD.out _ _ HRO.out).mono ?_
            rintro e W3a ⟨rfl, hb⟩
            have HC := Lib.hid ((HC.out.below hb).sub (os' := (W2b.heap.size, .cells #[.int .i64 0, .int .i64 0, .int .i64 0, .int .i64 0, .int .u64 0, .int .i64 0, .int .i64 0, .int .u32 0] 64 (0, 0)) :: os0) (fun r hr => by rcases List.mem_cons.1 hr with hr | hr; (subst hr; simp); simp [hr]))
            clear hb
            refine hK.out _ _ (HS.out _ _ _ _ _ _ HC.out (fun r hr => by simp [hr])) (fun hHeld => ?_)
            clear hK K
            try simp only [Act.put, List.getElem_toArray, List.getElem_cons_zero, List.getElem_cons_succ, List.setIfInBounds_toArray, List.set_cons_zero, List.set_cons_succ]
            refine wpAnyH_take (i := 9) (oi := _) (v := ?_) rfl (by kernel_rfl) (by kernel_rfl) (by kernel_rfl) (fun _ _ _ h => h) (Or.inl ⟨by rfl, ?_⟩) (by assumption) ?_
            case refine_2 => intro w hSw; (try dsimp only at hSw); obtain ⟨k0, k1, kl⟩ := ad_cells hSw; clear hSw; go_simp; first | done | (with_reducible rfl)
            try simp only [Act.put, List.getElem_toArray, List.getElem_cons_zero, List.getElem_cons_succ, List.setIfInBounds_toArray, List.set_cons_zero, List.set_cons_succ]
            refine wpAnyH_take (i := 10) (oi := _) (v := ?_) rfl (by kernel_rfl) (by kernel_rfl) (by kernel_rfl) (fun _ _ _ h => h) (Or.inl ⟨by rfl, ?_⟩) (by assumption) ?_
            case refine_2 => intro w hSw; (try dsimp only at hSw); obtain ⟨k0, k1, kl⟩ := ad_cells hSw; clear hSw; go_simp; first | done | (with_reducible rfl)
            try simp only [Act.put, List.getElem_toArray, List.getElem_cons_zero, List.getElem_cons_succ, List.setIfInBounds_toArray, List.set_cons_zero, List.set_cons_succ]
            refine wpAnyH_take (i := 11) (oi := _) (v := ?_) rfl (by kernel_rfl) (by kernel_rfl) (by kernel_rfl) (fun _ _ _ h => h) (Or.inl ⟨by rfl, ?_⟩) (by assumption) ?_
            case refine_2 => intro w hSw; (try dsimp only at hSw); obtain ⟨k0, k1, kl⟩ := ad_cells hSw; clear hSw; go_simp; first | done | (with_reducible rfl)
            try simp only [Act.put, List.getElem_toArray, List.getElem_cons_zero, List.getElem_cons_succ, List.setIfInBounds_toArray, List.set_cons_zero, List.set_cons_succ]
            refine wpAnyH_ready (rs := [13]) (by kernel_rfl) (by simp) ?_
            refine (AllReadyH.cons rfl (fun K hK => ?_) AllReadyH.nil)
            have HU := Lib.hid (le_cells (l := Pp.zeroL) (g := W2b.heap.size) (HC.out.held (p := (W2b.heap.size, .cells #[.int .i64 0, .int .i64 0, .int .i64 0, .int .i64 0, .int .u64 0, .int .i64 0, .int .i64 0, .int .u32 0] 64 (0, 0))) List.mem_cons_self))
            obtain ⟨⟨y0, y1, y2, y3, y4, y5, y6, y7⟩, fz, yl⟩ := HU.out
            go_simp
            clear y0 y1 y2 y3 y4 y5 y6 y7 fz yl HU
            have HC := Lib.hid (HC.out.put8 L2 HN.out HLW.out (l0 := Pp.zeroL))
            refine hK.out _ _ (HS.out _ _ _ _ _ _ HC.out (fun r hr => by simp [hr])) (fun hHeld => ?_)
            clear hK K
            try simp only [Act.put, List.getElem_toArray, List.getElem_cons_zero, List.getElem_cons_succ, List.setIfInBounds_toArray, List.set_cons_zero, List.set_cons_succ]
            refine wpAnyH_take (i := 14) (oi := _) (v := ?_) rfl (by kernel_rfl) (by kernel_rfl) (by kernel_rfl) (fun _ _ _ h => h) (Or.inl ⟨by rfl, ?_⟩) (by assumption) ?_
            case refine_2 => intro w hSw; (try dsimp only at hSw); obtain ⟨k0, k1, kl⟩ := ad_cells hSw; clear hSw; go_simp; first | done | (with_reducible rfl)
            try simp only [Act.put, List.getElem_toArray, List.getElem_cons_zero, List.getElem_cons_succ, List.setIfInBounds_toArray, List.set_cons_zero, List.set_cons_succ]
            refine wpAnyH_done (by kernel_rfl) ?_ _
            go_wp2
            go_meet
            case rel => exact ⟨_, rfl, rfl, Lib.hid ⟨_, _, HC.out⟩⟩
        · go_simp
          have HN : Hid (∀ r ∈ os0, r.1 ≠ W1b.heap.size) := Lib.hid (fun r hr e => by have hlt : r.1 < W1b.heap.size := HC.out.lt (p := r) (by simp [hr]); omega)
          have HLW : Hid (w.heap.size ≤ W1b.heap.size) := Lib.hid HC.out.low.size
          have HC := Lib.hid (HC.out.box (k := W1b.heap.size) #[.int .i64 0, .int .i64 0, .int .i64 0, .int .i64 0, .int .u64 0, .int .i64 0, .int .i64 0, .int .u32 0] 64 rfl)
          refine hK.out _ _ (HS.out _ _ _ _ _ _ HC.out (fun r hr => by simp [hr])) (fun hHeld => ?_)
          clear hK K
          try simp only [Act.put, List.getElem_toArray, List.getElem_cons_zero, List.getElem_cons_succ, List.setIfInBounds_toArray, List.set_cons_zero, List.set_cons_succ]
          refine wpAnyH_ready (rs := [7]) (by kernel_rfl) (by simp) ?_
          refine (AllReadyH.cons rfl (fun K hK => ?_) AllReadyH.nil)
          go_simp
          go_at_call 32
          refine (HHEAR.out _ _ _ HC.out (fun r hr => by simp [hr]) (fun s1 f1 c1 n1 M1 os1 W hW hs => HRW.out s1 f1 c1 n1 M1 os1 W hW (fun r hr => hs r (by simp [hr])))).mono ?_
          rintro e W2a ⟨u2, rfl, hro, f2, c2, hg⟩
          have HC := Lib.hid hg
          have HRO := Lib.hid hro
          obtain ⟨A2, d2, rfl⟩ := row_form hro
          clear hg hro
          refine hK.out _ _ (HS.out _ _ _ _ _ _ HC.out (fun r hr => by simp [hr])) (fun hHeld => ?_)
          clear hK K
          try simp only [Act.put, List.getElem_toArray, List.getElem_cons_zero, List.getElem_cons_succ, List.setIfInBounds_toArray, List.set_cons_zero, List.set_cons_succ]
          refine wpAnyH_ready (rs := [8]) (by kernel_rfl) (by simp) ?_
          refine (AllReadyH.cons rfl (fun K hK => ?_) AllReadyH.nil)
          go_simp
          go_at_call 35
          refine (HREAD.out _ _ HRO.out).mono ?_
          rintro e W3a ⟨rfl, hb⟩
          have HC := Lib.hid ((HC.out.below hb).sub (os' := (W1b.heap.size, .cells #[.int .i64 0, .int .i64 0, .int .i64 0, .int .i64 0, .int .u64 0, .int .i64 0, .int .i64 0, .int .u32 0] 64 (0, 0)) :: os0) (fun r hr => by rcases List.mem_cons.1 hr with hr | hr; (subst hr; simp); simp [hr]))
          clear hb
          refine hK.out _ _ (HS.out _ _ _ _ _ _ HC.out (fun r hr => by simp [hr])) (fun hHeld => ?_)
          clear hK K
          try simp only [Act.put, List.getElem_toArray, List.getElem_cons_zero, List.getElem_cons_succ, List.setIfInBounds_toArray, List.set_cons_zero, List.set_cons_succ]
          refine wpAnyH_take (i := 9) (oi := _) (v := ?_) rfl (by kernel_rfl) (by kernel_rfl) (by kernel_rfl) (fun _ _ _ h => h) (Or.inl ⟨by rfl, ?_⟩) (by assumption) ?_
          case refine_2 => intro w hSw; (try dsimp only at hSw); obtain ⟨k0, k1, kl⟩ := ad_cells hSw; clear hSw; go_simp; first | done | (with_reducible rfl)
          try simp only [Act.put, List.getElem_toArray, List.getElem_cons_zero, List.getElem_cons_succ, List.setIfInBounds_toArray, List.set_cons_zero, List.set_cons_succ]
          refine wpAnyH_take (i := 10) (oi := _) (v := ?_) rfl (by kernel_rfl) (by kernel_rfl) (by kernel_rfl) (fun _ _ _ h => h) (Or.inl ⟨by rfl, ?_⟩) (by assumption) ?_
          case refine_2 => intro w hSw; (try dsimp only at hSw); obtain ⟨k0, k1, kl⟩ := ad_cells hSw; clear hSw; go_simp; first | done | (with_reducible rfl)
          try simp only [Act.put, List.getElem_toArray, List.getElem_cons_zero, List.getElem_cons_succ, List.setIfInBounds_toArray, List.set_cons_zero, List.set_cons_succ]
          refine wpAnyH_take (i := 11) (oi := _) (v := ?_) rfl (by kernel_rfl) (by kernel_rfl) (by kernel_rfl) (fun _ _ _ h => h) (Or.inl ⟨by rfl, ?_⟩) (by assumption) ?_
          case refine_2 => intro w hSw; (try dsimp only at hSw); obtain ⟨k0, k1, kl⟩ := ad_cells hSw; clear hSw; go_simp; first | done | (with_reducible rfl)
          try simp only [Act.put, List.getElem_toArray, List.getElem_cons_zero, List.getElem_cons_succ, List.setIfInBounds_toArray, List.set_cons_zero, List.set_cons_succ]
          refine wpAnyH_ready (rs := [13]) (by kernel_rfl) (by simp) ?_
          refine (AllReadyH.cons rfl (fun K hK => ?_) AllReadyH.nil)
          have HU := Lib.hid (le_cells (l := Pp.zeroL) (g := W1b.heap.size) (HC.out.held (p := (W1b.heap.size, .cells #[.int .i64 0, .int .i64 0, .int .i64 0, .int .i64 0, .int .u64 0, .int .i64 0, .int .i64 0, .int .u32 0] 64 (0, 0))) List.mem_cons_self))
          obtain ⟨⟨y0, y1, y2, y3, y4, y5, y6, y7⟩, fz, yl⟩ := HU.out
          go_simp
          clear y0 y1 y2 y3 y4 y5 y6 y7 fz yl HU
          have HC := Lib.hid (HC.out.put8 L2 HN.out HLW.out (l0 := Pp.zeroL))
          refine hK.out _ _ (HS.out _ _ _ _ _ _ HC.out (fun r hr => by simp [hr])) (fun hHeld => ?_)
          clear hK K
          try simp only [Act.put, List.getElem_toArray, List.getElem_cons_zero, List.getElem_cons_succ, List.setIfInBounds_toArray, List.set_cons_zero, List.set_cons_succ]
          refine wpAnyH_take (i := 14) (oi := _) (v := ?_) rfl (by kernel_rfl) (by kernel_rfl) (by kernel_rfl) (fun _ _ _ h => h) (Or.inl ⟨by rfl, ?_⟩) (by assumption) ?_
          case refine_2 => intro w hSw; (try dsimp only at hSw); obtain ⟨k0, k1, kl⟩ := ad_cells hSw; clear hSw; go_simp; first | done | (with_reducible rfl)
          try simp only [Act.put, List.getElem_toArray, List.getElem_cons_zero, List.getElem_cons_succ, List.setIfInBounds_toArray, List.set_cons_zero, List.set_cons_succ]
          refine wpAnyH_done (by kernel_rfl) ?_ _
          go_wp2
          go_meet
          case rel => exact ⟨_, rfl, rfl, Lib.hid ⟨_, _, HC.out⟩⟩
      · go_simp
        have HN : Hid (∀ r ∈ os0, r.1 ≠ V5.heap.size) := Lib.hid (fun r hr e => by have hlt : r.1 < V5.heap.size := HC.out.lt (p := r) (by simp [hr]); omega)
        have HLW : Hid (w.heap.size ≤ V5.heap.size) := Lib.hid HC.out.low.size
        have HC := Lib.hid (HC.out.box (k := V5.heap.size) #[.int .i64 0, .int .i64 0, .int .i64 0, .int .i64 0, .int .u64 0, .int .i64 0, .int .i64 0, .int .u32 0] 64 rfl)
        refine hK.out _ _ (HS.out _ _ _ _ _ _ HC.out (fun r hr => by simp [hr])) (fun hHeld => ?_)
        clear hK K
        try simp only [Act.put, List.getElem_toArray, List.getElem_cons_zero, List.getElem_cons_succ, List.setIfInBounds_toArray, List.set_cons_zero, List.set_cons_succ]
        refine wpAnyH_ready (rs := [6]) (by kernel_rfl) (by simp) ?_
        refine (AllReadyH.cons rfl (fun K hK => ?_) AllReadyH.nil)
        go_simp
        go_at_call 36
        refine (HASK.out _ _ HC.out).mono ?_
        rintro e W1a ⟨u, OB, rfl, hg, hrw⟩
        have HC := Lib.hid hg
        have HRW := Lib.hid hrw
        clear hg hrw
        refine hK.out _ _ (HS.out _ _ _ _ _ _ HC.out (fun r hr => by simp [hr])) (fun hHeld => ?_)
        clear hK K
        try simp only [Act.put, List.getElem_toArray, List.getElem_cons_zero, List.getElem_cons_succ, List.setIfInBounds_toArray, List.set_cons_zero, List.set_cons_succ]
        refine wpAnyH_ready (rs := [7]) (by kernel_rfl) (by simp) ?_
        refine (AllReadyH.cons rfl (fun K hK => ?_) AllReadyH.nil)
        go_simp
        go_at_call 32
        refine (HHEAR.out _ _ _ HC.out (fun r hr => by simp [hr]) (fun s1 f1 c1 n1 M1 os1 W hW hs => HRW.out s1 f1 c1 n1 M1 os1 W hW (fun r hr => hs r (by simp [hr])))).mono ?_
        rintro e W2a ⟨u2, rfl, hro, f2, c2, hg⟩
        have HC := Lib.hid hg
        have HRO := Lib.hid hro
        obtain ⟨A2, d2, rfl⟩ := row_form hro
        clear hg hro
        refine hK.out _ _ (HS.out _ _ _ _ _ _ HC.out (fun r hr => by simp [hr])) (fun hHeld => ?_)
        clear hK K
        try simp only [Act.put, List.getElem_toArray, List.getElem_cons_zero, List.getElem_cons_succ, List.setIfInBounds_toArray, List.set_cons_zero, List.set_cons_succ]
        refine wpAnyH_ready (rs := [8]) (by kernel_rfl) (by simp) ?_
        refine (AllReadyH.cons rfl (fun K hK => ?_) AllReadyH.nil)
        go_simp
        go_at_call 35
        refine (HREAD.out _ _ HRO.out).mono ?_
        rintro e W3a ⟨rfl, hb⟩
        have HC := Lib.hid ((HC.out.below hb).sub (os' := (V5.heap.size, .cells #[.int .i64 0, .int .i64 0, .int .i64 0, .int .i64 0, .int .u64 0, .int .i64 0, .int .i64 0, .int .u32 0] 64 (0, 0)) :: os0) (fun r hr => by rcases List.mem_cons.1 hr with hr | hr; (subst hr; simp); simp [hr]))
        clear hb
        refine hK.out _ _ (HS.out _ _ _ _ _ _ HC.out (fun r hr => by simp [hr])) (fun hHeld => ?_)
        clear hK K
        try simp only [Act.put, List.getElem_toArray, List.getElem_cons_zero, List.getElem_cons_succ, List.setIfInBounds_toArray, List.set_cons_zero, List.set_cons_succ]
        refine wpAnyH_take (i := 9) (oi := _) (v := ?_) rfl (by kernel_rfl) (by kernel_rfl) (by kernel_rfl) (fun _ _ _ h => h) (Or.inl ⟨by rfl, ?_⟩) (by assumption) ?_
        case refine_2 => intro w hSw; (try dsimp only at hSw); obtain ⟨k0, k1, kl⟩ := ad_cells hSw; clear hSw; go_simp; first | done | (with_reducible rfl)
        try simp only [Act.put, List.getElem_toArray, List.getElem_cons_zero, List.getElem_cons_succ, List.setIfInBounds_toArray, List.set_cons_zero, List.set_cons_succ]
        refine wpAnyH_take (i := 10) (oi := _) (v := ?_) rfl (by kernel_rfl) (by kernel_rfl) (by kernel_rfl) (fun _ _ _ h => h) (Or.inl ⟨by rfl, ?_⟩) (by assumption) ?_
        case refine_2 => intro w hSw; (try dsimp only at hSw); obtain ⟨k0, k1, kl⟩ := ad_cells hSw; clear hSw; go_simp; first | done | (with_reducible rfl)
        try simp only [Act.put, List.getElem_toArray, List.getElem_cons_zero, List.getElem_cons_succ, List.setIfInBounds_toArray, List.set_cons_zero, List.set_cons_succ]
        refine wpAnyH_take (i := 11) (oi := _) (v := ?_) rfl (by kernel_rfl) (by kernel_rfl) (by kernel_rfl) (fun _ _ _ h => h) (Or.inl ⟨by rfl, ?_⟩) (by assumption) ?_
        case refine_2 => intro w hSw; (try dsimp only at hSw); obtain ⟨k0, k1, kl⟩ := ad_cells hSw; clear hSw; go_simp; first | done | (with_reducible rfl)
        try simp only [Act.put, List.getElem_toArray, List.getElem_cons_zero, List.getElem_cons_succ, List.setIfInBounds_toArray, List.set_cons_zero, List.set_cons_succ]
        refine wpAnyH_ready (rs := [13]) (by kernel_rfl) (by simp) ?_
        refine (AllReadyH.cons rfl (fun K hK => ?_) AllReadyH.nil)
        have HU := Lib.hid (le_cells (l := Pp.zeroL) (g := V5.heap.size) (HC.out.held (p := (V5.heap.size, .cells #[.int .i64 0, .int .i64 0, .int .i64 0, .int .i64 0, .int .u64 0, .int .i64 0, .int .i64 0, .int .u32 0] 64 (0, 0))) List.mem_cons_self))
        obtain ⟨⟨y0, y1, y2, y3, y4, y5, y6, y7⟩, fz, yl⟩ := HU.out
        go_simp
        clear y0 y1 y2 y3 y4 y5 y6 y7 fz yl HU
        have HC := Lib.hid (HC.out.put8 L2 HN.out HLW.out (l0 := Pp.zeroL))
        refine hK.out _ _ (HS.out _ _ _ _ _ _ HC.out (fun r hr => by simp [hr])) (fun hHeld => ?_)
        clear hK K
        try simp only [Act.put, List.getElem_toArray, List.getElem_cons_zero, List.getElem_cons_succ, List.setIfInBounds_toArray, List.set_cons_zero, List.set_cons_succ]
        refine wpAnyH_take (i := 14) (oi := _) (v := ?_) rfl (by kernel_rfl) (by kernel_rfl) (by kernel_rfl) (fun _ _ _ h => h) (Or.inl ⟨by rfl, ?_⟩) (by assumption) ?_
        case refine_2 => intro w hSw; (try dsimp only at hSw); obtain ⟨k0, k1, kl⟩ := ad_cells hSw; clear hSw; go_simp; first | done | (with_reducible rfl)
        try simp only [Act.put, List.getElem_toArray, List.getElem_cons_zero, List.getElem_cons_succ, List.setIfInBounds_toArray, List.set_cons_zero, List.set_cons_succ]
        refine wpAnyH_done (by kernel_rfl) ?_ _
        go_wp2
        go_meet
        case rel => exact ⟨_, rfl, rfl, Lib.hid ⟨_, _, HC.out⟩⟩
    case rest =>
      obtain ⟨q2, rfl, rfl, HQ⟩ := hcut
      clear HASK HHEAR HREAD HG5 HS
      obtain ⟨f6, c6, hg6⟩ := HQ.out
      have hlv := live_ask (a := (s1.1, 6)) (p := 40000) (u := C + 5) (t := C) (by omega)
      have hal := all_gm hg6 (by rw [HM2.out]; exact ok_one _ _ _) C (by unfold goes; simp only [Bool.and_eq_true, decide_eq_true_eq]; omega)
      rw [show liveM M2 C = M2 by rw [HM2.out]; exact hlv] at hal
      have HALL := Lib.hid hal
      clear hg6 HQ hlv hal
      go_wp2_with fail
      refine HALL.out.mono ?_
      rintro e V7 ⟨⟨v, l7, rfl, hp7, hbs7⟩, hg7⟩
      rw [HM2.out] at hp7
      have e7 := List.perm_singleton.1 hp7
      subst e7
      have hy := le_cells (l := L2) (g := q2) (hg7.held (p := (q2, .cells (Pp.leA L2) 64 (0, 0))) List.mem_cons_self)
      rw [HL2.out] at hy
      dsimp only at hy
      obtain ⟨⟨y0, y1, y2, y3, y4, y5, y6, y7⟩, yf, yl⟩ := hy
      obtain ⟨bb7, c7, rfl, hb7, hc7⟩ := isBs_one hbs7
      have d1 : V7.cell? ⟨bb7, 1, none⟩ = some (.int .i64 6) := hc7 1 (by omega)
      have HL7 := Lib.hid hg7.low
      clear hp7 hbs7 hg7 HALL hc7
      go_wp2
      go_ret
      exact ⟨rfl, HL7.out⟩
  

/-! ### THE ROW's STEP: WRITTEN OUT: LEAVE IT -/
set_option maxRecDepth 100000 in
theorem lifted (os : Os) (started : os.Started) (H : Type) (enc : TypeId × Value → H) :
    ReturnsInHanded {} Try.checked os 11 .any (Rows.gateEpochsSpec.pre6 enc Try.prog Try.f11 Rows.gateEpochsRow.domain false) (Rows.gateEpochsSpec.post enc Try.prog Try.f11 false true false false) := by
  refine returnsInHanded_of_change (C := Try.checked) own started (by kernel_rfl) Try.func11
    (ChangeSpec.witness6 (enc := enc) (C := Try.checked) false ⟨#[], #[.agg #[.int .u16 0, .int .u16 0, .int .u16 0], .agg #[.int .u32 0, .int .i64 0]], []⟩ 8 (by kernel_rfl) (by kernel_rfl) (by kernel_rfl) (by kernel_rfl)) ?_
  intro W base args ds gs before hval0 hW hcnd _
  have hval : ∀ (j : Nat) t v, Try.f11.params[j]? = some t → args[j]? = some v → Value.okWide Try.prog W .any base t v := hval0
  have hW' := hW
  obtain ⟨p, q, hA0, hV, rfl, hfz, hnd⟩ := hW
  have hA : DataW.TrodAll enc Try.prog W 0 (fun _ => true) true Try.f11.params.toList args.toList ds p := hA0
  rw [Try.params11] at hA hval
  obtain ⟨v0, vs0, d0, ds0, p0, q0, hargs, rfl, rfl, h0, r0⟩ := trodAll_cons hA
  obtain ⟨v1, vs1, d1, ds1, p1, q1, rfl, rfl, rfl, h1, r1⟩ := trodAll_cons r0
  obtain ⟨rfl, rfl, rfl⟩ := trodAll_nil r1
  obtain rfl : args = #[v0, v1] := by cases args; simp_all
  obtain ⟨rfl, rfl⟩ := trodVars_none hV
  have k0 := h0
  have lt0 : ∀ x ∈ p0, x.block < W.heap.size := by obtain ⟨m, hm⟩ := k0; exact DataW.trod_lt m _ _ _ hm
  obtain ⟨s0, w0⟩ := open_tri (hval 0 84 v0 rfl rfl) h0
  have k1 := h1
  have lt1 : ∀ x ∈ p1, x.block < W.heap.size := by obtain ⟨m, hm⟩ := k1; exact DataW.trod_lt m _ _ _ hm
  obtain ⟨s1, w1⟩ := open_adr (hval 1 38 v1 rfl rfl) h1
  clear hA0 hval0
  refine (walk v0 s0 v1 s1 W w0 w1).mono fun e W' ⟨he, bel⟩ => ?_
  subst he
  exact ⟨_, rfl, _, _, _, [], _, [], hW', trodAll_mk1 (shut_bool Try.underlying4 _), (trodAll_cons_mk (Below.trod laidOut (by kernel_rfl) (of_decide_eq_true (by kernel_rfl)) k0 bel lt0) (trodAll_cons_mk (Below.trod laidOut (by kernel_rfl) (of_decide_eq_true (by kernel_rfl)) k1 bel lt1) trodAll_mk0)), rfl, bel.frame _, fun h => by cases h⟩

theorem over : Rows.gateEpochsRow.holds Try.pinned (OpenSpec.ofChange Rows.gateEpochsSpec) :=
  OpenClaim.holds_of_wide 11 Try.f11 rfl rfl rfl rfl rfl rfl rfl ⟨rfl, rfl, rfl, rfl, rfl⟩ rfl rfl rfl rfl rfl (by kernel_rfl) Try.func11 (by kernel_rfl)
    (of_decide_eq_true (by kernel_rfl)) (by unfold Func.isWrapper; first | (rw [if_pos (by decide +kernel)]; kernel_rfl) | (rw [if_neg (by decide +kernel)]; exact ⟨rfl, rfl⟩))
    (fun os started H enc _ => lifted os started H enc)

/-- ████ THE STATEMENT ████ -/
theorem proved : Rows.GateEpochsSaid := over
#print axioms proved
end Go.Proofs.Ytemlnkcokeckmaa.gateEpochs
