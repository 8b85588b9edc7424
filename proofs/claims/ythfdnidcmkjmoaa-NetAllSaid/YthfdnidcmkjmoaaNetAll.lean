/-
  What is told of all that is on its way may be written over, and stopped anywhere; what is sent meanwhile isn't told (60 datagrams). Condition: none beyond the statement's own.
-/
import Derived.IntWalk
import Derived.RangeFuncKeeps
import Derived.Test.YthfdnidcmkjmoaaRnt
import Derived.Test.YthfdnidcmkjmoaaNq
import Derived.Deep.RegionHeld
import Derived.Deep.Cut
import Derived.Test.YthfdnidcmkjmoaaNf
import Derived.Test.YthfdnidcmkjmoaaRows
import Derived.WalkKit
import Derived.ProofKit
import Derived.OpenShut
import Derived.ShutString
import Derived.ChangeOld
import Derived.Below
namespace Go.Proofs.Ythfdnidcmkjmoaa.netAll
open Go.ChangeShapes Go.WideShapes Go.ChangeAt Go.RowKit
open Go.ChangeMaps (open_string shut_string)
set_option linter.unusedVariables false

theorem own : ownKnob Try.prog.godebug = none := by kernel_rfl
theorem laidOut : laidOutB Try.prog = true := by kernel_rfl

attribute [local go_sem] Oper.semAt_some
set_option maxRecDepth 100000 in
set_option maxHeartbeats 20000000 in
theorem walk (v0 : Value) (s0 : List (List Int)) (a1 : Int) (w : World) (w0 : IsRws w v0 s0) (w1 : (Lit.int .u8 a1).wf = true) :
    Calls Try.prog 6 #[v0, .int .u8 a1] w fun e w' => e = .returned (.bool true) ∧ Below w.heap.size w w' := by
  obtain ⟨A0, c0, rfl, hlc, hcm, hat⟩ := w0
  obtain ⟨q0, q1⟩ := bounds_u8 w1
  obtain ⟨st, rfl⟩ := Int.eq_ofNat_of_zero_le q0
  have HAT := Lib.hid hat
  unfold maxLen at hcm
  clear hat w1
  have hb0 : Below w.heap.size w (w.alloc (.cells #[.int .u8 (st : Int)] 5)) := (Below.refl _ w).alloc (Nat.le_refl _) _
  have HB0 := Lib.hid hb0; clear hb0
  have HS0 : Hid ((w.alloc (.cells #[.int .u8 (st : Int)] 5)).heap[w.heap.size]? = some (.cells #[.int .u8 (st : Int)] 5 (0, 0))) := Lib.hid (World.alloc_heap_new w _)
  refine (callsIn_wide (n := 6)).1 ?_
  refine callsIn_of_wp_marks Try.func6 rfl trivial ?_ rfl
  refine wpIn_wide.2 ?_
  simp only [Try.ntmps6, List.size_toArray, List.length_cons, List.length_nil, Nat.reduceAdd, Nat.reduceSub, Array.replicate_succ, Array.replicate_zero, List.push_toArray, List.append_toArray, List.nil_append, List.cons_append]
  by_cases h60 : s0.length ≤ 60
  case neg =>
    have hz : ¬ (s0.length : Int) ≤ 60 := by omega
    go_wp2_with (go_at_call 7; refine (awake_any _).mono ?_; rintro e w1 ⟨rfl, hb1⟩; have HB1 := Lib.hid (HB0.out.trans (hb1.mono HB0.out.size)); clear hb1)
    exact ⟨.bool true, by simp [results, Try.results6, go_sem], rfl, HB1.out⟩
  have hz60 : (s0.length : Int) ≤ 60 := by omega
  go_wp2_with fail
  refine (awake_any _).mono ?_
  rintro e w1 ⟨rfl, hb1⟩
  have hN := new_p (w0 := w) (V := w1) [(w.heap.size, .cells #[.int .u8 (st : Int)] 5 (0, 0))] (HB0.out.trans (hb1.mono HB0.out.size)) (by intro p hp; simp at hp; subst hp; exact (hb1.block _ (by simp)).trans HS0.out)
  have HN := Lib.hid hN
  clear hN hb1
  go_wp2_with fail
  refine HN.out.mono ?_
  rintro e V1 ⟨rfl, hp1⟩
  have hp2 := hp1.box (k := V1.heap.size) #[.pointer (some ⟨w1.heap.size, 0, none⟩)] 25 rfl
  have hp3 := hp2.box (k := V1.heap.size + 1) #[.int .u32 1, .int .i64 1] 33 (by simp)
  obtain ⟨nb, hnb⟩ : ∃ nb, w1.heap.size = nb := ⟨_, rfl⟩
  obtain ⟨xb, hxb⟩ : ∃ xb, V1.heap.size = xb := ⟨_, rfl⟩
  obtain ⟨sb, hsb⟩ : ∃ sb, w.heap.size = sb := ⟨_, rfl⟩
  have HP3 := Lib.hid hp3
  rw [hnb, hxb] at HP3
  have HSB : Hid (sb = w.heap.size) := Lib.hid hsb.symm
  rw [show (w.heap.size, Obj.cells #[.int .u8 (st : Int)] 5 (0, 0)) = (sb, Obj.cells #[.int .u8 (st : Int)] 5 (0, 0)) by rw [hsb]] at HP3
  clear hp1 hp2 hp3 HN HS0
  go_upto_region 7 with (fail)
  try rw [hnb]
  try rw [hxb]
  try rw [hsb]
  generalize (V1.alloc (.cells #[.pointer (some ⟨nb, 0, none⟩)] 25)).alloc (.cells #[.int .u32 1, .int .i64 1] 33) = V3 at *
  clear hnb hxb hsb
  obtain ⟨ab, hab⟩ : ∃ ab, xb + 1 = ab := ⟨_, rfl⟩
  rw [hab] at HP3 ⊢
  clear hab
  go_wp2
  go_loopw [7] (fun s wr => ∃ j : Nat, j ≤ s0.length ∧ s = .int .i64 j ∧ Hid (Short s0 j) ∧ Hid (Pn w nb j (aM s0 0 j) [(ab, .cells #[.int .u32 1, .int .i64 1] 33 (0, 0)), (xb, .cells #[.pointer (some ⟨nb, 0, none⟩)] 25 (0, 0)), (sb, .cells #[.int .u8 (st : Int)] 5 (0, 0))] wr)) (fun s _ => s0.length - (intOf s).toNat)
  case atStart => exact ⟨0, Nat.zero_le _, rfl, Lib.hid (Short.zero _), HP3⟩
  case round =>
    obtain ⟨j, hj, rfl, HSH, HP⟩ := hrel
    clear HP3
    by_cases hjl : j < s0.length
    · have hz : (j : Int) < (s0.length : Int) := by omega
      obtain ⟨bb, off, rfl, hbl, hall⟩ := HAT.out (by omega)
      obtain ⟨u, hu, A', c', rfl, k1, k2, k3, k4⟩ := hall j hjl
      have r0 := (HP.out.low.cell (p := ⟨bb, off + j, none⟩) hbl).trans hu
      have hbl2 := World.block_lt_of_cell? wr _ r0
      dsimp only at hbl2
      have HBT := Lib.hid (k1.below HP.out.low); have HK4 := Lib.hid k4
      clear hall hu k1 k4
      obtain ⟨rr, hrr⟩ : ∃ rr, s0.getD j default = rr := ⟨_, rfl⟩
      rw [hrr] at r0 HBT HK4 k2
      have HRR := Lib.hid hrr; clear hrr
      by_cases hbig : rr.length ≤ 1200
      · have hbz : (rr.length : Int) ≤ 1200 := by omega
        have hok := aM_ok (ds := s0) (i := 0) (n := j) (k := j) (m := 0) HSH.out (by omega) (by omega) (by omega) (j : Int) (by omega)
        have e0 : eM j 0 = [] := rfl
        rw [e0, List.append_nil] at hok
        have hC := send_p HP.out.drew hok a11 a11 a11_is a11_is A' rr.length c' rr (HBT.out.drewN 1) HK4.out (by omega)
        have hsn := aM_send (ds := s0) (n := j) (by omega) (by rw [HRR.out]; exact hbig)
        rw [HRR.out] at hsn
        rw [hsn] at hC
        unfold twoV adr a11 at hC
        dsimp only at hC
        have HC := Lib.hid hC; have HSH2 := Lib.hid (HSH.out.succ (by rw [HRR.out]; exact hbig))
        obtain ⟨x0, xf⟩ := HP.out.cells (b := xb) (C := #[.pointer (some ⟨nb, 0, none⟩)]) (t := 25) (by simp) 0
        obtain ⟨a0, a1, al⟩ := HP.out.c2 (k := ab) (u := .int .u32 1) (v := .int .i64 1) (t := 33) (by simp)
        have xl := World.block_lt_of_cell? wr _ x0
        dsimp only at xl
        have HS0 : Hid ((wr.drew.cell? ⟨xb, 0, none⟩ = some (.pointer (some ⟨nb, 0, none⟩)) ∧ wr.drew.cell? ⟨ab, 0, none⟩ = some (.int .u32 1) ∧ wr.drew.cell? ⟨ab, 1, none⟩ = some (.int .i64 1) ∧ wr.drew.cell? ⟨bb, off + j, none⟩ = some (.slice A' rr.length c')) ∧ xb < wr.drew.heap.size ∧ ab < wr.drew.heap.size ∧ bb < wr.drew.heap.size) := Lib.hid ⟨⟨x0, a0, a1, r0⟩, xl, al, hbl2⟩
        have HLW := Lib.hid HP.out.low
        clear hC hok e0 hbig hsn
        go_upto_region 12 with (fail)
        refine Code.wp_mono (Q := OnlyN _) OnlyN.all ?_
        refine wp_region_held_drew (S := fun W => (W.cell? ⟨xb, 0, none⟩ = some (.pointer (some ⟨nb, 0, none⟩)) ∧ W.cell? ⟨ab, 0, none⟩ = some (.int .u32 1) ∧ W.cell? ⟨ab, 1, none⟩ = some (.int .i64 1) ∧ W.cell? ⟨bb, off + j, none⟩ = some (.slice A' rr.length c')) ∧ xb < W.heap.size ∧ ab < W.heap.size ∧ bb < W.heap.size) (by kernel_rfl) HS0.out (fun hHeld => ?_)
        refine wpAnyH_take (i := 0) (oi := _) (v := ?_) rfl (by kernel_rfl) (by kernel_rfl) (by kernel_rfl) (fun _ _ _ h => h) (Or.inl ⟨by rfl, ?_⟩) (by assumption) ?_
        case refine_2 => intro w hSw; obtain ⟨⟨p0, p1, p2, p3⟩, pl1, pl2, pl3⟩ := hSw; go_simp; first | done | (with_reducible rfl)
        try simp only [Act.put, List.getElem_toArray, List.getElem_cons_zero, List.setIfInBounds_toArray, List.set_cons_zero, List.set_cons_succ]
        refine wpAnyH_take (i := 1) (oi := _) (v := ?_) rfl (by kernel_rfl) (by kernel_rfl) (by kernel_rfl) (fun _ _ _ h => h) (Or.inl ⟨by rfl, ?_⟩) (by assumption) ?_
        case refine_2 => intro w hSw; obtain ⟨⟨p0, p1, p2, p3⟩, pl1, pl2, pl3⟩ := hSw; go_simp; first | done | (with_reducible rfl)
        try simp only [Act.put, List.getElem_toArray, List.getElem_cons_zero, List.getElem_cons_succ, List.setIfInBounds_toArray, List.set_cons_zero, List.set_cons_succ]
        refine wpAnyH_take (i := 2) (oi := _) (v := ?_) rfl (by kernel_rfl) (by kernel_rfl) (by kernel_rfl) (fun _ _ _ h => h) (Or.inl ⟨by rfl, ?_⟩) (by assumption) ?_
        case refine_2 => intro w hSw; obtain ⟨⟨p0, p1, p2, p3⟩, pl1, pl2, pl3⟩ := hSw; go_simp; first | done | (with_reducible rfl)
        try simp only [Act.put, List.getElem_toArray, List.getElem_cons_zero, List.getElem_cons_succ, List.setIfInBounds_toArray, List.set_cons_zero, List.set_cons_succ]
        refine wpAnyH_take (i := 3) (oi := _) (v := ?_) rfl (by kernel_rfl) (by kernel_rfl) (by kernel_rfl) (fun _ _ _ h => h) (Or.inl ⟨by rfl, ?_⟩) (by assumption) ?_
        case refine_2 => intro w hSw; obtain ⟨⟨p0, p1, p2, p3⟩, pl1, pl2, pl3⟩ := hSw; go_simp; first | done | (with_reducible rfl)
        try simp only [Act.put, List.getElem_toArray, List.getElem_cons_zero, List.getElem_cons_succ, List.setIfInBounds_toArray, List.set_cons_zero, List.set_cons_succ]
        refine wpAnyH_take (i := 4) (oi := _) (v := ?_) rfl (by kernel_rfl) (by kernel_rfl) (by kernel_rfl) (fun _ _ _ h => h) (Or.inl ⟨by rfl, ?_⟩) (by assumption) ?_
        case refine_2 => intro w hSw; obtain ⟨⟨p0, p1, p2, p3⟩, pl1, pl2, pl3⟩ := hSw; go_simp; first | done | (with_reducible rfl)
        try simp only [Act.put, List.getElem_toArray, List.getElem_cons_zero, List.getElem_cons_succ, List.setIfInBounds_toArray, List.set_cons_zero, List.set_cons_succ]
        refine wpAnyH_take (i := 5) (oi := _) (v := ?_) rfl (by kernel_rfl) (by kernel_rfl) (by kernel_rfl) (fun _ _ _ h => h) (Or.inl ⟨by rfl, ?_⟩) (by assumption) ?_
        case refine_2 => intro w hSw; obtain ⟨⟨p0, p1, p2, p3⟩, pl1, pl2, pl3⟩ := hSw; go_simp; first | done | (with_reducible rfl)
        try simp only [Act.put, List.getElem_toArray, List.getElem_cons_zero, List.getElem_cons_succ, List.setIfInBounds_toArray, List.set_cons_zero, List.set_cons_succ]
        refine wpAnyH_take (i := 6) (oi := _) (v := ?_) rfl (by kernel_rfl) (by kernel_rfl) (by kernel_rfl) (fun _ _ _ h => h) (Or.inl ⟨by rfl, ?_⟩) (by assumption) ?_
        case refine_2 => intro w hSw; obtain ⟨⟨p0, p1, p2, p3⟩, pl1, pl2, pl3⟩ := hSw; go_simp; first | done | (with_reducible rfl)
        try simp only [Act.put, List.getElem_toArray, List.getElem_cons_zero, List.getElem_cons_succ, List.setIfInBounds_toArray, List.set_cons_zero, List.set_cons_succ]
        refine wpAnyH_ready (rs := [7]) (by kernel_rfl) (by simp) ?_
        refine AllReadyH.cons rfl (fun K hK => ?_) AllReadyH.nil
        go_simp
        go_at_call 10
        refine HC.out.mono ?_
        rintro e W2 ⟨rfl, hp2⟩
        have HP2 := Lib.hid hp2
        have HS9 : Hid ((W2.cell? ⟨xb, 0, none⟩ = some (.pointer (some ⟨nb, 0, none⟩)) ∧ W2.cell? ⟨ab, 0, none⟩ = some (.int .u32 1) ∧ W2.cell? ⟨ab, 1, none⟩ = some (.int .i64 1) ∧ W2.cell? ⟨bb, off + j, none⟩ = some (.slice A' rr.length c')) ∧ xb < W2.heap.size ∧ ab < W2.heap.size ∧ bb < W2.heap.size) := Lib.hid (by have e := (hp2.low.cell (p := ⟨bb, off + j, none⟩) hbl).trans ((HLW.out.cell (p := ⟨bb, off + j, none⟩) hbl).symm.trans r0); have f := hp2.c2 (k := ab) (u := .int .u32 1) (v := .int .i64 1) (t := 33) (by simp); have g := hp2.cells (b := xb) (C := #[.pointer (some ⟨nb, 0, none⟩)]) (t := 25) (by simp) 0; exact ⟨⟨g.1, f.1, f.2.1, e⟩, World.block_lt_of_cell? W2 _ g.1, f.2.2, World.block_lt_of_cell? W2 _ e⟩)
        clear hp2 HC
        refine hK.out _ _ HS9.out (fun hHeld => ?_)
        clear hK K
        try simp only [Act.put, List.getElem_toArray, List.getElem_cons_zero, List.getElem_cons_succ, List.setIfInBounds_toArray, List.set_cons_zero, List.set_cons_succ]
        refine wpAnyH_done (by kernel_rfl) ?_ _
        dsimp only [OnlyN]
        go_wp2_with fail
        go_roundw
        case rel => exact ⟨j + 1, by omega, by go_num, HSH2, by have := HP2.out; rw [show ((j : Int) + 1) = ((j + 1 : Nat) : Int) by omega] at this; exact Lib.hid this⟩
        case measure => simp [intOf]; omega
      · have hbz : ¬ (rr.length : Int) ≤ 1200 := by omega
        have HLW := Lib.hid HP.out.low
        go_wp2
        exact ⟨.bool true, by simp [results, Try.results6, go_sem], rfl, HLW.out⟩
    · have hz : ¬ (j : Int) < (s0.length : Int) := by omega
      obtain rfl : j = s0.length := by omega
      have hok := aM_ok (ds := s0) (i := 0) (n := s0.length) (k := s0.length) (m := 0) HSH.out (by omega) (by omega) (by omega) (s0.length : Int) (by omega)
      have e0 : eM s0.length 0 = [] := rfl
      rw [e0, List.append_nil] at hok
      have hpn := HP.out.box (k := wr.heap.size) #[.int .i64 0] 3 rfl
      obtain ⟨x0, xf⟩ := hpn.cells (b := xb) (C := #[.pointer (some ⟨nb, 0, none⟩)]) (t := 25) (by simp) 0
      have xl := World.block_lt_of_cell? _ _ x0
      have hC := all_p hpn hok
      obtain ⟨nn, hnn⟩ : ∃ nn, wr.heap.size = nn := ⟨_, rfl⟩
      rw [hnn] at hC
      obtain ⟨kk, hkk⟩ : ∃ kk, s0.length = kk := ⟨_, rfl⟩
      have HKK := Lib.hid hkk
      obtain ⟨ro, hro⟩ : ∃ ro : List (Nat × Obj), [(ab, .cells #[.int .u32 1, .int .i64 1] 33 (0, 0)), (xb, .cells #[.pointer (some ⟨nb, 0, none⟩)] 25 (0, 0)), (sb, .cells #[.int .u8 (st : Int)] 5 (0, 0))] = ro := ⟨_, rfl⟩
      rw [hro] at hC
      have HRO := Lib.hid hro
      have HLT : Hid (∀ p ∈ (nn, Obj.cells #[.int .i64 0] 3 (0, 0)) :: ro, p.1 < nn + 1) := Lib.hid (fun p hp => by
        rw [← hro] at hp
        have := hpn.lt (p := p) (by rw [hnn]; exact hp)
        simp at this; omega)
      have HNW : Hid (w.heap.size ≤ nn) := Lib.hid (by rw [← hnn]; exact HP.out.low.size)
      have HNN : Hid (∀ p ∈ ro, p.1 ≠ nn) := Lib.hid (fun p hp e => by
        rw [← hro] at hp
        have := HP.out.lt (p := p) hp
        omega)
      have HOK := Lib.hid hok
      have HC := Lib.hid hC
      dsimp only at xl
      clear hok e0 hpn hC hro HP
      go_wp2_with fail
      try rw [hnn]
      refine HC.out.mono ?_
      rintro e Va ⟨b2, kv2, L, rfl, hL, hS, hpg, hog, hbv⟩
      have hsz : nn + 1 ≤ Va.heap.size := by have := hbv.size; simp at this; omega
      have hgl := hS.lts
      have hst := all1_tells 5 (by omega) b2 (blks b2 kv2 L) kv2 L Va hgl hS (fun g hg => hg) (by have := congrArg List.length hL; rw [List.length_map, aM_len] at this; omega) (fun m hm => HOK.out.sm m.d (by rw [← hL]; exact List.mem_map.2 ⟨m, hm, rfl⟩))
      rw [hkk] at hL hpg
      obtain ⟨gs, hgs⟩ : ∃ gs, blks b2 kv2 L = gs := ⟨_, rfl⟩
      rw [hgs] at hst hpg hog hgl
      have HPG := Lib.hid hpg; have HOG := Lib.hid hog; have HGL := Lib.hid hgl; have HL := Lib.hid hL; have HSZ := Lib.hid hsz
      have HLL : Hid (L.length = kk) := Lib.hid (by have := congrArg List.length hL; rwa [List.length_map, aM_len] at this)
      have HOSL : Hid (∀ (m : Int), ∀ p ∈ (nn, Obj.cells #[.int .i64 m] 3 (0, 0)) :: ro, p.1 < Va.heap.size) := Lib.hid (fun m p hp => by
        rcases List.mem_cons.1 hp with rfl | hp
        · simp only; omega
        · have := HLT.out p (List.mem_cons_of_mem _ hp); omega)
      have HWV : Hid (w.heap.size ≤ Va.heap.size) := Lib.hid (by have := HNW.out; omega)
      clear hgs hpg hog hL hsz hS hbv HC x0 xf xl hz
      go_wp2
      refine (wpIn_wide (n := 6)).1 ?_
      apply range_told4 (F := Fence.wide) (n := 6) (f := 32) (own := #[.pointer (some ⟨b2, 0, none⟩)]) ⟨rfl, by omega, trivial, enters_of Try.func32 (by kernel_rfl) rfl, hst⟩ rfl (Below.refl _ _) hgl (fun _ => rfl)
        (fun pre V => ∃ m, pre.length = m ∧ m ≤ kk ∧ Pg w nb ((kk : Int) + (m : Int)) (aM s0 0 kk ++ eM kk m) ((nn, .cells #[.int .i64 m] 3 (0, 0)) :: ro) gs Va V)
        (fun c pre V => c = .exit 2 ∧ ∃ m, pre.length = m ∧ m ≤ kk ∧ m = st ∧ Pg w nb ((kk : Int) + (m : Int)) (aM s0 0 kk ++ eM kk m) ((nn, .cells #[.int .i64 m] 3 (0, 0)) :: ro) gs Va V)
        ⟨fun s A C row ⟨m, h1, h2, h3⟩ hg hr => ⟨m, h1, h2, h3.own hg hr (HOSL.out _) HGL.out HWV.out⟩, fun c s A C row ⟨h0, m, h1, h2, h4, h3⟩ hg hr => ⟨h0, m, h1, h2, h4, h3.own hg hr (HOSL.out _) HGL.out HWV.out⟩⟩
        ⟨0, rfl, Nat.zero_le _, by have := HPG.out; have e0 : eM kk 0 = [] := rfl; rw [e0, List.append_nil]; simpa using this⟩
      case al => exact fun z => .cells (sentC z.d.no z.d.f z.d.t z.v) 43
      case hassign =>
        intro l z W g K hg hK
        simp only [encM]
        unfold sentC Md.v at *
        gi_wp2
        exact hK
      case hbody =>
        rintro l pre z V0 V1 d o o' g ⟨m, hm1, hm2, hPg⟩ hb hok hd ho hBd hdl hg -
        have hmk : m < kk := by
          obtain ⟨k, mm, hLk, hk, -⟩ := hok.1
          have h1 := (List.getElem?_eq_some_iff.1 hLk).1
          have h2 := HLL.out
          omega
        obtain ⟨os9, hp9, hoz, hgW, hgo⟩ := hPg.handed (o := o) hb hok hd ho hBd (HOSL.out m) HGL.out HWV.out hg (sentC z.d.no z.d.f z.d.t z.v) 43
        unfold sentC Md.v at hp9 hoz ⊢
        generalize ((V1.alloc (.cells #[.int .i64 z.d.no, .int .u32 z.d.f.1, .int .i64 z.d.f.2, .int .u32 z.d.t.1, .int .i64 z.d.t.2, .slice z.A z.d.b.length z.c] 43)).putObj d o) = W at *
        obtain ⟨rest, hrest⟩ : ∃ rest : List (Nat × Obj), (nn, Obj.cells #[.int .i64 (m : Int)] 3 (0, 0)) :: ro = rest := ⟨_, rfl⟩
        rw [hrest] at hp9 hoz hgo
        have HREST := Lib.hid hrest
        obtain ⟨zc, hzc⟩ : ∃ zc, (#[.int .i64 z.d.no, .int .u32 z.d.f.1, .int .i64 z.d.f.2, .int .u32 z.d.t.1, .int .i64 z.d.t.2, .slice z.A z.d.b.length z.c] : Array Value) = zc := ⟨_, rfl⟩
        rw [hzc] at hp9 hoz
        have HZ5 : Hid (zc[5]? = some (.slice z.A z.d.b.length z.c)) := Lib.hid (by rw [← hzc]; rfl)
        have HGO := Lib.hid hgo; have HM1 := Lib.hid hm1
        have hbts := hok.2.1.bts
        obtain ⟨-, hzn, hzcm, -⟩ := hbts
        have HLO : Hid (Kept gs false Va.heap.size W W ∧ ∃ os9, Pg w nb ((kk : Int) + (m : Int)) (aM s0 0 kk ++ eM kk m) (os9 ++ (g, .cells zc 43 (0, 0)) :: rest) gs Va W ∧ OwnZ z.A z.d.b.length w.heap.size gs ((g, .cells zc 43 (0, 0)) :: rest) os9) := Lib.hid ⟨Kept.refl _ _ _ _, os9, hp9, hoz⟩
        have HGSL : Hid (∀ W' : World, Va.heap.size ≤ W'.heap.size → ∀ g ∈ gs, g < W'.heap.size) := Lib.hid (fun W' h g hg => Nat.lt_of_lt_of_le (HGL.out g hg) h)
        clear hrest hzc hp9 hoz hgo hok hb hd ho hg hPg hm1 hdl hBd hst hgl
        generalize z.d.b.length = n at *
        generalize z.A = zA at *
        generalize z.c = zcc at *
        unfold maxLen at hzcm
        gi_wp2
        gi_loopw [10] (fun s wr => ∃ x : Nat, x ≤ n ∧ s = .int .i64 x ∧ Hid (Kept gs false Va.heap.size W wr ∧ ∃ os9, Pg w nb ((kk : Int) + (m : Int)) (aM s0 0 kk ++ eM kk m) (os9 ++ (g, .cells zc 43 (0, 0)) :: rest) gs Va wr ∧ OwnZ zA n w.heap.size gs ((g, .cells zc 43 (0, 0)) :: rest) os9)) (fun s _ => n - (intOf s).toNat)
        case atStart => exact ⟨0, Nat.zero_le _, rfl, HLO⟩
        case round =>
          obtain ⟨x, hx, rfl, HLO'⟩ := hrel
          clear HLO
          obtain ⟨hkp, os9, hp9, hoz⟩ := HLO'.out
          have y5 := (cells_of (hp9.held (g, .cells zc 43 (0, 0)) (by simp)) 5).1
          rw [HZ5.out] at y5
          have gl := World.block_lt_of_cell? wr _ y5
          dsimp only at gl
          by_cases hxn : x < n
          · have hz : (x : Int) < (n : Int) := by omega
            obtain ⟨gz, C, rfl, rfl, hgw, hgg, hgr, hCz⟩ := hoz (by omega)
            obtain ⟨zz, hzz⟩ := hCz x hxn
            have hp9' : Pg w nb ((kk : Int) + (m : Int)) (aM s0 0 kk ++ eM kk m) ((gz, .cells C 5 (0, 0)) :: (g, .cells zc 43 (0, 0)) :: rest) gs Va wr := hp9
            have hce := cells_of (hp9'.held (gz, .cells C 5 (0, 0)) (by simp)) x
            rw [hzz] at hce
            obtain ⟨g0, gf⟩ := hce
            have gzl := World.block_lt_of_cell? wr _ g0
            dsimp only at gzl
            have HKP := Lib.hid hkp; have HP9 := Lib.hid hp9'; have HGR := Lib.hid hgr; have HCZ := Lib.hid hCz; have HGG := Lib.hid hgg
            clear hkp hp9 hp9' hoz hgr hCz hzz HLO' hgg
            gi_wp2
            refine region_round_till (S := (fun W => (W.cell? ⟨g, 5, none⟩ = some (.slice (some ⟨gz, 0, none⟩) n zcc) ∧ W.cell? ⟨gz, x, none⟩ = some (.int .u8 zz) ∧ W.frozen? ⟨gz, x, none⟩ = false) ∧ g < W.heap.size ∧ gz < W.heap.size)) (z := 10) (by kernel_rfl) (by kernel_rfl) ⟨⟨y5, g0, gf⟩, gl, gzl⟩ (fun hHeld => ?_)
            refine till_take (i := 0) (oi := _) (v := ?_) [] rfl (by kernel_rfl) (by kernel_rfl) (by decide) (by kernel_rfl) (by kernel_rfl) (by kernel_rfl) (fun _ _ _ h => h) (Or.inl ⟨by rfl, ?_⟩) (by assumption) ?_
            case refine_2 => intro w hSw; obtain ⟨⟨p0, p1, p2⟩, pl1, pl2⟩ := hSw; go_simp; first | done | (with_reducible rfl)
            try simp only [Act.put, List.getElem_toArray, List.getElem_cons_zero, List.setIfInBounds_toArray, List.set_cons_zero, List.set_cons_succ]
            refine till_take (i := 1) (oi := _) (v := ?_) [] rfl (by kernel_rfl) (by kernel_rfl) (by decide) (by kernel_rfl) (by kernel_rfl) (by kernel_rfl) (fun _ _ _ h => h) (Or.inl ⟨by rfl, ?_⟩) (by assumption) ?_
            case refine_2 => intro w hSw; obtain ⟨⟨p0, p1, p2⟩, pl1, pl2⟩ := hSw; go_simp; first | done | (with_reducible rfl)
            try simp only [Act.put, List.getElem_toArray, List.getElem_cons_zero, List.getElem_cons_succ, List.setIfInBounds_toArray, List.set_cons_zero, List.set_cons_succ]
            refine till_take (i := 2) (oi := _) (v := ?_) [] rfl (by kernel_rfl) (by kernel_rfl) (by decide) (by kernel_rfl) (by kernel_rfl) (by kernel_rfl) (fun _ _ _ h => h) (Or.inl ⟨by rfl, ?_⟩) (by assumption) ?_
            case refine_2 => intro w hSw; obtain ⟨⟨p0, p1, p2⟩, pl1, pl2⟩ := hSw; go_simp; first | done | (with_reducible rfl)
            try simp only [Act.put, List.getElem_toArray, List.getElem_cons_zero, List.getElem_cons_succ, List.setIfInBounds_toArray, List.set_cons_zero, List.set_cons_succ]
            refine till_take (i := 3) (oi := _) (v := ?_) [] rfl (by kernel_rfl) (by kernel_rfl) (by decide) (by kernel_rfl) (by kernel_rfl) (by kernel_rfl) (fun _ _ _ h => h) (Or.inl ⟨by rfl, ?_⟩) (by assumption) ?_
            case refine_2 => intro w hSw; obtain ⟨⟨p0, p1, p2⟩, pl1, pl2⟩ := hSw; go_simp; first | done | (with_reducible rfl)
            try simp only [Act.put, List.getElem_toArray, List.getElem_cons_zero, List.getElem_cons_succ, List.setIfInBounds_toArray, List.set_cons_zero, List.set_cons_succ]
            refine till_take (i := 4) (oi := _) (v := ?_) [] rfl (by kernel_rfl) (by kernel_rfl) (by decide) (by kernel_rfl) (by kernel_rfl) (by kernel_rfl) (fun _ _ _ h => h) (Or.inl ⟨by rfl, ?_⟩) (by assumption) ?_
            case refine_2 => intro w hSw; obtain ⟨⟨p0, p1, p2⟩, pl1, pl2⟩ := hSw; go_simp; first | done | (with_reducible rfl)
            try simp only [Act.put, List.getElem_toArray, List.getElem_cons_zero, List.getElem_cons_succ, List.setIfInBounds_toArray, List.set_cons_zero, List.set_cons_succ]
            refine till_take (i := 5) (oi := _) (v := ?_) [] rfl (by kernel_rfl) (by kernel_rfl) (by decide) (by kernel_rfl) (by kernel_rfl) (by kernel_rfl) (fun _ _ _ h => h) (Or.inl ⟨by rfl, ?_⟩) (by assumption) ?_
            case refine_2 => intro w hSw; obtain ⟨⟨p0, p1, p2⟩, pl1, pl2⟩ := hSw; go_simp; first | done | (with_reducible rfl)
            try simp only [Act.put, List.getElem_toArray, List.getElem_cons_zero, List.getElem_cons_succ, List.setIfInBounds_toArray, List.set_cons_zero, List.set_cons_succ]
            refine till_take (i := 6) (oi := _) (v := ?_) [] rfl (by kernel_rfl) (by kernel_rfl) (by decide) (by kernel_rfl) (by kernel_rfl) (by kernel_rfl) (fun _ _ _ h => h) (Or.inl ⟨by rfl, ?_⟩) (by assumption) ?_
            case refine_2 => intro w hSw; obtain ⟨⟨p0, p1, p2⟩, pl1, pl2⟩ := hSw; go_simp; first | done | (with_reducible rfl)
            try simp only [Act.put, List.getElem_toArray, List.getElem_cons_zero, List.getElem_cons_succ, List.setIfInBounds_toArray, List.set_cons_zero, List.set_cons_succ]
            refine till_take (i := 7) (oi := _) (v := ?_) [] rfl (by kernel_rfl) (by kernel_rfl) (by decide) (by kernel_rfl) (by kernel_rfl) (by kernel_rfl) (fun _ _ _ h => h) (Or.inl ⟨by rfl, ?_⟩) (by assumption) ?_
            case refine_2 => intro w hSw; obtain ⟨⟨p0, p1, p2⟩, pl1, pl2⟩ := hSw; go_simp; first | done | (with_reducible rfl)
            try simp only [Act.put, List.getElem_toArray, List.getElem_cons_zero, List.getElem_cons_succ, List.setIfInBounds_toArray, List.set_cons_zero, List.set_cons_succ]
            refine till_take (i := 8) (oi := _) (v := ?_) [] rfl (by kernel_rfl) (by kernel_rfl) (by decide) (by kernel_rfl) (by kernel_rfl) (by kernel_rfl) (fun _ _ _ h => h) (Or.inl ⟨by rfl, ?_⟩) (by assumption) ?_
            case refine_2 => intro w hSw; obtain ⟨⟨p0, p1, p2⟩, pl1, pl2⟩ := hSw; go_simp; first | done | (with_reducible rfl)
            try simp only [Act.put, List.getElem_toArray, List.getElem_cons_zero, List.getElem_cons_succ, List.setIfInBounds_toArray, List.set_cons_zero, List.set_cons_succ]
            refine till_take (i := 9) (oi := _) (v := ?_) [] rfl (by kernel_rfl) (by kernel_rfl) (by decide) (by kernel_rfl) (by kernel_rfl) (by kernel_rfl) (fun _ _ _ h => h) (Or.inl ⟨by rfl, ?_⟩) (by assumption) ?_
            case refine_2 => intro w hSw; obtain ⟨⟨p0, p1, p2⟩, pl1, pl2⟩ := hSw; go_simp; first | done | (with_reducible rfl)
            try simp only [Act.put, List.getElem_toArray, List.getElem_cons_zero, List.getElem_cons_succ, List.setIfInBounds_toArray, List.set_cons_zero, List.set_cons_succ]
            refine till_ready (rs := [10]) (by kernel_rfl) (by simp) ?_
            refine TillReady.past rfl (by kernel_rfl) (fun K hK => ?_) TillReady.nil
            go_simp
            refine hK.out _ _ ?_
            clear hK K
            try simp only [Act.put, List.getElem_toArray, List.getElem_cons_zero, List.getElem_cons_succ, List.setIfInBounds_toArray, List.set_cons_zero, List.set_cons_succ]
            refine till_done (by kernel_rfl) ?_ _
            clear hHeld
            dsimp only [OnlyN]
            gi_wp2
            go_roundw
            case rel => exact ⟨x + 1, by omega, by go_num, Lib.hid ⟨HKP.out.trans (Kept.keeps (S := fun k => k = gz) ((Keeps.all (below_drw (Below.refl _ wr) 1)).trans (Keeps.set (S := fun k => k = gz) (Keeps.refl _ _) gz x _ rfl)) (HGSL.out wr HP9.out.size) (fun g' hg' e => HGG.out (e ▸ hg')) (fun k e _ => by subst e; exact ⟨_, HP9.out.held (k, .cells C 5 (0, 0)) (by simp), rfl⟩)), [(gz, .cells (C.setIfInBounds x _) 5 (0, 0))], (HP9.out.below (below_drw (Below.refl _ wr) 1)).store HGR.out hgw HGG.out, fun _ => ⟨gz, _, rfl, rfl, hgw, HGG.out, HGR.out, fun y hy => by
              by_cases e : y = x
              · subst e
                obtain ⟨z', hz'⟩ := HCZ.out y hy
                have := (Array.getElem?_eq_some_iff.1 hz').1
                exact ⟨_, by rw [Array.getElem?_setIfInBounds_self_of_lt this]⟩
              · rw [Array.getElem?_setIfInBounds_ne (Ne.symm e)]
                exact HCZ.out y hy⟩⟩⟩
            case measure => simp [intOf]; omega
          · have hz : ¬ (x : Int) < (n : Int) := by omega
            have hpr := hp9.sub (os' := rest) (fun p hp => by simp [hp])
            have hkk := HKK.out
            have hok : OkD (aM s0 0 kk ++ eM kk m) ((kk : Int) + (m : Int)) := aM_ok (ds := s0) (k := kk) (by have := HSH.out; rwa [hkk] at this) (by omega) (by omega) (by omega) _ (by omega)
            obtain ⟨x0, xf⟩ := hpr.pn.cells (b := xb) (C := #[.pointer (some ⟨nb, 0, none⟩)]) (t := 25) (by rw [← HREST.out, ← HRO.out]; simp) 0
            obtain ⟨a0, a1, al⟩ := hpr.pn.c2 (k := ab) (u := .int .u32 1) (v := .int .i64 1) (t := 33) (by rw [← HREST.out, ← HRO.out]; simp)
            have xl := World.block_lt_of_cell? wr _ x0
            have hC := send_g hpr hok a11 a11 a11_is a11_is none 0 0 [] ⟨rfl, by simp, fun h => by omega⟩ (fun _ => ⟨rfl, rfl⟩) (by omega)
            rw [eM_send (by omega) (by omega)] at hC
            unfold twoV adr a11 at hC
            dsimp only at hC xl
            have HC := Lib.hid hC; have HKP := Lib.hid hkp; have HPR := Lib.hid hpr
            clear hpr hok hC hp9 hoz HLO' hkp hkk
            gi_wp2_with fail
            refine ⟨trivial, ?_⟩
            refine (CallsIn.inRound l (callsIn_wide.2 HC.out)).mono ?_
            rintro e W2 ⟨rfl, hp2, kv, t1, t2, t3, t4⟩
            have hk2 : Kept gs false Va.heap.size W W2 := HKP.out.trans (Kept.keeps t3 (HGSL.out wr HPR.out.size) t1 (fun k hS hl => by
              obtain ⟨C, t, e⟩ := t4 k hS
              exact ⟨_, e, rfl⟩))
            rw [← HREST.out] at hp2
            have hst := hp2.store (j := 0) (v := .int .i64 ((m : Int) + 1)) HNN.out HNW.out (fun hg => HOG.out (nn, .cells #[.int .i64 0] 3 (0, 0)) (by simp) hg)
            have hk3 : Kept gs false Va.heap.size W (W2.setCell ⟨nn, 0, none⟩ (.int .i64 ((m : Int) + 1))) := hk2.trans (Kept.keeps (S := fun k => k = nn) (Keeps.set (S := fun k => k = nn) (Keeps.refl _ _) nn 0 _ rfl) (HGSL.out W2 hp2.size) (fun g' hg' e => HOG.out (nn, .cells #[.int .i64 0] 3 (0, 0)) (by simp) (e ▸ hg')) (fun k e _ => by subst e; exact ⟨_, hp2.held (k, .cells #[.int .i64 (m : Int)] 3 (0, 0)) (by simp), rfl⟩))
            have n0 := (hp2.pn.cells (b := nn) (C := #[.int .i64 (m : Int)]) (t := 3) (by simp) 0)
            have b0 := (hst.pn.cells (b := sb) (C := #[.int .u8 (st : Int)]) (t := 5) (by rw [← HRO.out]; simp) 0).1
            have nl := hp2.pn.lt (p := (nn, .cells #[.int .i64 (m : Int)] 3 (0, 0))) (by simp)
            have bl := World.block_lt_of_cell? _ _ b0
            have e1 : (kk : Int) + (m : Int) + 1 = (kk : Int) + ((m + 1 : Nat) : Int) := by omega
            have e2 : ((m : Int) + 1) = ((m + 1 : Nat) : Int) := by omega
            have HST : Hid (Pg w nb ((kk : Int) + ((m + 1 : Nat) : Int)) (aM s0 0 kk ++ eM kk (m + 1)) ((nn, .cells #[.int .i64 ((m + 1 : Nat) : Int)] 3 (0, 0)) :: ro) gs Va (W2.setCell ⟨nn, 0, none⟩ (.int .i64 ((m : Int) + 1)))) := Lib.hid (by
              have := hst
              rw [e1] at this
              rw [← e2]
              exact this)
            have HK3 := Lib.hid hk3
            obtain ⟨n0, nf⟩ := n0
            simp at n0 b0
            dsimp only at nl bl
            have hpl : (pre ++ [z]).length = m + 1 := by rw [List.length_append, HM1.out]; rfl
            clear hp2 t1 t2 t3 t4 hk2 hst hk3 HC x0 xf a0 a1 al xl e1 e2
            by_cases hms : m + 1 = st
            · have hmz : ((m : Int) + 1 == (st : Int)) = true := by rw [beq_iff_eq]; omega
              gi_wp2
              exact ⟨HK3.out, rfl, m + 1, hpl, by omega, hms, HST.out⟩
            · have hmz : ((m : Int) + 1 == (st : Int)) = false := by rw [beq_eq_false_iff_ne]; omega
              gi_wp2
              exact ⟨HK3.out, m + 1, hpl, by omega, HST.out⟩
      case hstop =>
        rintro D c pre W hD - ⟨rfl, m, hm1, hm2, hms, hPg⟩ hK
        have hor : m = kk ∨ m = st := .inr hms
        have HPG9 := Lib.hid hPg; have HK := Lib.hid hK
        clear hPg hK hm1 hms hst hgl
        refine (wpIn_wide (n := 6)).2 ?_
        have HP9 : Hid (Pn w nb ((kk : Int) + (m : Int)) (aM s0 0 kk ++ eM kk m) ((D, .deferred (some [])) :: (nn, .cells #[.int .i64 (m : Int)] 3 (0, 0)) :: ro) W) := Lib.hid (HPG9.out.pn.hold HK.out (fun kv L h1 _ _ hf => by
          obtain ⟨C, t, e1, -⟩ := foot_kindA h1 hf
          rw [HK.out] at e1
          cases e1))
        have HDW : Hid (w.heap.size ≤ D) := Lib.hid (Nat.le_trans HWV.out hD)
        obtain ⟨rest, hrest⟩ : ∃ rest : List (Nat × Obj), (D, Obj.deferred (some [])) :: (nn, Obj.cells #[.int .i64 (m : Int)] 3 (0, 0)) :: ro = rest := ⟨_, rfl⟩
        rw [hrest] at HP9
        have HREST : Hid (rest = (D, Obj.deferred (some [])) :: (nn, Obj.cells #[.int .i64 (m : Int)] 3 (0, 0)) :: ro) := Lib.hid hrest.symm
        have n0 := (HP9.out.cells (b := nn) (C := #[.int .i64 (m : Int)]) (t := 3) (by rw [← hrest]; simp) 0).1
        have b0 := (HP9.out.cells (b := sb) (C := #[.int .u8 (st : Int)]) (t := 5) (by rw [← hrest, ← HRO.out]; simp) 0).1
        have x0 := (HP9.out.cells (b := xb) (C := #[.pointer (some ⟨nb, 0, none⟩)]) (t := 25) (by rw [← hrest, ← HRO.out]; simp) 0).1
        have nl := World.block_lt_of_cell? _ _ n0
        have bl := World.block_lt_of_cell? _ _ b0
        have xl := World.block_lt_of_cell? _ _ x0
        have hcn := count_p HP9.out.drew
        rw [List.length_append, aM_len, eM_len] at hcn
        obtain ⟨cz, hcz⟩ : ∃ z : Int, ((kk + m : Nat) : Int) = z := ⟨_, rfl⟩
        rw [hcz] at hcn
        have HCZ := Lib.hid hcz
        have HCN := Lib.hid hcn
        dsimp only at nl bl xl
        simp at n0 b0 x0
        have HS23 : Hid ((W.drew.cell? ⟨nn, 0, none⟩ = some (.int .i64 (m : Int)) ∧ W.drew.cell? ⟨sb, 0, none⟩ = some (.int .u8 (st : Int)) ∧ W.drew.cell? ⟨xb, 0, none⟩ = some (.pointer (some ⟨nb, 0, none⟩))) ∧ nn < W.drew.heap.size ∧ sb < W.drew.heap.size ∧ xb < W.drew.heap.size) := Lib.hid ⟨⟨n0, b0, x0⟩, nl, bl, xl⟩
        clear hrest hcn hcz
        go_upto_region 23 with (fail)
        refine Code.wp_mono (Q := OnlyN _) OnlyN.all ?_
        have hk60 : kk ≤ 60 := by rw [← HKK.out]; exact h60
        have hw1 : IntKind.i64.wrap ((kk : Int) + (m : Int)) = (kk : Int) + (m : Int) := IntWalk.i64_in _ (by omega)
        have hw2 : IntKind.i64.wrap ((kk : Int) + (kk : Int)) = (kk : Int) + (kk : Int) := IntWalk.i64_in _ (by omega)
        have hw3 : IntKind.i64.wrap (st : Int) = (st : Int) := IntWalk.i64_in _ (by omega)
        by_cases hmk : m = kk
        · have hz1 : (((m : Int)) != (kk : Int)) = false := by simp [hmk]
          have hz2 : (cz != (kk : Int) + (m : Int)) = false := by rw [bne_eq_false_iff_eq, ← HCZ.out]; omega
          have hz4 : (cz != (kk : Int) + (kk : Int)) = false := by rw [bne_eq_false_iff_eq, ← HCZ.out]; omega
          refine wp_region_held_drew (S := fun W => (W.cell? ⟨nn, 0, none⟩ = some (.int .i64 (m : Int)) ∧ W.cell? ⟨sb, 0, none⟩ = some (.int .u8 (st : Int)) ∧ W.cell? ⟨xb, 0, none⟩ = some (.pointer (some ⟨nb, 0, none⟩))) ∧ nn < W.heap.size ∧ sb < W.heap.size ∧ xb < W.heap.size) (by kernel_rfl) HS23.out (fun hHeld => ?_)
          refine wpAnyH_take (i := 0) (oi := _) (v := ?_) rfl (by kernel_rfl) (by kernel_rfl) (by kernel_rfl) (fun _ _ _ h => h) (Or.inl ⟨by rfl, ?_⟩) (by assumption) ?_
          case refine_2 => intro w hSw; obtain ⟨⟨p0, p1, p2⟩, pl1, pl2, pl3⟩ := hSw; go_simp; first | done | (with_reducible rfl)
          try simp only [Act.put, List.getElem_toArray, List.getElem_cons_zero, List.setIfInBounds_toArray, List.set_cons_zero, List.set_cons_succ]
          refine wpAnyH_take (i := 1) (oi := _) (v := ?_) rfl (by kernel_rfl) (by kernel_rfl) (by kernel_rfl) (fun _ _ _ h => h) (Or.inl ⟨by rfl, ?_⟩) (by assumption) ?_
          case refine_2 => intro w hSw; obtain ⟨⟨p0, p1, p2⟩, pl1, pl2, pl3⟩ := hSw; go_simp; first | done | (with_reducible rfl)
          try simp only [Act.put, List.getElem_toArray, List.getElem_cons_zero, List.getElem_cons_succ, List.setIfInBounds_toArray, List.set_cons_zero, List.set_cons_succ]
          refine wpAnyH_take (i := 2) (oi := _) (v := ?_) rfl (by kernel_rfl) (by kernel_rfl) (by kernel_rfl) (fun _ _ _ h => h) (Or.inl ⟨by rfl, ?_⟩) (by assumption) ?_
          case refine_2 => intro w hSw; obtain ⟨⟨p0, p1, p2⟩, pl1, pl2, pl3⟩ := hSw; go_simp; first | done | (with_reducible rfl)
          try simp only [Act.put, List.getElem_toArray, List.getElem_cons_zero, List.getElem_cons_succ, List.setIfInBounds_toArray, List.set_cons_zero, List.set_cons_succ]
          refine wpAnyH_take (i := 3) (oi := _) (v := ?_) rfl (by kernel_rfl) (by kernel_rfl) (by kernel_rfl) (fun _ _ _ h => h) (Or.inl ⟨by rfl, ?_⟩) (by assumption) ?_
          case refine_2 => intro w hSw; obtain ⟨⟨p0, p1, p2⟩, pl1, pl2, pl3⟩ := hSw; go_simp; first | done | (with_reducible rfl)
          try simp only [Act.put, List.getElem_toArray, List.getElem_cons_zero, List.getElem_cons_succ, List.setIfInBounds_toArray, List.set_cons_zero, List.set_cons_succ]
          refine wpAnyH_take (i := 4) (oi := _) (v := ?_) rfl (by kernel_rfl) (by kernel_rfl) (by kernel_rfl) (fun _ _ _ h => h) (Or.inl ⟨by rfl, ?_⟩) (by assumption) ?_
          case refine_2 => intro w hSw; obtain ⟨⟨p0, p1, p2⟩, pl1, pl2, pl3⟩ := hSw; go_simp; first | done | (with_reducible rfl)
          try simp only [Act.put, List.getElem_toArray, List.getElem_cons_zero, List.getElem_cons_succ, List.setIfInBounds_toArray, List.set_cons_zero, List.set_cons_succ]
          refine wpAnyH_take (i := 5) (oi := _) (v := undef) rfl (by kernel_rfl) (by kernel_rfl) (by kernel_rfl) (fun _ _ _ h => h) (Or.inr ⟨by rfl, rfl⟩) (by assumption) ?_
          try simp only [Act.put, List.getElem_toArray, List.getElem_cons_zero, List.getElem_cons_succ, List.setIfInBounds_toArray, List.set_cons_zero, List.set_cons_succ]
          refine wpAnyH_take (i := 6) (oi := _) (v := undef) rfl (by kernel_rfl) (by kernel_rfl) (by kernel_rfl) (fun _ _ _ h => h) (Or.inr ⟨by rfl, rfl⟩) (by assumption) ?_
          try simp only [Act.put, List.getElem_toArray, List.getElem_cons_zero, List.getElem_cons_succ, List.setIfInBounds_toArray, List.set_cons_zero, List.set_cons_succ]
          refine wpAnyH_take (i := 7) (oi := _) (v := undef) rfl (by kernel_rfl) (by kernel_rfl) (by kernel_rfl) (fun _ _ _ h => h) (Or.inr ⟨by rfl, rfl⟩) (by assumption) ?_
          try simp only [Act.put, List.getElem_toArray, List.getElem_cons_zero, List.getElem_cons_succ, List.setIfInBounds_toArray, List.set_cons_zero, List.set_cons_succ]
          refine wpAnyH_take (i := 8) (oi := _) (v := undef) rfl (by kernel_rfl) (by kernel_rfl) (by kernel_rfl) (fun _ _ _ h => h) (Or.inr ⟨by rfl, rfl⟩) (by assumption) ?_
          try simp only [Act.put, List.getElem_toArray, List.getElem_cons_zero, List.getElem_cons_succ, List.setIfInBounds_toArray, List.set_cons_zero, List.set_cons_succ]
          refine wpAnyH_take (i := 9) (oi := _) (v := ?_) rfl (by kernel_rfl) (by kernel_rfl) (by kernel_rfl) (fun _ _ _ h => h) (Or.inl ⟨by rfl, ?_⟩) (by assumption) ?_
          case refine_2 => intro w hSw; obtain ⟨⟨p0, p1, p2⟩, pl1, pl2, pl3⟩ := hSw; go_simp; first | done | (with_reducible rfl)
          try simp only [Act.put, List.getElem_toArray, List.getElem_cons_zero, List.getElem_cons_succ, List.setIfInBounds_toArray, List.set_cons_zero, List.set_cons_succ]
          refine wpAnyH_take (i := 10) (oi := _) (v := ?_) rfl (by kernel_rfl) (by kernel_rfl) (by kernel_rfl) (fun _ _ _ h => h) (Or.inl ⟨by rfl, ?_⟩) (by assumption) ?_
          case refine_2 => intro w hSw; obtain ⟨⟨p0, p1, p2⟩, pl1, pl2, pl3⟩ := hSw; go_simp; first | done | (with_reducible rfl)
          try simp only [Act.put, List.getElem_toArray, List.getElem_cons_zero, List.getElem_cons_succ, List.setIfInBounds_toArray, List.set_cons_zero, List.set_cons_succ]
          refine wpAnyH_take (i := 11) (oi := _) (v := ?_) rfl (by kernel_rfl) (by kernel_rfl) (by kernel_rfl) (fun _ _ _ h => h) (Or.inl ⟨by rfl, ?_⟩) (by assumption) ?_
          case refine_2 => intro w hSw; obtain ⟨⟨p0, p1, p2⟩, pl1, pl2, pl3⟩ := hSw; go_simp; first | done | (with_reducible rfl)
          try simp only [Act.put, List.getElem_toArray, List.getElem_cons_zero, List.getElem_cons_succ, List.setIfInBounds_toArray, List.set_cons_zero, List.set_cons_succ]
          refine wpAnyH_take (i := 13) (oi := _) (v := ?_) rfl (by kernel_rfl) (by kernel_rfl) (by kernel_rfl) (fun _ _ _ h => h) (Or.inl ⟨by rfl, ?_⟩) (by assumption) ?_
          case refine_2 => intro w hSw; obtain ⟨⟨p0, p1, p2⟩, pl1, pl2, pl3⟩ := hSw; go_simp; first | done | (with_reducible rfl)
          try simp only [Act.put, List.getElem_toArray, List.getElem_cons_zero, List.getElem_cons_succ, List.setIfInBounds_toArray, List.set_cons_zero, List.set_cons_succ]
          refine wpAnyH_take (i := 14) (oi := _) (v := ?_) rfl (by kernel_rfl) (by kernel_rfl) (by kernel_rfl) (fun _ _ _ h => h) (Or.inl ⟨by rfl, ?_⟩) (by assumption) ?_
          case refine_2 => intro w hSw; obtain ⟨⟨p0, p1, p2⟩, pl1, pl2, pl3⟩ := hSw; go_simp; first | done | (with_reducible rfl)
          try simp only [Act.put, List.getElem_toArray, List.getElem_cons_zero, List.getElem_cons_succ, List.setIfInBounds_toArray, List.set_cons_zero, List.set_cons_succ]
          refine wpAnyH_take (i := 15) (oi := _) (v := ?_) rfl (by kernel_rfl) (by kernel_rfl) (by kernel_rfl) (fun _ _ _ h => h) (Or.inl ⟨by rfl, ?_⟩) (by assumption) ?_
          case refine_2 => intro w hSw; obtain ⟨⟨p0, p1, p2⟩, pl1, pl2, pl3⟩ := hSw; go_simp; first | done | (with_reducible rfl)
          try simp only [Act.put, List.getElem_toArray, List.getElem_cons_zero, List.getElem_cons_succ, List.setIfInBounds_toArray, List.set_cons_zero, List.set_cons_succ]
          refine wpAnyH_take (i := 16) (oi := _) (v := ?_) rfl (by kernel_rfl) (by kernel_rfl) (by kernel_rfl) (fun _ _ _ h => h) (Or.inl ⟨by rfl, ?_⟩) (by assumption) ?_
          case refine_2 => intro w hSw; obtain ⟨⟨p0, p1, p2⟩, pl1, pl2, pl3⟩ := hSw; go_simp; first | done | (with_reducible rfl)
          try simp only [Act.put, List.getElem_toArray, List.getElem_cons_zero, List.getElem_cons_succ, List.setIfInBounds_toArray, List.set_cons_zero, List.set_cons_succ]
          refine wpAnyH_ready (rs := [12]) (by kernel_rfl) (by simp) ?_
          refine AllReadyH.cons rfl (fun K hK => ?_) AllReadyH.nil
          go_simp
          go_at_call 20
          refine HCN.out.mono ?_
          rintro e W2 ⟨rfl, rfl⟩
          refine hK.out _ _ HS23.out (fun hHeld => ?_)
          clear hK K
          try simp only [Act.put, List.getElem_toArray, List.getElem_cons_zero, List.getElem_cons_succ, List.setIfInBounds_toArray, List.set_cons_zero, List.set_cons_succ]
          refine wpAnyH_take (i := 17) (oi := _) (v := ?_) rfl (by kernel_rfl) (by kernel_rfl) (by kernel_rfl) (fun _ _ _ h => h) (Or.inl ⟨by rfl, ?_⟩) (by assumption) ?_
          case refine_2 => intro w hSw; obtain ⟨⟨p0, p1, p2⟩, pl1, pl2, pl3⟩ := hSw; go_simp; first | done | (with_reducible rfl)
          try simp only [Act.put, List.getElem_toArray, List.getElem_cons_zero, List.getElem_cons_succ, List.setIfInBounds_toArray, List.set_cons_zero, List.set_cons_succ]
          refine wpAnyH_take (i := 18) (oi := _) (v := ?_) rfl (by kernel_rfl) (by kernel_rfl) (by kernel_rfl) (fun _ _ _ h => h) (Or.inl ⟨by rfl, ?_⟩) (by assumption) ?_
          case refine_2 => intro w hSw; obtain ⟨⟨p0, p1, p2⟩, pl1, pl2, pl3⟩ := hSw; go_simp; first | done | (with_reducible rfl)
          try simp only [Act.put, List.getElem_toArray, List.getElem_cons_zero, List.getElem_cons_succ, List.setIfInBounds_toArray, List.set_cons_zero, List.set_cons_succ]
          refine wpAnyH_done (by kernel_rfl) ?_ _
          dsimp only [OnlyN]
          clear n0 b0 x0 nl bl xl HS23 HCN hHeld
          have HP8 := Lib.hid HP9.out.drew
          generalize W.drew = Wd at *
          have hkk := HKK.out
          go_wp2
          clear hk60 hw1 hw2 hw3
          go_loopw [11] (fun s wr => ∃ j : Nat, j ≤ kk ∧ s = .int .i64 j ∧ Hid (Pn w nb ((kk : Int) + (m : Int)) (aM s0 j (kk - j) ++ eM kk m) rest wr)) (fun s _ => kk - (intOf s).toNat)
          case atStart => exact ⟨0, Nat.zero_le _, rfl, HP8⟩
          case round =>
            obtain ⟨j, hj, rfl, HPJ⟩ := hrel
            clear HP8 hz1 hz2 hz4
            by_cases hjl : j < kk
            · have hz : (j : Int) < (kk : Int) := by omega
              obtain ⟨n1, hn1⟩ : ∃ n1, kk - j = n1 + 1 := ⟨kk - j - 1, by omega⟩
              have hp := HPJ.out
              rw [hn1] at hp
              have hSH := HSH.out
              rw [hkk] at hSH
              have hC := take_q hp (aM_ok (ds := s0) (k := kk) hSH (by omega) (by omega) (by omega) _ (by omega)) ((j : Int) + 1)
              rw [aM_take (by omega)] at hC
              obtain ⟨rr, hrr⟩ : ∃ rr, s0.getD j default = rr := ⟨_, rfl⟩
              unfold takeV sentC aD a11 at hC
              dsimp only at hC
              rw [hrr] at hC
              have hrl := hSH j (by omega)
              rw [hrr] at hrl
              obtain ⟨bb, off, rfl, hbl, hall⟩ := HAT.out (by omega)
              obtain ⟨u, hu, A', c', rfl, k1, k2, k3, k4⟩ := hall j (by omega)
              rw [hrr] at hu k1 k2 k4
              have x0 := (hp.cells (b := xb) (C := #[.pointer (some ⟨nb, 0, none⟩)]) (t := 25) (by rw [HREST.out, ← HRO.out]; simp) 0).1
              have xl := World.block_lt_of_cell? _ _ x0
              simp at x0
              dsimp only at xl
              have HC := Lib.hid hC; have HU := Lib.hid hu; have HK1 := Lib.hid k1
              have hmn : kk - (j + 1) = n1 := by omega
              have HMN := Lib.hid hmn
              clear hC hp hSH hall hu k1 k4 HPJ hrr hmn hn1
              go_wp2_with fail
              refine HC.out.mono ?_
              rintro e W3 ⟨A3, c3, osb, rfl, hp3, hbt3⟩
              have hp4 := hp3.box (k := W3.heap.size) (sentC ((j : Int) + 1) (1, 1) (1, 1) (.slice A3 rr.length c3)) 43 rfl
              unfold sentC at hp4
              have y5 := (hp4.cells (b := W3.heap.size) (C := #[.int .i64 ((j : Int) + 1), .int .u32 1, .int .i64 1, .int .u32 1, .int .i64 1, .slice A3 rr.length c3]) (t := 43) (by simp) 5).1
              have r0 := (hp4.low.cell (p := ⟨bb, off + j, none⟩) hbl).trans HU.out
              have yl := World.block_lt_of_cell? _ _ y5
              have rl := World.block_lt_of_cell? _ _ r0
              have hbtW := hbt3 _ (fun p hp' => hp4.drew.held p (by simp [hp']))
              have hsm := same_self A3 A' rr.length c3 c' rr _ (by unfold maxLen; omega) hbtW ((HK1.out.below hp4.low).drewN 1)
              have HSM := Lib.hid hsm
              have hps := hp4.sub (os' := rest) (fun p hp' => by simp [hp'])
              have HPS := Lib.hid hps
              simp at y5
              dsimp only at yl rl
              obtain ⟨sx, hsx⟩ : ∃ sx, W3.heap.size = sx := ⟨_, rfl⟩
              have HS29 : Hid (((W3.alloc (.cells #[.int .i64 ((j : Int) + 1), .int .u32 1, .int .i64 1, .int .u32 1, .int .i64 1, .slice A3 rr.length c3] 43)).drew.cell? ⟨sx, 5, none⟩ = some (.slice A3 rr.length c3) ∧ (W3.alloc (.cells #[.int .i64 ((j : Int) + 1), .int .u32 1, .int .i64 1, .int .u32 1, .int .i64 1, .slice A3 rr.length c3] 43)).drew.cell? ⟨bb, off + j, none⟩ = some (.slice A' rr.length c')) ∧ sx < (W3.alloc (.cells #[.int .i64 ((j : Int) + 1), .int .u32 1, .int .i64 1, .int .u32 1, .int .i64 1, .slice A3 rr.length c3] 43)).drew.heap.size ∧ bb < (W3.alloc (.cells #[.int .i64 ((j : Int) + 1), .int .u32 1, .int .i64 1, .int .u32 1, .int .i64 1, .slice A3 rr.length c3] 43)).drew.heap.size) := Lib.hid ⟨⟨by rw [← hsx]; exact (cells_of (World.alloc_heap_new W3 _) 5).1, r0⟩, by rw [← hsx]; simp, rl⟩
              clear hp3 hp4 hbt3 y5 r0 yl rl hbtW hsm hps x0 xl HC
              go_upto_region 29 with (fail)
              try rw [hsx]
              clear hsx
              generalize W3.alloc (.cells #[.int .i64 ((j : Int) + 1), .int .u32 1, .int .i64 1, .int .u32 1, .int .i64 1, .slice A3 rr.length c3] 43) = W4 at *
              refine Code.wp_mono (Q := OnlyN _) OnlyN.all ?_
              refine wp_region_held_drew (S := fun W => (W.cell? ⟨sx, 5, none⟩ = some (.slice A3 rr.length c3) ∧ W.cell? ⟨bb, off + j, none⟩ = some (.slice A' rr.length c')) ∧ sx < W.heap.size ∧ bb < W.heap.size) (by kernel_rfl) HS29.out (fun hHeld => ?_)
              refine wpAnyH_take (i := 0) (oi := _) (v := ?_) rfl (by kernel_rfl) (by kernel_rfl) (by kernel_rfl) (fun _ _ _ h => h) (Or.inl ⟨by rfl, ?_⟩) (by assumption) ?_
              case refine_2 => intro w hSw; obtain ⟨⟨p0, p1⟩, pl1, pl2⟩ := hSw; go_simp; first | done | (with_reducible rfl)
              try simp only [Act.put, List.getElem_toArray, List.getElem_cons_zero, List.setIfInBounds_toArray, List.set_cons_zero, List.set_cons_succ]
              refine wpAnyH_take (i := 1) (oi := _) (v := ?_) rfl (by kernel_rfl) (by kernel_rfl) (by kernel_rfl) (fun _ _ _ h => h) (Or.inl ⟨by rfl, ?_⟩) (by assumption) ?_
              case refine_2 => intro w hSw; obtain ⟨⟨p0, p1⟩, pl1, pl2⟩ := hSw; go_simp; first | done | (with_reducible rfl)
              try simp only [Act.put, List.getElem_toArray, List.getElem_cons_zero, List.getElem_cons_succ, List.setIfInBounds_toArray, List.set_cons_zero, List.set_cons_succ]
              refine wpAnyH_take (i := 2) (oi := _) (v := ?_) rfl (by kernel_rfl) (by kernel_rfl) (by kernel_rfl) (fun _ _ _ h => h) (Or.inl ⟨by rfl, ?_⟩) (by assumption) ?_
              case refine_2 => intro w hSw; obtain ⟨⟨p0, p1⟩, pl1, pl2⟩ := hSw; go_simp; first | done | (with_reducible rfl)
              try simp only [Act.put, List.getElem_toArray, List.getElem_cons_zero, List.getElem_cons_succ, List.setIfInBounds_toArray, List.set_cons_zero, List.set_cons_succ]
              refine wpAnyH_take (i := 3) (oi := _) (v := ?_) rfl (by kernel_rfl) (by kernel_rfl) (by kernel_rfl) (fun _ _ _ h => h) (Or.inl ⟨by rfl, ?_⟩) (by assumption) ?_
              case refine_2 => intro w hSw; obtain ⟨⟨p0, p1⟩, pl1, pl2⟩ := hSw; go_simp; first | done | (with_reducible rfl)
              try simp only [Act.put, List.getElem_toArray, List.getElem_cons_zero, List.getElem_cons_succ, List.setIfInBounds_toArray, List.set_cons_zero, List.set_cons_succ]
              refine wpAnyH_take (i := 4) (oi := _) (v := ?_) rfl (by kernel_rfl) (by kernel_rfl) (by kernel_rfl) (fun _ _ _ h => h) (Or.inl ⟨by rfl, ?_⟩) (by assumption) ?_
              case refine_2 => intro w hSw; obtain ⟨⟨p0, p1⟩, pl1, pl2⟩ := hSw; go_simp; first | done | (with_reducible rfl)
              try simp only [Act.put, List.getElem_toArray, List.getElem_cons_zero, List.getElem_cons_succ, List.setIfInBounds_toArray, List.set_cons_zero, List.set_cons_succ]
              refine wpAnyH_take (i := 5) (oi := _) (v := ?_) rfl (by kernel_rfl) (by kernel_rfl) (by kernel_rfl) (fun _ _ _ h => h) (Or.inl ⟨by rfl, ?_⟩) (by assumption) ?_
              case refine_2 => intro w hSw; obtain ⟨⟨p0, p1⟩, pl1, pl2⟩ := hSw; go_simp; first | done | (with_reducible rfl)
              try simp only [Act.put, List.getElem_toArray, List.getElem_cons_zero, List.getElem_cons_succ, List.setIfInBounds_toArray, List.set_cons_zero, List.set_cons_succ]
              refine wpAnyH_take (i := 6) (oi := _) (v := ?_) rfl (by kernel_rfl) (by kernel_rfl) (by kernel_rfl) (fun _ _ _ h => h) (Or.inl ⟨by rfl, ?_⟩) (by assumption) ?_
              case refine_2 => intro w hSw; obtain ⟨⟨p0, p1⟩, pl1, pl2⟩ := hSw; go_simp; first | done | (with_reducible rfl)
              try simp only [Act.put, List.getElem_toArray, List.getElem_cons_zero, List.getElem_cons_succ, List.setIfInBounds_toArray, List.set_cons_zero, List.set_cons_succ]
              refine wpAnyH_take (i := 7) (oi := _) (v := ?_) rfl (by kernel_rfl) (by kernel_rfl) (by kernel_rfl) (fun _ _ _ h => h) (Or.inl ⟨by rfl, ?_⟩) (by assumption) ?_
              case refine_2 => intro w hSw; obtain ⟨⟨p0, p1⟩, pl1, pl2⟩ := hSw; go_simp; first | done | (with_reducible rfl)
              try simp only [Act.put, List.getElem_toArray, List.getElem_cons_zero, List.getElem_cons_succ, List.setIfInBounds_toArray, List.set_cons_zero, List.set_cons_succ]
              refine wpAnyH_take (i := 8) (oi := _) (v := ?_) rfl (by kernel_rfl) (by kernel_rfl) (by kernel_rfl) (fun _ _ _ h => h) (Or.inl ⟨by rfl, ?_⟩) (by assumption) ?_
              case refine_2 => intro w hSw; obtain ⟨⟨p0, p1⟩, pl1, pl2⟩ := hSw; go_simp; first | done | (with_reducible rfl)
              try simp only [Act.put, List.getElem_toArray, List.getElem_cons_zero, List.getElem_cons_succ, List.setIfInBounds_toArray, List.set_cons_zero, List.set_cons_succ]
              refine wpAnyH_ready (rs := [9]) (by kernel_rfl) (by simp) ?_
              refine AllReadyH.cons rfl (fun K hK => ?_) AllReadyH.nil
              go_simp
              go_at_call 21
              refine HSM.out.mono ?_
              rintro e W6 ⟨rfl, q, rfl⟩
              have HS9 : Hid (((W4.drew.drewN q).cell? ⟨sx, 5, none⟩ = some (.slice A3 rr.length c3) ∧ (W4.drew.drewN q).cell? ⟨bb, off + j, none⟩ = some (.slice A' rr.length c')) ∧ sx < (W4.drew.drewN q).heap.size ∧ bb < (W4.drew.drewN q).heap.size) := Lib.hid HS29.out
              refine hK.out _ _ HS9.out (fun hHeld => ?_)
              clear hK K
              try simp only [Act.put, List.getElem_toArray, List.getElem_cons_zero, List.getElem_cons_succ, List.setIfInBounds_toArray, List.set_cons_zero, List.set_cons_succ]
              refine wpAnyH_take (i := 10) (oi := _) (v := ?_) rfl (by kernel_rfl) (by kernel_rfl) (by kernel_rfl) (fun _ _ _ h => h) (Or.inl ⟨by rfl, ?_⟩) (by assumption) ?_
              case refine_2 => intro w hSw; obtain ⟨⟨p0, p1⟩, pl1, pl2⟩ := hSw; go_simp; first | done | (with_reducible rfl)
              try simp only [Act.put, List.getElem_toArray, List.getElem_cons_zero, List.getElem_cons_succ, List.setIfInBounds_toArray, List.set_cons_zero, List.set_cons_succ]
              refine wpAnyH_take (i := 11) (oi := _) (v := ?_) rfl (by kernel_rfl) (by kernel_rfl) (by kernel_rfl) (fun _ _ _ h => h) (Or.inl ⟨by rfl, ?_⟩) (by assumption) ?_
              case refine_2 => intro w hSw; obtain ⟨⟨p0, p1⟩, pl1, pl2⟩ := hSw; go_simp; first | done | (with_reducible rfl)
              try simp only [Act.put, List.getElem_toArray, List.getElem_cons_zero, List.getElem_cons_succ, List.setIfInBounds_toArray, List.set_cons_zero, List.set_cons_succ]
              refine wpAnyH_done (by kernel_rfl) ?_ _
              dsimp only [OnlyN]
              have HPF : Hid (Pn w nb ((kk : Int) + (m : Int)) (aM s0 (j + 1) n1 ++ eM kk m) rest (W4.drew.drewN q)) := Lib.hid (HPS.out.drew.drewN q)
              clear HPS HSM HS29
              generalize W4.drew.drewN q = W5 at *
              go_wp2
              go_roundw
              case rel => exact ⟨j + 1, by omega, by go_num, by rw [HMN.out]; exact HPF⟩
              case measure => simp [intOf]; omega
            · have hz : ¬ (j : Int) < (kk : Int) := by omega
              have HKD : Hid (wr.heap[D]? = some (.deferred (some []))) := Lib.hid (HPJ.out.held (D, .deferred (some [])) (by rw [HREST.out]; simp))
              have HLOW := Lib.hid HPJ.out.low
              have hdw := HDW.out
              clear HPJ
              go_wp2
              refine ⟨by simp, .inl ⟨_, _, rfl, run_takeDeferred HKD.out, ?_⟩⟩
              exact ⟨.bool true, by simp [results, Try.results6, go_sem], rfl, HLOW.out.trans (belowK_b (w := w) (Nat.le_refl _) _ D _ _ hdw HKD.out rfl rfl)⟩
        · have hms : m = st := hor.resolve_left hmk
          have hz1 : (((m : Int)) != (kk : Int)) = true := by rw [bne_iff_ne]; omega
          have hz3 : (((m : Int)) != (st : Int)) = false := by simp [hms]
          have hz2 : (cz != (kk : Int) + (m : Int)) = false := by rw [bne_eq_false_iff_eq, ← HCZ.out]; omega
          have hz4 := hz2
          clear hmk hms hor
          refine wp_region_held_drew (S := fun W => (W.cell? ⟨nn, 0, none⟩ = some (.int .i64 (m : Int)) ∧ W.cell? ⟨sb, 0, none⟩ = some (.int .u8 (st : Int)) ∧ W.cell? ⟨xb, 0, none⟩ = some (.pointer (some ⟨nb, 0, none⟩))) ∧ nn < W.heap.size ∧ sb < W.heap.size ∧ xb < W.heap.size) (by kernel_rfl) HS23.out (fun hHeld => ?_)
          refine wpAnyH_take (i := 0) (oi := _) (v := ?_) rfl (by kernel_rfl) (by kernel_rfl) (by kernel_rfl) (fun _ _ _ h => h) (Or.inl ⟨by rfl, ?_⟩) (by assumption) ?_
          case refine_2 => intro w hSw; obtain ⟨⟨p0, p1, p2⟩, pl1, pl2, pl3⟩ := hSw; go_simp; first | done | (with_reducible rfl)
          try simp only [Act.put, List.getElem_toArray, List.getElem_cons_zero, List.setIfInBounds_toArray, List.set_cons_zero, List.set_cons_succ]
          refine wpAnyH_take (i := 1) (oi := _) (v := ?_) rfl (by kernel_rfl) (by kernel_rfl) (by kernel_rfl) (fun _ _ _ h => h) (Or.inl ⟨by rfl, ?_⟩) (by assumption) ?_
          case refine_2 => intro w hSw; obtain ⟨⟨p0, p1, p2⟩, pl1, pl2, pl3⟩ := hSw; go_simp; first | done | (with_reducible rfl)
          try simp only [Act.put, List.getElem_toArray, List.getElem_cons_zero, List.getElem_cons_succ, List.setIfInBounds_toArray, List.set_cons_zero, List.set_cons_succ]
          refine wpAnyH_take (i := 2) (oi := _) (v := ?_) rfl (by kernel_rfl) (by kernel_rfl) (by kernel_rfl) (fun _ _ _ h => h) (Or.inl ⟨by rfl, ?_⟩) (by assumption) ?_
          case refine_2 => intro w hSw; obtain ⟨⟨p0, p1, p2⟩, pl1, pl2, pl3⟩ := hSw; go_simp; first | done | (with_reducible rfl)
          try simp only [Act.put, List.getElem_toArray, List.getElem_cons_zero, List.getElem_cons_succ, List.setIfInBounds_toArray, List.set_cons_zero, List.set_cons_succ]
          refine wpAnyH_take (i := 3) (oi := _) (v := ?_) rfl (by kernel_rfl) (by kernel_rfl) (by kernel_rfl) (fun _ _ _ h => h) (Or.inl ⟨by rfl, ?_⟩) (by assumption) ?_
          case refine_2 => intro w hSw; obtain ⟨⟨p0, p1, p2⟩, pl1, pl2, pl3⟩ := hSw; go_simp; first | done | (with_reducible rfl)
          try simp only [Act.put, List.getElem_toArray, List.getElem_cons_zero, List.getElem_cons_succ, List.setIfInBounds_toArray, List.set_cons_zero, List.set_cons_succ]
          refine wpAnyH_take (i := 4) (oi := _) (v := ?_) rfl (by kernel_rfl) (by kernel_rfl) (by kernel_rfl) (fun _ _ _ h => h) (Or.inl ⟨by rfl, ?_⟩) (by assumption) ?_
          case refine_2 => intro w hSw; obtain ⟨⟨p0, p1, p2⟩, pl1, pl2, pl3⟩ := hSw; go_simp; first | done | (with_reducible rfl)
          try simp only [Act.put, List.getElem_toArray, List.getElem_cons_zero, List.getElem_cons_succ, List.setIfInBounds_toArray, List.set_cons_zero, List.set_cons_succ]
          refine wpAnyH_take (i := 5) (oi := _) (v := ?_) rfl (by kernel_rfl) (by kernel_rfl) (by kernel_rfl) (fun _ _ _ h => h) (Or.inl ⟨by rfl, ?_⟩) (by assumption) ?_
          case refine_2 => intro w hSw; obtain ⟨⟨p0, p1, p2⟩, pl1, pl2, pl3⟩ := hSw; go_simp; first | done | (with_reducible rfl)
          try simp only [Act.put, List.getElem_toArray, List.getElem_cons_zero, List.getElem_cons_succ, List.setIfInBounds_toArray, List.set_cons_zero, List.set_cons_succ]
          refine wpAnyH_take (i := 6) (oi := _) (v := ?_) rfl (by kernel_rfl) (by kernel_rfl) (by kernel_rfl) (fun _ _ _ h => h) (Or.inl ⟨by rfl, ?_⟩) (by assumption) ?_
          case refine_2 => intro w hSw; obtain ⟨⟨p0, p1, p2⟩, pl1, pl2, pl3⟩ := hSw; go_simp; first | done | (with_reducible rfl)
          try simp only [Act.put, List.getElem_toArray, List.getElem_cons_zero, List.getElem_cons_succ, List.setIfInBounds_toArray, List.set_cons_zero, List.set_cons_succ]
          refine wpAnyH_take (i := 7) (oi := _) (v := ?_) rfl (by kernel_rfl) (by kernel_rfl) (by kernel_rfl) (fun _ _ _ h => h) (Or.inl ⟨by rfl, ?_⟩) (by assumption) ?_
          case refine_2 => intro w hSw; obtain ⟨⟨p0, p1, p2⟩, pl1, pl2, pl3⟩ := hSw; go_simp; first | done | (with_reducible rfl)
          try simp only [Act.put, List.getElem_toArray, List.getElem_cons_zero, List.getElem_cons_succ, List.setIfInBounds_toArray, List.set_cons_zero, List.set_cons_succ]
          refine wpAnyH_take (i := 8) (oi := _) (v := ?_) rfl (by kernel_rfl) (by kernel_rfl) (by kernel_rfl) (fun _ _ _ h => h) (Or.inl ⟨by rfl, ?_⟩) (by assumption) ?_
          case refine_2 => intro w hSw; obtain ⟨⟨p0, p1, p2⟩, pl1, pl2, pl3⟩ := hSw; go_simp; first | done | (with_reducible rfl)
          try simp only [Act.put, List.getElem_toArray, List.getElem_cons_zero, List.getElem_cons_succ, List.setIfInBounds_toArray, List.set_cons_zero, List.set_cons_succ]
          refine wpAnyH_take (i := 9) (oi := _) (v := ?_) rfl (by kernel_rfl) (by kernel_rfl) (by kernel_rfl) (fun _ _ _ h => h) (Or.inl ⟨by rfl, ?_⟩) (by assumption) ?_
          case refine_2 => intro w hSw; obtain ⟨⟨p0, p1, p2⟩, pl1, pl2, pl3⟩ := hSw; go_simp; first | done | (with_reducible rfl)
          try simp only [Act.put, List.getElem_toArray, List.getElem_cons_zero, List.getElem_cons_succ, List.setIfInBounds_toArray, List.set_cons_zero, List.set_cons_succ]
          refine wpAnyH_take (i := 10) (oi := _) (v := ?_) rfl (by kernel_rfl) (by kernel_rfl) (by kernel_rfl) (fun _ _ _ h => h) (Or.inl ⟨by rfl, ?_⟩) (by assumption) ?_
          case refine_2 => intro w hSw; obtain ⟨⟨p0, p1, p2⟩, pl1, pl2, pl3⟩ := hSw; go_simp; first | done | (with_reducible rfl)
          try simp only [Act.put, List.getElem_toArray, List.getElem_cons_zero, List.getElem_cons_succ, List.setIfInBounds_toArray, List.set_cons_zero, List.set_cons_succ]
          refine wpAnyH_take (i := 11) (oi := _) (v := ?_) rfl (by kernel_rfl) (by kernel_rfl) (by kernel_rfl) (fun _ _ _ h => h) (Or.inl ⟨by rfl, ?_⟩) (by assumption) ?_
          case refine_2 => intro w hSw; obtain ⟨⟨p0, p1, p2⟩, pl1, pl2, pl3⟩ := hSw; go_simp; first | done | (with_reducible rfl)
          try simp only [Act.put, List.getElem_toArray, List.getElem_cons_zero, List.getElem_cons_succ, List.setIfInBounds_toArray, List.set_cons_zero, List.set_cons_succ]
          refine wpAnyH_take (i := 13) (oi := _) (v := ?_) rfl (by kernel_rfl) (by kernel_rfl) (by kernel_rfl) (fun _ _ _ h => h) (Or.inl ⟨by rfl, ?_⟩) (by assumption) ?_
          case refine_2 => intro w hSw; obtain ⟨⟨p0, p1, p2⟩, pl1, pl2, pl3⟩ := hSw; go_simp; first | done | (with_reducible rfl)
          try simp only [Act.put, List.getElem_toArray, List.getElem_cons_zero, List.getElem_cons_succ, List.setIfInBounds_toArray, List.set_cons_zero, List.set_cons_succ]
          refine wpAnyH_take (i := 14) (oi := _) (v := ?_) rfl (by kernel_rfl) (by kernel_rfl) (by kernel_rfl) (fun _ _ _ h => h) (Or.inl ⟨by rfl, ?_⟩) (by assumption) ?_
          case refine_2 => intro w hSw; obtain ⟨⟨p0, p1, p2⟩, pl1, pl2, pl3⟩ := hSw; go_simp; first | done | (with_reducible rfl)
          try simp only [Act.put, List.getElem_toArray, List.getElem_cons_zero, List.getElem_cons_succ, List.setIfInBounds_toArray, List.set_cons_zero, List.set_cons_succ]
          refine wpAnyH_take (i := 15) (oi := _) (v := ?_) rfl (by kernel_rfl) (by kernel_rfl) (by kernel_rfl) (fun _ _ _ h => h) (Or.inl ⟨by rfl, ?_⟩) (by assumption) ?_
          case refine_2 => intro w hSw; obtain ⟨⟨p0, p1, p2⟩, pl1, pl2, pl3⟩ := hSw; go_simp; first | done | (with_reducible rfl)
          try simp only [Act.put, List.getElem_toArray, List.getElem_cons_zero, List.getElem_cons_succ, List.setIfInBounds_toArray, List.set_cons_zero, List.set_cons_succ]
          refine wpAnyH_take (i := 16) (oi := _) (v := ?_) rfl (by kernel_rfl) (by kernel_rfl) (by kernel_rfl) (fun _ _ _ h => h) (Or.inl ⟨by rfl, ?_⟩) (by assumption) ?_
          case refine_2 => intro w hSw; obtain ⟨⟨p0, p1, p2⟩, pl1, pl2, pl3⟩ := hSw; go_simp; first | done | (with_reducible rfl)
          try simp only [Act.put, List.getElem_toArray, List.getElem_cons_zero, List.getElem_cons_succ, List.setIfInBounds_toArray, List.set_cons_zero, List.set_cons_succ]
          refine wpAnyH_ready (rs := [12]) (by kernel_rfl) (by simp) ?_
          refine AllReadyH.cons rfl (fun K hK => ?_) AllReadyH.nil
          go_simp
          go_at_call 20
          refine HCN.out.mono ?_
          rintro e W2 ⟨rfl, rfl⟩
          refine hK.out _ _ HS23.out (fun hHeld => ?_)
          clear hK K
          try simp only [Act.put, List.getElem_toArray, List.getElem_cons_zero, List.getElem_cons_succ, List.setIfInBounds_toArray, List.set_cons_zero, List.set_cons_succ]
          refine wpAnyH_take (i := 17) (oi := _) (v := ?_) rfl (by kernel_rfl) (by kernel_rfl) (by kernel_rfl) (fun _ _ _ h => h) (Or.inl ⟨by rfl, ?_⟩) (by assumption) ?_
          case refine_2 => intro w hSw; obtain ⟨⟨p0, p1, p2⟩, pl1, pl2, pl3⟩ := hSw; go_simp; first | done | (with_reducible rfl)
          try simp only [Act.put, List.getElem_toArray, List.getElem_cons_zero, List.getElem_cons_succ, List.setIfInBounds_toArray, List.set_cons_zero, List.set_cons_succ]
          refine wpAnyH_take (i := 18) (oi := _) (v := ?_) rfl (by kernel_rfl) (by kernel_rfl) (by kernel_rfl) (fun _ _ _ h => h) (Or.inl ⟨by rfl, ?_⟩) (by assumption) ?_
          case refine_2 => intro w hSw; obtain ⟨⟨p0, p1, p2⟩, pl1, pl2, pl3⟩ := hSw; go_simp; first | done | (with_reducible rfl)
          try simp only [Act.put, List.getElem_toArray, List.getElem_cons_zero, List.getElem_cons_succ, List.setIfInBounds_toArray, List.set_cons_zero, List.set_cons_succ]
          refine wpAnyH_done (by kernel_rfl) ?_ _
          dsimp only [OnlyN]
          clear n0 b0 x0 nl bl xl HS23 HCN hHeld
          have HP8 := Lib.hid HP9.out.drew
          generalize W.drew = Wd at *
          have hkk := HKK.out
          go_wp2
          clear hk60 hw1 hw2 hw3
          go_loopw [11] (fun s wr => ∃ j : Nat, j ≤ kk ∧ s = .int .i64 j ∧ Hid (Pn w nb ((kk : Int) + (m : Int)) (aM s0 j (kk - j) ++ eM kk m) rest wr)) (fun s _ => kk - (intOf s).toNat)
          case atStart => exact ⟨0, Nat.zero_le _, rfl, HP8⟩
          case round =>
            obtain ⟨j, hj, rfl, HPJ⟩ := hrel
            clear HP8 hz1 hz2 hz4
            by_cases hjl : j < kk
            · have hz : (j : Int) < (kk : Int) := by omega
              obtain ⟨n1, hn1⟩ : ∃ n1, kk - j = n1 + 1 := ⟨kk - j - 1, by omega⟩
              have hp := HPJ.out
              rw [hn1] at hp
              have hSH := HSH.out
              rw [hkk] at hSH
              have hC := take_q hp (aM_ok (ds := s0) (k := kk) hSH (by omega) (by omega) (by omega) _ (by omega)) ((j : Int) + 1)
              rw [aM_take (by omega)] at hC
              obtain ⟨rr, hrr⟩ : ∃ rr, s0.getD j default = rr := ⟨_, rfl⟩
              unfold takeV sentC aD a11 at hC
              dsimp only at hC
              rw [hrr] at hC
              have hrl := hSH j (by omega)
              rw [hrr] at hrl
              obtain ⟨bb, off, rfl, hbl, hall⟩ := HAT.out (by omega)
              obtain ⟨u, hu, A', c', rfl, k1, k2, k3, k4⟩ := hall j (by omega)
              rw [hrr] at hu k1 k2 k4
              have x0 := (hp.cells (b := xb) (C := #[.pointer (some ⟨nb, 0, none⟩)]) (t := 25) (by rw [HREST.out, ← HRO.out]; simp) 0).1
              have xl := World.block_lt_of_cell? _ _ x0
              simp at x0
              dsimp only at xl
              have HC := Lib.hid hC; have HU := Lib.hid hu; have HK1 := Lib.hid k1
              have hmn : kk - (j + 1) = n1 := by omega
              have HMN := Lib.hid hmn
              clear hC hp hSH hall hu k1 k4 HPJ hrr hmn hn1
              go_wp2_with fail
              refine HC.out.mono ?_
              rintro e W3 ⟨A3, c3, osb, rfl, hp3, hbt3⟩
              have hp4 := hp3.box (k := W3.heap.size) (sentC ((j : Int) + 1) (1, 1) (1, 1) (.slice A3 rr.length c3)) 43 rfl
              unfold sentC at hp4
              have y5 := (hp4.cells (b := W3.heap.size) (C := #[.int .i64 ((j : Int) + 1), .int .u32 1, .int .i64 1, .int .u32 1, .int .i64 1, .slice A3 rr.length c3]) (t := 43) (by simp) 5).1
              have r0 := (hp4.low.cell (p := ⟨bb, off + j, none⟩) hbl).trans HU.out
              have yl := World.block_lt_of_cell? _ _ y5
              have rl := World.block_lt_of_cell? _ _ r0
              have hbtW := hbt3 _ (fun p hp' => hp4.drew.held p (by simp [hp']))
              have hsm := same_self A3 A' rr.length c3 c' rr _ (by unfold maxLen; omega) hbtW ((HK1.out.below hp4.low).drewN 1)
              have HSM := Lib.hid hsm
              have hps := hp4.sub (os' := rest) (fun p hp' => by simp [hp'])
              have HPS := Lib.hid hps
              simp at y5
              dsimp only at yl rl
              obtain ⟨sx, hsx⟩ : ∃ sx, W3.heap.size = sx := ⟨_, rfl⟩
              have HS29 : Hid (((W3.alloc (.cells #[.int .i64 ((j : Int) + 1), .int .u32 1, .int .i64 1, .int .u32 1, .int .i64 1, .slice A3 rr.length c3] 43)).drew.cell? ⟨sx, 5, none⟩ = some (.slice A3 rr.length c3) ∧ (W3.alloc (.cells #[.int .i64 ((j : Int) + 1), .int .u32 1, .int .i64 1, .int .u32 1, .int .i64 1, .slice A3 rr.length c3] 43)).drew.cell? ⟨bb, off + j, none⟩ = some (.slice A' rr.length c')) ∧ sx < (W3.alloc (.cells #[.int .i64 ((j : Int) + 1), .int .u32 1, .int .i64 1, .int .u32 1, .int .i64 1, .slice A3 rr.length c3] 43)).drew.heap.size ∧ bb < (W3.alloc (.cells #[.int .i64 ((j : Int) + 1), .int .u32 1, .int .i64 1, .int .u32 1, .int .i64 1, .slice A3 rr.length c3] 43)).drew.heap.size) := Lib.hid ⟨⟨by rw [← hsx]; exact (cells_of (World.alloc_heap_new W3 _) 5).1, r0⟩, by rw [← hsx]; simp, rl⟩
              clear hp3 hp4 hbt3 y5 r0 yl rl hbtW hsm hps x0 xl HC
              go_upto_region 29 with (fail)
              try rw [hsx]
              clear hsx
              generalize W3.alloc (.cells #[.int .i64 ((j : Int) + 1), .int .u32 1, .int .i64 1, .int .u32 1, .int .i64 1, .slice A3 rr.length c3] 43) = W4 at *
              refine Code.wp_mono (Q := OnlyN _) OnlyN.all ?_
              refine wp_region_held_drew (S := fun W => (W.cell? ⟨sx, 5, none⟩ = some (.slice A3 rr.length c3) ∧ W.cell? ⟨bb, off + j, none⟩ = some (.slice A' rr.length c')) ∧ sx < W.heap.size ∧ bb < W.heap.size) (by kernel_rfl) HS29.out (fun hHeld => ?_)
              refine wpAnyH_take (i := 0) (oi := _) (v := ?_) rfl (by kernel_rfl) (by kernel_rfl) (by kernel_rfl) (fun _ _ _ h => h) (Or.inl ⟨by rfl, ?_⟩) (by assumption) ?_
              case refine_2 => intro w hSw; obtain ⟨⟨p0, p1⟩, pl1, pl2⟩ := hSw; go_simp; first | done | (with_reducible rfl)
              try simp only [Act.put, List.getElem_toArray, List.getElem_cons_zero, List.setIfInBounds_toArray, List.set_cons_zero, List.set_cons_succ]
              refine wpAnyH_take (i := 1) (oi := _) (v := ?_) rfl (by kernel_rfl) (by kernel_rfl) (by kernel_rfl) (fun _ _ _ h => h) (Or.inl ⟨by rfl, ?_⟩) (by assumption) ?_
              case refine_2 => intro w hSw; obtain ⟨⟨p0, p1⟩, pl1, pl2⟩ := hSw; go_simp; first | done | (with_reducible rfl)
              try simp only [Act.put, List.getElem_toArray, List.getElem_cons_zero, List.getElem_cons_succ, List.setIfInBounds_toArray, List.set_cons_zero, List.set_cons_succ]
              refine wpAnyH_take (i := 2) (oi := _) (v := ?_) rfl (by kernel_rfl) (by kernel_rfl) (by kernel_rfl) (fun _ _ _ h => h) (Or.inl ⟨by rfl, ?_⟩) (by assumption) ?_
              case refine_2 => intro w hSw; obtain ⟨⟨p0, p1⟩, pl1, pl2⟩ := hSw; go_simp; first | done | (with_reducible rfl)
              try simp only [Act.put, List.getElem_toArray, List.getElem_cons_zero, List.getElem_cons_succ, List.setIfInBounds_toArray, List.set_cons_zero, List.set_cons_succ]
              refine wpAnyH_take (i := 3) (oi := _) (v := ?_) rfl (by kernel_rfl) (by kernel_rfl) (by kernel_rfl) (fun _ _ _ h => h) (Or.inl ⟨by rfl, ?_⟩) (by assumption) ?_
              case refine_2 => intro w hSw; obtain ⟨⟨p0, p1⟩, pl1, pl2⟩ := hSw; go_simp; first | done | (with_reducible rfl)
              try simp only [Act.put, List.getElem_toArray, List.getElem_cons_zero, List.getElem_cons_succ, List.setIfInBounds_toArray, List.set_cons_zero, List.set_cons_succ]
              refine wpAnyH_take (i := 4) (oi := _) (v := ?_) rfl (by kernel_rfl) (by kernel_rfl) (by kernel_rfl) (fun _ _ _ h => h) (Or.inl ⟨by rfl, ?_⟩) (by assumption) ?_
              case refine_2 => intro w hSw; obtain ⟨⟨p0, p1⟩, pl1, pl2⟩ := hSw; go_simp; first | done | (with_reducible rfl)
              try simp only [Act.put, List.getElem_toArray, List.getElem_cons_zero, List.getElem_cons_succ, List.setIfInBounds_toArray, List.set_cons_zero, List.set_cons_succ]
              refine wpAnyH_take (i := 5) (oi := _) (v := ?_) rfl (by kernel_rfl) (by kernel_rfl) (by kernel_rfl) (fun _ _ _ h => h) (Or.inl ⟨by rfl, ?_⟩) (by assumption) ?_
              case refine_2 => intro w hSw; obtain ⟨⟨p0, p1⟩, pl1, pl2⟩ := hSw; go_simp; first | done | (with_reducible rfl)
              try simp only [Act.put, List.getElem_toArray, List.getElem_cons_zero, List.getElem_cons_succ, List.setIfInBounds_toArray, List.set_cons_zero, List.set_cons_succ]
              refine wpAnyH_take (i := 6) (oi := _) (v := ?_) rfl (by kernel_rfl) (by kernel_rfl) (by kernel_rfl) (fun _ _ _ h => h) (Or.inl ⟨by rfl, ?_⟩) (by assumption) ?_
              case refine_2 => intro w hSw; obtain ⟨⟨p0, p1⟩, pl1, pl2⟩ := hSw; go_simp; first | done | (with_reducible rfl)
              try simp only [Act.put, List.getElem_toArray, List.getElem_cons_zero, List.getElem_cons_succ, List.setIfInBounds_toArray, List.set_cons_zero, List.set_cons_succ]
              refine wpAnyH_take (i := 7) (oi := _) (v := ?_) rfl (by kernel_rfl) (by kernel_rfl) (by kernel_rfl) (fun _ _ _ h => h) (Or.inl ⟨by rfl, ?_⟩) (by assumption) ?_
              case refine_2 => intro w hSw; obtain ⟨⟨p0, p1⟩, pl1, pl2⟩ := hSw; go_simp; first | done | (with_reducible rfl)
              try simp only [Act.put, List.getElem_toArray, List.getElem_cons_zero, List.getElem_cons_succ, List.setIfInBounds_toArray, List.set_cons_zero, List.set_cons_succ]
              refine wpAnyH_take (i := 8) (oi := _) (v := ?_) rfl (by kernel_rfl) (by kernel_rfl) (by kernel_rfl) (fun _ _ _ h => h) (Or.inl ⟨by rfl, ?_⟩) (by assumption) ?_
              case refine_2 => intro w hSw; obtain ⟨⟨p0, p1⟩, pl1, pl2⟩ := hSw; go_simp; first | done | (with_reducible rfl)
              try simp only [Act.put, List.getElem_toArray, List.getElem_cons_zero, List.getElem_cons_succ, List.setIfInBounds_toArray, List.set_cons_zero, List.set_cons_succ]
              refine wpAnyH_ready (rs := [9]) (by kernel_rfl) (by simp) ?_
              refine AllReadyH.cons rfl (fun K hK => ?_) AllReadyH.nil
              go_simp
              go_at_call 21
              refine HSM.out.mono ?_
              rintro e W6 ⟨rfl, q, rfl⟩
              have HS9 : Hid (((W4.drew.drewN q).cell? ⟨sx, 5, none⟩ = some (.slice A3 rr.length c3) ∧ (W4.drew.drewN q).cell? ⟨bb, off + j, none⟩ = some (.slice A' rr.length c')) ∧ sx < (W4.drew.drewN q).heap.size ∧ bb < (W4.drew.drewN q).heap.size) := Lib.hid HS29.out
              refine hK.out _ _ HS9.out (fun hHeld => ?_)
              clear hK K
              try simp only [Act.put, List.getElem_toArray, List.getElem_cons_zero, List.getElem_cons_succ, List.setIfInBounds_toArray, List.set_cons_zero, List.set_cons_succ]
              refine wpAnyH_take (i := 10) (oi := _) (v := ?_) rfl (by kernel_rfl) (by kernel_rfl) (by kernel_rfl) (fun _ _ _ h => h) (Or.inl ⟨by rfl, ?_⟩) (by assumption) ?_
              case refine_2 => intro w hSw; obtain ⟨⟨p0, p1⟩, pl1, pl2⟩ := hSw; go_simp; first | done | (with_reducible rfl)
              try simp only [Act.put, List.getElem_toArray, List.getElem_cons_zero, List.getElem_cons_succ, List.setIfInBounds_toArray, List.set_cons_zero, List.set_cons_succ]
              refine wpAnyH_take (i := 11) (oi := _) (v := ?_) rfl (by kernel_rfl) (by kernel_rfl) (by kernel_rfl) (fun _ _ _ h => h) (Or.inl ⟨by rfl, ?_⟩) (by assumption) ?_
              case refine_2 => intro w hSw; obtain ⟨⟨p0, p1⟩, pl1, pl2⟩ := hSw; go_simp; first | done | (with_reducible rfl)
              try simp only [Act.put, List.getElem_toArray, List.getElem_cons_zero, List.getElem_cons_succ, List.setIfInBounds_toArray, List.set_cons_zero, List.set_cons_succ]
              refine wpAnyH_done (by kernel_rfl) ?_ _
              dsimp only [OnlyN]
              have HPF : Hid (Pn w nb ((kk : Int) + (m : Int)) (aM s0 (j + 1) n1 ++ eM kk m) rest (W4.drew.drewN q)) := Lib.hid (HPS.out.drew.drewN q)
              clear HPS HSM HS29
              generalize W4.drew.drewN q = W5 at *
              go_wp2
              go_roundw
              case rel => exact ⟨j + 1, by omega, by go_num, by rw [HMN.out]; exact HPF⟩
              case measure => simp [intOf]; omega
            · have hz : ¬ (j : Int) < (kk : Int) := by omega
              have HKD : Hid (wr.heap[D]? = some (.deferred (some []))) := Lib.hid (HPJ.out.held (D, .deferred (some [])) (by rw [HREST.out]; simp))
              have HLOW := Lib.hid HPJ.out.low
              have hdw := HDW.out
              clear HPJ
              go_wp2
              refine ⟨by simp, .inl ⟨_, _, rfl, run_takeDeferred HKD.out, ?_⟩⟩
              exact ⟨.bool true, by simp [results, Try.results6, go_sem], rfl, HLOW.out.trans (belowK_b (w := w) (Nat.le_refl _) _ D _ _ hdw HKD.out rfl rfl)⟩
      case hdone =>
        rintro D xs W hD hxs ⟨m, hm1, hm2, hPg⟩ hK
        have hmk : m = kk := by
          have h1 : xs.map Md.d = L.map Md.d := hxs
          have h2 := congrArg List.length h1
          rw [List.length_map, List.length_map, hm1, HLL.out] at h2
          exact h2
        have hor : m = kk ∨ m = st := .inl hmk
        have HPG9 := Lib.hid hPg; have HK := Lib.hid hK
        clear hPg hK hm1 hmk hst hgl hxs
        have HP9 : Hid (Pn w nb ((kk : Int) + (m : Int)) (aM s0 0 kk ++ eM kk m) ((D, .deferred (some [])) :: (nn, .cells #[.int .i64 (m : Int)] 3 (0, 0)) :: ro) W) := Lib.hid (HPG9.out.pn.hold HK.out (fun kv L h1 _ _ hf => by
          obtain ⟨C, t, e1, -⟩ := foot_kindA h1 hf
          rw [HK.out] at e1
          cases e1))
        have HDW : Hid (w.heap.size ≤ D) := Lib.hid (Nat.le_trans HWV.out hD)
        obtain ⟨rest, hrest⟩ : ∃ rest : List (Nat × Obj), (D, Obj.deferred (some [])) :: (nn, Obj.cells #[.int .i64 (m : Int)] 3 (0, 0)) :: ro = rest := ⟨_, rfl⟩
        rw [hrest] at HP9
        have HREST : Hid (rest = (D, Obj.deferred (some [])) :: (nn, Obj.cells #[.int .i64 (m : Int)] 3 (0, 0)) :: ro) := Lib.hid hrest.symm
        have n0 := (HP9.out.cells (b := nn) (C := #[.int .i64 (m : Int)]) (t := 3) (by rw [← hrest]; simp) 0).1
        have b0 := (HP9.out.cells (b := sb) (C := #[.int .u8 (st : Int)]) (t := 5) (by rw [← hrest, ← HRO.out]; simp) 0).1
        have x0 := (HP9.out.cells (b := xb) (C := #[.pointer (some ⟨nb, 0, none⟩)]) (t := 25) (by rw [← hrest, ← HRO.out]; simp) 0).1
        have nl := World.block_lt_of_cell? _ _ n0
        have bl := World.block_lt_of_cell? _ _ b0
        have xl := World.block_lt_of_cell? _ _ x0
        have hcn := count_p HP9.out.drew
        rw [List.length_append, aM_len, eM_len] at hcn
        obtain ⟨cz, hcz⟩ : ∃ z : Int, ((kk + m : Nat) : Int) = z := ⟨_, rfl⟩
        rw [hcz] at hcn
        have HCZ := Lib.hid hcz
        have HCN := Lib.hid hcn
        dsimp only at nl bl xl
        simp at n0 b0 x0
        have HS23 : Hid ((W.drew.cell? ⟨nn, 0, none⟩ = some (.int .i64 (m : Int)) ∧ W.drew.cell? ⟨sb, 0, none⟩ = some (.int .u8 (st : Int)) ∧ W.drew.cell? ⟨xb, 0, none⟩ = some (.pointer (some ⟨nb, 0, none⟩))) ∧ nn < W.drew.heap.size ∧ sb < W.drew.heap.size ∧ xb < W.drew.heap.size) := Lib.hid ⟨⟨n0, b0, x0⟩, nl, bl, xl⟩
        clear hrest hcn hcz
        go_upto_region 23 with (fail)
        refine Code.wp_mono (Q := OnlyN _) OnlyN.all ?_
        have hk60 : kk ≤ 60 := by rw [← HKK.out]; exact h60
        have hw1 : IntKind.i64.wrap ((kk : Int) + (m : Int)) = (kk : Int) + (m : Int) := IntWalk.i64_in _ (by omega)
        have hw2 : IntKind.i64.wrap ((kk : Int) + (kk : Int)) = (kk : Int) + (kk : Int) := IntWalk.i64_in _ (by omega)
        have hw3 : IntKind.i64.wrap (st : Int) = (st : Int) := IntWalk.i64_in _ (by omega)
        by_cases hmk : m = kk
        · have hz1 : (((m : Int)) != (kk : Int)) = false := by simp [hmk]
          have hz2 : (cz != (kk : Int) + (m : Int)) = false := by rw [bne_eq_false_iff_eq, ← HCZ.out]; omega
          have hz4 : (cz != (kk : Int) + (kk : Int)) = false := by rw [bne_eq_false_iff_eq, ← HCZ.out]; omega
          refine wp_region_held_drew (S := fun W => (W.cell? ⟨nn, 0, none⟩ = some (.int .i64 (m : Int)) ∧ W.cell? ⟨sb, 0, none⟩ = some (.int .u8 (st : Int)) ∧ W.cell? ⟨xb, 0, none⟩ = some (.pointer (some ⟨nb, 0, none⟩))) ∧ nn < W.heap.size ∧ sb < W.heap.size ∧ xb < W.heap.size) (by kernel_rfl) HS23.out (fun hHeld => ?_)
          refine wpAnyH_take (i := 0) (oi := _) (v := ?_) rfl (by kernel_rfl) (by kernel_rfl) (by kernel_rfl) (fun _ _ _ h => h) (Or.inl ⟨by rfl, ?_⟩) (by assumption) ?_
          case refine_2 => intro w hSw; obtain ⟨⟨p0, p1, p2⟩, pl1, pl2, pl3⟩ := hSw; go_simp; first | done | (with_reducible rfl)
          try simp only [Act.put, List.getElem_toArray, List.getElem_cons_zero, List.setIfInBounds_toArray, List.set_cons_zero, List.set_cons_succ]
          refine wpAnyH_take (i := 1) (oi := _) (v := ?_) rfl (by kernel_rfl) (by kernel_rfl) (by kernel_rfl) (fun _ _ _ h => h) (Or.inl ⟨by rfl, ?_⟩) (by assumption) ?_
          case refine_2 => intro w hSw; obtain ⟨⟨p0, p1, p2⟩, pl1, pl2, pl3⟩ := hSw; go_simp; first | done | (with_reducible rfl)
          try simp only [Act.put, List.getElem_toArray, List.getElem_cons_zero, List.getElem_cons_succ, List.setIfInBounds_toArray, List.set_cons_zero, List.set_cons_succ]
          refine wpAnyH_take (i := 2) (oi := _) (v := ?_) rfl (by kernel_rfl) (by kernel_rfl) (by kernel_rfl) (fun _ _ _ h => h) (Or.inl ⟨by rfl, ?_⟩) (by assumption) ?_
          case refine_2 => intro w hSw; obtain ⟨⟨p0, p1, p2⟩, pl1, pl2, pl3⟩ := hSw; go_simp; first | done | (with_reducible rfl)
          try simp only [Act.put, List.getElem_toArray, List.getElem_cons_zero, List.getElem_cons_succ, List.setIfInBounds_toArray, List.set_cons_zero, List.set_cons_succ]
          refine wpAnyH_take (i := 3) (oi := _) (v := ?_) rfl (by kernel_rfl) (by kernel_rfl) (by kernel_rfl) (fun _ _ _ h => h) (Or.inl ⟨by rfl, ?_⟩) (by assumption) ?_
          case refine_2 => intro w hSw; obtain ⟨⟨p0, p1, p2⟩, pl1, pl2, pl3⟩ := hSw; go_simp; first | done | (with_reducible rfl)
          try simp only [Act.put, List.getElem_toArray, List.getElem_cons_zero, List.getElem_cons_succ, List.setIfInBounds_toArray, List.set_cons_zero, List.set_cons_succ]
          refine wpAnyH_take (i := 4) (oi := _) (v := ?_) rfl (by kernel_rfl) (by kernel_rfl) (by kernel_rfl) (fun _ _ _ h => h) (Or.inl ⟨by rfl, ?_⟩) (by assumption) ?_
          case refine_2 => intro w hSw; obtain ⟨⟨p0, p1, p2⟩, pl1, pl2, pl3⟩ := hSw; go_simp; first | done | (with_reducible rfl)
          try simp only [Act.put, List.getElem_toArray, List.getElem_cons_zero, List.getElem_cons_succ, List.setIfInBounds_toArray, List.set_cons_zero, List.set_cons_succ]
          refine wpAnyH_take (i := 5) (oi := _) (v := undef) rfl (by kernel_rfl) (by kernel_rfl) (by kernel_rfl) (fun _ _ _ h => h) (Or.inr ⟨by rfl, rfl⟩) (by assumption) ?_
          try simp only [Act.put, List.getElem_toArray, List.getElem_cons_zero, List.getElem_cons_succ, List.setIfInBounds_toArray, List.set_cons_zero, List.set_cons_succ]
          refine wpAnyH_take (i := 6) (oi := _) (v := undef) rfl (by kernel_rfl) (by kernel_rfl) (by kernel_rfl) (fun _ _ _ h => h) (Or.inr ⟨by rfl, rfl⟩) (by assumption) ?_
          try simp only [Act.put, List.getElem_toArray, List.getElem_cons_zero, List.getElem_cons_succ, List.setIfInBounds_toArray, List.set_cons_zero, List.set_cons_succ]
          refine wpAnyH_take (i := 7) (oi := _) (v := undef) rfl (by kernel_rfl) (by kernel_rfl) (by kernel_rfl) (fun _ _ _ h => h) (Or.inr ⟨by rfl, rfl⟩) (by assumption) ?_
          try simp only [Act.put, List.getElem_toArray, List.getElem_cons_zero, List.getElem_cons_succ, List.setIfInBounds_toArray, List.set_cons_zero, List.set_cons_succ]
          refine wpAnyH_take (i := 8) (oi := _) (v := undef) rfl (by kernel_rfl) (by kernel_rfl) (by kernel_rfl) (fun _ _ _ h => h) (Or.inr ⟨by rfl, rfl⟩) (by assumption) ?_
          try simp only [Act.put, List.getElem_toArray, List.getElem_cons_zero, List.getElem_cons_succ, List.setIfInBounds_toArray, List.set_cons_zero, List.set_cons_succ]
          refine wpAnyH_take (i := 9) (oi := _) (v := ?_) rfl (by kernel_rfl) (by kernel_rfl) (by kernel_rfl) (fun _ _ _ h => h) (Or.inl ⟨by rfl, ?_⟩) (by assumption) ?_
          case refine_2 => intro w hSw; obtain ⟨⟨p0, p1, p2⟩, pl1, pl2, pl3⟩ := hSw; go_simp; first | done | (with_reducible rfl)
          try simp only [Act.put, List.getElem_toArray, List.getElem_cons_zero, List.getElem_cons_succ, List.setIfInBounds_toArray, List.set_cons_zero, List.set_cons_succ]
          refine wpAnyH_take (i := 10) (oi := _) (v := ?_) rfl (by kernel_rfl) (by kernel_rfl) (by kernel_rfl) (fun _ _ _ h => h) (Or.inl ⟨by rfl, ?_⟩) (by assumption) ?_
          case refine_2 => intro w hSw; obtain ⟨⟨p0, p1, p2⟩, pl1, pl2, pl3⟩ := hSw; go_simp; first | done | (with_reducible rfl)
          try simp only [Act.put, List.getElem_toArray, List.getElem_cons_zero, List.getElem_cons_succ, List.setIfInBounds_toArray, List.set_cons_zero, List.set_cons_succ]
          refine wpAnyH_take (i := 11) (oi := _) (v := ?_) rfl (by kernel_rfl) (by kernel_rfl) (by kernel_rfl) (fun _ _ _ h => h) (Or.inl ⟨by rfl, ?_⟩) (by assumption) ?_
          case refine_2 => intro w hSw; obtain ⟨⟨p0, p1, p2⟩, pl1, pl2, pl3⟩ := hSw; go_simp; first | done | (with_reducible rfl)
          try simp only [Act.put, List.getElem_toArray, List.getElem_cons_zero, List.getElem_cons_succ, List.setIfInBounds_toArray, List.set_cons_zero, List.set_cons_succ]
          refine wpAnyH_take (i := 13) (oi := _) (v := ?_) rfl (by kernel_rfl) (by kernel_rfl) (by kernel_rfl) (fun _ _ _ h => h) (Or.inl ⟨by rfl, ?_⟩) (by assumption) ?_
          case refine_2 => intro w hSw; obtain ⟨⟨p0, p1, p2⟩, pl1, pl2, pl3⟩ := hSw; go_simp; first | done | (with_reducible rfl)
          try simp only [Act.put, List.getElem_toArray, List.getElem_cons_zero, List.getElem_cons_succ, List.setIfInBounds_toArray, List.set_cons_zero, List.set_cons_succ]
          refine wpAnyH_take (i := 14) (oi := _) (v := ?_) rfl (by kernel_rfl) (by kernel_rfl) (by kernel_rfl) (fun _ _ _ h => h) (Or.inl ⟨by rfl, ?_⟩) (by assumption) ?_
          case refine_2 => intro w hSw; obtain ⟨⟨p0, p1, p2⟩, pl1, pl2, pl3⟩ := hSw; go_simp; first | done | (with_reducible rfl)
          try simp only [Act.put, List.getElem_toArray, List.getElem_cons_zero, List.getElem_cons_succ, List.setIfInBounds_toArray, List.set_cons_zero, List.set_cons_succ]
          refine wpAnyH_take (i := 15) (oi := _) (v := ?_) rfl (by kernel_rfl) (by kernel_rfl) (by kernel_rfl) (fun _ _ _ h => h) (Or.inl ⟨by rfl, ?_⟩) (by assumption) ?_
          case refine_2 => intro w hSw; obtain ⟨⟨p0, p1, p2⟩, pl1, pl2, pl3⟩ := hSw; go_simp; first | done | (with_reducible rfl)
          try simp only [Act.put, List.getElem_toArray, List.getElem_cons_zero, List.getElem_cons_succ, List.setIfInBounds_toArray, List.set_cons_zero, List.set_cons_succ]
          refine wpAnyH_take (i := 16) (oi := _) (v := ?_) rfl (by kernel_rfl) (by kernel_rfl) (by kernel_rfl) (fun _ _ _ h => h) (Or.inl ⟨by rfl, ?_⟩) (by assumption) ?_
          case refine_2 => intro w hSw; obtain ⟨⟨p0, p1, p2⟩, pl1, pl2, pl3⟩ := hSw; go_simp; first | done | (with_reducible rfl)
          try simp only [Act.put, List.getElem_toArray, List.getElem_cons_zero, List.getElem_cons_succ, List.setIfInBounds_toArray, List.set_cons_zero, List.set_cons_succ]
          refine wpAnyH_ready (rs := [12]) (by kernel_rfl) (by simp) ?_
          refine AllReadyH.cons rfl (fun K hK => ?_) AllReadyH.nil
          go_simp
          go_at_call 20
          refine HCN.out.mono ?_
          rintro e W2 ⟨rfl, rfl⟩
          refine hK.out _ _ HS23.out (fun hHeld => ?_)
          clear hK K
          try simp only [Act.put, List.getElem_toArray, List.getElem_cons_zero, List.getElem_cons_succ, List.setIfInBounds_toArray, List.set_cons_zero, List.set_cons_succ]
          refine wpAnyH_take (i := 17) (oi := _) (v := ?_) rfl (by kernel_rfl) (by kernel_rfl) (by kernel_rfl) (fun _ _ _ h => h) (Or.inl ⟨by rfl, ?_⟩) (by assumption) ?_
          case refine_2 => intro w hSw; obtain ⟨⟨p0, p1, p2⟩, pl1, pl2, pl3⟩ := hSw; go_simp; first | done | (with_reducible rfl)
          try simp only [Act.put, List.getElem_toArray, List.getElem_cons_zero, List.getElem_cons_succ, List.setIfInBounds_toArray, List.set_cons_zero, List.set_cons_succ]
          refine wpAnyH_take (i := 18) (oi := _) (v := ?_) rfl (by kernel_rfl) (by kernel_rfl) (by kernel_rfl) (fun _ _ _ h => h) (Or.inl ⟨by rfl, ?_⟩) (by assumption) ?_
          case refine_2 => intro w hSw; obtain ⟨⟨p0, p1, p2⟩, pl1, pl2, pl3⟩ := hSw; go_simp; first | done | (with_reducible rfl)
          try simp only [Act.put, List.getElem_toArray, List.getElem_cons_zero, List.getElem_cons_succ, List.setIfInBounds_toArray, List.set_cons_zero, List.set_cons_succ]
          refine wpAnyH_done (by kernel_rfl) ?_ _
          dsimp only [OnlyN]
          clear n0 b0 x0 nl bl xl HS23 HCN hHeld
          have HP8 := Lib.hid HP9.out.drew
          generalize W.drew = Wd at *
          have hkk := HKK.out
          go_wp2
          clear hk60 hw1 hw2 hw3
          go_loopw [11] (fun s wr => ∃ j : Nat, j ≤ kk ∧ s = .int .i64 j ∧ Hid (Pn w nb ((kk : Int) + (m : Int)) (aM s0 j (kk - j) ++ eM kk m) rest wr)) (fun s _ => kk - (intOf s).toNat)
          case atStart => exact ⟨0, Nat.zero_le _, rfl, HP8⟩
          case round =>
            obtain ⟨j, hj, rfl, HPJ⟩ := hrel
            clear HP8 hz1 hz2 hz4
            by_cases hjl : j < kk
            · have hz : (j : Int) < (kk : Int) := by omega
              obtain ⟨n1, hn1⟩ : ∃ n1, kk - j = n1 + 1 := ⟨kk - j - 1, by omega⟩
              have hp := HPJ.out
              rw [hn1] at hp
              have hSH := HSH.out
              rw [hkk] at hSH
              have hC := take_q hp (aM_ok (ds := s0) (k := kk) hSH (by omega) (by omega) (by omega) _ (by omega)) ((j : Int) + 1)
              rw [aM_take (by omega)] at hC
              obtain ⟨rr, hrr⟩ : ∃ rr, s0.getD j default = rr := ⟨_, rfl⟩
              unfold takeV sentC aD a11 at hC
              dsimp only at hC
              rw [hrr] at hC
              have hrl := hSH j (by omega)
              rw [hrr] at hrl
              obtain ⟨bb, off, rfl, hbl, hall⟩ := HAT.out (by omega)
              obtain ⟨u, hu, A', c', rfl, k1, k2, k3, k4⟩ := hall j (by omega)
              rw [hrr] at hu k1 k2 k4
              have x0 := (hp.cells (b := xb) (C := #[.pointer (some ⟨nb, 0, none⟩)]) (t := 25) (by rw [HREST.out, ← HRO.out]; simp) 0).1
              have xl := World.block_lt_of_cell? _ _ x0
              simp at x0
              dsimp only at xl
              have HC := Lib.hid hC; have HU := Lib.hid hu; have HK1 := Lib.hid k1
              have hmn : kk - (j + 1) = n1 := by omega
              have HMN := Lib.hid hmn
              clear hC hp hSH hall hu k1 k4 HPJ hrr hmn hn1
              go_wp2_with fail
              refine HC.out.mono ?_
              rintro e W3 ⟨A3, c3, osb, rfl, hp3, hbt3⟩
              have hp4 := hp3.box (k := W3.heap.size) (sentC ((j : Int) + 1) (1, 1) (1, 1) (.slice A3 rr.length c3)) 43 rfl
              unfold sentC at hp4
              have y5 := (hp4.cells (b := W3.heap.size) (C := #[.int .i64 ((j : Int) + 1), .int .u32 1, .int .i64 1, .int .u32 1, .int .i64 1, .slice A3 rr.length c3]) (t := 43) (by simp) 5).1
              have r0 := (hp4.low.cell (p := ⟨bb, off + j, none⟩) hbl).trans HU.out
              have yl := World.block_lt_of_cell? _ _ y5
              have rl := World.block_lt_of_cell? _ _ r0
              have hbtW := hbt3 _ (fun p hp' => hp4.drew.held p (by simp [hp']))
              have hsm := same_self A3 A' rr.length c3 c' rr _ (by unfold maxLen; omega) hbtW ((HK1.out.below hp4.low).drewN 1)
              have HSM := Lib.hid hsm
              have hps := hp4.sub (os' := rest) (fun p hp' => by simp [hp'])
              have HPS := Lib.hid hps
              simp at y5
              dsimp only at yl rl
              obtain ⟨sx, hsx⟩ : ∃ sx, W3.heap.size = sx := ⟨_, rfl⟩
              have HS29 : Hid (((W3.alloc (.cells #[.int .i64 ((j : Int) + 1), .int .u32 1, .int .i64 1, .int .u32 1, .int .i64 1, .slice A3 rr.length c3] 43)).drew.cell? ⟨sx, 5, none⟩ = some (.slice A3 rr.length c3) ∧ (W3.alloc (.cells #[.int .i64 ((j : Int) + 1), .int .u32 1, .int .i64 1, .int .u32 1, .int .i64 1, .slice A3 rr.length c3] 43)).drew.cell? ⟨bb, off + j, none⟩ = some (.slice A' rr.length c')) ∧ sx < (W3.alloc (.cells #[.int .i64 ((j : Int) + 1), .int .u32 1, .int .i64 1, .int .u32 1, .int .i64 1, .slice A3 rr.length c3] 43)).drew.heap.size ∧ bb < (W3.alloc (.cells #[.int .i64 ((j : Int) + 1), .int .u32 1, .int .i64 1, .int .u32 1, .int .i64 1, .slice A3 rr.length c3] 43)).drew.heap.size) := Lib.hid ⟨⟨by rw [← hsx]; exact (cells_of (World.alloc_heap_new W3 _) 5).1, r0⟩, by rw [← hsx]; simp, rl⟩
              clear hp3 hp4 hbt3 y5 r0 yl rl hbtW hsm hps x0 xl HC
              go_upto_region 29 with (fail)
              try rw [hsx]
              clear hsx
              generalize W3.alloc (.cells #[.int .i64 ((j : Int) + 1), .int .u32 1, .int .i64 1, .int .u32 1, .int .i64 1, .slice A3 rr.length c3] 43) = W4 at *
              refine Code.wp_mono (Q := OnlyN _) OnlyN.all ?_
              refine wp_region_held_drew (S := fun W => (W.cell? ⟨sx, 5, none⟩ = some (.slice A3 rr.length c3) ∧ W.cell? ⟨bb, off + j, none⟩ = some (.slice A' rr.length c')) ∧ sx < W.heap.size ∧ bb < W.heap.size) (by kernel_rfl) HS29.out (fun hHeld => ?_)
              refine wpAnyH_take (i := 0) (oi := _) (v := ?_) rfl (by kernel_rfl) (by kernel_rfl) (by kernel_rfl) (fun _ _ _ h => h) (Or.inl ⟨by rfl, ?_⟩) (by assumption) ?_
              case refine_2 => intro w hSw; obtain ⟨⟨p0, p1⟩, pl1, pl2⟩ := hSw; go_simp; first | done | (with_reducible rfl)
              try simp only [Act.put, List.getElem_toArray, List.getElem_cons_zero, List.setIfInBounds_toArray, List.set_cons_zero, List.set_cons_succ]
              refine wpAnyH_take (i := 1) (oi := _) (v := ?_) rfl (by kernel_rfl) (by kernel_rfl) (by kernel_rfl) (fun _ _ _ h => h) (Or.inl ⟨by rfl, ?_⟩) (by assumption) ?_
              case refine_2 => intro w hSw; obtain ⟨⟨p0, p1⟩, pl1, pl2⟩ := hSw; go_simp; first | done | (with_reducible rfl)
              try simp only [Act.put, List.getElem_toArray, List.getElem_cons_zero, List.getElem_cons_succ, List.setIfInBounds_toArray, List.set_cons_zero, List.set_cons_succ]
              refine wpAnyH_take (i := 2) (oi := _) (v := ?_) rfl (by kernel_rfl) (by kernel_rfl) (by kernel_rfl) (fun _ _ _ h => h) (Or.inl ⟨by rfl, ?_⟩) (by assumption) ?_
              case refine_2 => intro w hSw; obtain ⟨⟨p0, p1⟩, pl1, pl2⟩ := hSw; go_simp; first | done | (with_reducible rfl)
              try simp only [Act.put, List.getElem_toArray, List.getElem_cons_zero, List.getElem_cons_succ, List.setIfInBounds_toArray, List.set_cons_zero, List.set_cons_succ]
              refine wpAnyH_take (i := 3) (oi := _) (v := ?_) rfl (by kernel_rfl) (by kernel_rfl) (by kernel_rfl) (fun _ _ _ h => h) (Or.inl ⟨by rfl, ?_⟩) (by assumption) ?_
              case refine_2 => intro w hSw; obtain ⟨⟨p0, p1⟩, pl1, pl2⟩ := hSw; go_simp; first | done | (with_reducible rfl)
              try simp only [Act.put, List.getElem_toArray, List.getElem_cons_zero, List.getElem_cons_succ, List.setIfInBounds_toArray, List.set_cons_zero, List.set_cons_succ]
              refine wpAnyH_take (i := 4) (oi := _) (v := ?_) rfl (by kernel_rfl) (by kernel_rfl) (by kernel_rfl) (fun _ _ _ h => h) (Or.inl ⟨by rfl, ?_⟩) (by assumption) ?_
              case refine_2 => intro w hSw; obtain ⟨⟨p0, p1⟩, pl1, pl2⟩ := hSw; go_simp; first | done | (with_reducible rfl)
              try simp only [Act.put, List.getElem_toArray, List.getElem_cons_zero, List.getElem_cons_succ, List.setIfInBounds_toArray, List.set_cons_zero, List.set_cons_succ]
              refine wpAnyH_take (i := 5) (oi := _) (v := ?_) rfl (by kernel_rfl) (by kernel_rfl) (by kernel_rfl) (fun _ _ _ h => h) (Or.inl ⟨by rfl, ?_⟩) (by assumption) ?_
              case refine_2 => intro w hSw; obtain ⟨⟨p0, p1⟩, pl1, pl2⟩ := hSw; go_simp; first | done | (with_reducible rfl)
              try simp only [Act.put, List.getElem_toArray, List.getElem_cons_zero, List.getElem_cons_succ, List.setIfInBounds_toArray, List.set_cons_zero, List.set_cons_succ]
              refine wpAnyH_take (i := 6) (oi := _) (v := ?_) rfl (by kernel_rfl) (by kernel_rfl) (by kernel_rfl) (fun _ _ _ h => h) (Or.inl ⟨by rfl, ?_⟩) (by assumption) ?_
              case refine_2 => intro w hSw; obtain ⟨⟨p0, p1⟩, pl1, pl2⟩ := hSw; go_simp; first | done | (with_reducible rfl)
              try simp only [Act.put, List.getElem_toArray, List.getElem_cons_zero, List.getElem_cons_succ, List.setIfInBounds_toArray, List.set_cons_zero, List.set_cons_succ]
              refine wpAnyH_take (i := 7) (oi := _) (v := ?_) rfl (by kernel_rfl) (by kernel_rfl) (by kernel_rfl) (fun _ _ _ h => h) (Or.inl ⟨by rfl, ?_⟩) (by assumption) ?_
              case refine_2 => intro w hSw; obtain ⟨⟨p0, p1⟩, pl1, pl2⟩ := hSw; go_simp; first | done | (with_reducible rfl)
              try simp only [Act.put, List.getElem_toArray, List.getElem_cons_zero, List.getElem_cons_succ, List.setIfInBounds_toArray, List.set_cons_zero, List.set_cons_succ]
              refine wpAnyH_take (i := 8) (oi := _) (v := ?_) rfl (by kernel_rfl) (by kernel_rfl) (by kernel_rfl) (fun _ _ _ h => h) (Or.inl ⟨by rfl, ?_⟩) (by assumption) ?_
              case refine_2 => intro w hSw; obtain ⟨⟨p0, p1⟩, pl1, pl2⟩ := hSw; go_simp; first | done | (with_reducible rfl)
              try simp only [Act.put, List.getElem_toArray, List.getElem_cons_zero, List.getElem_cons_succ, List.setIfInBounds_toArray, List.set_cons_zero, List.set_cons_succ]
              refine wpAnyH_ready (rs := [9]) (by kernel_rfl) (by simp) ?_
              refine AllReadyH.cons rfl (fun K hK => ?_) AllReadyH.nil
              go_simp
              go_at_call 21
              refine HSM.out.mono ?_
              rintro e W6 ⟨rfl, q, rfl⟩
              have HS9 : Hid (((W4.drew.drewN q).cell? ⟨sx, 5, none⟩ = some (.slice A3 rr.length c3) ∧ (W4.drew.drewN q).cell? ⟨bb, off + j, none⟩ = some (.slice A' rr.length c')) ∧ sx < (W4.drew.drewN q).heap.size ∧ bb < (W4.drew.drewN q).heap.size) := Lib.hid HS29.out
              refine hK.out _ _ HS9.out (fun hHeld => ?_)
              clear hK K
              try simp only [Act.put, List.getElem_toArray, List.getElem_cons_zero, List.getElem_cons_succ, List.setIfInBounds_toArray, List.set_cons_zero, List.set_cons_succ]
              refine wpAnyH_take (i := 10) (oi := _) (v := ?_) rfl (by kernel_rfl) (by kernel_rfl) (by kernel_rfl) (fun _ _ _ h => h) (Or.inl ⟨by rfl, ?_⟩) (by assumption) ?_
              case refine_2 => intro w hSw; obtain ⟨⟨p0, p1⟩, pl1, pl2⟩ := hSw; go_simp; first | done | (with_reducible rfl)
              try simp only [Act.put, List.getElem_toArray, List.getElem_cons_zero, List.getElem_cons_succ, List.setIfInBounds_toArray, List.set_cons_zero, List.set_cons_succ]
              refine wpAnyH_take (i := 11) (oi := _) (v := ?_) rfl (by kernel_rfl) (by kernel_rfl) (by kernel_rfl) (fun _ _ _ h => h) (Or.inl ⟨by rfl, ?_⟩) (by assumption) ?_
              case refine_2 => intro w hSw; obtain ⟨⟨p0, p1⟩, pl1, pl2⟩ := hSw; go_simp; first | done | (with_reducible rfl)
              try simp only [Act.put, List.getElem_toArray, List.getElem_cons_zero, List.getElem_cons_succ, List.setIfInBounds_toArray, List.set_cons_zero, List.set_cons_succ]
              refine wpAnyH_done (by kernel_rfl) ?_ _
              dsimp only [OnlyN]
              have HPF : Hid (Pn w nb ((kk : Int) + (m : Int)) (aM s0 (j + 1) n1 ++ eM kk m) rest (W4.drew.drewN q)) := Lib.hid (HPS.out.drew.drewN q)
              clear HPS HSM HS29
              generalize W4.drew.drewN q = W5 at *
              go_wp2
              go_roundw
              case rel => exact ⟨j + 1, by omega, by go_num, by rw [HMN.out]; exact HPF⟩
              case measure => simp [intOf]; omega
            · have hz : ¬ (j : Int) < (kk : Int) := by omega
              have HKD : Hid (wr.heap[D]? = some (.deferred (some []))) := Lib.hid (HPJ.out.held (D, .deferred (some [])) (by rw [HREST.out]; simp))
              have HLOW := Lib.hid HPJ.out.low
              have hdw := HDW.out
              clear HPJ
              go_wp2
              refine ⟨by simp, .inl ⟨_, _, rfl, run_takeDeferred HKD.out, ?_⟩⟩
              exact ⟨.bool true, by simp [results, Try.results6, go_sem], rfl, HLOW.out.trans (belowK_b (w := w) (Nat.le_refl _) _ D _ _ hdw HKD.out rfl rfl)⟩
        · have hms : m = st := hor.resolve_left hmk
          have hz1 : (((m : Int)) != (kk : Int)) = true := by rw [bne_iff_ne]; omega
          have hz3 : (((m : Int)) != (st : Int)) = false := by simp [hms]
          have hz2 : (cz != (kk : Int) + (m : Int)) = false := by rw [bne_eq_false_iff_eq, ← HCZ.out]; omega
          have hz4 := hz2
          clear hmk hms hor
          refine wp_region_held_drew (S := fun W => (W.cell? ⟨nn, 0, none⟩ = some (.int .i64 (m : Int)) ∧ W.cell? ⟨sb, 0, none⟩ = some (.int .u8 (st : Int)) ∧ W.cell? ⟨xb, 0, none⟩ = some (.pointer (some ⟨nb, 0, none⟩))) ∧ nn < W.heap.size ∧ sb < W.heap.size ∧ xb < W.heap.size) (by kernel_rfl) HS23.out (fun hHeld => ?_)
          refine wpAnyH_take (i := 0) (oi := _) (v := ?_) rfl (by kernel_rfl) (by kernel_rfl) (by kernel_rfl) (fun _ _ _ h => h) (Or.inl ⟨by rfl, ?_⟩) (by assumption) ?_
          case refine_2 => intro w hSw; obtain ⟨⟨p0, p1, p2⟩, pl1, pl2, pl3⟩ := hSw; go_simp; first | done | (with_reducible rfl)
          try simp only [Act.put, List.getElem_toArray, List.getElem_cons_zero, List.setIfInBounds_toArray, List.set_cons_zero, List.set_cons_succ]
          refine wpAnyH_take (i := 1) (oi := _) (v := ?_) rfl (by kernel_rfl) (by kernel_rfl) (by kernel_rfl) (fun _ _ _ h => h) (Or.inl ⟨by rfl, ?_⟩) (by assumption) ?_
          case refine_2 => intro w hSw; obtain ⟨⟨p0, p1, p2⟩, pl1, pl2, pl3⟩ := hSw; go_simp; first | done | (with_reducible rfl)
          try simp only [Act.put, List.getElem_toArray, List.getElem_cons_zero, List.getElem_cons_succ, List.setIfInBounds_toArray, List.set_cons_zero, List.set_cons_succ]
          refine wpAnyH_take (i := 2) (oi := _) (v := ?_) rfl (by kernel_rfl) (by kernel_rfl) (by kernel_rfl) (fun _ _ _ h => h) (Or.inl ⟨by rfl, ?_⟩) (by assumption) ?_
          case refine_2 => intro w hSw; obtain ⟨⟨p0, p1, p2⟩, pl1, pl2, pl3⟩ := hSw; go_simp; first | done | (with_reducible rfl)
          try simp only [Act.put, List.getElem_toArray, List.getElem_cons_zero, List.getElem_cons_succ, List.setIfInBounds_toArray, List.set_cons_zero, List.set_cons_succ]
          refine wpAnyH_take (i := 3) (oi := _) (v := ?_) rfl (by kernel_rfl) (by kernel_rfl) (by kernel_rfl) (fun _ _ _ h => h) (Or.inl ⟨by rfl, ?_⟩) (by assumption) ?_
          case refine_2 => intro w hSw; obtain ⟨⟨p0, p1, p2⟩, pl1, pl2, pl3⟩ := hSw; go_simp; first | done | (with_reducible rfl)
          try simp only [Act.put, List.getElem_toArray, List.getElem_cons_zero, List.getElem_cons_succ, List.setIfInBounds_toArray, List.set_cons_zero, List.set_cons_succ]
          refine wpAnyH_take (i := 4) (oi := _) (v := ?_) rfl (by kernel_rfl) (by kernel_rfl) (by kernel_rfl) (fun _ _ _ h => h) (Or.inl ⟨by rfl, ?_⟩) (by assumption) ?_
          case refine_2 => intro w hSw; obtain ⟨⟨p0, p1, p2⟩, pl1, pl2, pl3⟩ := hSw; go_simp; first | done | (with_reducible rfl)
          try simp only [Act.put, List.getElem_toArray, List.getElem_cons_zero, List.getElem_cons_succ, List.setIfInBounds_toArray, List.set_cons_zero, List.set_cons_succ]
          refine wpAnyH_take (i := 5) (oi := _) (v := ?_) rfl (by kernel_rfl) (by kernel_rfl) (by kernel_rfl) (fun _ _ _ h => h) (Or.inl ⟨by rfl, ?_⟩) (by assumption) ?_
          case refine_2 => intro w hSw; obtain ⟨⟨p0, p1, p2⟩, pl1, pl2, pl3⟩ := hSw; go_simp; first | done | (with_reducible rfl)
          try simp only [Act.put, List.getElem_toArray, List.getElem_cons_zero, List.getElem_cons_succ, List.setIfInBounds_toArray, List.set_cons_zero, List.set_cons_succ]
          refine wpAnyH_take (i := 6) (oi := _) (v := ?_) rfl (by kernel_rfl) (by kernel_rfl) (by kernel_rfl) (fun _ _ _ h => h) (Or.inl ⟨by rfl, ?_⟩) (by assumption) ?_
          case refine_2 => intro w hSw; obtain ⟨⟨p0, p1, p2⟩, pl1, pl2, pl3⟩ := hSw; go_simp; first | done | (with_reducible rfl)
          try simp only [Act.put, List.getElem_toArray, List.getElem_cons_zero, List.getElem_cons_succ, List.setIfInBounds_toArray, List.set_cons_zero, List.set_cons_succ]
          refine wpAnyH_take (i := 7) (oi := _) (v := ?_) rfl (by kernel_rfl) (by kernel_rfl) (by kernel_rfl) (fun _ _ _ h => h) (Or.inl ⟨by rfl, ?_⟩) (by assumption) ?_
          case refine_2 => intro w hSw; obtain ⟨⟨p0, p1, p2⟩, pl1, pl2, pl3⟩ := hSw; go_simp; first | done | (with_reducible rfl)
          try simp only [Act.put, List.getElem_toArray, List.getElem_cons_zero, List.getElem_cons_succ, List.setIfInBounds_toArray, List.set_cons_zero, List.set_cons_succ]
          refine wpAnyH_take (i := 8) (oi := _) (v := ?_) rfl (by kernel_rfl) (by kernel_rfl) (by kernel_rfl) (fun _ _ _ h => h) (Or.inl ⟨by rfl, ?_⟩) (by assumption) ?_
          case refine_2 => intro w hSw; obtain ⟨⟨p0, p1, p2⟩, pl1, pl2, pl3⟩ := hSw; go_simp; first | done | (with_reducible rfl)
          try simp only [Act.put, List.getElem_toArray, List.getElem_cons_zero, List.getElem_cons_succ, List.setIfInBounds_toArray, List.set_cons_zero, List.set_cons_succ]
          refine wpAnyH_take (i := 9) (oi := _) (v := ?_) rfl (by kernel_rfl) (by kernel_rfl) (by kernel_rfl) (fun _ _ _ h => h) (Or.inl ⟨by rfl, ?_⟩) (by assumption) ?_
          case refine_2 => intro w hSw; obtain ⟨⟨p0, p1, p2⟩, pl1, pl2, pl3⟩ := hSw; go_simp; first | done | (with_reducible rfl)
          try simp only [Act.put, List.getElem_toArray, List.getElem_cons_zero, List.getElem_cons_succ, List.setIfInBounds_toArray, List.set_cons_zero, List.set_cons_succ]
          refine wpAnyH_take (i := 10) (oi := _) (v := ?_) rfl (by kernel_rfl) (by kernel_rfl) (by kernel_rfl) (fun _ _ _ h => h) (Or.inl ⟨by rfl, ?_⟩) (by assumption) ?_
          case refine_2 => intro w hSw; obtain ⟨⟨p0, p1, p2⟩, pl1, pl2, pl3⟩ := hSw; go_simp; first | done | (with_reducible rfl)
          try simp only [Act.put, List.getElem_toArray, List.getElem_cons_zero, List.getElem_cons_succ, List.setIfInBounds_toArray, List.set_cons_zero, List.set_cons_succ]
          refine wpAnyH_take (i := 11) (oi := _) (v := ?_) rfl (by kernel_rfl) (by kernel_rfl) (by kernel_rfl) (fun _ _ _ h => h) (Or.inl ⟨by rfl, ?_⟩) (by assumption) ?_
          case refine_2 => intro w hSw; obtain ⟨⟨p0, p1, p2⟩, pl1, pl2, pl3⟩ := hSw; go_simp; first | done | (with_reducible rfl)
          try simp only [Act.put, List.getElem_toArray, List.getElem_cons_zero, List.getElem_cons_succ, List.setIfInBounds_toArray, List.set_cons_zero, List.set_cons_succ]
          refine wpAnyH_take (i := 13) (oi := _) (v := ?_) rfl (by kernel_rfl) (by kernel_rfl) (by kernel_rfl) (fun _ _ _ h => h) (Or.inl ⟨by rfl, ?_⟩) (by assumption) ?_
          case refine_2 => intro w hSw; obtain ⟨⟨p0, p1, p2⟩, pl1, pl2, pl3⟩ := hSw; go_simp; first | done | (with_reducible rfl)
          try simp only [Act.put, List.getElem_toArray, List.getElem_cons_zero, List.getElem_cons_succ, List.setIfInBounds_toArray, List.set_cons_zero, List.set_cons_succ]
          refine wpAnyH_take (i := 14) (oi := _) (v := ?_) rfl (by kernel_rfl) (by kernel_rfl) (by kernel_rfl) (fun _ _ _ h => h) (Or.inl ⟨by rfl, ?_⟩) (by assumption) ?_
          case refine_2 => intro w hSw; obtain ⟨⟨p0, p1, p2⟩, pl1, pl2, pl3⟩ := hSw; go_simp; first | done | (with_reducible rfl)
          try simp only [Act.put, List.getElem_toArray, List.getElem_cons_zero, List.getElem_cons_succ, List.setIfInBounds_toArray, List.set_cons_zero, List.set_cons_succ]
          refine wpAnyH_take (i := 15) (oi := _) (v := ?_) rfl (by kernel_rfl) (by kernel_rfl) (by kernel_rfl) (fun _ _ _ h => h) (Or.inl ⟨by rfl, ?_⟩) (by assumption) ?_
          case refine_2 => intro w hSw; obtain ⟨⟨p0, p1, p2⟩, pl1, pl2, pl3⟩ := hSw; go_simp; first | done | (with_reducible rfl)
          try simp only [Act.put, List.getElem_toArray, List.getElem_cons_zero, List.getElem_cons_succ, List.setIfInBounds_toArray, List.set_cons_zero, List.set_cons_succ]
          refine wpAnyH_take (i := 16) (oi := _) (v := ?_) rfl (by kernel_rfl) (by kernel_rfl) (by kernel_rfl) (fun _ _ _ h => h) (Or.inl ⟨by rfl, ?_⟩) (by assumption) ?_
          case refine_2 => intro w hSw; obtain ⟨⟨p0, p1, p2⟩, pl1, pl2, pl3⟩ := hSw; go_simp; first | done | (with_reducible rfl)
          try simp only [Act.put, List.getElem_toArray, List.getElem_cons_zero, List.getElem_cons_succ, List.setIfInBounds_toArray, List.set_cons_zero, List.set_cons_succ]
          refine wpAnyH_ready (rs := [12]) (by kernel_rfl) (by simp) ?_
          refine AllReadyH.cons rfl (fun K hK => ?_) AllReadyH.nil
          go_simp
          go_at_call 20
          refine HCN.out.mono ?_
          rintro e W2 ⟨rfl, rfl⟩
          refine hK.out _ _ HS23.out (fun hHeld => ?_)
          clear hK K
          try simp only [Act.put, List.getElem_toArray, List.getElem_cons_zero, List.getElem_cons_succ, List.setIfInBounds_toArray, List.set_cons_zero, List.set_cons_succ]
          refine wpAnyH_take (i := 17) (oi := _) (v := ?_) rfl (by kernel_rfl) (by kernel_rfl) (by kernel_rfl) (fun _ _ _ h => h) (Or.inl ⟨by rfl, ?_⟩) (by assumption) ?_
          case refine_2 => intro w hSw; obtain ⟨⟨p0, p1, p2⟩, pl1, pl2, pl3⟩ := hSw; go_simp; first | done | (with_reducible rfl)
          try simp only [Act.put, List.getElem_toArray, List.getElem_cons_zero, List.getElem_cons_succ, List.setIfInBounds_toArray, List.set_cons_zero, List.set_cons_succ]
          refine wpAnyH_take (i := 18) (oi := _) (v := ?_) rfl (by kernel_rfl) (by kernel_rfl) (by kernel_rfl) (fun _ _ _ h => h) (Or.inl ⟨by rfl, ?_⟩) (by assumption) ?_
          case refine_2 => intro w hSw; obtain ⟨⟨p0, p1, p2⟩, pl1, pl2, pl3⟩ := hSw; go_simp; first | done | (with_reducible rfl)
          try simp only [Act.put, List.getElem_toArray, List.getElem_cons_zero, List.getElem_cons_succ, List.setIfInBounds_toArray, List.set_cons_zero, List.set_cons_succ]
          refine wpAnyH_done (by kernel_rfl) ?_ _
          dsimp only [OnlyN]
          clear n0 b0 x0 nl bl xl HS23 HCN hHeld
          have HP8 := Lib.hid HP9.out.drew
          generalize W.drew = Wd at *
          have hkk := HKK.out
          go_wp2
          clear hk60 hw1 hw2 hw3
          go_loopw [11] (fun s wr => ∃ j : Nat, j ≤ kk ∧ s = .int .i64 j ∧ Hid (Pn w nb ((kk : Int) + (m : Int)) (aM s0 j (kk - j) ++ eM kk m) rest wr)) (fun s _ => kk - (intOf s).toNat)
          case atStart => exact ⟨0, Nat.zero_le _, rfl, HP8⟩
          case round =>
            obtain ⟨j, hj, rfl, HPJ⟩ := hrel
            clear HP8 hz1 hz2 hz4
            by_cases hjl : j < kk
            · have hz : (j : Int) < (kk : Int) := by omega
              obtain ⟨n1, hn1⟩ : ∃ n1, kk - j = n1 + 1 := ⟨kk - j - 1, by omega⟩
              have hp := HPJ.out
              rw [hn1] at hp
              have hSH := HSH.out
              rw [hkk] at hSH
              have hC := take_q hp (aM_ok (ds := s0) (k := kk) hSH (by omega) (by omega) (by omega) _ (by omega)) ((j : Int) + 1)
              rw [aM_take (by omega)] at hC
              obtain ⟨rr, hrr⟩ : ∃ rr, s0.getD j default = rr := ⟨_, rfl⟩
              unfold takeV sentC aD a11 at hC
              dsimp only at hC
              rw [hrr] at hC
              have hrl := hSH j (by omega)
              rw [hrr] at hrl
              obtain ⟨bb, off, rfl, hbl, hall⟩ := HAT.out (by omega)
              obtain ⟨u, hu, A', c', rfl, k1, k2, k3, k4⟩ := hall j (by omega)
              rw [hrr] at hu k1 k2 k4
              have x0 := (hp.cells (b := xb) (C := #[.pointer (some ⟨nb, 0, none⟩)]) (t := 25) (by rw [HREST.out, ← HRO.out]; simp) 0).1
              have xl := World.block_lt_of_cell? _ _ x0
              simp at x0
              dsimp only at xl
              have HC := Lib.hid hC; have HU := Lib.hid hu; have HK1 := Lib.hid k1
              have hmn : kk - (j + 1) = n1 := by omega
              have HMN := Lib.hid hmn
              clear hC hp hSH hall hu k1 k4 HPJ hrr hmn hn1
              go_wp2_with fail
              refine HC.out.mono ?_
              rintro e W3 ⟨A3, c3, osb, rfl, hp3, hbt3⟩
              have hp4 := hp3.box (k := W3.heap.size) (sentC ((j : Int) + 1) (1, 1) (1, 1) (.slice A3 rr.length c3)) 43 rfl
              unfold sentC at hp4
              have y5 := (hp4.cells (b := W3.heap.size) (C := #[.int .i64 ((j : Int) + 1), .int .u32 1, .int .i64 1, .int .u32 1, .int .i64 1, .slice A3 rr.length c3]) (t := 43) (by simp) 5).1
              have r0 := (hp4.low.cell (p := ⟨bb, off + j, none⟩) hbl).trans HU.out
              have yl := World.block_lt_of_cell? _ _ y5
              have rl := World.block_lt_of_cell? _ _ r0
              have hbtW := hbt3 _ (fun p hp' => hp4.drew.held p (by simp [hp']))
              have hsm := same_self A3 A' rr.length c3 c' rr _ (by unfold maxLen; omega) hbtW ((HK1.out.below hp4.low).drewN 1)
              have HSM := Lib.hid hsm
              have hps := hp4.sub (os' := rest) (fun p hp' => by simp [hp'])
              have HPS := Lib.hid hps
              simp at y5
              dsimp only at yl rl
              obtain ⟨sx, hsx⟩ : ∃ sx, W3.heap.size = sx := ⟨_, rfl⟩
              have HS29 : Hid (((W3.alloc (.cells #[.int .i64 ((j : Int) + 1), .int .u32 1, .int .i64 1, .int .u32 1, .int .i64 1, .slice A3 rr.length c3] 43)).drew.cell? ⟨sx, 5, none⟩ = some (.slice A3 rr.length c3) ∧ (W3.alloc (.cells #[.int .i64 ((j : Int) + 1), .int .u32 1, .int .i64 1, .int .u32 1, .int .i64 1, .slice A3 rr.length c3] 43)).drew.cell? ⟨bb, off + j, none⟩ = some (.slice A' rr.length c')) ∧ sx < (W3.alloc (.cells #[.int .i64 ((j : Int) + 1), .int .u32 1, .int .i64 1, .int .u32 1, .int .i64 1, .slice A3 rr.length c3] 43)).drew.heap.size ∧ bb < (W3.alloc (.cells #[.int .i64 ((j : Int) + 1), .int .u32 1, .int .i64 1, .int .u32 1, .int .i64 1, .slice A3 rr.length c3] 43)).drew.heap.size) := Lib.hid ⟨⟨by rw [← hsx]; exact (cells_of (World.alloc_heap_new W3 _) 5).1, r0⟩, by rw [← hsx]; simp, rl⟩
              clear hp3 hp4 hbt3 y5 r0 yl rl hbtW hsm hps x0 xl HC
              go_upto_region 29 with (fail)
              try rw [hsx]
              clear hsx
              generalize W3.alloc (.cells #[.int .i64 ((j : Int) + 1), .int .u32 1, .int .i64 1, .int .u32 1, .int .i64 1, .slice A3 rr.length c3] 43) = W4 at *
              refine Code.wp_mono (Q := OnlyN _) OnlyN.all ?_
              refine wp_region_held_drew (S := fun W => (W.cell? ⟨sx, 5, none⟩ = some (.slice A3 rr.length c3) ∧ W.cell? ⟨bb, off + j, none⟩ = some (.slice A' rr.length c')) ∧ sx < W.heap.size ∧ bb < W.heap.size) (by kernel_rfl) HS29.out (fun hHeld => ?_)
              refine wpAnyH_take (i := 0) (oi := _) (v := ?_) rfl (by kernel_rfl) (by kernel_rfl) (by kernel_rfl) (fun _ _ _ h => h) (Or.inl ⟨by rfl, ?_⟩) (by assumption) ?_
              case refine_2 => intro w hSw; obtain ⟨⟨p0, p1⟩, pl1, pl2⟩ := hSw; go_simp; first | done | (with_reducible rfl)
              try simp only [Act.put, List.getElem_toArray, List.getElem_cons_zero, List.setIfInBounds_toArray, List.set_cons_zero, List.set_cons_succ]
              refine wpAnyH_take (i := 1) (oi := _) (v := ?_) rfl (by kernel_rfl) (by kernel_rfl) (by kernel_rfl) (fun _ _ _ h => h) (Or.inl ⟨by rfl, ?_⟩) (by assumption) ?_
              case refine_2 => intro w hSw; obtain ⟨⟨p0, p1⟩, pl1, pl2⟩ := hSw; go_simp; first | done | (with_reducible rfl)
              try simp only [Act.put, List.getElem_toArray, List.getElem_cons_zero, List.getElem_cons_succ, List.setIfInBounds_toArray, List.set_cons_zero, List.set_cons_succ]
              refine wpAnyH_take (i := 2) (oi := _) (v := ?_) rfl (by kernel_rfl) (by kernel_rfl) (by kernel_rfl) (fun _ _ _ h => h) (Or.inl ⟨by rfl, ?_⟩) (by assumption) ?_
              case refine_2 => intro w hSw; obtain ⟨⟨p0, p1⟩, pl1, pl2⟩ := hSw; go_simp; first | done | (with_reducible rfl)
              try simp only [Act.put, List.getElem_toArray, List.getElem_cons_zero, List.getElem_cons_succ, List.setIfInBounds_toArray, List.set_cons_zero, List.set_cons_succ]
              refine wpAnyH_take (i := 3) (oi := _) (v := ?_) rfl (by kernel_rfl) (by kernel_rfl) (by kernel_rfl) (fun _ _ _ h => h) (Or.inl ⟨by rfl, ?_⟩) (by assumption) ?_
              case refine_2 => intro w hSw; obtain ⟨⟨p0, p1⟩, pl1, pl2⟩ := hSw; go_simp; first | done | (with_reducible rfl)
              try simp only [Act.put, List.getElem_toArray, List.getElem_cons_zero, List.getElem_cons_succ, List.setIfInBounds_toArray, List.set_cons_zero, List.set_cons_succ]
              refine wpAnyH_take (i := 4) (oi := _) (v := ?_) rfl (by kernel_rfl) (by kernel_rfl) (by kernel_rfl) (fun _ _ _ h => h) (Or.inl ⟨by rfl, ?_⟩) (by assumption) ?_
              case refine_2 => intro w hSw; obtain ⟨⟨p0, p1⟩, pl1, pl2⟩ := hSw; go_simp; first | done | (with_reducible rfl)
              try simp only [Act.put, List.getElem_toArray, List.getElem_cons_zero, List.getElem_cons_succ, List.setIfInBounds_toArray, List.set_cons_zero, List.set_cons_succ]
              refine wpAnyH_take (i := 5) (oi := _) (v := ?_) rfl (by kernel_rfl) (by kernel_rfl) (by kernel_rfl) (fun _ _ _ h => h) (Or.inl ⟨by rfl, ?_⟩) (by assumption) ?_
              case refine_2 => intro w hSw; obtain ⟨⟨p0, p1⟩, pl1, pl2⟩ := hSw; go_simp; first | done | (with_reducible rfl)
              try simp only [Act.put, List.getElem_toArray, List.getElem_cons_zero, List.getElem_cons_succ, List.setIfInBounds_toArray, List.set_cons_zero, List.set_cons_succ]
              refine wpAnyH_take (i := 6) (oi := _) (v := ?_) rfl (by kernel_rfl) (by kernel_rfl) (by kernel_rfl) (fun _ _ _ h => h) (Or.inl ⟨by rfl, ?_⟩) (by assumption) ?_
              case refine_2 => intro w hSw; obtain ⟨⟨p0, p1⟩, pl1, pl2⟩ := hSw; go_simp; first | done | (with_reducible rfl)
              try simp only [Act.put, List.getElem_toArray, List.getElem_cons_zero, List.getElem_cons_succ, List.setIfInBounds_toArray, List.set_cons_zero, List.set_cons_succ]
              refine wpAnyH_take (i := 7) (oi := _) (v := ?_) rfl (by kernel_rfl) (by kernel_rfl) (by kernel_rfl) (fun _ _ _ h => h) (Or.inl ⟨by rfl, ?_⟩) (by assumption) ?_
              case refine_2 => intro w hSw; obtain ⟨⟨p0, p1⟩, pl1, pl2⟩ := hSw; go_simp; first | done | (with_reducible rfl)
              try simp only [Act.put, List.getElem_toArray, List.getElem_cons_zero, List.getElem_cons_succ, List.setIfInBounds_toArray, List.set_cons_zero, List.set_cons_succ]
              refine wpAnyH_take (i := 8) (oi := _) (v := ?_) rfl (by kernel_rfl) (by kernel_rfl) (by kernel_rfl) (fun _ _ _ h => h) (Or.inl ⟨by rfl, ?_⟩) (by assumption) ?_
              case refine_2 => intro w hSw; obtain ⟨⟨p0, p1⟩, pl1, pl2⟩ := hSw; go_simp; first | done | (with_reducible rfl)
              try simp only [Act.put, List.getElem_toArray, List.getElem_cons_zero, List.getElem_cons_succ, List.setIfInBounds_toArray, List.set_cons_zero, List.set_cons_succ]
              refine wpAnyH_ready (rs := [9]) (by kernel_rfl) (by simp) ?_
              refine AllReadyH.cons rfl (fun K hK => ?_) AllReadyH.nil
              go_simp
              go_at_call 21
              refine HSM.out.mono ?_
              rintro e W6 ⟨rfl, q, rfl⟩
              have HS9 : Hid (((W4.drew.drewN q).cell? ⟨sx, 5, none⟩ = some (.slice A3 rr.length c3) ∧ (W4.drew.drewN q).cell? ⟨bb, off + j, none⟩ = some (.slice A' rr.length c')) ∧ sx < (W4.drew.drewN q).heap.size ∧ bb < (W4.drew.drewN q).heap.size) := Lib.hid HS29.out
              refine hK.out _ _ HS9.out (fun hHeld => ?_)
              clear hK K
              try simp only [Act.put, List.getElem_toArray, List.getElem_cons_zero, List.getElem_cons_succ, List.setIfInBounds_toArray, List.set_cons_zero, List.set_cons_succ]
              refine wpAnyH_take (i := 10) (oi := _) (v := ?_) rfl (by kernel_rfl) (by kernel_rfl) (by kernel_rfl) (fun _ _ _ h => h) (Or.inl ⟨by rfl, ?_⟩) (by assumption) ?_
              case refine_2 => intro w hSw; obtain ⟨⟨p0, p1⟩, pl1, pl2⟩ := hSw; go_simp; first | done | (with_reducible rfl)
              try simp only [Act.put, List.getElem_toArray, List.getElem_cons_zero, List.getElem_cons_succ, List.setIfInBounds_toArray, List.set_cons_zero, List.set_cons_succ]
              refine wpAnyH_take (i := 11) (oi := _) (v := ?_) rfl (by kernel_rfl) (by kernel_rfl) (by kernel_rfl) (fun _ _ _ h => h) (Or.inl ⟨by rfl, ?_⟩) (by assumption) ?_
              case refine_2 => intro w hSw; obtain ⟨⟨p0, p1⟩, pl1, pl2⟩ := hSw; go_simp; first | done | (with_reducible rfl)
              try simp only [Act.put, List.getElem_toArray, List.getElem_cons_zero, List.getElem_cons_succ, List.setIfInBounds_toArray, List.set_cons_zero, List.set_cons_succ]
              refine wpAnyH_done (by kernel_rfl) ?_ _
              dsimp only [OnlyN]
              have HPF : Hid (Pn w nb ((kk : Int) + (m : Int)) (aM s0 (j + 1) n1 ++ eM kk m) rest (W4.drew.drewN q)) := Lib.hid (HPS.out.drew.drewN q)
              clear HPS HSM HS29
              generalize W4.drew.drewN q = W5 at *
              go_wp2
              go_roundw
              case rel => exact ⟨j + 1, by omega, by go_num, by rw [HMN.out]; exact HPF⟩
              case measure => simp [intOf]; omega
            · have hz : ¬ (j : Int) < (kk : Int) := by omega
              have HKD : Hid (wr.heap[D]? = some (.deferred (some []))) := Lib.hid (HPJ.out.held (D, .deferred (some [])) (by rw [HREST.out]; simp))
              have HLOW := Lib.hid HPJ.out.low
              have hdw := HDW.out
              clear HPJ
              go_wp2
              refine ⟨by simp, .inl ⟨_, _, rfl, run_takeDeferred HKD.out, ?_⟩⟩
              exact ⟨.bool true, by simp [results, Try.results6, go_sem], rfl, HLOW.out.trans (belowK_b (w := w) (Nat.le_refl _) _ D _ _ hdw HKD.out rfl rfl)⟩

/-! ### THE ROW's STEP: WRITTEN OUT: LEAVE IT -/
set_option maxRecDepth 100000 in
theorem lifted (os : Os) (started : os.Started) (H : Type) (enc : TypeId × Value → H) :
    ReturnsInHanded {} Try.checked os 6 .any (Rows.netAllSpec.pre6 enc Try.prog Try.f6 Rows.netAllRow.domain false) (Rows.netAllSpec.post enc Try.prog Try.f6 false true false false) := by
  refine returnsInHanded_of_change (C := Try.checked) own started (by kernel_rfl) Try.func6
    (ChangeSpec.witness6 (enc := enc) (C := Try.checked) false ⟨#[], #[.slice none 0 0, .int .u8 0], []⟩ 8 (by kernel_rfl) (by kernel_rfl) (by kernel_rfl) (by kernel_rfl)) ?_
  intro W base args ds gs before hval0 hW hcnd _
  have hval : ∀ (j : Nat) t v, Try.f6.params[j]? = some t → args[j]? = some v → Value.okWide Try.prog W .any base t v := hval0
  have hW' := hW
  obtain ⟨p, q, hA0, hV, rfl, hfz, hnd⟩ := hW
  have hA : DataW.TrodAll enc Try.prog W 0 (fun _ => true) true Try.f6.params.toList args.toList ds p := hA0
  rw [Try.params6] at hA hval
  obtain ⟨v0, vs0, d0, ds0, p0, q0, hargs, rfl, rfl, h0, r0⟩ := trodAll_cons hA
  obtain ⟨v1, vs1, d1, ds1, p1, q1, rfl, rfl, rfl, h1, r1⟩ := trodAll_cons r0
  obtain ⟨rfl, rfl, rfl⟩ := trodAll_nil r1
  obtain rfl : args = #[v0, v1] := by cases args; simp_all
  obtain ⟨rfl, rfl⟩ := trodVars_none hV
  have k0 := h0
  have lt0 : ∀ x ∈ p0, x.block < W.heap.size := by obtain ⟨m, hm⟩ := k0; exact DataW.trod_lt m _ _ _ hm
  obtain ⟨s0, w0⟩ := open_rws (hval 0 55 v0 rfl rfl) h0
  obtain ⟨a1, rfl, rfl, rfl, w1⟩ := open_int Try.underlying5 (hval 1 5 v1 rfl rfl) h1
  clear hA0 hval0
  refine (walk v0 s0 a1 W w0 w1).mono fun e W' ⟨he, bel⟩ => ?_
  subst he
  exact ⟨_, rfl, _, _, _, [], _, [], hW', trodAll_mk1 (shut_bool Try.underlying4 _), (trodAll_cons_mk (Below.trod laidOut (by kernel_rfl) (of_decide_eq_true (by kernel_rfl)) k0 bel lt0) (trodAll_cons_mk (shut_int Try.underlying5 w1) trodAll_mk0)), rfl, bel.frame _, fun h => by cases h⟩

theorem over : Rows.netAllRow.holds Try.pinned (OpenSpec.ofChange Rows.netAllSpec) :=
  OpenClaim.holds_of_wide 6 Try.f6 rfl rfl rfl rfl rfl rfl rfl ⟨rfl, rfl, rfl, rfl, rfl⟩ rfl rfl rfl rfl rfl (by kernel_rfl) Try.func6 (by kernel_rfl)
    (of_decide_eq_true (by kernel_rfl)) (by unfold Func.isWrapper; first | (rw [if_pos (by decide +kernel)]; kernel_rfl) | (rw [if_neg (by decide +kernel)]; exact ⟨rfl, rfl⟩))
    (fun os started H enc _ => lifted os started H enc)

/-- ████ THE STATEMENT ████ -/
theorem proved : Rows.NetAllSaid := over
#print axioms proved
end Go.Proofs.Ythfdnidcmkjmoaa.netAll
