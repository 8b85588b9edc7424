/-
  Between hosts in the open net all comes, from their own addresses, to the port that it was sent to; a host behind a box isn't reached by its own number from there (16 hosts). Condition: none beyond the statement's own.
-/
import Derived.Test.YtidhdgcmagpkgaaWk
import Derived.Test.YtidhdgcmagpkgaaRows
import Derived.WalkKit
import Derived.ProofKit
import Derived.OpenShut
import Derived.ShutString
import Derived.ChangeOld
import Derived.Below
namespace Go.Proofs.Ytidhdgcmagpkgaa.worldOpen
open Go.ChangeShapes Go.WideShapes Go.ChangeAt Go.RowKit
open Go.ChangeMaps (open_string shut_string)
set_option linter.unusedVariables false

theorem own : ownKnob Try.prog.godebug = none := by kernel_rfl
theorem laidOut : laidOutB Try.prog = true := by kernel_rfl

set_option maxRecDepth 100000 in
set_option maxHeartbeats 8000000 in
theorem walk (v0 : Value) (s0 : Pn) (v1 : Value) (s1 : (Int × Int)) (v2 : Value) (s2 : (Int × Int)) (w : World) (w0 : IsPlan w v0 s0) (w1 : IsEnds w v1 s1) (w2 : IsPorts w v2 s2) :
    Calls Try.prog 4 #[v0, v1, v2] w fun e w' => e = .returned (.bool true) ∧ Below w.heap.size w w' := by
  obtain ⟨A0, A1, A2, c0, c1, c2, rfl, PV⟩ := w0
  obtain ⟨a, b⟩ := s1
  obtain ⟨rfl, ha, hb⟩ := w1
  obtain ⟨p0, p1⟩ := s2
  obtain ⟨rfl, hp0, hp1⟩ := w2
  dsimp only at ha hb hp0 hp1 ⊢
  have hm38 := noGuard38
  have hs0 := (((Hs.nil w).box (k := w.heap.size) #[.slice A0 s0.bx.length c0, .slice A1 s0.bh.length c1, .slice A2 s0.hs.length c2] 26 rfl).box (k := w.heap.size + 1) #[.int .i64 a, .int .i64 b] 45 (by simp)).box (k := w.heap.size + 2) #[.int .u16 p0, .int .u16 p1] 47 (by simp)
  have h26 : Hid ((w.heap.size, Obj.cells #[.slice A0 s0.bx.length c0, .slice A1 s0.bh.length c1, .slice A2 s0.hs.length c2] 26 (0, 0)) ∈ [(w.heap.size + 2, Obj.cells #[.int .u16 p0, .int .u16 p1] 47 (0, 0)), (w.heap.size + 1, Obj.cells #[.int .i64 a, .int .i64 b] 45 (0, 0)), (w.heap.size, Obj.cells #[.slice A0 s0.bx.length c0, .slice A1 s0.bh.length c1, .slice A2 s0.hs.length c2] 26 (0, 0))]) := Lib.hid (by simp)
  have h45 : Hid ((w.heap.size + 1, Obj.cells #[.int .i64 a, .int .i64 b] 45 (0, 0)) ∈ [(w.heap.size + 2, Obj.cells #[.int .u16 p0, .int .u16 p1] 47 (0, 0)), (w.heap.size + 1, Obj.cells #[.int .i64 a, .int .i64 b] 45 (0, 0)), (w.heap.size, Obj.cells #[.slice A0 s0.bx.length c0, .slice A1 s0.bh.length c1, .slice A2 s0.hs.length c2] 26 (0, 0))]) := Lib.hid (by simp)
  have h47 : Hid ((w.heap.size + 2, Obj.cells #[.int .u16 p0, .int .u16 p1] 47 (0, 0)) ∈ [(w.heap.size + 2, Obj.cells #[.int .u16 p0, .int .u16 p1] 47 (0, 0)), (w.heap.size + 1, Obj.cells #[.int .i64 a, .int .i64 b] 45 (0, 0)), (w.heap.size, Obj.cells #[.slice A0 s0.bx.length c0, .slice A1 s0.bh.length c1, .slice A2 s0.hs.length c2] 26 (0, 0))]) := Lib.hid (by simp)
  have HS0 := Lib.hid hs0
  have HPV := Lib.hid PV
  clear hs0 PV
  go_enter Try.func4, Try.ntmps4
  go_wp2_with fail
  refine (awake_wd _).mono ?_
  rintro e V1 ⟨rfl, hb1⟩
  have HS1 := Lib.hid (HS0.out.below hb1)
  obtain ⟨os, hos⟩ : ∃ os, [(w.heap.size + 2, Obj.cells #[.int .u16 p0, .int .u16 p1] 47 (0, 0)), (w.heap.size + 1, Obj.cells #[.int .i64 a, .int .i64 b] 45 (0, 0)), (w.heap.size, Obj.cells #[.slice A0 s0.bx.length c0, .slice A1 s0.bh.length c1, .slice A2 s0.hs.length c2] 26 (0, 0))] = os := ⟨_, rfl⟩
  rw [hos] at HS1 h26 h45 h47
  clear hb1 HS0 hos
  have e0 := (HS1.out.cells h45.out 0).1
  have e1 := (HS1.out.cells h45.out 1).1
  have f0 := (HS1.out.cells h26.out 0).1
  have f1 := (HS1.out.cells h26.out 1).1
  have f2 := (HS1.out.cells h26.out 2).1
  simp at e0 e1 f0 f1 f2
  go_wp2_with fail
  refine (small_wd HPV.out _).mono ?_
  rintro e V2 ⟨rfl, hb2⟩
  have HS2 := Lib.hid (HS1.out.below hb2)
  have HLOW := Lib.hid HS2.out.low
  clear hb2 HS1 e0 e1 f0 f1 f2
  cases hsm : smallP s0 with
  | false =>
    clear hsm
    go_wp2
    go_ret
    exact ⟨rfl, HLOW.out⟩
  | true =>
    clear hsm
    have f0 := (HS2.out.cells h26.out 0).1
    have f1 := (HS2.out.cells h26.out 1).1
    have f2 := (HS2.out.cells h26.out 2).1
    simp at f0 f1 f2
    have HPV2 := Lib.hid (HPV.out.below HS2.out.low)
    have HNEW := Lib.hid HPV2.out.new
    go_wp2_with fail
    refine HNEW.out.mono ?_
    intro e V3 hm
    clear f0 f1 f2 HNEW
    rcases hm with ⟨_, rfl, hb3⟩ | ⟨hok, wb, bv, sv, hv, rfl, hp⟩
    · have HE := Lib.hid (HLOW.out.trans (hb3.mono HLOW.out.size))
      clear hb3
      go_wp2
      go_ret
      exact ⟨rfl, HE.out⟩
    · have HOK := Lib.hid (okNew_parts hok HPV.out.ib HPV.out.is)
      have HW := Lib.hid (hp.rebase HLOW.out HS2.out.held)
      have HPV3 := Lib.hid (HPV.out.below HW.out.low)
      clear hp hok HPV2 HLOW HS2
      have f2 := (HW.out.cells h26.out 2).1
      have q0 := (HW.out.cells h47.out 0).1
      have q1 := (HW.out.cells h47.out 1).1
      simp at f2 q0 q1
      have HLOW := Lib.hid HW.out.low
      obtain ⟨n, hn⟩ : ∃ n, s0.hs.length = n := ⟨_, rfl⟩
      have hn16 : n ≤ 16 := by have := HOK.out.h16; omega
      have HN := Lib.hid hn
      rw [hn] at f2
      clear hn
      by_cases a0 : a < 0
      · go_wp2
        go_ret
        exact ⟨rfl, HLOW.out⟩
      by_cases a1 : (n : Int) ≤ a
      · go_wp2
        go_ret
        exact ⟨rfl, HLOW.out⟩
      by_cases b0 : b < 0
      · go_wp2
        go_ret
        exact ⟨rfl, HLOW.out⟩
      by_cases b1 : (n : Int) ≤ b
      · go_wp2
        go_ret
        exact ⟨rfl, HLOW.out⟩
      obtain ⟨a, rfl⟩ := Int.eq_ofNat_of_zero_le (by omega : 0 ≤ a)
      obtain ⟨b, rfl⟩ := Int.eq_ofNat_of_zero_le (by omega : 0 ≤ b)
      have han : a < n := by omega
      have hbn : b < n := by omega
      by_cases z0 : p0 = 0
      · have z0b : (p0 == (0 : Int)) = true := by simpa using z0
        subst z0
        go_wp2
        go_ret
        exact ⟨rfl, HLOW.out⟩
      have z0b : (p0 == (0 : Int)) = false := by simpa using z0
      by_cases z1 : p1 = 0
      · subst z1
        go_wp2
        go_ret
        exact ⟨rfl, HLOW.out⟩
      have z1b : (p1 == (0 : Int)) = false := by simpa using z1
      obtain ⟨⟨xa, ka⟩, hxa⟩ : ∃ s, s0.hs[a]? = some s := ⟨_, List.getElem?_eq_getElem (by have := HN.out; omega)⟩
      obtain ⟨⟨xb, kb⟩, hxb⟩ : ∃ s, s0.hs[b]? = some s := ⟨_, List.getElem?_eq_getElem (by have := HN.out; omega)⟩
      obtain ⟨hb_, ho_, rfl, hbl, hcell⟩ := HPV3.out.s (by have := HN.out; omega)
      obtain ⟨ya0, ya1⟩ := hcell a _ hxa
      obtain ⟨yb0, yb1⟩ := hcell b _ hxb
      dsimp only at ya0 ya1 yb0 yb1
      have HCELL := Lib.hid hcell
      clear hcell
      by_cases ka1 : ka = -1
      case neg =>
        have kab : (ka != (-1 : Int)) = true := by simpa using ka1
        clear hxa hxb
        go_wp2
        go_ret
        exact ⟨rfl, HLOW.out⟩
      subst ka1
      have HXA := Lib.hid hxa
      have HXB := Lib.hid hxb
      clear hxa hxb
      have q0w : IntKind.i64.wrap p0 = p0 := by rw [IntKind.wrap_i64]; omega
      have q1w : IntKind.i64.wrap p1 = p1 := by rw [IntKind.wrap_i64]; omega
      have HCB : Hid (∀ o, (V3.alloc o).cell? ⟨w.heap.size, 2, none⟩ = some (.slice (some ⟨hb_, ho_, none⟩) n c2) ∧ (V3.alloc o).cell? ⟨hb_, ho_ + b * 2, none⟩ = some (.int .u32 xb) ∧ (V3.alloc o).cell? ⟨w.heap.size + 2, 1, none⟩ = some (.int .u16 p1)) := Lib.hid (fun o => by
        have hbo : Below V3.heap.size V3 (V3.alloc o) := (Below.refl _ V3).alloc (Nat.le_refl _) _
        exact ⟨(hbo.cell (World.block_lt_of_cell? _ _ f2)).trans f2, (hbo.cell (World.block_lt_of_cell? _ _ yb0)).trans yb0, (hbo.cell (World.block_lt_of_cell? _ _ q1)).trans q1⟩)
      go_wp2_with fail
      refine wp_region_held_drew (S := fun W => W.cell? ⟨w.heap.size, 2, none⟩ = some (.slice (some ⟨hb_, ho_, none⟩) n c2) ∧ W.cell? ⟨hb_, ho_ + b * 2, none⟩ = some (.int .u32 xb) ∧ W.cell? ⟨w.heap.size + 2, 1, none⟩ = some (.int .u16 p1)) (by kernel_rfl) ⟨f2, yb0, q1⟩ (fun hHeld => ?_)
      refine wpAnyH_take (i := 0) (oi := _) (v := ?_) rfl (by kernel_rfl) (by kernel_rfl) (by kernel_rfl) (fun _ _ _ h => h) (Or.inl ⟨by rfl, ?_⟩) (by assumption) ?_
      case refine_2 => intro w hSw; (try dsimp only at hSw); obtain ⟨z1, z2, z3⟩ := hSw; go_simp; first | done | (with_reducible rfl)
      try simp only [Act.put, List.getElem_toArray, List.getElem_cons_zero, List.setIfInBounds_toArray, List.set_cons_zero, List.set_cons_succ]
      refine wpAnyH_take (i := 1) (oi := _) (v := ?_) rfl (by kernel_rfl) (by kernel_rfl) (by kernel_rfl) (fun _ _ _ h => h) (Or.inl ⟨by rfl, ?_⟩) (by assumption) ?_
      case refine_2 => intro w hSw; (try dsimp only at hSw); obtain ⟨z1, z2, z3⟩ := hSw; go_simp; first | done | (with_reducible rfl)
      try simp only [Act.put, List.getElem_toArray, List.getElem_cons_zero, List.getElem_cons_succ, List.setIfInBounds_toArray, List.set_cons_zero, List.set_cons_succ]
      refine wpAnyH_take (i := 2) (oi := _) (v := ?_) rfl (by kernel_rfl) (by kernel_rfl) (by kernel_rfl) (fun _ _ _ h => h) (Or.inl ⟨by rfl, ?_⟩) (by assumption) ?_
      case refine_2 => intro w hSw; (try dsimp only at hSw); obtain ⟨z1, z2, z3⟩ := hSw; go_simp; first | done | (with_reducible rfl)
      try simp only [Act.put, List.getElem_toArray, List.getElem_cons_zero, List.getElem_cons_succ, List.setIfInBounds_toArray, List.set_cons_zero, List.set_cons_succ]
      refine wpAnyH_take (i := 3) (oi := _) (v := ?_) rfl (by kernel_rfl) (by kernel_rfl) (by kernel_rfl) (fun _ _ _ h => h) (Or.inl ⟨by rfl, ?_⟩) (by assumption) ?_
      case refine_2 => intro w hSw; (try dsimp only at hSw); obtain ⟨z1, z2, z3⟩ := hSw; go_simp; first | done | (with_reducible rfl)
      try simp only [Act.put, List.getElem_toArray, List.getElem_cons_zero, List.getElem_cons_succ, List.setIfInBounds_toArray, List.set_cons_zero, List.set_cons_succ]
      refine wpAnyH_take (i := 4) (oi := _) (v := ?_) rfl (by kernel_rfl) (by kernel_rfl) (by kernel_rfl) (fun _ _ _ h => h) (Or.inl ⟨by rfl, ?_⟩) (by assumption) ?_
      case refine_2 => intro w hSw; (try dsimp only at hSw); obtain ⟨z1, z2, z3⟩ := hSw; go_simp; first | done | (with_reducible rfl)
      try simp only [Act.put, List.getElem_toArray, List.getElem_cons_zero, List.getElem_cons_succ, List.setIfInBounds_toArray, List.set_cons_zero, List.set_cons_succ]
      refine wpAnyH_take (i := 5) (oi := _) (v := ?_) rfl (by kernel_rfl) (by kernel_rfl) (by kernel_rfl) (fun _ _ _ h => h) (Or.inl ⟨by rfl, ?_⟩) (by assumption) ?_
      case refine_2 => intro w hSw; (try dsimp only at hSw); obtain ⟨z1, z2, z3⟩ := hSw; go_simp; first | done | (with_reducible rfl)
      try simp only [Act.put, List.getElem_toArray, List.getElem_cons_zero, List.getElem_cons_succ, List.setIfInBounds_toArray, List.set_cons_zero, List.set_cons_succ]
      refine wpAnyH_take (i := 6) (oi := _) (v := ?_) rfl (by kernel_rfl) (by kernel_rfl) (by kernel_rfl) (fun _ _ _ h => h) (Or.inl ⟨by rfl, ?_⟩) (by assumption) ?_
      case refine_2 => intro w hSw; (try dsimp only at hSw); obtain ⟨z1, z2, z3⟩ := hSw; go_simp; first | done | (with_reducible rfl)
      try simp only [Act.put, List.getElem_toArray, List.getElem_cons_zero, List.getElem_cons_succ, List.setIfInBounds_toArray, List.set_cons_zero, List.set_cons_succ]
      refine wpAnyH_take (i := 7) (oi := _) (v := ?_) rfl (by kernel_rfl) (by kernel_rfl) (by kernel_rfl) (fun _ _ _ h => h) (Or.inl ⟨by rfl, ?_⟩) (by assumption) ?_
      case refine_2 => intro w hSw; (try dsimp only at hSw); obtain ⟨z1, z2, z3⟩ := hSw; go_simp; first | done | (with_reducible rfl)
      try simp only [Act.put, List.getElem_toArray, List.getElem_cons_zero, List.getElem_cons_succ, List.setIfInBounds_toArray, List.set_cons_zero, List.set_cons_succ]
      refine wpAnyH_take (i := 8) (oi := _) (v := ?_) rfl (by kernel_rfl) (by kernel_rfl) (by kernel_rfl) (fun _ _ _ h => h) (Or.inl ⟨by rfl, ?_⟩) (by assumption) ?_
      case refine_2 => intro w hSw; (try dsimp only at hSw); obtain ⟨z1, z2, z3⟩ := hSw; go_simp; first | done | (with_reducible rfl)
      try simp only [Act.put, List.getElem_toArray, List.getElem_cons_zero, List.getElem_cons_succ, List.setIfInBounds_toArray, List.set_cons_zero, List.set_cons_succ]
      refine wpAnyH_take (i := 9) (oi := _) (v := ?_) rfl (by kernel_rfl) (by kernel_rfl) (by kernel_rfl) (fun _ _ _ h => h) (Or.inl ⟨by rfl, ?_⟩) (by assumption) ?_
      case refine_2 => intro w hSw; (try dsimp only at hSw); obtain ⟨z1, z2, z3⟩ := hSw; go_simp; first | done | (with_reducible rfl)
      try simp only [Act.put, List.getElem_toArray, List.getElem_cons_zero, List.getElem_cons_succ, List.setIfInBounds_toArray, List.set_cons_zero, List.set_cons_succ]
      refine wpAnyH_ready (rs := [10]) (by kernel_rfl) (by simp) ?_
      refine AllReadyH.cons rfl (fun K hK => ?_) AllReadyH.nil
      go_simp
      refine hK.out _ _ (HCB.out _) (fun hHeld => ?_)
      clear hK K
      try simp only [Act.put, List.getElem_toArray, List.getElem_cons_zero, List.getElem_cons_succ, List.setIfInBounds_toArray, List.set_cons_zero, List.set_cons_succ]
      refine wpAnyH_ready (rs := [11]) (by kernel_rfl) (by simp) ?_
      refine AllReadyH.cons rfl (fun K hK => ?_) AllReadyH.nil
      go_simp
      refine hK.out _ _ (HCB.out _) (fun hHeld => ?_)
      clear hK K
      try simp only [Act.put, List.getElem_toArray, List.getElem_cons_zero, List.getElem_cons_succ, List.setIfInBounds_toArray, List.set_cons_zero, List.set_cons_succ]
      refine wpAnyH_done (by kernel_rfl) ?_ _
      have hw4 : Wp w wb bv sv hv (sitesOf s0.bx s0.bh) s0.hs (s0.bx.map freshP) 0 ((V3.heap.size, .cells #[.int .u32 xb, .int .i64 p1] 36 (0, 0)) :: os) (V3.alloc (.cells #[.int .u32 xb, .int .i64 p1] 36)).drew := (HW.out.box (k := V3.heap.size) #[.int .u32 xb, .int .i64 p1] 36 rfl).drewN 1
      obtain ⟨VA, hVA⟩ : ∃ VA, (V3.alloc (.cells #[.int .u32 xb, .int .i64 p1] 36)).drew = VA := ⟨_, rfl⟩
      rw [hVA] at hw4 ⊢
      clear hVA f2 q0 q1 ya0 ya1 yb0 yb1
      have hway := way_wp hw4 HOK.out.okS HOK.out.ok HOK.out.len HOK.out.s16 HOK.out.h16 HOK.out.okH 0 a p0 (xb, p1) ⟨by omega, by omega⟩ ⟨(HOK.out.okH _ (List.mem_of_getElem? HXB.out)).1.1, by simp only; omega, by simp only; omega⟩
      have t0 := hw4.c2 (k := V3.heap.size) (u := .int .u32 xb) (v := .int .i64 p1) (t := 36) (by simp)
      obtain ⟨t00, t01, -⟩ := t0
      have q0 : VA.cell? ⟨w.heap.size + 1 + 1, 0, none⟩ = some (.int .u16 p0) := (hw4.cells (List.mem_cons_of_mem _ h47.out) 0).1
      unfold adr at hway
      by_cases kb1 : kb = -1
      · subst kb1
        rw [way_open1 HOK.out HXA.out HXB.out ⟨by omega, by omega⟩ ⟨by omega, by omega⟩] at hway
        dsimp only at hway
        have HWAY := Lib.hid hway
        clear hway
        go_wp2_with fail
        refine HWAY.out.mono ?_
        rintro e V4 ⟨rfl, hw5⟩
        have hw6 := (hw5.box (k := V4.heap.size) #[.int .u32 xa, .int .i64 p0] 36 rfl).box (k := V4.heap.size + 1) #[.int .u32 xb, .int .i64 p1] 36 (by simp)
        obtain ⟨x1, x2, ex, hx1, hcell6⟩ := (HPV.out.below hw6.low).s (by have := HN.out; omega)
        cases ex
        obtain ⟨ya0, ya1⟩ := hcell6 a _ HXA.out
        obtain ⟨yb0, yb1⟩ := hcell6 b _ HXB.out
        dsimp only at ya0 ya1 yb0 yb1
        have f2 := (hw6.cells (List.mem_cons_of_mem _ (List.mem_cons_of_mem _ (List.mem_cons_of_mem _ h26.out))) 2).1
        have q0 := (hw6.cells (List.mem_cons_of_mem _ (List.mem_cons_of_mem _ (List.mem_cons_of_mem _ h47.out))) 0).1
        simp at f2 q0
        rw [HN.out] at f2
        obtain ⟨t00, t01, -⟩ := hw6.c2 (k := V3.heap.size) (u := .int .u32 xb) (v := .int .i64 p1) (t := 36) (by simp)
        have HLOW6 := Lib.hid hw6.low
        obtain ⟨u00, u01, -⟩ := hw6.c2 (k := V4.heap.size) (u := .int .u32 xa) (v := .int .i64 p0) (t := 36) (by simp)
        obtain ⟨v00, v01, -⟩ := hw6.c2 (k := V4.heap.size + 1) (u := .int .u32 xb) (v := .int .i64 p1) (t := 36) (by simp)
        obtain ⟨VB, hVB⟩ : ∃ VB, (V4.alloc (.cells #[.int .u32 xa, .int .i64 p0] 36)).alloc (.cells #[.int .u32 xb, .int .i64 p1] 36) = VB := ⟨_, rfl⟩
        rw [hVB] at HLOW6 ya0 ya1 yb0 yb1 f2 q0 t00 t01 u00 u01 v00 v01
        clear hcell6 hw5 hw6 hw4 HWAY
        go_upto_region 14 with fail
        clear hVB
        go_wp2
        go_quiet (fail)
        go_wp2
        go_ret
        exact ⟨by simp, HLOW6.out.trans ((below_drw (Below.refl _ _) _).mono HLOW6.out.size)⟩
      · have hor := way_open2 HOK.out (p0 := p0) (p1 := p1) HXA.out HXB.out kb1
        obtain ⟨⟨⟨h', ⟨f1, f2'⟩, ⟨g1, g2⟩, c'⟩, bs', now'⟩, hR⟩ : ∃ R, wayM (sitesOf s0.bx s0.bh) s0.hs (s0.bx.map freshP) 0 0 a p0 (xb, p1) = R := ⟨_, rfl⟩
        rw [hR] at hway hor
        dsimp only at hway hor
        have HWAY := Lib.hid hway
        clear hway hR
        go_wp2_with fail
        refine HWAY.out.mono ?_
        rintro e V4 ⟨rfl, hw5⟩
        have hw6 := (hw5.box (k := V4.heap.size) #[.int .u32 f1, .int .i64 f2'] 36 rfl).box (k := V4.heap.size + 1) #[.int .u32 g1, .int .i64 g2] 36 (by simp)
        obtain ⟨x1, x2, ex, hx1, hcell6⟩ := (HPV.out.below hw6.low).s (by have := HN.out; omega)
        cases ex
        obtain ⟨ya0, ya1⟩ := hcell6 a _ HXA.out
        obtain ⟨yb0, yb1⟩ := hcell6 b _ HXB.out
        dsimp only at ya0 ya1 yb0 yb1
        have f2 := (hw6.cells (List.mem_cons_of_mem _ (List.mem_cons_of_mem _ (List.mem_cons_of_mem _ h26.out))) 2).1
        have q0 := (hw6.cells (List.mem_cons_of_mem _ (List.mem_cons_of_mem _ (List.mem_cons_of_mem _ h47.out))) 0).1
        simp at f2 q0
        rw [HN.out] at f2
        obtain ⟨t00, t01, -⟩ := hw6.c2 (k := V3.heap.size) (u := .int .u32 xb) (v := .int .i64 p1) (t := 36) (by simp)
        have HLOW6 := Lib.hid hw6.low
        obtain ⟨VB, hVB⟩ : ∃ VB, (V4.alloc (.cells #[.int .u32 f1, .int .i64 f2'] 36)).alloc (.cells #[.int .u32 g1, .int .i64 g2] 36) = VB := ⟨_, rfl⟩
        rw [hVB] at HLOW6 ya0 ya1 yb0 yb1 f2 q0 t00 t01
        clear hcell6 hw5 hw6 hw4 HWAY
        have kbb : (kb == (-1 : Int)) = false := by simpa using kb1
        go_upto_region 14 with fail
        clear hVB
        by_cases hc : c' = 0
        · have hcb : (c' != 0) = false := by simpa using hc
          have hhb : (h' != (b : Int)) = true := by simpa using (hor.resolve_left (fun h => h hc))
          go_wp2
          go_ret
          exact ⟨rfl, HLOW6.out⟩
        · have hcb : (c' != 0) = true := by simpa using hc
          go_wp2
          go_ret
          exact ⟨rfl, HLOW6.out⟩

/-! ### THE ROW's STEP: WRITTEN OUT: LEAVE IT -/
set_option maxRecDepth 100000 in
theorem lifted (os : Os) (started : os.Started) (H : Type) (enc : TypeId × Value → H) :
    ReturnsInHanded {} Try.checked os 4 .any (Rows.worldOpenSpec.pre6 enc Try.prog Try.f4 Rows.worldOpenRow.domain false) (Rows.worldOpenSpec.post enc Try.prog Try.f4 false true false false) := by
  refine returnsInHanded_of_change (C := Try.checked) own started (by kernel_rfl) Try.func4
    (ChangeSpec.witness6 (enc := enc) (C := Try.checked) false ⟨#[], #[.agg #[.slice none 0 0, .slice none 0 0, .slice none 0 0], .agg #[.int .i64 0, .int .i64 0], .agg #[.int .u16 0, .int .u16 0]], []⟩ 8 (by kernel_rfl) (by kernel_rfl) (by kernel_rfl) (by kernel_rfl)) ?_
  intro W base args ds gs before hval0 hW hcnd _
  have hval : ∀ (j : Nat) t v, Try.f4.params[j]? = some t → args[j]? = some v → Value.okWide Try.prog W .any base t v := hval0
  have hW' := hW
  obtain ⟨p, q, hA0, hV, rfl, hfz, hnd⟩ := hW
  have hA : DataW.TrodAll enc Try.prog W 0 (fun _ => true) true Try.f4.params.toList args.toList ds p := hA0
  rw [Try.params4] at hA hval
  obtain ⟨v0, vs0, d0, ds0, p0, q0, hargs, rfl, rfl, h0, r0⟩ := trodAll_cons hA
  obtain ⟨v1, vs1, d1, ds1, p1, q1, rfl, rfl, rfl, h1, r1⟩ := trodAll_cons r0
  obtain ⟨v2, vs2, d2, ds2, p2, q2, rfl, rfl, rfl, h2, r2⟩ := trodAll_cons r1
  obtain ⟨rfl, rfl, rfl⟩ := trodAll_nil r2
  obtain rfl : args = #[v0, v1, v2] := by cases args; simp_all
  obtain ⟨rfl, rfl⟩ := trodVars_none hV
  have k0 := h0
  have lt0 : ∀ x ∈ p0, x.block < W.heap.size := by obtain ⟨m, hm⟩ := k0; exact DataW.trod_lt m _ _ _ hm
  obtain ⟨s0, w0⟩ := open_plan (hval 0 26 v0 rfl rfl) h0
  have k1 := h1
  have lt1 : ∀ x ∈ p1, x.block < W.heap.size := by obtain ⟨m, hm⟩ := k1; exact DataW.trod_lt m _ _ _ hm
  obtain ⟨s1, w1⟩ := open_ends (hval 1 45 v1 rfl rfl) h1
  have k2 := h2
  have lt2 : ∀ x ∈ p2, x.block < W.heap.size := by obtain ⟨m, hm⟩ := k2; exact DataW.trod_lt m _ _ _ hm
  obtain ⟨s2, w2⟩ := open_ports (hval 2 47 v2 rfl rfl) h2
  clear hA0 hval0
  refine (walk v0 s0 v1 s1 v2 s2 W w0 w1 w2).mono fun e W' ⟨he, bel⟩ => ?_
  subst he
  exact ⟨_, rfl, _, _, _, [], _, [], hW', trodAll_mk1 (shut_bool Try.underlying4 _), (trodAll_cons_mk (Below.trod laidOut (by kernel_rfl) (of_decide_eq_true (by kernel_rfl)) k0 bel lt0) (trodAll_cons_mk (Below.trod laidOut (by kernel_rfl) (of_decide_eq_true (by kernel_rfl)) k1 bel lt1) (trodAll_cons_mk (Below.trod laidOut (by kernel_rfl) (of_decide_eq_true (by kernel_rfl)) k2 bel lt2) trodAll_mk0))), rfl, bel.frame _, fun h => by cases h⟩

theorem over : Rows.worldOpenRow.holds Try.pinned (OpenSpec.ofChange Rows.worldOpenSpec) :=
  OpenClaim.holds_of_wide 4 Try.f4 rfl rfl rfl rfl rfl rfl rfl ⟨rfl, rfl, rfl, rfl, rfl⟩ rfl rfl rfl rfl rfl (by kernel_rfl) Try.func4 (by kernel_rfl)
    (of_decide_eq_true (by kernel_rfl)) (by unfold Func.isWrapper; first | (rw [if_pos (by decide +kernel)]; kernel_rfl) | (rw [if_neg (by decide +kernel)]; exact ⟨rfl, rfl⟩))
    (fun os started H enc _ => lifted os started H enc)

/-- ████ THE STATEMENT ████ -/
theorem proved : Rows.WorldOpenSaid := over
#print axioms proved
end Go.Proofs.Ytidhdgcmagpkgaa.worldOpen
