/-
  The contract of gate's byPcp, of a request. Conditions: the gateway stands.
  The contract of gate's byPcp, of a request that is served. Conditions: the gateway stands.
-/
import Derived.Test.YtemlnkcokeckmaaMh19
import Derived.Maps.OwnSet
namespace Go.Proofs.Ytemlnkcokeckmaa
open Go.RowKit Go.Maps
attribute [local go_sem] Oper.semAt_some
set_option linter.unusedVariables false
set_option linter.unusedSimpArgs false

section
variable {w0 V V' : World} {gb nb nm : Nat} {x : Bx} {most since now now' : Int} {av : Value} {f f' : Nf} {c c' : Nat} {M M' : List Bn} {os : List (Nat × Obj)}
set_option maxRecDepth 100000 in
set_option maxHeartbeats 16000000 in
theorem byPcp_other (h : Gm w0 gb nb nm x most since av f c now M os V) (t : Int) (a : A2) (ha : isA a) {v : Value} {zs : List Int} {l : Pp.Le} {k : Int} (hr : Pp.Row V v zs) (hz : Pp.PAskOf zs l k) (h0 : 0 ≤ since) (h1 : since ≤ 1099511627776000) (ht0 : 0 ≤ t) (ht1 : t ≤ 1099511627776) (hk : k ≠ a.1) :
    Calls Try.prog 91 #[.pointer (some ⟨gb, 0, none⟩), .int .i64 t, adr a, v] V fun e V' => ∃ u, e = .returned u ∧ Pp.Row V' u (Pp.pansR ⟨2, l.ins, 0, 0, l.non, 12, epoV since t, 0⟩) ∧ Gm w0 gb nb nm x most since av f c now M os V' := by
  have hl := hz.is
  have hb1 := hz.may.1.2.1
  have hg0 := h.box (k := V.heap.size) #[.int .u32 a.1, .int .i64 a.2] 38 rfl
  have hR := Lib.hid (pread_ask (hr.below ((Below.refl _ V).alloc (Nat.le_refl _) (.cells #[.int .u32 a.1, .int .i64 a.2] 38))))
  rw [Pp.paR_yes hz] at hR
  have HG := Lib.hid hg0
  have HEP := Lib.hid (fun os' W (hW : Gm w0 gb nb nm x most since av f c now M os' W) => epo_gm hW t h0 h1 ht0 ht1)
  have HE := Lib.hid (epoV_bd (since := since) (t := t))
  have HIL := Lib.hid hl
  have HLB := Lib.hid hb1
  have hkb : (k != a.1) = true := by simpa using hk
  clear h hg0 hr hz hl
  unfold Pp.paT Pp.leV Pp.leA at hR
  unfold adr
  generalize epoV since t = E at HEP HE ⊢
  go_enter Try.func91, Try.ntmps91
  go_wp2_with fail
  refine hR.out.mono ?_
  rintro e V1 ⟨rfl, hb⟩
  have hg1 := (HG.out.below hb).box (k := V1.heap.size) (Pp.leA l) 64 rfl
  have HG1 := Lib.hid hg1
  clear hb hg1
  go_upto_region 4 with (fail)
  obtain ⟨W1, hW1⟩ : ∃ W1, V1.alloc (.cells (Pp.leA l) 64) = W1 := ⟨_, rfl⟩
  rw [hW1] at HG1
  unfold Pp.leA at hW1
  rw [hW1]
  clear hW1
  obtain ⟨⟨c0, c1, c2, c3, c4⟩, cf, cl⟩ := HG1.out.cells
  go_cut [12] from 14 (fun v12 wc => ∃ q : Nat, v12 = .pointer (some ⟨q, 0, none⟩) ∧ Hid (Gm w0 gb nb nm x most since av f c now M ((q, .cells (Pp.leA ⟨2, l.ins, 0, 0, l.non, 0, E, 0⟩) 64 (0, 0)) :: (V1.heap.size, .cells (Pp.leA l) 64 (0, 0)) :: (V.heap.size, .cells #[.int .u32 a.1, .int .i64 a.2] 38 (0, 0)) :: os) wc ∧ w0.heap.size ≤ q ∧ ∀ p ∈ (V1.heap.size, .cells (Pp.leA l) 64 (0, 0)) :: (V.heap.size, .cells #[.int .u32 a.1, .int .i64 a.2] 38 (0, 0)) :: os, p.1 ≠ q))
  case first =>
    have HGA := Lib.hid (HG1.out.drewN 1)
    have HGB := Lib.hid ((HG1.out.drewN 1).alloc (.cells #[.int .i64 0, .int .i64 0, .int .i64 0, .int .i64 0, .int .u64 0, .int .i64 0, .int .i64 0, .int .u32 0] 64))
    have HSA : Hid ((fun W => W.heap[gb]? = some (.cells (gCells nb most since av nm) 117 (0, 0)) ∧ W.heap[V1.heap.size]? = some (.cells (Pp.leA l) 64 (0, 0))) (W1.drewN 1)) := Lib.hid ⟨(HG1.out.drewN 1).top, (HG1.out.drewN 1).held (p := (V1.heap.size, .cells (Pp.leA l) 64 (0, 0))) (by simp)⟩
    have HSB : Hid ((fun W => W.heap[gb]? = some (.cells (gCells nb most since av nm) 117 (0, 0)) ∧ W.heap[V1.heap.size]? = some (.cells (Pp.leA l) 64 (0, 0))) ((W1.drewN 1).alloc (.cells #[.int .i64 0, .int .i64 0, .int .i64 0, .int .i64 0, .int .u64 0, .int .i64 0, .int .i64 0, .int .u32 0] 64))) := Lib.hid ⟨((HG1.out.drewN 1).alloc _).top, ((HG1.out.drewN 1).alloc _).held (p := (V1.heap.size, .cells (Pp.leA l) 64 (0, 0))) (by simp)⟩
    have hgu := (HG1.out.drewN 1).box (k := W1.heap.size) #[.int .i64 0, .int .i64 0, .int .i64 0, .int .i64 0, .int .u64 0, .int .i64 0, .int .i64 0, .int .u32 0] 64 rfl
    have hla : Pp.LeAt ((W1.drewN 1).alloc (.cells #[.int .i64 0, .int .i64 0, .int .i64 0, .int .i64 0, .int .u64 0, .int .i64 0, .int .i64 0, .int .u32 0] 64)) W1.heap.size Pp.zeroL := hgu.held (p := (W1.heap.size, .cells #[.int .i64 0, .int .i64 0, .int .i64 0, .int .i64 0, .int .u64 0, .int .i64 0, .int .i64 0, .int .u32 0] 64 (0, 0))) (by simp)
    have HU : Hid ((_ ∧ _ ∧ _ ∧ _ ∧ _ ∧ _ ∧ _ ∧ _) ∧ (∀ k, ((W1.drewN 1).alloc (.cells #[.int .i64 0, .int .i64 0, .int .i64 0, .int .i64 0, .int .u64 0, .int .i64 0, .int .i64 0, .int .u32 0] 64)).frozen? ⟨W1.heap.size, k, none⟩ = false) ∧ W1.heap.size < ((W1.drewN 1).alloc (.cells #[.int .i64 0, .int .i64 0, .int .i64 0, .int .i64 0, .int .u64 0, .int .i64 0, .int .i64 0, .int .u32 0] 64)).heap.size) := Lib.hid ⟨hla.cells, fun k => (cells_of hla k).2, hla.lt⟩
    have hp8 := hgu.put8 ⟨2, l.ins, 0, 0, l.non, 0, E, 0⟩ (fun p hp => by have := HG1.out.lt hp; omega) HG1.out.low.size (l0 := Pp.zeroL)
    have HSC : Hid ((fun W => W.heap[gb]? = some (.cells (gCells nb most since av nm) 117 (0, 0)) ∧ W.heap[V1.heap.size]? = some (.cells (Pp.leA l) 64 (0, 0))) (Pp.put8 ((W1.drewN 1).alloc (.cells #[.int .i64 0, .int .i64 0, .int .i64 0, .int .i64 0, .int .u64 0, .int .i64 0, .int .i64 0, .int .u32 0] 64)) W1.heap.size ⟨2, l.ins, 0, 0, l.non, 0, E, 0⟩)) := Lib.hid ⟨hp8.top, hp8.held (p := (V1.heap.size, .cells (Pp.leA l) 64 (0, 0))) (by simp)⟩
    have HX : Hid (Gm w0 gb nb nm x most since av f c now M ((W1.heap.size, .cells (Pp.leA ⟨2, l.ins, 0, 0, l.non, 0, E, 0⟩) 64 (0, 0)) :: (V1.heap.size, .cells (Pp.leA l) 64 (0, 0)) :: (V.heap.size, .cells #[.int .u32 a.1, .int .i64 a.2] 38 (0, 0)) :: os) (Pp.put8 ((W1.drewN 1).alloc (.cells #[.int .i64 0, .int .i64 0, .int .i64 0, .int .i64 0, .int .u64 0, .int .i64 0, .int .i64 0, .int .u32 0] 64)) W1.heap.size ⟨2, l.ins, 0, 0, l.non, 0, E, 0⟩) ∧ w0.heap.size ≤ W1.heap.size ∧ ∀ p ∈ (V1.heap.size, .cells (Pp.leA l) 64 (0, 0)) :: (V.heap.size, .cells #[.int .u32 a.1, .int .i64 a.2] 38 (0, 0)) :: os, p.1 ≠ W1.heap.size) := Lib.hid ⟨hp8, HG1.out.low.size, fun p hp e => by have := HG1.out.lt (p := p) hp; omega⟩
    clear hgu hla hp8
    refine wp_region_held_drew (S := fun W => W.heap[gb]? = some (.cells (gCells nb most since av nm) 117 (0, 0)) ∧ W.heap[V1.heap.size]? = some (.cells (Pp.leA l) 64 (0, 0))) (by kernel_rfl) HSA.out (fun hHeld => ?_)
    refine wpAnyH_take (i := 0) (oi := _) (v := ?_) rfl (by kernel_rfl) (by kernel_rfl) (by kernel_rfl) (fun _ _ _ h => h) (Or.inl ⟨by rfl, ?_⟩) (by assumption) ?_
    case refine_2 => intro w hSw; (try dsimp only at hSw); obtain ⟨hS1, hS2⟩ := hSw; have rlt := (Array.getElem?_eq_some_iff.1 hS1).1; have blt := (Array.getElem?_eq_some_iff.1 hS2).1; have j1 := (cells_of hS2 1).1; have j4 := (cells_of hS2 4).1; clear hS1 hS2; unfold Pp.leA at j1 j4; simp only [List.getElem?_toArray, List.getElem?_cons_zero, List.getElem?_cons_succ] at j1 j4; go_simp; first | done | (with_reducible rfl)
    try simp only [Act.put, List.getElem_toArray, List.getElem_cons_zero, List.getElem_cons_succ, List.setIfInBounds_toArray, List.set_cons_zero, List.set_cons_succ]
    refine wpAnyH_take (i := 1) (oi := _) (v := ?_) rfl (by kernel_rfl) (by kernel_rfl) (by kernel_rfl) (fun _ _ _ h => h) (Or.inl ⟨by rfl, ?_⟩) (by assumption) ?_
    case refine_2 => intro w hSw; (try dsimp only at hSw); obtain ⟨hS1, hS2⟩ := hSw; have rlt := (Array.getElem?_eq_some_iff.1 hS1).1; have blt := (Array.getElem?_eq_some_iff.1 hS2).1; have j1 := (cells_of hS2 1).1; have j4 := (cells_of hS2 4).1; clear hS1 hS2; unfold Pp.leA at j1 j4; simp only [List.getElem?_toArray, List.getElem?_cons_zero, List.getElem?_cons_succ] at j1 j4; go_simp; first | done | (with_reducible rfl)
    try simp only [Act.put, List.getElem_toArray, List.getElem_cons_zero, List.getElem_cons_succ, List.setIfInBounds_toArray, List.set_cons_zero, List.set_cons_succ]
    refine wpAnyH_take (i := 3) (oi := _) (v := ?_) rfl (by kernel_rfl) (by kernel_rfl) (by kernel_rfl) (fun _ _ _ h => h) (Or.inl ⟨by rfl, ?_⟩) (by assumption) ?_
    case refine_2 => intro w hSw; (try dsimp only at hSw); obtain ⟨hS1, hS2⟩ := hSw; have rlt := (Array.getElem?_eq_some_iff.1 hS1).1; have blt := (Array.getElem?_eq_some_iff.1 hS2).1; have j1 := (cells_of hS2 1).1; have j4 := (cells_of hS2 4).1; clear hS1 hS2; unfold Pp.leA at j1 j4; simp only [List.getElem?_toArray, List.getElem?_cons_zero, List.getElem?_cons_succ] at j1 j4; go_simp; first | done | (with_reducible rfl)
    try simp only [Act.put, List.getElem_toArray, List.getElem_cons_zero, List.getElem_cons_succ, List.setIfInBounds_toArray, List.set_cons_zero, List.set_cons_succ]
    refine wpAnyH_take (i := 4) (oi := _) (v := ?_) rfl (by kernel_rfl) (by kernel_rfl) (by kernel_rfl) (fun _ _ _ h => h) (Or.inl ⟨by rfl, ?_⟩) (by assumption) ?_
    case refine_2 => intro w hSw; (try dsimp only at hSw); obtain ⟨hS1, hS2⟩ := hSw; have rlt := (Array.getElem?_eq_some_iff.1 hS1).1; have blt := (Array.getElem?_eq_some_iff.1 hS2).1; have j1 := (cells_of hS2 1).1; have j4 := (cells_of hS2 4).1; clear hS1 hS2; unfold Pp.leA at j1 j4; simp only [List.getElem?_toArray, List.getElem?_cons_zero, List.getElem?_cons_succ] at j1 j4; go_simp; first | done | (with_reducible rfl)
    try simp only [Act.put, List.getElem_toArray, List.getElem_cons_zero, List.getElem_cons_succ, List.setIfInBounds_toArray, List.set_cons_zero, List.set_cons_succ]
    refine wpAnyH_take (i := 5) (oi := _) (v := ?_) rfl (by kernel_rfl) (by kernel_rfl) (by kernel_rfl) (fun _ _ _ h => h) (Or.inl ⟨by rfl, ?_⟩) (by assumption) ?_
    case refine_2 => intro w hSw; (try dsimp only at hSw); obtain ⟨hS1, hS2⟩ := hSw; have rlt := (Array.getElem?_eq_some_iff.1 hS1).1; have blt := (Array.getElem?_eq_some_iff.1 hS2).1; have j1 := (cells_of hS2 1).1; have j4 := (cells_of hS2 4).1; clear hS1 hS2; unfold Pp.leA at j1 j4; simp only [List.getElem?_toArray, List.getElem?_cons_zero, List.getElem?_cons_succ] at j1 j4; go_simp; first | done | (with_reducible rfl)
    try simp only [Act.put, List.getElem_toArray, List.getElem_cons_zero, List.getElem_cons_succ, List.setIfInBounds_toArray, List.set_cons_zero, List.set_cons_succ]
    refine wpAnyH_take (i := 6) (oi := _) (v := ?_) rfl (by kernel_rfl) (by kernel_rfl) (by kernel_rfl) (fun _ _ _ h => h) (Or.inl ⟨by rfl, ?_⟩) (by assumption) ?_
    case refine_2 => intro w hSw; (try dsimp only at hSw); obtain ⟨hS1, hS2⟩ := hSw; have rlt := (Array.getElem?_eq_some_iff.1 hS1).1; have blt := (Array.getElem?_eq_some_iff.1 hS2).1; have j1 := (cells_of hS2 1).1; have j4 := (cells_of hS2 4).1; clear hS1 hS2; unfold Pp.leA at j1 j4; simp only [List.getElem?_toArray, List.getElem?_cons_zero, List.getElem?_cons_succ] at j1 j4; go_simp; first | done | (with_reducible rfl)
    try simp only [Act.put, List.getElem_toArray, List.getElem_cons_zero, List.getElem_cons_succ, List.setIfInBounds_toArray, List.set_cons_zero, List.set_cons_succ]
    refine wpAnyH_ready (rs := [2, 8]) (by kernel_rfl) (by simp) ?_
    refine (AllReadyH.cons rfl (fun K hK => ?_) (AllReadyH.cons rfl (fun K hK => ?_) AllReadyH.nil))
    · go_simp
      go_at_call 58
      first | refine (HEP.out _ _ HGA.out).mono ?_ | refine (HEP.out _ _ HGB.out).mono ?_
      rintro e W3 ⟨rfl, hW3⟩
      subst hW3
      refine hK.out _ _ HSA.out (fun hHeld => ?_)
      clear hK K
      try simp only [Act.put, List.getElem_toArray, List.getElem_cons_zero, List.getElem_cons_succ, List.setIfInBounds_toArray, List.set_cons_zero, List.set_cons_succ]
      refine wpAnyH_take (i := 7) (oi := _) (v := ?_) rfl (by kernel_rfl) (by kernel_rfl) (by kernel_rfl) (fun _ _ _ h => h) (Or.inl ⟨by rfl, ?_⟩) (by assumption) ?_
      case refine_2 => intro w hSw; (try dsimp only at hSw); obtain ⟨hS1, hS2⟩ := hSw; have rlt := (Array.getElem?_eq_some_iff.1 hS1).1; have blt := (Array.getElem?_eq_some_iff.1 hS2).1; have j1 := (cells_of hS2 1).1; have j4 := (cells_of hS2 4).1; clear hS1 hS2; unfold Pp.leA at j1 j4; simp only [List.getElem?_toArray, List.getElem?_cons_zero, List.getElem?_cons_succ] at j1 j4; go_simp; first | done | (with_reducible rfl)
      try simp only [Act.put, List.getElem_toArray, List.getElem_cons_zero, List.getElem_cons_succ, List.setIfInBounds_toArray, List.set_cons_zero, List.set_cons_succ]
      refine wpAnyH_ready (rs := [8]) (by kernel_rfl) (by simp) ?_
      refine (AllReadyH.cons rfl (fun K hK => ?_) AllReadyH.nil)
      go_simp
      refine hK.out _ _ HSB.out (fun hHeld => ?_)
      clear hK K
      try simp only [Act.put, List.getElem_toArray, List.getElem_cons_zero, List.getElem_cons_succ, List.setIfInBounds_toArray, List.set_cons_zero, List.set_cons_succ]
      refine wpAnyH_ready (rs := [9]) (by kernel_rfl) (by simp) ?_
      refine (AllReadyH.cons rfl (fun K hK => ?_) AllReadyH.nil)
      obtain ⟨⟨y0, y1, y2, y3, y4, y5, y6, y7⟩, fz, yl⟩ := HU.out
      go_simp
      clear y0 y1 y2 y3 y4 y5 y6 y7 fz yl
      refine hK.out _ _ HSC.out (fun hHeld => ?_)
      clear hK K
      try simp only [Act.put, List.getElem_toArray, List.getElem_cons_zero, List.getElem_cons_succ, List.setIfInBounds_toArray, List.set_cons_zero, List.set_cons_succ]
      refine wpAnyH_done (by kernel_rfl) ?_ _
      go_wp2
      go_meet
      case rel => exact ⟨_, rfl, HX⟩
    · go_simp
      refine hK.out _ _ HSB.out (fun hHeld => ?_)
      clear hK K
      try simp only [Act.put, List.getElem_toArray, List.getElem_cons_zero, List.getElem_cons_succ, List.setIfInBounds_toArray, List.set_cons_zero, List.set_cons_succ]
      refine wpAnyH_ready (rs := [2]) (by kernel_rfl) (by simp) ?_
      refine (AllReadyH.cons rfl (fun K hK => ?_) AllReadyH.nil)
      go_simp
      go_at_call 58
      first | refine (HEP.out _ _ HGA.out).mono ?_ | refine (HEP.out _ _ HGB.out).mono ?_
      rintro e W3 ⟨rfl, hW3⟩
      subst hW3
      refine hK.out _ _ HSB.out (fun hHeld => ?_)
      clear hK K
      try simp only [Act.put, List.getElem_toArray, List.getElem_cons_zero, List.getElem_cons_succ, List.setIfInBounds_toArray, List.set_cons_zero, List.set_cons_succ]
      refine wpAnyH_take (i := 7) (oi := _) (v := ?_) rfl (by kernel_rfl) (by kernel_rfl) (by kernel_rfl) (fun _ _ _ h => h) (Or.inl ⟨by rfl, ?_⟩) (by assumption) ?_
      case refine_2 => intro w hSw; (try dsimp only at hSw); obtain ⟨hS1, hS2⟩ := hSw; have rlt := (Array.getElem?_eq_some_iff.1 hS1).1; have blt := (Array.getElem?_eq_some_iff.1 hS2).1; have j1 := (cells_of hS2 1).1; have j4 := (cells_of hS2 4).1; clear hS1 hS2; unfold Pp.leA at j1 j4; simp only [List.getElem?_toArray, List.getElem?_cons_zero, List.getElem?_cons_succ] at j1 j4; go_simp; first | done | (with_reducible rfl)
      try simp only [Act.put, List.getElem_toArray, List.getElem_cons_zero, List.getElem_cons_succ, List.setIfInBounds_toArray, List.set_cons_zero, List.set_cons_succ]
      refine wpAnyH_ready (rs := [9]) (by kernel_rfl) (by simp) ?_
      refine (AllReadyH.cons rfl (fun K hK => ?_) AllReadyH.nil)
      obtain ⟨⟨y0, y1, y2, y3, y4, y5, y6, y7⟩, fz, yl⟩ := HU.out
      go_simp
      clear y0 y1 y2 y3 y4 y5 y6 y7 fz yl
      refine hK.out _ _ HSC.out (fun hHeld => ?_)
      clear hK K
      try simp only [Act.put, List.getElem_toArray, List.getElem_cons_zero, List.getElem_cons_succ, List.setIfInBounds_toArray, List.set_cons_zero, List.set_cons_succ]
      refine wpAnyH_done (by kernel_rfl) ?_ _
      go_wp2
      go_meet
      case rel => exact ⟨_, rfl, HX⟩
  case rest =>
    obtain ⟨q, rfl, HQ⟩ := hcut
    clear c0 c1 c2 c3 c4 cf cl HG1 HG HEP
    have HQG := Lib.hid HQ.out.1
    have HQ0 := Lib.hid HQ.out.2.1
    have HQN := Lib.hid HQ.out.2.2
    obtain ⟨k0, k1, k2, k3, k4, k5, k6, k7⟩ := Pp.LeAt.cells (w := wc) (g := V1.heap.size) (l := l) (HQG.out.held (p := (V1.heap.size, .cells (Pp.leA l) 64 (0, 0))) (by simp))
    have kl := HQG.out.lt (p := (V1.heap.size, .cells (Pp.leA l) 64 (0, 0))) (by simp)
    have b0 : wc.cell? ⟨V.heap.size, 0, none⟩ = some (.int .u32 a.1) := (HQG.out.cellsOf (b := V.heap.size) (C := #[.int .u32 a.1, .int .i64 a.2]) (t := 38) (by simp) 0).1
    have bl := HQG.out.lt (p := (V.heap.size, .cells #[.int .u32 a.1, .int .i64 a.2] 38 (0, 0))) (by simp)
    have hq9 : Pp.LeAt wc q ⟨2, l.ins, 0, 0, l.non, 0, E, 0⟩ := HQG.out.held (p := (q, .cells (Pp.leA ⟨2, l.ins, 0, 0, l.non, 0, E, 0⟩) 64 (0, 0))) (by simp)
    have hosq : ∀ p ∈ os, p.1 ≠ q := fun p hp => HQN.out p (by simp [hp])
    have HOSQ := Lib.hid hosq
    dsimp only at kl bl
    clear HQ hosq
    obtain ⟨y0, y1, y2, y3, y4, y5, y6, y7⟩ := hq9.cells
    have ql := hq9.lt
    have yf : ∀ k, wc.frozen? ⟨q, k, none⟩ = false := fun k => (cells_of hq9 k).2
    dsimp only at y0 y1 y2 y3 y4 y5 y6 y7
    have hgA := (HQG.out.sub (os' := (q, .cells (Pp.leA ⟨2, l.ins, 0, 0, l.non, 0, E, 0⟩) 64 (0, 0)) :: os) (fun p hp => by rcases List.mem_cons.1 hp with rfl | hp; simp; simp [hp])).store (j := 5) (v := .int .i64 12) HOSQ.out HQ0.out
    have hgB := (hgA.sub (os' := os) (fun p hp => by simp [hp])).alloc (.cells #[.int .u32 a.1, .int .i64 l.ins] 38)
    have HGB := Lib.hid hgB
    have hans := ptell_ans ⟨2, l.ins, 0, 0, l.non, 12, E, 0⟩ ((wc.setCell ⟨q, 5, none⟩ (.int .i64 12)).alloc (.cells #[.int .u32 a.1, .int .i64 l.ins] 38)) (by
      have h1 := HIL.out; have h2 := HE.out; have h3 := HLB.out; have h4 := h1.non; have h5 := h1.hst
      constructor <;> (simp only [Pp.W64]; omega))
    have HANS := Lib.hid hans
    unfold Pp.leV Pp.leA at HANS
    dsimp only at HANS
    clear hans
    clear hgA hgB hq9 HQG
    go_wp2_with fail
    refine HANS.out.mono ?_
    rintro e W11 ⟨u, rfl, hrow, hb7⟩
    have HROW := Lib.hid hrow
    have HG7 := Lib.hid (HGB.out.below hb7)
    clear hrow hb7
    go_wp2
    go_ret
    exact ⟨u, rfl, HROW.out, HG7.out⟩
set_option maxRecDepth 100000 in
set_option maxHeartbeats 16000000 in
theorem byPcp_held (h : Gm w0 gb nb nm x most since av f c now M os V) (t : Int) (a : A2) (ha : isA a) {v : Value} {zs : List Int} {l : Pp.Le} {k : Int} (hr : Pp.Row V v zs) (hz : Pp.PAskOf zs l k) (h0 : 0 ≤ since) (h1 : since ≤ 1099511627776000) (ht0 : 0 ≤ t) (ht1 : t ≤ 1099511627776) (hk : k = a.1) (hM : OkM M) (hg : goes now t = true) (ho : ((liveM M t).any (askF (a.1, l.ins)) && othB f (a.1, l.ins) l.non) = true) :
    Calls Try.prog 91 #[.pointer (some ⟨gb, 0, none⟩), .int .i64 t, adr a, v] V fun e V' => ∃ u, e = .returned u ∧ Pp.Row V' u (Pp.pansR ⟨2, l.ins, 0, 0, l.non, 2, epoV since t, 0⟩) ∧ Gm w0 gb nb nm x most since av f c t (liveM M t) os V' := by
  have hl := hz.is
  have hb1 := hz.may.1.2.1
  have hg0 := h.box (k := V.heap.size) #[.int .u32 a.1, .int .i64 a.2] 38 rfl
  have hR := Lib.hid (pread_ask (hr.below ((Below.refl _ V).alloc (Nat.le_refl _) (.cells #[.int .u32 a.1, .int .i64 a.2] 38))))
  rw [Pp.paR_yes hz] at hR
  have HG := Lib.hid hg0
  have HEP := Lib.hid (fun os' W (hW : Gm w0 gb nb nm x most since av f c now M os' W) => epo_gm hW t h0 h1 ht0 ht1)
  have HE := Lib.hid (epoV_bd (since := since) (t := t))
  have HIL := Lib.hid hl
  have HLB := Lib.hid hb1
  subst hk
  have hkb : (a.1 != a.1) = false := by simp
  have hia : isA (a.1, l.ins) := ⟨ha.1, by dsimp only; omega, by dsimp only; omega⟩
  have HIO := Lib.hid (fun os' W (hW : Gm w0 gb nb nm x most since av f c now M os' W) => isOthers_gm hW hM t (a.1, l.ins) hia l.non hg)
  rw [ho] at HIO
  unfold adr at HIO
  dsimp only at HIO
  clear h hg0 hr hz hl
  unfold Pp.paT Pp.leV Pp.leA at hR
  unfold adr
  generalize epoV since t = E at HEP HE ⊢
  go_enter Try.func91, Try.ntmps91
  go_wp2_with fail
  refine hR.out.mono ?_
  rintro e V1 ⟨rfl, hb⟩
  have hg1 := (HG.out.below hb).box (k := V1.heap.size) (Pp.leA l) 64 rfl
  have HG1 := Lib.hid hg1
  clear hb hg1
  go_upto_region 4 with (fail)
  obtain ⟨W1, hW1⟩ : ∃ W1, V1.alloc (.cells (Pp.leA l) 64) = W1 := ⟨_, rfl⟩
  rw [hW1] at HG1
  unfold Pp.leA at hW1
  rw [hW1]
  clear hW1
  obtain ⟨⟨c0, c1, c2, c3, c4⟩, cf, cl⟩ := HG1.out.cells
  go_cut [12] from 14 (fun v12 wc => ∃ q : Nat, v12 = .pointer (some ⟨q, 0, none⟩) ∧ Hid (Gm w0 gb nb nm x most since av f c now M ((q, .cells (Pp.leA ⟨2, l.ins, 0, 0, l.non, 0, E, 0⟩) 64 (0, 0)) :: (V1.heap.size, .cells (Pp.leA l) 64 (0, 0)) :: (V.heap.size, .cells #[.int .u32 a.1, .int .i64 a.2] 38 (0, 0)) :: os) wc ∧ w0.heap.size ≤ q ∧ ∀ p ∈ (V1.heap.size, .cells (Pp.leA l) 64 (0, 0)) :: (V.heap.size, .cells #[.int .u32 a.1, .int .i64 a.2] 38 (0, 0)) :: os, p.1 ≠ q))
  case first =>
    have HGA := Lib.hid (HG1.out.drewN 1)
    have HGB := Lib.hid ((HG1.out.drewN 1).alloc (.cells #[.int .i64 0, .int .i64 0, .int .i64 0, .int .i64 0, .int .u64 0, .int .i64 0, .int .i64 0, .int .u32 0] 64))
    have HSA : Hid ((fun W => W.heap[gb]? = some (.cells (gCells nb most since av nm) 117 (0, 0)) ∧ W.heap[V1.heap.size]? = some (.cells (Pp.leA l) 64 (0, 0))) (W1.drewN 1)) := Lib.hid ⟨(HG1.out.drewN 1).top, (HG1.out.drewN 1).held (p := (V1.heap.size, .cells (Pp.leA l) 64 (0, 0))) (by simp)⟩
    have HSB : Hid ((fun W => W.heap[gb]? = some (.cells (gCells nb most since av nm) 117 (0, 0)) ∧ W.heap[V1.heap.size]? = some (.cells (Pp.leA l) 64 (0, 0))) ((W1.drewN 1).alloc (.cells #[.int .i64 0, .int .i64 0, .int .i64 0, .int .i64 0, .int .u64 0, .int .i64 0, .int .i64 0, .int .u32 0] 64))) := Lib.hid ⟨((HG1.out.drewN 1).alloc _).top, ((HG1.out.drewN 1).alloc _).held (p := (V1.heap.size, .cells (Pp.leA l) 64 (0, 0))) (by simp)⟩
    have hgu := (HG1.out.drewN 1).box (k := W1.heap.size) #[.int .i64 0, .int .i64 0, .int .i64 0, .int .i64 0, .int .u64 0, .int .i64 0, .int .i64 0, .int .u32 0] 64 rfl
    have hla : Pp.LeAt ((W1.drewN 1).alloc (.cells #[.int .i64 0, .int .i64 0, .int .i64 0, .int .i64 0, .int .u64 0, .int .i64 0, .int .i64 0, .int .u32 0] 64)) W1.heap.size Pp.zeroL := hgu.held (p := (W1.heap.size, .cells #[.int .i64 0, .int .i64 0, .int .i64 0, .int .i64 0, .int .u64 0, .int .i64 0, .int .i64 0, .int .u32 0] 64 (0, 0))) (by simp)
    have HU : Hid ((_ ∧ _ ∧ _ ∧ _ ∧ _ ∧ _ ∧ _ ∧ _) ∧ (∀ k, ((W1.drewN 1).alloc (.cells #[.int .i64 0, .int .i64 0, .int .i64 0, .int .i64 0, .int .u64 0, .int .i64 0, .int .i64 0, .int .u32 0] 64)).frozen? ⟨W1.heap.size, k, none⟩ = false) ∧ W1.heap.size < ((W1.drewN 1).alloc (.cells #[.int .i64 0, .int .i64 0, .int .i64 0, .int .i64 0, .int .u64 0, .int .i64 0, .int .i64 0, .int .u32 0] 64)).heap.size) := Lib.hid ⟨hla.cells, fun k => (cells_of hla k).2, hla.lt⟩
    have hp8 := hgu.put8 ⟨2, l.ins, 0, 0, l.non, 0, E, 0⟩ (fun p hp => by have := HG1.out.lt hp; omega) HG1.out.low.size (l0 := Pp.zeroL)
    have HSC : Hid ((fun W => W.heap[gb]? = some (.cells (gCells nb most since av nm) 117 (0, 0)) ∧ W.heap[V1.heap.size]? = some (.cells (Pp.leA l) 64 (0, 0))) (Pp.put8 ((W1.drewN 1).alloc (.cells #[.int .i64 0, .int .i64 0, .int .i64 0, .int .i64 0, .int .u64 0, .int .i64 0, .int .i64 0, .int .u32 0] 64)) W1.heap.size ⟨2, l.ins, 0, 0, l.non, 0, E, 0⟩)) := Lib.hid ⟨hp8.top, hp8.held (p := (V1.heap.size, .cells (Pp.leA l) 64 (0, 0))) (by simp)⟩
    have HX : Hid (Gm w0 gb nb nm x most since av f c now M ((W1.heap.size, .cells (Pp.leA ⟨2, l.ins, 0, 0, l.non, 0, E, 0⟩) 64 (0, 0)) :: (V1.heap.size, .cells (Pp.leA l) 64 (0, 0)) :: (V.heap.size, .cells #[.int .u32 a.1, .int .i64 a.2] 38 (0, 0)) :: os) (Pp.put8 ((W1.drewN 1).alloc (.cells #[.int .i64 0, .int .i64 0, .int .i64 0, .int .i64 0, .int .u64 0, .int .i64 0, .int .i64 0, .int .u32 0] 64)) W1.heap.size ⟨2, l.ins, 0, 0, l.non, 0, E, 0⟩) ∧ w0.heap.size ≤ W1.heap.size ∧ ∀ p ∈ (V1.heap.size, .cells (Pp.leA l) 64 (0, 0)) :: (V.heap.size, .cells #[.int .u32 a.1, .int .i64 a.2] 38 (0, 0)) :: os, p.1 ≠ W1.heap.size) := Lib.hid ⟨hp8, HG1.out.low.size, fun p hp e => by have := HG1.out.lt (p := p) hp; omega⟩
    clear hgu hla hp8
    refine wp_region_held_drew (S := fun W => W.heap[gb]? = some (.cells (gCells nb most since av nm) 117 (0, 0)) ∧ W.heap[V1.heap.size]? = some (.cells (Pp.leA l) 64 (0, 0))) (by kernel_rfl) HSA.out (fun hHeld => ?_)
    refine wpAnyH_take (i := 0) (oi := _) (v := ?_) rfl (by kernel_rfl) (by kernel_rfl) (by kernel_rfl) (fun _ _ _ h => h) (Or.inl ⟨by rfl, ?_⟩) (by assumption) ?_
    case refine_2 => intro w hSw; (try dsimp only at hSw); obtain ⟨hS1, hS2⟩ := hSw; have rlt := (Array.getElem?_eq_some_iff.1 hS1).1; have blt := (Array.getElem?_eq_some_iff.1 hS2).1; have j1 := (cells_of hS2 1).1; have j4 := (cells_of hS2 4).1; clear hS1 hS2; unfold Pp.leA at j1 j4; simp only [List.getElem?_toArray, List.getElem?_cons_zero, List.getElem?_cons_succ] at j1 j4; go_simp; first | done | (with_reducible rfl)
    try simp only [Act.put, List.getElem_toArray, List.getElem_cons_zero, List.getElem_cons_succ, List.setIfInBounds_toArray, List.set_cons_zero, List.set_cons_succ]
    refine wpAnyH_take (i := 1) (oi := _) (v := ?_) rfl (by kernel_rfl) (by kernel_rfl) (by kernel_rfl) (fun _ _ _ h => h) (Or.inl ⟨by rfl, ?_⟩) (by assumption) ?_
    case refine_2 => intro w hSw; (try dsimp only at hSw); obtain ⟨hS1, hS2⟩ := hSw; have rlt := (Array.getElem?_eq_some_iff.1 hS1).1; have blt := (Array.getElem?_eq_some_iff.1 hS2).1; have j1 := (cells_of hS2 1).1; have j4 := (cells_of hS2 4).1; clear hS1 hS2; unfold Pp.leA at j1 j4; simp only [List.getElem?_toArray, List.getElem?_cons_zero, List.getElem?_cons_succ] at j1 j4; go_simp; first | done | (with_reducible rfl)
    try simp only [Act.put, List.getElem_toArray, List.getElem_cons_zero, List.getElem_cons_succ, List.setIfInBounds_toArray, List.set_cons_zero, List.set_cons_succ]
    refine wpAnyH_take (i := 3) (oi := _) (v := ?_) rfl (by kernel_rfl) (by kernel_rfl) (by kernel_rfl) (fun _ _ _ h => h) (Or.inl ⟨by rfl, ?_⟩) (by assumption) ?_
    case refine_2 => intro w hSw; (try dsimp only at hSw); obtain ⟨hS1, hS2⟩ := hSw; have rlt := (Array.getElem?_eq_some_iff.1 hS1).1; have blt := (Array.getElem?_eq_some_iff.1 hS2).1; have j1 := (cells_of hS2 1).1; have j4 := (cells_of hS2 4).1; clear hS1 hS2; unfold Pp.leA at j1 j4; simp only [List.getElem?_toArray, List.getElem?_cons_zero, List.getElem?_cons_succ] at j1 j4; go_simp; first | done | (with_reducible rfl)
    try simp only [Act.put, List.getElem_toArray, List.getElem_cons_zero, List.getElem_cons_succ, List.setIfInBounds_toArray, List.set_cons_zero, List.set_cons_succ]
    refine wpAnyH_take (i := 4) (oi := _) (v := ?_) rfl (by kernel_rfl) (by kernel_rfl) (by kernel_rfl) (fun _ _ _ h => h) (Or.inl ⟨by rfl, ?_⟩) (by assumption) ?_
    case refine_2 => intro w hSw; (try dsimp only at hSw); obtain ⟨hS1, hS2⟩ := hSw; have rlt := (Array.getElem?_eq_some_iff.1 hS1).1; have blt := (Array.getElem?_eq_some_iff.1 hS2).1; have j1 := (cells_of hS2 1).1; have j4 := (cells_of hS2 4).1; clear hS1 hS2; unfold Pp.leA at j1 j4; simp only [List.getElem?_toArray, List.getElem?_cons_zero, List.getElem?_cons_succ] at j1 j4; go_simp; first | done | (with_reducible rfl)
    try simp only [Act.put, List.getElem_toArray, List.getElem_cons_zero, List.getElem_cons_succ, List.setIfInBounds_toArray, List.set_cons_zero, List.set_cons_succ]
    refine wpAnyH_take (i := 5) (oi := _) (v := ?_) rfl (by kernel_rfl) (by kernel_rfl) (by kernel_rfl) (fun _ _ _ h => h) (Or.inl ⟨by rfl, ?_⟩) (by assumption) ?_
    case refine_2 => intro w hSw; (try dsimp only at hSw); obtain ⟨hS1, hS2⟩ := hSw; have rlt := (Array.getElem?_eq_some_iff.1 hS1).1; have blt := (Array.getElem?_eq_some_iff.1 hS2).1; have j1 := (cells_of hS2 1).1; have j4 := (cells_of hS2 4).1; clear hS1 hS2; unfold Pp.leA at j1 j4; simp only [List.getElem?_toArray, List.getElem?_cons_zero, List.getElem?_cons_succ] at j1 j4; go_simp; first | done | (with_reducible rfl)
    try simp only [Act.put, List.getElem_toArray, List.getElem_cons_zero, List.getElem_cons_succ, List.setIfInBounds_toArray, List.set_cons_zero, List.set_cons_succ]
    refine wpAnyH_take (i := 6) (oi := _) (v := ?_) rfl (by kernel_rfl) (by kernel_rfl) (by kernel_rfl) (fun _ _ _ h => h) (Or.inl ⟨by rfl, ?_⟩) (by assumption) ?_
    case refine_2 => intro w hSw; (try dsimp only at hSw); obtain ⟨hS1, hS2⟩ := hSw; have rlt := (Array.getElem?_eq_some_iff.1 hS1).1; have blt := (Array.getElem?_eq_some_iff.1 hS2).1; have j1 := (cells_of hS2 1).1; have j4 := (cells_of hS2 4).1; clear hS1 hS2; unfold Pp.leA at j1 j4; simp only [List.getElem?_toArray, List.getElem?_cons_zero, List.getElem?_cons_succ] at j1 j4; go_simp; first | done | (with_reducible rfl)
    try simp only [Act.put, List.getElem_toArray, List.getElem_cons_zero, List.getElem_cons_succ, List.setIfInBounds_toArray, List.set_cons_zero, List.set_cons_succ]
    refine wpAnyH_ready (rs := [2, 8]) (by kernel_rfl) (by simp) ?_
    refine (AllReadyH.cons rfl (fun K hK => ?_) (AllReadyH.cons rfl (fun K hK => ?_) AllReadyH.nil))
    · go_simp
      go_at_call 58
      first | refine (HEP.out _ _ HGA.out).mono ?_ | refine (HEP.out _ _ HGB.out).mono ?_
      rintro e W3 ⟨rfl, hW3⟩
      subst hW3
      refine hK.out _ _ HSA.out (fun hHeld => ?_)
      clear hK K
      try simp only [Act.put, List.getElem_toArray, List.getElem_cons_zero, List.getElem_cons_succ, List.setIfInBounds_toArray, List.set_cons_zero, List.set_cons_succ]
      refine wpAnyH_take (i := 7) (oi := _) (v := ?_) rfl (by kernel_rfl) (by kernel_rfl) (by kernel_rfl) (fun _ _ _ h => h) (Or.inl ⟨by rfl, ?_⟩) (by assumption) ?_
      case refine_2 => intro w hSw; (try dsimp only at hSw); obtain ⟨hS1, hS2⟩ := hSw; have rlt := (Array.getElem?_eq_some_iff.1 hS1).1; have blt := (Array.getElem?_eq_some_iff.1 hS2).1; have j1 := (cells_of hS2 1).1; have j4 := (cells_of hS2 4).1; clear hS1 hS2; unfold Pp.leA at j1 j4; simp only [List.getElem?_toArray, List.getElem?_cons_zero, List.getElem?_cons_succ] at j1 j4; go_simp; first | done | (with_reducible rfl)
      try simp only [Act.put, List.getElem_toArray, List.getElem_cons_zero, List.getElem_cons_succ, List.setIfInBounds_toArray, List.set_cons_zero, List.set_cons_succ]
      refine wpAnyH_ready (rs := [8]) (by kernel_rfl) (by simp) ?_
      refine (AllReadyH.cons rfl (fun K hK => ?_) AllReadyH.nil)
      go_simp
      refine hK.out _ _ HSB.out (fun hHeld => ?_)
      clear hK K
      try simp only [Act.put, List.getElem_toArray, List.getElem_cons_zero, List.getElem_cons_succ, List.setIfInBounds_toArray, List.set_cons_zero, List.set_cons_succ]
      refine wpAnyH_ready (rs := [9]) (by kernel_rfl) (by simp) ?_
      refine (AllReadyH.cons rfl (fun K hK => ?_) AllReadyH.nil)
      obtain ⟨⟨y0, y1, y2, y3, y4, y5, y6, y7⟩, fz, yl⟩ := HU.out
      go_simp
      clear y0 y1 y2 y3 y4 y5 y6 y7 fz yl
      refine hK.out _ _ HSC.out (fun hHeld => ?_)
      clear hK K
      try simp only [Act.put, List.getElem_toArray, List.getElem_cons_zero, List.getElem_cons_succ, List.setIfInBounds_toArray, List.set_cons_zero, List.set_cons_succ]
      refine wpAnyH_done (by kernel_rfl) ?_ _
      go_wp2
      go_meet
      case rel => exact ⟨_, rfl, HX⟩
    · go_simp
      refine hK.out _ _ HSB.out (fun hHeld => ?_)
      clear hK K
      try simp only [Act.put, List.getElem_toArray, List.getElem_cons_zero, List.getElem_cons_succ, List.setIfInBounds_toArray, List.set_cons_zero, List.set_cons_succ]
      refine wpAnyH_ready (rs := [2]) (by kernel_rfl) (by simp) ?_
      refine (AllReadyH.cons rfl (fun K hK => ?_) AllReadyH.nil)
      go_simp
      go_at_call 58
      first | refine (HEP.out _ _ HGA.out).mono ?_ | refine (HEP.out _ _ HGB.out).mono ?_
      rintro e W3 ⟨rfl, hW3⟩
      subst hW3
      refine hK.out _ _ HSB.out (fun hHeld => ?_)
      clear hK K
      try simp only [Act.put, List.getElem_toArray, List.getElem_cons_zero, List.getElem_cons_succ, List.setIfInBounds_toArray, List.set_cons_zero, List.set_cons_succ]
      refine wpAnyH_take (i := 7) (oi := _) (v := ?_) rfl (by kernel_rfl) (by kernel_rfl) (by kernel_rfl) (fun _ _ _ h => h) (Or.inl ⟨by rfl, ?_⟩) (by assumption) ?_
      case refine_2 => intro w hSw; (try dsimp only at hSw); obtain ⟨hS1, hS2⟩ := hSw; have rlt := (Array.getElem?_eq_some_iff.1 hS1).1; have blt := (Array.getElem?_eq_some_iff.1 hS2).1; have j1 := (cells_of hS2 1).1; have j4 := (cells_of hS2 4).1; clear hS1 hS2; unfold Pp.leA at j1 j4; simp only [List.getElem?_toArray, List.getElem?_cons_zero, List.getElem?_cons_succ] at j1 j4; go_simp; first | done | (with_reducible rfl)
      try simp only [Act.put, List.getElem_toArray, List.getElem_cons_zero, List.getElem_cons_succ, List.setIfInBounds_toArray, List.set_cons_zero, List.set_cons_succ]
      refine wpAnyH_ready (rs := [9]) (by kernel_rfl) (by simp) ?_
      refine (AllReadyH.cons rfl (fun K hK => ?_) AllReadyH.nil)
      obtain ⟨⟨y0, y1, y2, y3, y4, y5, y6, y7⟩, fz, yl⟩ := HU.out
      go_simp
      clear y0 y1 y2 y3 y4 y5 y6 y7 fz yl
      refine hK.out _ _ HSC.out (fun hHeld => ?_)
      clear hK K
      try simp only [Act.put, List.getElem_toArray, List.getElem_cons_zero, List.getElem_cons_succ, List.setIfInBounds_toArray, List.set_cons_zero, List.set_cons_succ]
      refine wpAnyH_done (by kernel_rfl) ?_ _
      go_wp2
      go_meet
      case rel => exact ⟨_, rfl, HX⟩
  case rest =>
    obtain ⟨q, rfl, HQ⟩ := hcut
    clear c0 c1 c2 c3 c4 cf cl HG1 HG HEP
    have HQG := Lib.hid HQ.out.1
    have HQ0 := Lib.hid HQ.out.2.1
    have HQN := Lib.hid HQ.out.2.2
    obtain ⟨k0, k1, k2, k3, k4, k5, k6, k7⟩ := Pp.LeAt.cells (w := wc) (g := V1.heap.size) (l := l) (HQG.out.held (p := (V1.heap.size, .cells (Pp.leA l) 64 (0, 0))) (by simp))
    have kl := HQG.out.lt (p := (V1.heap.size, .cells (Pp.leA l) 64 (0, 0))) (by simp)
    have b0 : wc.cell? ⟨V.heap.size, 0, none⟩ = some (.int .u32 a.1) := (HQG.out.cellsOf (b := V.heap.size) (C := #[.int .u32 a.1, .int .i64 a.2]) (t := 38) (by simp) 0).1
    have bl := HQG.out.lt (p := (V.heap.size, .cells #[.int .u32 a.1, .int .i64 a.2] 38 (0, 0))) (by simp)
    have hq9 : Pp.LeAt wc q ⟨2, l.ins, 0, 0, l.non, 0, E, 0⟩ := HQG.out.held (p := (q, .cells (Pp.leA ⟨2, l.ins, 0, 0, l.non, 0, E, 0⟩) 64 (0, 0))) (by simp)
    have hosq : ∀ p ∈ os, p.1 ≠ q := fun p hp => HQN.out p (by simp [hp])
    have HOSQ := Lib.hid hosq
    dsimp only at kl bl
    clear HQ hosq
    have hg8 := HQG.out.box (k := wc.heap.size) #[.int .u32 a.1, .int .i64 l.ins] 38 rfl
    have HS8 := Lib.hid (HIO.out _ _ hg8)
    clear hg8 HQG hq9
    go_wp2_with fail
    refine HS8.out.mono ?_
    rintro e W9 ⟨rfl, hg9⟩
    have ht9 : Pp.LeAt W9 q ⟨2, l.ins, 0, 0, l.non, 0, E, 0⟩ := hg9.held (p := (q, .cells (Pp.leA ⟨2, l.ins, 0, 0, l.non, 0, E, 0⟩) 64 (0, 0))) (by simp)
    have ql := ht9.lt
    obtain ⟨y0, y1, y2, y3, y4, y5, y6, y7⟩ := ht9.cells
    have yf : ∀ k, W9.frozen? ⟨q, k, none⟩ = false := fun k => (cells_of ht9 k).2
    have hgA := (hg9.sub (os' := (q, .cells (Pp.leA ⟨2, l.ins, 0, 0, l.non, 0, E, 0⟩) 64 (0, 0)) :: os) (fun p hp => by rcases List.mem_cons.1 hp with rfl | hp; simp; simp [hp])).store (j := 5) (v := .int .i64 2) HOSQ.out HQ0.out
    have hgB := hgA.sub (os' := os) (fun p hp => by simp [hp])
    have HGB := Lib.hid hgB
    dsimp only at y0 y1 y2 y3 y4 y5 y6 y7
    clear hg9 ht9 hgA hgB HS8 k0 k1 k2 k3 k4 k5 k6 k7 kl b0 bl
    have hans := ptell_ans ⟨2, l.ins, 0, 0, l.non, 2, E, 0⟩ (W9.setCell ⟨q, 5, none⟩ (.int .i64 2)) (by
      have h1 := HIL.out; have h2 := HE.out; have h3 := HLB.out; have h4 := h1.non; have h5 := h1.hst
      constructor <;> (simp only [Pp.W64]; omega))
    have HANS := Lib.hid hans
    unfold Pp.leV Pp.leA at HANS
    dsimp only at HANS
    clear hans
    go_wp2_with fail
    refine HANS.out.mono ?_
    rintro e W11 ⟨u, rfl, hrow, hb7⟩
    have HROW := Lib.hid hrow
    have HG7 := Lib.hid (HGB.out.below hb7)
    clear hrow hb7
    go_wp2
    go_ret
    exact ⟨u, rfl, HROW.out, HG7.out⟩
end
end Go.Proofs.Ytemlnkcokeckmaa
namespace Go.Proofs.Ytemlnkcokeckmaa
open Go.RowKit Go.Maps
attribute [local go_sem] Oper.semAt_some
set_option linter.unusedVariables false
set_option linter.unusedSimpArgs false

section
variable {w0 V V' : World} {gb nb nm : Nat} {x : Bx} {most since now now' : Int} {av : Value} {f f' : Nf} {c c' : Nat} {M M' : List Bn} {os : List (Nat × Obj)}
theorem Gm.putN (h : Gm w0 gb nb nm x most since av f c now M os V) (a : A2) (ha : isA a) (v : Int) (hv : 0 ≤ v ∧ v ≤ 18446744073709551615) (hc : c < maxLen) : ∃ W', (Instr.mapUpdate 114 (.map (some nm)) (adr a) (.int .u64 v)).run Try.prog V = .ok () W' ∧ Gm w0 gb nb nm x most since av (putF f a v) (c + 1) now M os W' := by
  obtain ⟨D, hD, hN⟩ := h.map
  obtain ⟨W', h1, h2, h3⟩ := hD.update lawA Try.underlying114 hc (keyA_mk ha) (plainElem_int (q := .u64) (a := v) Try.underlying62 (by simp [Lit.wf, IntKind.min, IntKind.max, IntKind.bits, IntKind.signed]; omega))
  exact ⟨W', h1, h.turn h3 h2 (hN.put hD.isMap ha v)⟩
set_option maxRecDepth 100000 in
set_option maxHeartbeats 16000000 in
theorem byPcp_none (h : Gm w0 gb nb nm x most since av f c now M os V) (t : Int) (a : A2) (ha : isA a) {v : Value} {zs : List Int} {l : Pp.Le} {k : Int} (hr : Pp.Row V v zs) (hz : Pp.PAskOf zs l k) (h0 : 0 ≤ since) (h1 : since ≤ 1099511627776000) (ht0 : 0 ≤ t) (ht1 : t ≤ 1099511627776) (hk : k = a.1) (hx : OkB x) (hok : Okb x M) (hM : OkM M) (hg : goes now t = true) (ho : ((liveM M t).any (askF (a.1, l.ins)) && othB f (a.1, l.ins) l.non) = false) (hm : 1 ≤ most ∧ most ≤ 4294967295) (hp : (srvS x most t (liveM M t) t (a.1, l.ins) l.prt l.secs).port = 0) :
    Calls Try.prog 91 #[.pointer (some ⟨gb, 0, none⟩), .int .i64 t, adr a, v] V fun e V' => ∃ u, e = .returned u ∧ Pp.Row V' u (Pp.pansR ⟨2, l.ins, (srvS x most t (liveM M t) t (a.1, l.ins) l.prt l.secs).port, (srvS x most t (liveM M t) t (a.1, l.ins) l.prt l.secs).secs, l.non, resV (srvS x most t (liveM M t) t (a.1, l.ins) l.prt l.secs).code 8 3, epoV since t, 0⟩) ∧ Gm w0 gb nb nm x most since av (cutIf (srvS x most t (liveM M t) t (a.1, l.ins) l.prt l.secs).cut f (a.1, l.ins)) c (srvS x most t (liveM M t) t (a.1, l.ins) l.prt l.secs).now (srvS x most t (liveM M t) t (a.1, l.ins) l.prt l.secs).M os V' := by
  have hl := hz.is
  have hb1 := hz.may.1.2.1
  have hg0 := h.box (k := V.heap.size) #[.int .u32 a.1, .int .i64 a.2] 38 rfl
  have hR := Lib.hid (pread_ask (hr.below ((Below.refl _ V).alloc (Nat.le_refl _) (.cells #[.int .u32 a.1, .int .i64 a.2] 38))))
  rw [Pp.paR_yes hz] at hR
  have HG := Lib.hid hg0
  have HEP := Lib.hid (fun os' W (hW : Gm w0 gb nb nm x most since av f c now M os' W) => epo_gm hW t h0 h1 ht0 ht1)
  have HE := Lib.hid (epoV_bd (since := since) (t := t))
  have HIL := Lib.hid hl
  have HLB := Lib.hid hb1
  subst hk
  have hkb : (a.1 != a.1) = false := by simp
  have hia : isA (a.1, l.ins) := ⟨ha.1, by dsimp only; omega, by dsimp only; omega⟩
  have hs : 0 ≤ l.secs ∧ l.secs ≤ 4294967295 := by exact hz.may.1.2.2.2.1
  have HIO := Lib.hid (fun os' W (hW : Gm w0 gb nb nm x most since av f c now M os' W) => isOthers_gm hW hM t (a.1, l.ins) hia l.non hg)
  rw [ho] at HIO
  have hM1 : OkM (liveM M t) := ⟨Nat.le_trans (List.length_filter_le _ _) hM.len, fun b hb => hM.seen b (List.mem_filter.1 hb).1⟩
  have HSV := Lib.hid (fun os' W (hW : Gm w0 gb nb nm x most since av f c t (liveM M t) os' W) => serve_gm hW hx hM1 t (a.1, l.ins) hia l hl ht0 ht1 hs hm)
  have HSB0 := Lib.hid (srv_bd (most := most) (now := t) (t := t) (a := (a.1, l.ins)) (p := l.prt) hx (hok.live t) hs hm.1)
  unfold adr at HIO
  unfold adr Pp.leV Pp.leA at HSV
  dsimp only at HIO HSV
  clear h hg0 hr hz hl
  unfold Pp.paT Pp.leV Pp.leA at hR
  unfold adr
  generalize epoV since t = E at HEP HE ⊢
  generalize (srvS x most t (liveM M t) t (a.1, l.ins) l.prt l.secs) = sv at HSV HSB0 hp ⊢
  obtain ⟨sp, ss, sc, su, sn, sM⟩ := sv
  dsimp only at HSV HSB0 hp ⊢
  subst hp
  go_enter Try.func91, Try.ntmps91
  go_wp2_with fail
  refine hR.out.mono ?_
  rintro e V1 ⟨rfl, hb⟩
  have hg1 := (HG.out.below hb).box (k := V1.heap.size) (Pp.leA l) 64 rfl
  have HG1 := Lib.hid hg1
  clear hb hg1
  go_upto_region 4 with (fail)
  obtain ⟨W1, hW1⟩ : ∃ W1, V1.alloc (.cells (Pp.leA l) 64) = W1 := ⟨_, rfl⟩
  rw [hW1] at HG1
  unfold Pp.leA at hW1
  rw [hW1]
  clear hW1
  obtain ⟨⟨c0, c1, c2, c3, c4⟩, cf, cl⟩ := HG1.out.cells
  go_cut [12] from 14 (fun v12 wc => ∃ q : Nat, v12 = .pointer (some ⟨q, 0, none⟩) ∧ Hid (Gm w0 gb nb nm x most since av f c now M ((q, .cells (Pp.leA ⟨2, l.ins, 0, 0, l.non, 0, E, 0⟩) 64 (0, 0)) :: (V1.heap.size, .cells (Pp.leA l) 64 (0, 0)) :: (V.heap.size, .cells #[.int .u32 a.1, .int .i64 a.2] 38 (0, 0)) :: os) wc ∧ w0.heap.size ≤ q ∧ ∀ p ∈ (V1.heap.size, .cells (Pp.leA l) 64 (0, 0)) :: (V.heap.size, .cells #[.int .u32 a.1, .int .i64 a.2] 38 (0, 0)) :: os, p.1 ≠ q))
  case first =>
    have HGA := Lib.hid (HG1.out.drewN 1)
    have HGB := Lib.hid ((HG1.out.drewN 1).alloc (.cells #[.int .i64 0, .int .i64 0, .int .i64 0, .int .i64 0, .int .u64 0, .int .i64 0, .int .i64 0, .int .u32 0] 64))
    have HSA : Hid ((fun W => W.heap[gb]? = some (.cells (gCells nb most since av nm) 117 (0, 0)) ∧ W.heap[V1.heap.size]? = some (.cells (Pp.leA l) 64 (0, 0))) (W1.drewN 1)) := Lib.hid ⟨(HG1.out.drewN 1).top, (HG1.out.drewN 1).held (p := (V1.heap.size, .cells (Pp.leA l) 64 (0, 0))) (by simp)⟩
    have HSB : Hid ((fun W => W.heap[gb]? = some (.cells (gCells nb most since av nm) 117 (0, 0)) ∧ W.heap[V1.heap.size]? = some (.cells (Pp.leA l) 64 (0, 0))) ((W1.drewN 1).alloc (.cells #[.int .i64 0, .int .i64 0, .int .i64 0, .int .i64 0, .int .u64 0, .int .i64 0, .int .i64 0, .int .u32 0] 64))) := Lib.hid ⟨((HG1.out.drewN 1).alloc _).top, ((HG1.out.drewN 1).alloc _).held (p := (V1.heap.size, .cells (Pp.leA l) 64 (0, 0))) (by simp)⟩
    have hgu := (HG1.out.drewN 1).box (k := W1.heap.size) #[.int .i64 0, .int .i64 0, .int .i64 0, .int .i64 0, .int .u64 0, .int .i64 0, .int .i64 0, .int .u32 0] 64 rfl
    have hla : Pp.LeAt ((W1.drewN 1).alloc (.cells #[.int .i64 0, .int .i64 0, .int .i64 0, .int .i64 0, .int .u64 0, .int .i64 0, .int .i64 0, .int .u32 0] 64)) W1.heap.size Pp.zeroL := hgu.held (p := (W1.heap.size, .cells #[.int .i64 0, .int .i64 0, .int .i64 0, .int .i64 0, .int .u64 0, .int .i64 0, .int .i64 0, .int .u32 0] 64 (0, 0))) (by simp)
    have HU : Hid ((_ ∧ _ ∧ _ ∧ _ ∧ _ ∧ _ ∧ _ ∧ _) ∧ (∀ k, ((W1.drewN 1).alloc (.cells #[.int .i64 0, .int .i64 0, .int .i64 0, .int .i64 0, .int .u64 0, .int .i64 0, .int .i64 0, .int .u32 0] 64)).frozen? ⟨W1.heap.size, k, none⟩ = false) ∧ W1.heap.size < ((W1.drewN 1).alloc (.cells #[.int .i64 0, .int .i64 0, .int .i64 0, .int .i64 0, .int .u64 0, .int .i64 0, .int .i64 0, .int .u32 0] 64)).heap.size) := Lib.hid ⟨hla.cells, fun k => (cells_of hla k).2, hla.lt⟩
    have hp8 := hgu.put8 ⟨2, l.ins, 0, 0, l.non, 0, E, 0⟩ (fun p hp => by have := HG1.out.lt hp; omega) HG1.out.low.size (l0 := Pp.zeroL)
    have HSC : Hid ((fun W => W.heap[gb]? = some (.cells (gCells nb most since av nm) 117 (0, 0)) ∧ W.heap[V1.heap.size]? = some (.cells (Pp.leA l) 64 (0, 0))) (Pp.put8 ((W1.drewN 1).alloc (.cells #[.int .i64 0, .int .i64 0, .int .i64 0, .int .i64 0, .int .u64 0, .int .i64 0, .int .i64 0, .int .u32 0] 64)) W1.heap.size ⟨2, l.ins, 0, 0, l.non, 0, E, 0⟩)) := Lib.hid ⟨hp8.top, hp8.held (p := (V1.heap.size, .cells (Pp.leA l) 64 (0, 0))) (by simp)⟩
    have HX : Hid (Gm w0 gb nb nm x most since av f c now M ((W1.heap.size, .cells (Pp.leA ⟨2, l.ins, 0, 0, l.non, 0, E, 0⟩) 64 (0, 0)) :: (V1.heap.size, .cells (Pp.leA l) 64 (0, 0)) :: (V.heap.size, .cells #[.int .u32 a.1, .int .i64 a.2] 38 (0, 0)) :: os) (Pp.put8 ((W1.drewN 1).alloc (.cells #[.int .i64 0, .int .i64 0, .int .i64 0, .int .i64 0, .int .u64 0, .int .i64 0, .int .i64 0, .int .u32 0] 64)) W1.heap.size ⟨2, l.ins, 0, 0, l.non, 0, E, 0⟩) ∧ w0.heap.size ≤ W1.heap.size ∧ ∀ p ∈ (V1.heap.size, .cells (Pp.leA l) 64 (0, 0)) :: (V.heap.size, .cells #[.int .u32 a.1, .int .i64 a.2] 38 (0, 0)) :: os, p.1 ≠ W1.heap.size) := Lib.hid ⟨hp8, HG1.out.low.size, fun p hp e => by have := HG1.out.lt (p := p) hp; omega⟩
    clear hgu hla hp8
    refine wp_region_held_drew (S := fun W => W.heap[gb]? = some (.cells (gCells nb most since av nm) 117 (0, 0)) ∧ W.heap[V1.heap.size]? = some (.cells (Pp.leA l) 64 (0, 0))) (by kernel_rfl) HSA.out (fun hHeld => ?_)
    refine wpAnyH_take (i := 0) (oi := _) (v := ?_) rfl (by kernel_rfl) (by kernel_rfl) (by kernel_rfl) (fun _ _ _ h => h) (Or.inl ⟨by rfl, ?_⟩) (by assumption) ?_
    case refine_2 => intro w hSw; (try dsimp only at hSw); obtain ⟨hS1, hS2⟩ := hSw; have rlt := (Array.getElem?_eq_some_iff.1 hS1).1; have blt := (Array.getElem?_eq_some_iff.1 hS2).1; have j1 := (cells_of hS2 1).1; have j4 := (cells_of hS2 4).1; clear hS1 hS2; unfold Pp.leA at j1 j4; simp only [List.getElem?_toArray, List.getElem?_cons_zero, List.getElem?_cons_succ] at j1 j4; go_simp; first | done | (with_reducible rfl)
    try simp only [Act.put, List.getElem_toArray, List.getElem_cons_zero, List.getElem_cons_succ, List.setIfInBounds_toArray, List.set_cons_zero, List.set_cons_succ]
    refine wpAnyH_take (i := 1) (oi := _) (v := ?_) rfl (by kernel_rfl) (by kernel_rfl) (by kernel_rfl) (fun _ _ _ h => h) (Or.inl ⟨by rfl, ?_⟩) (by assumption) ?_
    case refine_2 => intro w hSw; (try dsimp only at hSw); obtain ⟨hS1, hS2⟩ := hSw; have rlt := (Array.getElem?_eq_some_iff.1 hS1).1; have blt := (Array.getElem?_eq_some_iff.1 hS2).1; have j1 := (cells_of hS2 1).1; have j4 := (cells_of hS2 4).1; clear hS1 hS2; unfold Pp.leA at j1 j4; simp only [List.getElem?_toArray, List.getElem?_cons_zero, List.getElem?_cons_succ] at j1 j4; go_simp; first | done | (with_reducible rfl)
    try simp only [Act.put, List.getElem_toArray, List.getElem_cons_zero, List.getElem_cons_succ, List.setIfInBounds_toArray, List.set_cons_zero, List.set_cons_succ]
    refine wpAnyH_take (i := 3) (oi := _) (v := ?_) rfl (by kernel_rfl) (by kernel_rfl) (by kernel_rfl) (fun _ _ _ h => h) (Or.inl ⟨by rfl, ?_⟩) (by assumption) ?_
    case refine_2 => intro w hSw; (try dsimp only at hSw); obtain ⟨hS1, hS2⟩ := hSw; have rlt := (Array.getElem?_eq_some_iff.1 hS1).1; have blt := (Array.getElem?_eq_some_iff.1 hS2).1; have j1 := (cells_of hS2 1).1; have j4 := (cells_of hS2 4).1; clear hS1 hS2; unfold Pp.leA at j1 j4; simp only [List.getElem?_toArray, List.getElem?_cons_zero, List.getElem?_cons_succ] at j1 j4; go_simp; first | done | (with_reducible rfl)
    try simp only [Act.put, List.getElem_toArray, List.getElem_cons_zero, List.getElem_cons_succ, List.setIfInBounds_toArray, List.set_cons_zero, List.set_cons_succ]
    refine wpAnyH_take (i := 4) (oi := _) (v := ?_) rfl (by kernel_rfl) (by kernel_rfl) (by kernel_rfl) (fun _ _ _ h => h) (Or.inl ⟨by rfl, ?_⟩) (by assumption) ?_
    case refine_2 => intro w hSw; (try dsimp only at hSw); obtain ⟨hS1, hS2⟩ := hSw; have rlt := (Array.getElem?_eq_some_iff.1 hS1).1; have blt := (Array.getElem?_eq_some_iff.1 hS2).1; have j1 := (cells_of hS2 1).1; have j4 := (cells_of hS2 4).1; clear hS1 hS2; unfold Pp.leA at j1 j4; simp only [List.getElem?_toArray, List.getElem?_cons_zero, List.getElem?_cons_succ] at j1 j4; go_simp; first | done | (with_reducible rfl)
    try simp only [Act.put, List.getElem_toArray, List.getElem_cons_zero, List.getElem_cons_succ, List.setIfInBounds_toArray, List.set_cons_zero, List.set_cons_succ]
    refine wpAnyH_take (i := 5) (oi := _) (v := ?_) rfl (by kernel_rfl) (by kernel_rfl) (by kernel_rfl) (fun _ _ _ h => h) (Or.inl ⟨by rfl, ?_⟩) (by assumption) ?_
    case refine_2 => intro w hSw; (try dsimp only at hSw); obtain ⟨hS1, hS2⟩ := hSw; have rlt := (Array.getElem?_eq_some_iff.1 hS1).1; have blt := (Array.getElem?_eq_some_iff.1 hS2).1; have j1 := (cells_of hS2 1).1; have j4 := (cells_of hS2 4).1; clear hS1 hS2; unfold Pp.leA at j1 j4; simp only [List.getElem?_toArray, List.getElem?_cons_zero, List.getElem?_cons_succ] at j1 j4; go_simp; first | done | (with_reducible rfl)
    try simp only [Act.put, List.getElem_toArray, List.getElem_cons_zero, List.getElem_cons_succ, List.setIfInBounds_toArray, List.set_cons_zero, List.set_cons_succ]
    refine wpAnyH_take (i := 6) (oi := _) (v := ?_) rfl (by kernel_rfl) (by kernel_rfl) (by kernel_rfl) (fun _ _ _ h => h) (Or.inl ⟨by rfl, ?_⟩) (by assumption) ?_
    case refine_2 => intro w hSw; (try dsimp only at hSw); obtain ⟨hS1, hS2⟩ := hSw; have rlt := (Array.getElem?_eq_some_iff.1 hS1).1; have blt := (Array.getElem?_eq_some_iff.1 hS2).1; have j1 := (cells_of hS2 1).1; have j4 := (cells_of hS2 4).1; clear hS1 hS2; unfold Pp.leA at j1 j4; simp only [List.getElem?_toArray, List.getElem?_cons_zero, List.getElem?_cons_succ] at j1 j4; go_simp; first | done | (with_reducible rfl)
    try simp only [Act.put, List.getElem_toArray, List.getElem_cons_zero, List.getElem_cons_succ, List.setIfInBounds_toArray, List.set_cons_zero, List.set_cons_succ]
    refine wpAnyH_ready (rs := [2, 8]) (by kernel_rfl) (by simp) ?_
    refine (AllReadyH.cons rfl (fun K hK => ?_) (AllReadyH.cons rfl (fun K hK => ?_) AllReadyH.nil))
    · go_simp
      go_at_call 58
      first | refine (HEP.out _ _ HGA.out).mono ?_ | refine (HEP.out _ _ HGB.out).mono ?_
      rintro e W3 ⟨rfl, hW3⟩
      subst hW3
      refine hK.out _ _ HSA.out (fun hHeld => ?_)
      clear hK K
      try simp only [Act.put, List.getElem_toArray, List.getElem_cons_zero, List.getElem_cons_succ, List.setIfInBounds_toArray, List.set_cons_zero, List.set_cons_succ]
      refine wpAnyH_take (i := 7) (oi := _) (v := ?_) rfl (by kernel_rfl) (by kernel_rfl) (by kernel_rfl) (fun _ _ _ h => h) (Or.inl ⟨by rfl, ?_⟩) (by assumption) ?_
      case refine_2 => intro w hSw; (try dsimp only at hSw); obtain ⟨hS1, hS2⟩ := hSw; have rlt := (Array.getElem?_eq_some_iff.1 hS1).1; have blt := (Array.getElem?_eq_some_iff.1 hS2).1; have j1 := (cells_of hS2 1).1; have j4 := (cells_of hS2 4).1; clear hS1 hS2; unfold Pp.leA at j1 j4; simp only [List.getElem?_toArray, List.getElem?_cons_zero, List.getElem?_cons_succ] at j1 j4; go_simp; first | done | (with_reducible rfl)
      try simp only [Act.put, List.getElem_toArray, List.getElem_cons_zero, List.getElem_cons_succ, List.setIfInBounds_toArray, List.set_cons_zero, List.set_cons_succ]
      refine wpAnyH_ready (rs := [8]) (by kernel_rfl) (by simp) ?_
      refine (AllReadyH.cons rfl (fun K hK => ?_) AllReadyH.nil)
      go_simp
      refine hK.out _ _ HSB.out (fun hHeld => ?_)
      clear hK K
      try simp only [Act.put, List.getElem_toArray, List.getElem_cons_zero, List.getElem_cons_succ, List.setIfInBounds_toArray, List.set_cons_zero, List.set_cons_succ]
      refine wpAnyH_ready (rs := [9]) (by kernel_rfl) (by simp) ?_
      refine (AllReadyH.cons rfl (fun K hK => ?_) AllReadyH.nil)
      obtain ⟨⟨y0, y1, y2, y3, y4, y5, y6, y7⟩, fz, yl⟩ := HU.out
      go_simp
      clear y0 y1 y2 y3 y4 y5 y6 y7 fz yl
      refine hK.out _ _ HSC.out (fun hHeld => ?_)
      clear hK K
      try simp only [Act.put, List.getElem_toArray, List.getElem_cons_zero, List.getElem_cons_succ, List.setIfInBounds_toArray, List.set_cons_zero, List.set_cons_succ]
      refine wpAnyH_done (by kernel_rfl) ?_ _
      go_wp2
      go_meet
      case rel => exact ⟨_, rfl, HX⟩
    · go_simp
      refine hK.out _ _ HSB.out (fun hHeld => ?_)
      clear hK K
      try simp only [Act.put, List.getElem_toArray, List.getElem_cons_zero, List.getElem_cons_succ, List.setIfInBounds_toArray, List.set_cons_zero, List.set_cons_succ]
      refine wpAnyH_ready (rs := [2]) (by kernel_rfl) (by simp) ?_
      refine (AllReadyH.cons rfl (fun K hK => ?_) AllReadyH.nil)
      go_simp
      go_at_call 58
      first | refine (HEP.out _ _ HGA.out).mono ?_ | refine (HEP.out _ _ HGB.out).mono ?_
      rintro e W3 ⟨rfl, hW3⟩
      subst hW3
      refine hK.out _ _ HSB.out (fun hHeld => ?_)
      clear hK K
      try simp only [Act.put, List.getElem_toArray, List.getElem_cons_zero, List.getElem_cons_succ, List.setIfInBounds_toArray, List.set_cons_zero, List.set_cons_succ]
      refine wpAnyH_take (i := 7) (oi := _) (v := ?_) rfl (by kernel_rfl) (by kernel_rfl) (by kernel_rfl) (fun _ _ _ h => h) (Or.inl ⟨by rfl, ?_⟩) (by assumption) ?_
      case refine_2 => intro w hSw; (try dsimp only at hSw); obtain ⟨hS1, hS2⟩ := hSw; have rlt := (Array.getElem?_eq_some_iff.1 hS1).1; have blt := (Array.getElem?_eq_some_iff.1 hS2).1; have j1 := (cells_of hS2 1).1; have j4 := (cells_of hS2 4).1; clear hS1 hS2; unfold Pp.leA at j1 j4; simp only [List.getElem?_toArray, List.getElem?_cons_zero, List.getElem?_cons_succ] at j1 j4; go_simp; first | done | (with_reducible rfl)
      try simp only [Act.put, List.getElem_toArray, List.getElem_cons_zero, List.getElem_cons_succ, List.setIfInBounds_toArray, List.set_cons_zero, List.set_cons_succ]
      refine wpAnyH_ready (rs := [9]) (by kernel_rfl) (by simp) ?_
      refine (AllReadyH.cons rfl (fun K hK => ?_) AllReadyH.nil)
      obtain ⟨⟨y0, y1, y2, y3, y4, y5, y6, y7⟩, fz, yl⟩ := HU.out
      go_simp
      clear y0 y1 y2 y3 y4 y5 y6 y7 fz yl
      refine hK.out _ _ HSC.out (fun hHeld => ?_)
      clear hK K
      try simp only [Act.put, List.getElem_toArray, List.getElem_cons_zero, List.getElem_cons_succ, List.setIfInBounds_toArray, List.set_cons_zero, List.set_cons_succ]
      refine wpAnyH_done (by kernel_rfl) ?_ _
      go_wp2
      go_meet
      case rel => exact ⟨_, rfl, HX⟩
  case rest =>
    obtain ⟨q, rfl, HQ⟩ := hcut
    clear c0 c1 c2 c3 c4 cf cl HG1 HG HEP
    have HQG := Lib.hid HQ.out.1
    have HQ0 := Lib.hid HQ.out.2.1
    have HQN := Lib.hid HQ.out.2.2
    obtain ⟨k0, k1, k2, k3, k4, k5, k6, k7⟩ := Pp.LeAt.cells (w := wc) (g := V1.heap.size) (l := l) (HQG.out.held (p := (V1.heap.size, .cells (Pp.leA l) 64 (0, 0))) (by simp))
    have kl := HQG.out.lt (p := (V1.heap.size, .cells (Pp.leA l) 64 (0, 0))) (by simp)
    have b0 : wc.cell? ⟨V.heap.size, 0, none⟩ = some (.int .u32 a.1) := (HQG.out.cellsOf (b := V.heap.size) (C := #[.int .u32 a.1, .int .i64 a.2]) (t := 38) (by simp) 0).1
    have bl := HQG.out.lt (p := (V.heap.size, .cells #[.int .u32 a.1, .int .i64 a.2] 38 (0, 0))) (by simp)
    have hq9 : Pp.LeAt wc q ⟨2, l.ins, 0, 0, l.non, 0, E, 0⟩ := HQG.out.held (p := (q, .cells (Pp.leA ⟨2, l.ins, 0, 0, l.non, 0, E, 0⟩) 64 (0, 0))) (by simp)
    have hosq : ∀ p ∈ os, p.1 ≠ q := fun p hp => HQN.out p (by simp [hp])
    have HOSQ := Lib.hid hosq
    dsimp only at kl bl
    clear HQ hosq
    have hg8 := HQG.out.box (k := wc.heap.size) #[.int .u32 a.1, .int .i64 l.ins] 38 rfl
    have HS8 := Lib.hid (HIO.out _ _ hg8)
    clear hg8 HQG hq9
    go_wp2_with fail
    refine HS8.out.mono ?_
    rintro e W8 ⟨rfl, hg8⟩
    clear HS8 k0 k1 k2 k3 k4 k5 k6 k7 kl b0 bl
    have HS9 := Lib.hid (HSV.out _ _ hg8)
    obtain ⟨k0, k1, k2, k3, k4, k5, k6, k7⟩ := Pp.LeAt.cells (w := W8) (g := V1.heap.size) (l := l) (hg8.held (p := (V1.heap.size, .cells (Pp.leA l) 64 (0, 0))) (by simp))
    have kl := hg8.lt (p := (V1.heap.size, .cells (Pp.leA l) 64 (0, 0))) (by simp)
    have i0 : W8.cell? ⟨wc.heap.size, 0, none⟩ = some (.int .u32 a.1) := (hg8.cellsOf (b := wc.heap.size) (C := #[.int .u32 a.1, .int .i64 l.ins]) (t := 38) (by simp) 0).1
    have i1 : W8.cell? ⟨wc.heap.size, 1, none⟩ = some (.int .i64 l.ins) := (hg8.cellsOf (b := wc.heap.size) (C := #[.int .u32 a.1, .int .i64 l.ins]) (t := 38) (by simp) 1).1
    have il := hg8.lt (p := (wc.heap.size, .cells #[.int .u32 a.1, .int .i64 l.ins] 38 (0, 0))) (by simp)
    dsimp only at kl il
    clear hg8 HSV HIO
    go_wp2_with fail
    refine HS9.out.mono ?_
    rintro e W9 ⟨rfl, hg9⟩
    clear HS9 k0 k1 k2 k3 k4 k5 k6 k7 kl i0 i1 il
    have ht9 : Pp.LeAt W9 q ⟨2, l.ins, 0, 0, l.non, 0, E, 0⟩ := hg9.held (p := (q, .cells (Pp.leA ⟨2, l.ins, 0, 0, l.non, 0, E, 0⟩) 64 (0, 0))) (by simp)
    have ql := ht9.lt
    obtain ⟨y0, y1, y2, y3, y4, y5, y6, y7⟩ := ht9.cells
    have yf : ∀ k, W9.frozen? ⟨q, k, none⟩ = false := fun k => (cells_of ht9 k).2
    have hgA := hg9.sub (os' := (q, .cells (Pp.leA ⟨2, l.ins, 0, 0, l.non, 0, E, 0⟩) 64 (0, 0)) :: os) (fun p hp => by rcases List.mem_cons.1 hp with rfl | hp; simp; simp [hp])
    have hgB := (((hgA.store (j := 2) (v := .int .i64 0) HOSQ.out HQ0.out).store (j := 3) (v := .int .i64 ss) HOSQ.out HQ0.out).store (j := 5) (v := .int .i64 (resV sc 8 3)) HOSQ.out HQ0.out).sub (os' := os) (fun p hp => by simp [hp])
    have HGB := Lib.hid hgB
    have HRS := Lib.hid (fun W => resultOf_any sc 8 3 W)
    dsimp only at y0 y1 y2 y3 y4 y5 y6 y7
    clear hg9 ht9 hgA hgB
    have hans := ptell_ans ⟨2, l.ins, 0, ss, l.non, resV sc 8 3, E, 0⟩ (((W9.setCell ⟨q, 2, none⟩ (.int .i64 0)).setCell ⟨q, 3, none⟩ (.int .i64 ss)).setCell ⟨q, 5, none⟩ (.int .i64 (resV sc 8 3))) (by
      have h1 := HIL.out; have h2 := HE.out; have h3 := HLB.out; have h4 := h1.non; have h5 := h1.hst
      have hb0 := HSB0.out
      have hr4 : resV sc 8 3 = 0 ∨ resV sc 8 3 = 3 ∨ resV sc 8 3 = 8 := by
        unfold resV
        rcases hb0.2.2 with e | e | e <;> rw [e] <;> simp
      constructor <;> (simp only [Pp.W64]; omega))
    have HANS := Lib.hid hans
    unfold Pp.leV Pp.leA at HANS
    dsimp only at HANS
    clear hans
    go_wp2_with fail
    refine (HRS.out _).mono ?_
    rintro e W10 ⟨rfl, rfl⟩
    go_wp2_with fail
    refine HANS.out.mono ?_
    rintro e W11 ⟨u, rfl, hrow, hb7⟩
    have HROW := Lib.hid hrow
    have HG7 := Lib.hid (HGB.out.below hb7)
    clear hrow hb7
    go_wp2
    go_ret
    exact ⟨u, rfl, HROW.out, HG7.out⟩
end
end Go.Proofs.Ytemlnkcokeckmaa
