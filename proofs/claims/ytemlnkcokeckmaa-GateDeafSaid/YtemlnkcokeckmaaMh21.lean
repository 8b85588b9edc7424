/-
  The contract of gate's byPcp, of a request that makes a binding. Conditions: the gateway stands.
  The document's own box in memory: the box, the row of its bindings, each with the row of those that it has seen. Conditions: as each lemma states.
  The document's own on: the time goes on, and those are gone whose end has come. Conditions: the box stands in memory.
  The document's own free, key and find, and its own May of an address. Conditions: the box stands in memory.
-/
import Derived.Test.YtemlnkcokeckmaaMh19
import Derived.Test.YtemlnkcokeckmaaMh20
import Derived.Maps.OwnSet
import Derived.Test.YtemlnkcokeckmaaMh12
import Derived.Lib.SmallJoins
import Derived.Test.YtemlnkcokeckmaaMh14
namespace Go.Proofs.Ytemlnkcokeckmaa
open Go.RowKit Go.Maps
attribute [local go_sem] Oper.semAt_some
set_option linter.unusedVariables false
set_option linter.unusedSimpArgs false

section
variable {w0 V V' : World} {gb nb nm : Nat} {x : Bx} {most since now now' : Int} {av : Value} {f f' : Nf} {c c' : Nat} {M M' : List Bn} {os : List (Nat × Obj)}
set_option maxRecDepth 100000 in
set_option maxHeartbeats 16000000 in
theorem byPcp_some (h : Gm w0 gb nb nm x most since av f c now M os V) (t : Int) (a : A2) (ha : isA a) {v : Value} {zs : List Int} {l : Pp.Le} {k : Int} (hr : Pp.Row V v zs) (hz : Pp.PAskOf zs l k) (h0 : 0 ≤ since) (h1 : since ≤ 1099511627776000) (ht0 : 0 ≤ t) (ht1 : t ≤ 1099511627776) (hk : k = a.1) (hx : OkB x) (hok : Okb x M) (hM : OkM M) (hg : goes now t = true) (ho : ((liveM M t).any (askF (a.1, l.ins)) && othB f (a.1, l.ins) l.non) = false) (hm : 1 ≤ most ∧ most ≤ 4294967295) (hp : (srvS x most t (liveM M t) t (a.1, l.ins) l.prt l.secs).port ≠ 0) (hc : c < maxLen) (hxo : 0 ≤ x.host ∧ x.host ≤ 4294967295) :
    Calls Try.prog 91 #[.pointer (some ⟨gb, 0, none⟩), .int .i64 t, adr a, v] V fun e V' => ∃ u, e = .returned u ∧ Pp.Row V' u (Pp.pansR ⟨2, l.ins, (srvS x most t (liveM M t) t (a.1, l.ins) l.prt l.secs).port, (srvS x most t (liveM M t) t (a.1, l.ins) l.prt l.secs).secs, l.non, resV (srvS x most t (liveM M t) t (a.1, l.ins) l.prt l.secs).code 8 3, epoV since t, x.host⟩) ∧ Gm w0 gb nb nm x most since av (putF (cutIf (srvS x most t (liveM M t) t (a.1, l.ins) l.prt l.secs).cut f (a.1, l.ins)) (a.1, l.ins) l.non) (c + 1) (srvS x most t (liveM M t) t (a.1, l.ins) l.prt l.secs).now (srvS x most t (liveM M t) t (a.1, l.ins) l.prt l.secs).M os V' := by
  have hl := hz.is
  have hb1 := hz.may.1.2.1
  have hg0 := h.box (k := V.heap.size) #[.int .u32 a.1, .int .i64 a.2] 38 rfl
  have hR := Lib.hid (pread_ask (hr.below ((Below.refl _ V).alloc (Nat.le_refl _) (.cells #[.int .u32 a.1, .int .i64 a.2] 38))))
  rw [Pp.paR_yes hz] at hR
  have HG := Lib.hid hg0
  have HEP := Lib.hid (fun os' W (hW : Gm w0 gb nb nm x most since av f c now M os' W) => epo_gm hW t h0 h1 ht0 ht1)
  have HE := Lib.hid (epoV_bd (since := since) (t := t))
  have HIL := Lib.hid hl
  have HLB := Lib.hid hb1
  subst hk
  have hkb : (a.1 != a.1) = false := by simp
  have hia : isA (a.1, l.ins) := ⟨ha.1, by dsimp only; omega, by dsimp only; omega⟩
  have hs : 0 ≤ l.secs ∧ l.secs ≤ 4294967295 := by exact hz.may.1.2.2.2.1
  have HIO := Lib.hid (fun os' W (hW : Gm w0 gb nb nm x most since av f c now M os' W) => isOthers_gm hW hM t (a.1, l.ins) hia l.non hg)
  rw [ho] at HIO
  have hM1 : OkM (liveM M t) := ⟨Nat.le_trans (List.length_filter_le _ _) hM.len, fun b hb => hM.seen b (List.mem_filter.1 hb).1⟩
  have HSV := Lib.hid (fun os' W (hW : Gm w0 gb nb nm x most since av f c t (liveM M t) os' W) => serve_gm hW hx hM1 t (a.1, l.ins) hia l hl ht0 ht1 hs hm)
  have HSB0 := Lib.hid (srv_bd (most := most) (now := t) (t := t) (a := (a.1, l.ins)) (p := l.prt) hx (hok.live t) hs hm.1)
  have HIA := Lib.hid hia
  have HNB : Hid (0 ≤ l.non ∧ l.non ≤ 18446744073709551615) := Lib.hid (by have := hl.non; omega)
  have HCL := Lib.hid hc
  have HXH := Lib.hid hxo
  unfold adr at HIO
  unfold adr Pp.leV Pp.leA at HSV
  dsimp only at HIO HSV
  clear h hg0 hr hz hl
  unfold Pp.paT Pp.leV Pp.leA at hR
  unfold adr
  generalize epoV since t = E at HEP HE ⊢
  generalize (srvS x most t (liveM M t) t (a.1, l.ins) l.prt l.secs) = sv at HSV HSB0 hp ⊢
  obtain ⟨sp, ss, sc, su, sn, sM⟩ := sv
  dsimp only at HSV HSB0 hp ⊢
  go_enter Try.func91, Try.ntmps91
  go_wp2_with fail
  refine hR.out.mono ?_
  rintro e V1 ⟨rfl, hb⟩
  have hg1 := (HG.out.below hb).box (k := V1.heap.size) (Pp.leA l) 64 rfl
  have HG1 := Lib.hid hg1
  clear hb hg1
  go_upto_region 4 with (fail)
  obtain ⟨W1, hW1⟩ : ∃ W1, V1.alloc (.cells (Pp.leA l) 64) = W1 := ⟨_, rfl⟩
  rw [hW1] at HG1
  unfold Pp.leA at hW1
  rw [hW1]
  clear hW1
  obtain ⟨⟨c0, c1, c2, c3, c4⟩, cf, cl⟩ := HG1.out.cells
  go_cut [12] from 14 (fun v12 wc => ∃ q : Nat, v12 = .pointer (some ⟨q, 0, none⟩) ∧ Hid (Gm w0 gb nb nm x most since av f c now M ((q, .cells (Pp.leA ⟨2, l.ins, 0, 0, l.non, 0, E, 0⟩) 64 (0, 0)) :: (V1.heap.size, .cells (Pp.leA l) 64 (0, 0)) :: (V.heap.size, .cells #[.int .u32 a.1, .int .i64 a.2] 38 (0, 0)) :: os) wc ∧ w0.heap.size ≤ q ∧ ∀ p ∈ (V1.heap.size, .cells (Pp.leA l) 64 (0, 0)) :: (V.heap.size, .cells #[.int .u32 a.1, .int .i64 a.2] 38 (0, 0)) :: os, p.1 ≠ q))
  case first =>
    have HGA := Lib.hid (HG1.out.drewN 1)
    have HGB := Lib.hid ((HG1.out.drewN 1).alloc (.cells #[.int .i64 0, .int .i64 0, .int .i64 0, .int .i64 0, .int .u64 0, .int .i64 0, .int .i64 0, .int .u32 0] 64))
    have HSA : Hid ((fun W => W.heap[gb]? = some (.cells (gCells nb most since av nm) 117 (0, 0)) ∧ W.heap[V1.heap.size]? = some (.cells (Pp.leA l) 64 (0, 0))) (W1.drewN 1)) := Lib.hid ⟨(HG1.out.drewN 1).top, (HG1.out.drewN 1).held (p := (V1.heap.size, .cells (Pp.leA l) 64 (0, 0))) (by simp)⟩
    have HSB : Hid ((fun W => W.heap[gb]? = some (.cells (gCells nb most since av nm) 117 (0, 0)) ∧ W.heap[V1.heap.size]? = some (.cells (Pp.leA l) 64 (0, 0))) ((W1.drewN 1).alloc (.cells #[.int .i64 0, .int .i64 0, .int .i64 0, .int .i64 0, .int .u64 0, .int .i64 0, .int .i64 0, .int .u32 0] 64))) := Lib.hid ⟨((HG1.out.drewN 1).alloc _).top, ((HG1.out.drewN 1).alloc _).held (p := (V1.heap.size, .cells (Pp.leA l) 64 (0, 0))) (by simp)⟩
    have hgu := (HG1.out.drewN 1).box (k := W1.heap.size) #[.int .i64 0, .int .i64 0, .int .i64 0, .int .i64 0, .int .u64 0, .int .i64 0, .int .i64 0, .int .u32 0] 64 rfl
    have hla : Pp.LeAt ((W1.drewN 1).alloc (.cells #[.int .i64 0, .int .i64 0, .int .i64 0, .int .i64 0, .int .u64 0, .int .i64 0, .int .i64 0, .int .u32 0] 64)) W1.heap.size Pp.zeroL := hgu.held (p := (W1.heap.size, .cells #[.int .i64 0, .int .i64 0, .int .i64 0, .int .i64 0, .int .u64 0, .int .i64 0, .int .i64 0, .int .u32 0] 64 (0, 0))) (by simp)
    have HU : Hid ((_ ∧ _ ∧ _ ∧ _ ∧ _ ∧ _ ∧ _ ∧ _) ∧ (∀ k, ((W1.drewN 1).alloc (.cells #[.int .i64 0, .int .i64 0, .int .i64 0, .int .i64 0, .int .u64 0, .int .i64 0, .int .i64 0, .int .u32 0] 64)).frozen? ⟨W1.heap.size, k, none⟩ = false) ∧ W1.heap.size < ((W1.drewN 1).alloc (.cells #[.int .i64 0, .int .i64 0, .int .i64 0, .int .i64 0, .int .u64 0, .int .i64 0, .int .i64 0, .int .u32 0] 64)).heap.size) := Lib.hid ⟨hla.cells, fun k => (cells_of hla k).2, hla.lt⟩
    have hp8 := hgu.put8 ⟨2, l.ins, 0, 0, l.non, 0, E, 0⟩ (fun p hp => by have := HG1.out.lt hp; omega) HG1.out.low.size (l0 := Pp.zeroL)
    have HSC : Hid ((fun W => W.heap[gb]? = some (.cells (gCells nb most since av nm) 117 (0, 0)) ∧ W.heap[V1.heap.size]? = some (.cells (Pp.leA l) 64 (0, 0))) (Pp.put8 ((W1.drewN 1).alloc (.cells #[.int .i64 0, .int .i64 0, .int .i64 0, .int .i64 0, .int .u64 0, .int .i64 0, .int .i64 0, .int .u32 0] 64)) W1.heap.size ⟨2, l.ins, 0, 0, l.non, 0, E, 0⟩)) := Lib.hid ⟨hp8.top, hp8.held (p := (V1.heap.size, .cells (Pp.leA l) 64 (0, 0))) (by simp)⟩
    have HX : Hid (Gm w0 gb nb nm x most since av f c now M ((W1.heap.size, .cells (Pp.leA ⟨2, l.ins, 0, 0, l.non, 0, E, 0⟩) 64 (0, 0)) :: (V1.heap.size, .cells (Pp.leA l) 64 (0, 0)) :: (V.heap.size, .cells #[.int .u32 a.1, .int .i64 a.2] 38 (0, 0)) :: os) (Pp.put8 ((W1.drewN 1).alloc (.cells #[.int .i64 0, .int .i64 0, .int .i64 0, .int .i64 0, .int .u64 0, .int .i64 0, .int .i64 0, .int .u32 0] 64)) W1.heap.size ⟨2, l.ins, 0, 0, l.non, 0, E, 0⟩) ∧ w0.heap.size ≤ W1.heap.size ∧ ∀ p ∈ (V1.heap.size, .cells (Pp.leA l) 64 (0, 0)) :: (V.heap.size, .cells #[.int .u32 a.1, .int .i64 a.2] 38 (0, 0)) :: os, p.1 ≠ W1.heap.size) := Lib.hid ⟨hp8, HG1.out.low.size, fun p hp e => by have := HG1.out.lt (p := p) hp; omega⟩
    clear hgu hla hp8
    refine wp_region_held_drew (S := fun W => W.heap[gb]? = some (.cells (gCells nb most since av nm) 117 (0, 0)) ∧ W.heap[V1.heap.size]? = some (.cells (Pp.leA l) 64 (0, 0))) (by kernel_rfl) HSA.out (fun hHeld => ?_)
    refine wpAnyH_take (i := 0) (oi := _) (v := ?_) rfl (by kernel_rfl) (by kernel_rfl) (by kernel_rfl) (fun _ _ _ h => h) (Or.inl ⟨by rfl, ?_⟩) (by assumption) ?_
    case refine_2 => intro w hSw; (try dsimp only at hSw); obtain ⟨hS1, hS2⟩ := hSw; have rlt := (Array.getElem?_eq_some_iff.1 hS1).1; have blt := (Array.getElem?_eq_some_iff.1 hS2).1; have j1 := (cells_of hS2 1).1; have j4 := (cells_of hS2 4).1; clear hS1 hS2; unfold Pp.leA at j1 j4; simp only [List.getElem?_toArray, List.getElem?_cons_zero, List.getElem?_cons_succ] at j1 j4; go_simp; first | done | (with_reducible rfl)
    try simp only [Act.put, List.getElem_toArray, List.getElem_cons_zero, List.getElem_cons_succ, List.setIfInBounds_toArray, List.set_cons_zero, List.set_cons_succ]
    refine wpAnyH_take (i := 1) (oi := _) (v := ?_) rfl (by kernel_rfl) (by kernel_rfl) (by kernel_rfl) (fun _ _ _ h => h) (Or.inl ⟨by rfl, ?_⟩) (by assumption) ?_
    case refine_2 => intro w hSw; (try dsimp only at hSw); obtain ⟨hS1, hS2⟩ := hSw; have rlt := (Array.getElem?_eq_some_iff.1 hS1).1; have blt := (Array.getElem?_eq_some_iff.1 hS2).1; have j1 := (cells_of hS2 1).1; have j4 := (cells_of hS2 4).1; clear hS1 hS2; unfold Pp.leA at j1 j4; simp only [List.getElem?_toArray, List.getElem?_cons_zero, List.getElem?_cons_succ] at j1 j4; go_simp; first | done | (with_reducible rfl)
    try simp only [Act.put, List.getElem_toArray, List.getElem_cons_zero, List.getElem_cons_succ, List.setIfInBounds_toArray, List.set_cons_zero, List.set_cons_succ]
    refine wpAnyH_take (i := 3) (oi := _) (v := ?_) rfl (by kernel_rfl) (by kernel_rfl) (by kernel_rfl) (fun _ _ _ h => h) (Or.inl ⟨by rfl, ?_⟩) (by assumption) ?_
    case refine_2 => intro w hSw; (try dsimp only at hSw); obtain ⟨hS1, hS2⟩ := hSw; have rlt := (Array.getElem?_eq_some_iff.1 hS1).1; have blt := (Array.getElem?_eq_some_iff.1 hS2).1; have j1 := (cells_of hS2 1).1; have j4 := (cells_of hS2 4).1; clear hS1 hS2; unfold Pp.leA at j1 j4; simp only [List.getElem?_toArray, List.getElem?_cons_zero, List.getElem?_cons_succ] at j1 j4; go_simp; first | done | (with_reducible rfl)
    try simp only [Act.put, List.getElem_toArray, List.getElem_cons_zero, List.getElem_cons_succ, List.setIfInBounds_toArray, List.set_cons_zero, List.set_cons_succ]
    refine wpAnyH_take (i := 4) (oi := _) (v := ?_) rfl (by kernel_rfl) (by kernel_rfl) (by kernel_rfl) (fun _ _ _ h => h) (Or.inl ⟨by rfl, ?_⟩) (by assumption) ?_
    case refine_2 => intro w hSw; (try dsimp only at hSw); obtain ⟨hS1, hS2⟩ := hSw; have rlt := (Array.getElem?_eq_some_iff.1 hS1).1; have blt := (Array.getElem?_eq_some_iff.1 hS2).1; have j1 := (cells_of hS2 1).1; have j4 := (cells_of hS2 4).1; clear hS1 hS2; unfold Pp.leA at j1 j4; simp only [List.getElem?_toArray, List.getElem?_cons_zero, List.getElem?_cons_succ] at j1 j4; go_simp; first | done | (with_reducible rfl)
    try simp only [Act.put, List.getElem_toArray, List.getElem_cons_zero, List.getElem_cons_succ, List.setIfInBounds_toArray, List.set_cons_zero, List.set_cons_succ]
    refine wpAnyH_take (i := 5) (oi := _) (v := ?_) rfl (by kernel_rfl) (by kernel_rfl) (by kernel_rfl) (fun _ _ _ h => h) (Or.inl ⟨by rfl, ?_⟩) (by assumption) ?_
    case refine_2 => intro w hSw; (try dsimp only at hSw); obtain ⟨hS1, hS2⟩ := hSw; have rlt := (Array.getElem?_eq_some_iff.1 hS1).1; have blt := (Array.getElem?_eq_some_iff.1 hS2).1; have j1 := (cells_of hS2 1).1; have j4 := (cells_of hS2 4).1; clear hS1 hS2; unfold Pp.leA at j1 j4; simp only [List.getElem?_toArray, List.getElem?_cons_zero, List.getElem?_cons_succ] at j1 j4; go_simp; first | done | (with_reducible rfl)
    try simp only [Act.put, List.getElem_toArray, List.getElem_cons_zero, List.getElem_cons_succ, List.setIfInBounds_toArray, List.set_cons_zero, List.set_cons_succ]
    refine wpAnyH_take (i := 6) (oi := _) (v := ?_) rfl (by kernel_rfl) (by kernel_rfl) (by kernel_rfl) (fun _ _ _ h => h) (Or.inl ⟨by rfl, ?_⟩) (by assumption) ?_
    case refine_2 => intro w hSw; (try dsimp only at hSw); obtain ⟨hS1, hS2⟩ := hSw; have rlt := (Array.getElem?_eq_some_iff.1 hS1).1; have blt := (Array.getElem?_eq_some_iff.1 hS2).1; have j1 := (cells_of hS2 1).1; have j4 := (cells_of hS2 4).1; clear hS1 hS2; unfold Pp.leA at j1 j4; simp only [List.getElem?_toArray, List.getElem?_cons_zero, List.getElem?_cons_succ] at j1 j4; go_simp; first | done | (with_reducible rfl)
    try simp only [Act.put, List.getElem_toArray, List.getElem_cons_zero, List.getElem_cons_succ, List.setIfInBounds_toArray, List.set_cons_zero, List.set_cons_succ]
    refine wpAnyH_ready (rs := [2, 8]) (by kernel_rfl) (by simp) ?_
    refine (AllReadyH.cons rfl (fun K hK => ?_) (AllReadyH.cons rfl (fun K hK => ?_) AllReadyH.nil))
    · go_simp
      go_at_call 58
      first | refine (HEP.out _ _ HGA.out).mono ?_ | refine (HEP.out _ _ HGB.out).mono ?_
      rintro e W3 ⟨rfl, hW3⟩
      subst hW3
      refine hK.out _ _ HSA.out (fun hHeld => ?_)
      clear hK K
      try simp only [Act.put, List.getElem_toArray, List.getElem_cons_zero, List.getElem_cons_succ, List.setIfInBounds_toArray, List.set_cons_zero, List.set_cons_succ]
      refine wpAnyH_take (i := 7) (oi := _) (v := ?_) rfl (by kernel_rfl) (by kernel_rfl) (by kernel_rfl) (fun _ _ _ h => h) (Or.inl ⟨by rfl, ?_⟩) (by assumption) ?_
      case refine_2 => intro w hSw; (try dsimp only at hSw); obtain ⟨hS1, hS2⟩ := hSw; have rlt := (Array.getElem?_eq_some_iff.1 hS1).1; have blt := (Array.getElem?_eq_some_iff.1 hS2).1; have j1 := (cells_of hS2 1).1; have j4 := (cells_of hS2 4).1; clear hS1 hS2; unfold Pp.leA at j1 j4; simp only [List.getElem?_toArray, List.getElem?_cons_zero, List.getElem?_cons_succ] at j1 j4; go_simp; first | done | (with_reducible rfl)
      try simp only [Act.put, List.getElem_toArray, List.getElem_cons_zero, List.getElem_cons_succ, List.setIfInBounds_toArray, List.set_cons_zero, List.set_cons_succ]
      refine wpAnyH_ready (rs := [8]) (by kernel_rfl) (by simp) ?_
      refine (AllReadyH.cons rfl (fun K hK => ?_) AllReadyH.nil)
      go_simp
      refine hK.out _ _ HSB.out (fun hHeld => ?_)
      clear hK K
      try simp only [Act.put, List.getElem_toArray, List.getElem_cons_zero, List.getElem_cons_succ, List.setIfInBounds_toArray, List.set_cons_zero, List.set_cons_succ]
      refine wpAnyH_ready (rs := [9]) (by kernel_rfl) (by simp) ?_
      refine (AllReadyH.cons rfl (fun K hK => ?_) AllReadyH.nil)
      obtain ⟨⟨y0, y1, y2, y3, y4, y5, y6, y7⟩, fz, yl⟩ := HU.out
      go_simp
      clear y0 y1 y2 y3 y4 y5 y6 y7 fz yl
      refine hK.out _ _ HSC.out (fun hHeld => ?_)
      clear hK K
      try simp only [Act.put, List.getElem_toArray, List.getElem_cons_zero, List.getElem_cons_succ, List.setIfInBounds_toArray, List.set_cons_zero, List.set_cons_succ]
      refine wpAnyH_done (by kernel_rfl) ?_ _
      go_wp2
      go_meet
      case rel => exact ⟨_, rfl, HX⟩
    · go_simp
      refine hK.out _ _ HSB.out (fun hHeld => ?_)
      clear hK K
      try simp only [Act.put, List.getElem_toArray, List.getElem_cons_zero, List.getElem_cons_succ, List.setIfInBounds_toArray, List.set_cons_zero, List.set_cons_succ]
      refine wpAnyH_ready (rs := [2]) (by kernel_rfl) (by simp) ?_
      refine (AllReadyH.cons rfl (fun K hK => ?_) AllReadyH.nil)
      go_simp
      go_at_call 58
      first | refine (HEP.out _ _ HGA.out).mono ?_ | refine (HEP.out _ _ HGB.out).mono ?_
      rintro e W3 ⟨rfl, hW3⟩
      subst hW3
      refine hK.out _ _ HSB.out (fun hHeld => ?_)
      clear hK K
      try simp only [Act.put, List.getElem_toArray, List.getElem_cons_zero, List.getElem_cons_succ, List.setIfInBounds_toArray, List.set_cons_zero, List.set_cons_succ]
      refine wpAnyH_take (i := 7) (oi := _) (v := ?_) rfl (by kernel_rfl) (by kernel_rfl) (by kernel_rfl) (fun _ _ _ h => h) (Or.inl ⟨by rfl, ?_⟩) (by assumption) ?_
      case refine_2 => intro w hSw; (try dsimp only at hSw); obtain ⟨hS1, hS2⟩ := hSw; have rlt := (Array.getElem?_eq_some_iff.1 hS1).1; have blt := (Array.getElem?_eq_some_iff.1 hS2).1; have j1 := (cells_of hS2 1).1; have j4 := (cells_of hS2 4).1; clear hS1 hS2; unfold Pp.leA at j1 j4; simp only [List.getElem?_toArray, List.getElem?_cons_zero, List.getElem?_cons_succ] at j1 j4; go_simp; first | done | (with_reducible rfl)
      try simp only [Act.put, List.getElem_toArray, List.getElem_cons_zero, List.getElem_cons_succ, List.setIfInBounds_toArray, List.set_cons_zero, List.set_cons_succ]
      refine wpAnyH_ready (rs := [9]) (by kernel_rfl) (by simp) ?_
      refine (AllReadyH.cons rfl (fun K hK => ?_) AllReadyH.nil)
      obtain ⟨⟨y0, y1, y2, y3, y4, y5, y6, y7⟩, fz, yl⟩ := HU.out
      go_simp
      clear y0 y1 y2 y3 y4 y5 y6 y7 fz yl
      refine hK.out _ _ HSC.out (fun hHeld => ?_)
      clear hK K
      try simp only [Act.put, List.getElem_toArray, List.getElem_cons_zero, List.getElem_cons_succ, List.setIfInBounds_toArray, List.set_cons_zero, List.set_cons_succ]
      refine wpAnyH_done (by kernel_rfl) ?_ _
      go_wp2
      go_meet
      case rel => exact ⟨_, rfl, HX⟩
  case rest =>
    obtain ⟨q, rfl, HQ⟩ := hcut
    clear c0 c1 c2 c3 c4 cf cl HG1 HG HEP
    have HQG := Lib.hid HQ.out.1
    have HQ0 := Lib.hid HQ.out.2.1
    have HQN := Lib.hid HQ.out.2.2
    obtain ⟨k0, k1, k2, k3, k4, k5, k6, k7⟩ := Pp.LeAt.cells (w := wc) (g := V1.heap.size) (l := l) (HQG.out.held (p := (V1.heap.size, .cells (Pp.leA l) 64 (0, 0))) (by simp))
    have kl := HQG.out.lt (p := (V1.heap.size, .cells (Pp.leA l) 64 (0, 0))) (by simp)
    have b0 : wc.cell? ⟨V.heap.size, 0, none⟩ = some (.int .u32 a.1) := (HQG.out.cellsOf (b := V.heap.size) (C := #[.int .u32 a.1, .int .i64 a.2]) (t := 38) (by simp) 0).1
    have bl := HQG.out.lt (p := (V.heap.size, .cells #[.int .u32 a.1, .int .i64 a.2] 38 (0, 0))) (by simp)
    have hq9 : Pp.LeAt wc q ⟨2, l.ins, 0, 0, l.non, 0, E, 0⟩ := HQG.out.held (p := (q, .cells (Pp.leA ⟨2, l.ins, 0, 0, l.non, 0, E, 0⟩) 64 (0, 0))) (by simp)
    have hosq : ∀ p ∈ os, p.1 ≠ q := fun p hp => HQN.out p (by simp [hp])
    have HOSQ := Lib.hid hosq
    dsimp only at kl bl
    clear HQ hosq
    have HQLT : Hid (q < wc.heap.size) := Lib.hid (HQG.out.lt (p := (q, .cells (Pp.leA ⟨2, l.ins, 0, 0, l.non, 0, E, 0⟩) 64 (0, 0))) (by simp))
    have hg8 := HQG.out.box (k := wc.heap.size) #[.int .u32 a.1, .int .i64 l.ins] 38 rfl
    have HS8 := Lib.hid (HIO.out _ _ hg8)
    clear hg8 HQG hq9
    go_wp2_with fail
    refine HS8.out.mono ?_
    rintro e W8 ⟨rfl, hg8⟩
    clear HS8 k0 k1 k2 k3 k4 k5 k6 k7 kl b0 bl
    have HS9 := Lib.hid (HSV.out _ _ hg8)
    obtain ⟨k0, k1, k2, k3, k4, k5, k6, k7⟩ := Pp.LeAt.cells (w := W8) (g := V1.heap.size) (l := l) (hg8.held (p := (V1.heap.size, .cells (Pp.leA l) 64 (0, 0))) (by simp))
    have kl := hg8.lt (p := (V1.heap.size, .cells (Pp.leA l) 64 (0, 0))) (by simp)
    have i0 : W8.cell? ⟨wc.heap.size, 0, none⟩ = some (.int .u32 a.1) := (hg8.cellsOf (b := wc.heap.size) (C := #[.int .u32 a.1, .int .i64 l.ins]) (t := 38) (by simp) 0).1
    have i1 : W8.cell? ⟨wc.heap.size, 1, none⟩ = some (.int .i64 l.ins) := (hg8.cellsOf (b := wc.heap.size) (C := #[.int .u32 a.1, .int .i64 l.ins]) (t := 38) (by simp) 1).1
    have il := hg8.lt (p := (wc.heap.size, .cells #[.int .u32 a.1, .int .i64 l.ins] 38 (0, 0))) (by simp)
    dsimp only at kl il
    clear hg8 HSV HIO
    go_wp2_with fail
    refine HS9.out.mono ?_
    rintro e W9 ⟨rfl, hg9⟩
    have HQG0 := Lib.hid HQLT.out
    clear HS9 k0 k1 k2 k3 k4 k5 k6 k7 kl i0 i1 il
    have ht9 : Pp.LeAt W9 q ⟨2, l.ins, 0, 0, l.non, 0, E, 0⟩ := hg9.held (p := (q, .cells (Pp.leA ⟨2, l.ins, 0, 0, l.non, 0, E, 0⟩) 64 (0, 0))) (by simp)
    have ql := ht9.lt
    obtain ⟨y0, y1, y2, y3, y4, y5, y6, y7⟩ := ht9.cells
    have yf : ∀ k, W9.frozen? ⟨q, k, none⟩ = false := fun k => (cells_of ht9 k).2
    have hqlt := HQG0.out
    have hosq3 : ∀ p ∈ (V1.heap.size, .cells (Pp.leA l) 64 (0, 0)) :: (wc.heap.size, .cells #[.int .u32 a.1, .int .i64 l.ins] 38 (0, 0)) :: os, p.1 ≠ q := fun p hp => by
      rcases List.mem_cons.1 hp with rfl | hp
      · exact HQN.out _ (by simp)
      · rcases List.mem_cons.1 hp with rfl | hp
        · dsimp only; omega
        · exact HOSQ.out p hp
    have hgA := hg9.sub (os' := (q, .cells (Pp.leA ⟨2, l.ins, 0, 0, l.non, 0, E, 0⟩) 64 (0, 0)) :: (V1.heap.size, .cells (Pp.leA l) 64 (0, 0)) :: (wc.heap.size, .cells #[.int .u32 a.1, .int .i64 l.ins] 38 (0, 0)) :: os) (fun p hp => by simp only [List.mem_cons] at hp ⊢; rcases hp with h | h | h | h <;> simp [h])
    have hgB := ((hgA.store (j := 2) (v := .int .i64 sp) hosq3 HQ0.out).store (j := 3) (v := .int .i64 ss) hosq3 HQ0.out).store (j := 5) (v := .int .i64 (resV sc 8 3)) hosq3 HQ0.out
    have HRS := Lib.hid (fun W => resultOf_any sc 8 3 W)
    obtain ⟨W3, hW3⟩ : ∃ W3, ((W9.setCell ⟨q, 2, none⟩ (.int .i64 sp)).setCell ⟨q, 3, none⟩ (.int .i64 ss)).setCell ⟨q, 5, none⟩ (.int .i64 (resV sc 8 3)) = W3 := ⟨_, rfl⟩
    rw [hW3] at hgB
    have HGB : Hid (Gm w0 gb nb nm x most since av (cutIf su f (a.1, l.ins)) c sn sM ((q, .cells (Pp.leA ⟨2, l.ins, sp, ss, l.non, resV sc 8 3, E, 0⟩) 64 (0, 0)) :: (V1.heap.size, .cells (Pp.leA l) 64 (0, 0)) :: (wc.heap.size, .cells #[.int .u32 a.1, .int .i64 l.ins] 38 (0, 0)) :: os) W3) := Lib.hid hgB
    have HW3 := Lib.hid hW3
    have HPN := Lib.hid hp
    have hpb : (sp != 0) = true := by simpa using hp
    have HOS3 := Lib.hid hosq3
    dsimp only at y0 y1 y2 y3 y4 y5 y6 y7
    clear hg9 ht9 hgA hgB hW3 hp hosq3 hqlt
    go_wp2_with fail
    refine (HRS.out _).mono ?_
    rintro e W10 ⟨rfl, rfl⟩
    go_upto_region 13 with (fail)
    rw [HW3.out]
    clear y0 y1 y2 y3 y4 y5 y6 y7 yf ql HW3
    obtain ⟨⟨c0, c1, c2, c3, c4⟩, cf, cl⟩ := HGB.out.cells
    obtain ⟨k0, k1, k2, k3, k4, k5, k6, k7⟩ := Pp.LeAt.cells (w := W3) (g := V1.heap.size) (l := l) (HGB.out.held (p := (V1.heap.size, .cells (Pp.leA l) 64 (0, 0))) (by simp))
    have kl := HGB.out.lt (p := (V1.heap.size, .cells (Pp.leA l) 64 (0, 0))) (by simp)
    have i0 : W3.cell? ⟨wc.heap.size, 0, none⟩ = some (.int .u32 a.1) := (HGB.out.cellsOf (b := wc.heap.size) (C := #[.int .u32 a.1, .int .i64 l.ins]) (t := 38) (by simp) 0).1
    have i1 : W3.cell? ⟨wc.heap.size, 1, none⟩ = some (.int .i64 l.ins) := (HGB.out.cellsOf (b := wc.heap.size) (C := #[.int .u32 a.1, .int .i64 l.ins]) (t := 38) (by simp) 1).1
    have il := HGB.out.lt (p := (wc.heap.size, .cells #[.int .u32 a.1, .int .i64 l.ins] 38 (0, 0))) (by simp)
    dsimp only at kl il
    obtain ⟨W', hrun, hG'⟩ := (HGB.out.drewN 1).putN (a.1, l.ins) HIA.out l.non HNB.out HCL.out
    have HG' := Lib.hid hG'
    unfold adr at hrun
    dsimp only at hrun
    change (Instr.mapUpdate 114 _ _ _).run Try.prog W3.drew = _ at hrun
    clear hG'
    go_region_with (fail)
    all_goals (
      try simp only [Act.put, List.getElem_toArray, List.getElem_cons_zero, List.getElem_cons_succ, List.setIfInBounds_toArray, List.set_cons_zero, List.set_cons_succ]
      clear c0 c1 c2 c3 c4 cf cl k0 k1 k2 k3 k4 k5 k6 k7 kl i0 i1 il hrun
      obtain ⟨⟨c0, c1, c2, c3, c4⟩, cf, cl⟩ := HG'.out.cells
      have HBX := Lib.hid (box_gm HG'.out)
      unfold boxCells at HBX
      have hfld := fun W => host_of x W
      go_wp2_with fail
      refine HBX.out.mono ?_
      rintro e W5 ⟨rfl, hg5⟩
      have ht5 : Pp.LeAt W5 q ⟨2, l.ins, sp, ss, l.non, resV sc 8 3, E, 0⟩ := hg5.held (p := (q, .cells (Pp.leA ⟨2, l.ins, sp, ss, l.non, resV sc 8 3, E, 0⟩) 64 (0, 0))) (by simp)
      have ql := ht5.lt
      obtain ⟨y0, y1, y2, y3, y4, y5, y6, y7⟩ := ht5.cells
      have yf : ∀ k, W5.frozen? ⟨q, k, none⟩ = false := fun k => (cells_of ht5 k).2
      have hg6 := ((hg5.store (j := 7) (v := .int .u32 x.host) HOS3.out HQ0.out).sub (os' := os) (fun p hp => by simp [hp]))
      have HG6 := Lib.hid hg6
      dsimp only at y0 y1 y2 y3 y4 y5 y6 y7
      clear hg5 ht5 hg6 HBX c0 c1 c2 c3 c4 cf cl
      have hans := ptell_ans ⟨2, l.ins, sp, ss, l.non, resV sc 8 3, E, x.host⟩ (W5.setCell ⟨q, 7, none⟩ (.int .u32 x.host)) (by
        have h1 := HIL.out; have h2 := HE.out; have h3 := HLB.out; have h4 := h1.non; have h5 := h1.hst
        have hb0 := HSB0.out
        have hxh := HXH.out
        have hr4 : resV sc 8 3 = 0 ∨ resV sc 8 3 = 3 ∨ resV sc 8 3 = 8 := by
          unfold resV
          rcases hb0.2.2 with e | e | e <;> rw [e] <;> simp
        constructor <;> (simp only [Pp.W64]; omega))
      have HANS := Lib.hid hans
      unfold Pp.leV Pp.leA at HANS
      dsimp only at HANS
      clear hans
      go_wp2_with fail
      refine HANS.out.mono ?_
      rintro e W11 ⟨u, rfl, hrow, hb7⟩
      have HROW := Lib.hid hrow
      have HG7 := Lib.hid (HG6.out.below hb7)
      clear hrow hb7
      go_wp2
      go_ret
      exact ⟨u, rfl, HROW.out, HG7.out⟩)
end
end Go.Proofs.Ytemlnkcokeckmaa
namespace Go.Proofs.Ytemlnkcokeckmaa
open Go.RowKit
set_option linter.unusedVariables false

/-- a binding in the document's row, and its row of seen ones as a value -/
structure Rb where
  b : Bn
  sv : Value
def rbCells (d : Rb) : List Value := [.int .u32 d.b.inn.1, .int .i64 d.b.inn.2, .int .u32 d.b.to.1, .int .i64 d.b.to.2, .int .i64 d.b.port, .int .i64 d.b.until_, .bool d.b.asked, d.sv]
def cellsR (L : List Rb) : List Value := L.flatMap rbCells
theorem cellsR_cons (d : Rb) (L : List Rb) : cellsR (d :: L) = rbCells d ++ cellsR L := rfl
theorem cellsR_append (L M : List Rb) : cellsR (L ++ M) = cellsR L ++ cellsR M := by simp [cellsR]
theorem cellsR_len : ∀ L : List Rb, (cellsR L).length = L.length * 8
  | [] => rfl
  | d :: L => by rw [cellsR_cons, List.length_append, cellsR_len L]; simp [rbCells]; omega
theorem cellsR_drop (L : List Rb) (k j : Nat) : (cellsR (L.drop k))[j]? = (cellsR L)[k * 8 + j]? := by
  induction k generalizing L with
  | zero => simp
  | succ k ih =>
    cases L with
    | nil => simp [cellsR]
    | cons d L =>
      rw [List.drop_succ_cons, ih, cellsR_cons, List.getElem?_append_right (by simp [rbCells]; omega)]
      congr 1
      simp [rbCells]; omega
theorem cellsR_at {L : List Rb} {k : Nat} {d : Rb} (h : L[k]? = some d) (i : Nat) (hi : i < 8) : (cellsR L)[k * 8 + i]? = (rbCells d)[i]? := by
  have hk := (List.getElem?_eq_some_iff.1 h).1
  have h1 : L.drop k = d :: L.drop (k + 1) := by
    rw [List.drop_eq_getElem_cons hk]
    rw [List.getElem?_eq_getElem hk] at h
    rw [Option.some.inj h]
  rw [← cellsR_drop, h1, cellsR_cons, List.getElem?_append_left (by simpa [rbCells] using hi)]
/-- sv is a slice that reads as the addresses l -/
def SeenAt (w : World) (sv : Value) (l : List A2) : Prop := ∃ A c, sv = .slice A l.length c ∧ l.length ≤ c ∧ c ≤ maxLen ∧ (A = none → l.length = 0 ∧ c = 0) ∧ ∀ ad, A = some ad → ∃ b off C, ad = ⟨b, off, none⟩ ∧ w.heap[b]? = some (.cells C 38 (0, 0)) ∧ ∀ j y, (cellsA l)[j]? = some y → C[off + j]? = some y
def blockOf : Value → Option Nat
  | .slice (some ad) _ _ => some ad.block
  | _ => none
theorem SeenAt.nil (w : World) : SeenAt w (.slice none 0 0) [] := ⟨none, 0, rfl, Nat.le_refl _, Nat.zero_le _, fun _ => ⟨rfl, rfl⟩, fun ad h => by cases h⟩
theorem SeenAt.kept {w w' : World} {sv : Value} {l : List A2} (h : SeenAt w sv l) (hk : ∀ k, blockOf sv = some k → w'.heap[k]? = w.heap[k]?) : SeenAt w' sv l := by
  obtain ⟨A, c, rfl, h1, h2, h3, h4⟩ := h
  refine ⟨A, c, rfl, h1, h2, h3, fun ad had => ?_⟩
  obtain ⟨b, off, C, rfl, h5, h6⟩ := h4 ad had
  exact ⟨b, off, C, rfl, (hk b (by rw [had]; rfl)).trans h5, h6⟩
theorem SeenAt.lt {w : World} {sv : Value} {l : List A2} (h : SeenAt w sv l) {k : Nat} (hk : blockOf sv = some k) : k < w.heap.size ∧ ∃ C, w.heap[k]? = some (.cells C 38 (0, 0)) := by
  obtain ⟨A, c, rfl, h1, h2, h3, h4⟩ := h
  cases A with
  | none => cases hk
  | some ad =>
    obtain ⟨b, off, C, rfl, h5, h6⟩ := h4 ad rfl
    cases hk
    exact ⟨(Array.getElem?_eq_some_iff.1 h5).1, C, h5⟩
theorem sv_one {w : World} {sv : Value} {l : List A2} (h : SeenAt w sv l) : sv.oneCell' = true := by
  obtain ⟨A, c, rfl, _⟩ := h
  rfl
/-- the document's box in memory -/
structure Ra (w : World) (rb : Nat) (x : Bx) (now : Int) (v : Value) (L : List Rb) : Prop where
  top : w.heap[rb]? = some (.cells (natCells x v now) 36 (0, 0))
  row : w.ownsRow 0 104 8 v L.length (cellsR L)
  nds : ∀ d ∈ L, SeenAt w d.sv d.b.seen
/-- the blocks of the document's box -/
def RFoot (rb : Nat) (v : Value) (L : List Rb) (k : Nat) : Prop := k = rb ∨ v.ownBlock = some k ∨ ∃ d ∈ L, blockOf d.sv = some k
section
variable {w w' : World} {rb : Nat} {x : Bx} {now : Int} {v : Value} {L : List Rb} {d : Rb}
theorem Ra.kept (h : Ra w rb x now v L) (hk : ∀ k, RFoot rb v L k → w'.heap[k]? = w.heap[k]?) : Ra w' rb x now v L :=
  ⟨(hk rb (.inl rfl)).trans h.top, own_at h.row (fun g hg => hk g (.inr (.inl hg))), fun d hd => (h.nds d hd).kept (fun k hk2 => hk k (.inr (.inr ⟨d, hd, hk2⟩)))⟩
theorem Ra.lt (h : Ra w rb x now v L) : rb < w.heap.size := (Array.getElem?_eq_some_iff.1 h.top).1
theorem Ra.foot_lt (h : Ra w rb x now v L) {k : Nat} (hk : RFoot rb v L k) : k < w.heap.size := by
  rcases hk with rfl | hk | ⟨d, hd, hk⟩
  · exact h.lt
  · obtain ⟨C, hC⟩ := own_obj h.row hk
    exact (Array.getElem?_eq_some_iff.1 hC).1
  · exact ((h.nds d hd).lt hk).1
theorem Ra.below (h : Ra w rb x now v L) (hb : Below w.heap.size w w') : Ra w' rb x now v L := h.kept fun k hk => hb.block k (h.foot_lt hk)
theorem Ra.drewN (h : Ra w rb x now v L) (q : Nat) : Ra (w.drewN q) rb x now v L := h.below (below_drw (Below.refl _ w) q)
theorem Ra.ne_row (h : Ra w rb x now v L) : v.ownBlock ≠ some rb := fun e => by
  obtain ⟨C, hC⟩ := own_obj h.row e
  exact clash h.top hC (by decide)
theorem Ra.ne_seen (h : Ra w rb x now v L) (hd : d ∈ L) : blockOf d.sv ≠ some rb := fun e => by
  obtain ⟨_, C, hC⟩ := (h.nds d hd).lt e
  exact clash h.top hC (by decide)
theorem Ra.row_seen (h : Ra w rb x now v L) (hd : d ∈ L) {g : Nat} (hg : v.ownBlock = some g) : blockOf d.sv ≠ some g := fun e => by
  obtain ⟨C, hC⟩ := own_obj h.row hg
  obtain ⟨_, C', hC'⟩ := (h.nds d hd).lt e
  exact clash hC hC' (by decide)
/-- the box's cells in the walk's words -/
theorem Ra.cells (h : Ra w rb x now v L) : (w.cell? ⟨rb, 0, none⟩ = some (.int .u32 x.host) ∧ w.cell? ⟨rb, 1, none⟩ = some (.int .i64 x.lo) ∧ w.cell? ⟨rb, 2, none⟩ = some (.int .i64 x.hi) ∧ w.cell? ⟨rb, 3, none⟩ = some (.int .i64 x.map) ∧ w.cell? ⟨rb, 4, none⟩ = some (.int .i64 x.filter) ∧ w.cell? ⟨rb, 5, none⟩ = some (.int .i64 x.life) ∧ w.cell? ⟨rb, 6, none⟩ = some (.int .i64 x.most)) ∧ w.cell? ⟨rb, 7, none⟩ = some v ∧ w.cell? ⟨rb, 8, none⟩ = some (.int .i64 now) ∧ ∀ j, w.frozen? ⟨rb, j, none⟩ = false := by
  have h0 := fun j => (cells_of h.top j).1
  exact ⟨⟨h0 0, h0 1, h0 2, h0 3, h0 4, h0 5, h0 6⟩, h0 7, h0 8, fun j => (cells_of h.top j).2⟩
/-- the row's form -/
theorem Ra.form (h : Ra w rb x now v L) : ∃ A c, v = .slice A L.length c ∧ L.length ≤ c ∧ c ≤ maxLen ∧ (A = none → L.length = 0 ∧ c = 0) ∧ ∀ ad, A = some ad → ∃ g, ad = ⟨g, 0, none⟩ := by
  rcases h.row.2 with ⟨h1, h2⟩ | ⟨g, cap, cur, h1, _, h2, h3, h4, h5, h6⟩
  · exact ⟨none, 0, by rw [h1, h2], by omega, Nat.zero_le _, fun _ => ⟨h2, rfl⟩, fun ad h => by cases h⟩
  · exact ⟨some ⟨g, 0, none⟩, cap, h1, h3, h4, (by intro h; cases h), (by intro ad h; cases h; exact ⟨g, rfl⟩)⟩
/-- a binding's cells in the row -/
theorem Ra.at (h : Ra w rb x now v L) {k : Nat} (hk : L[k]? = some d) : ∃ g c, v = .slice (some ⟨g, 0, none⟩) L.length c ∧ L.length ≤ c ∧ c ≤ maxLen ∧ (∀ i, i < 8 → w.cell? ⟨g, k * 8 + i, none⟩ = (rbCells d)[i]?) ∧ (∀ j, w.frozen? ⟨g, j, none⟩ = false) ∧ g < w.heap.size := by
  have hkl := (List.getElem?_eq_some_iff.1 hk).1
  rcases h.row.2 with ⟨h1, h2⟩ | ⟨g, cap, cur, h1, _, h2, h3, h4, h5, h6⟩
  · omega
  · refine ⟨g, cap, h1, h3, h4, fun i hi => ?_, fun j => (cells_of h2 j).2, (Array.getElem?_eq_some_iff.1 h2).1⟩
    have hr := h.row
    rw [h1] at hr
    rw [hr.cellAt (k * 8 + i) (by omega)]
    exact cellsR_at hk i hi
end
theorem info78 : (Try.prog.info? 104).map (fun i => (i.zero, i.size, i.bytes)) = some (some (.agg #[.int .u32 0, .int .i64 0, .int .u32 0, .int .i64 0, .int .i64 0, .int .i64 0, .bool false, .slice none 0 0]), 8, 80) := by kernel_rfl
end Go.Proofs.Ytemlnkcokeckmaa
namespace Go.Proofs.Ytemlnkcokeckmaa
open Go.RowKit
attribute [local go_sem] Oper.semAt_some
set_option linter.unusedVariables false

def liveR (L : List Rb) (t : Int) : List Rb := L.filter fun d => !decide (d.b.until_ ≤ t)
theorem liveR_map (L : List Rb) (t : Int) : (liveR L t).map Rb.b = liveM (L.map Rb.b) t := by
  unfold liveR liveM
  rw [List.filter_map]
  rfl
theorem liveR_take {L : List Rb} {k : Nat} {d : Rb} (t : Int) (h : L[k]? = some d) : liveR (L.take (k + 1)) t = liveR (L.take k) t ++ (if d.b.until_ ≤ t then [] else [d]) := by
  unfold liveR
  rw [List.take_add_one, h, List.filter_append]
  congr 1
  by_cases hd : d.b.until_ ≤ t <;> simp [hd]
/-- one more binding is put behind a row of the document's own -/
theorem wpList_append_rb {w : World} {ops : Array Oper} {rest : List Oper} {o : Oper} {a : Act} {Q : Exit → Act → World → Prop} (hgd : o.guard = none) (s x : Operand)
    (ho : o.op = .call { callee := .builtin .append, args := #[s, x], argTypes := #[34, 34] }) (base : Nat) (v : Value) (n : Nat) (L : List Rb) (hs : a.eval s = v) (hown : w.ownsRow base 104 8 v n (cellsR L))
    (b : Nat) (d : Rb) (hx : a.eval x = .slice (some ⟨b, 0, none⟩) 1 1) (hc : w.heap[b]? = some (.cells (rbCells d).toArray 104 (0, 0))) (hsv : d.sv.oneCell' = true) (hn : n ≤ 1000) (hbase : base ≤ w.heap.size)
    (h : ∀ v' w', w'.ownsRow base 104 8 v' (n + 1) (cellsR (L ++ [d])) → w.grownBy w' v.ownBlock → wpList Try.prog ops Q rest (a.put o.dst v') w') : wpList Try.prog ops Q (o :: rest) a w := by
  obtain ⟨i0, hi0, hz0, hz1, hz2⟩ := info_parts info78
  refine wpList_append_own w hgd s x 34 ho base 104 i0 _ 8 80 Try.underlying34 hi0 hz0 hz1 hz2 rfl (by decide) v n (cellsR L) hs hown ⟨b, 0, none⟩ 1 1 (rbCells d) hx rfl (fun j u hj => ?_) (fun u hu => ?_) (by unfold maxLen; omega) (by omega) hbase ?_
  · have e : (⟨b, 0, none⟩ : Addr).add j = ⟨b, j, none⟩ := by unfold Addr.add; split <;> simp_all
    rw [e, (cells_of hc j).1]
    simpa using hj
  · simp only [rbCells, List.mem_cons, List.not_mem_nil, or_false] at hu
    rcases hu with rfl | rfl | rfl | rfl | rfl | rfl | rfl | rfl <;> first | rfl | exact hsv
  · intro v' w' h1 h2 _
    have e : cellsR L ++ rbCells d = cellsR (L ++ [d]) := by rw [cellsR_append]; simp [cellsR]
    rw [e] at h1
    exact h v' w' h1 h2
theorem set_top {w : World} {rb : Nat} {C : Array Value} {t : TypeId} (h : w.heap[rb]? = some (.cells C t (0, 0))) (k : Nat) (u : Value) : (w.setCell ⟨rb, k, none⟩ u).heap[rb]? = some (.cells (C.setIfInBounds k u) t (0, 0)) := by
  simp [World.setCell, Array.getElem?_modify, h]
theorem set_else {w : World} {rb j k : Nat} {u : Value} (h : j ≠ rb) : (w.setCell ⟨rb, k, none⟩ u).heap[j]? = w.heap[j]? := heap_setCell_other w ⟨rb, k, none⟩ j u h
/-- the box with another time -/
theorem Ra.setNow {w : World} {rb : Nat} {x : Bx} {now : Int} {v : Value} {L : List Rb} (h : Ra w rb x now v L) (t : Int) : Ra (w.setCell ⟨rb, 8, none⟩ (.int .i64 t)) rb x t v L :=
  ⟨by rw [set_top h.top]; simp [natCells], own_at h.row (fun g hg => set_else (fun e => h.ne_row (by rw [hg, e]))), fun d hd => (h.nds d hd).kept (fun k hk => set_else (fun e => h.ne_seen hd (by rw [hk, e])))⟩
/-- the box with another row -/
theorem Ra.setRow {w : World} {rb : Nat} {x : Bx} {now : Int} {v v' : Value} {L L' : List Rb} (h : Ra w rb x now v L) (hr : w.ownsRow 0 104 8 v' L'.length (cellsR L')) (hn : ∀ d ∈ L', SeenAt w d.sv d.b.seen) : Ra (w.setCell ⟨rb, 7, none⟩ v') rb x now v' L' := by
  refine ⟨by rw [set_top h.top]; simp [natCells], own_at hr (fun g hg => set_else (fun e => ?_)), fun d hd => (hn d hd).kept (fun k hk => set_else (fun e => ?_))⟩
  · obtain ⟨C, hC⟩ := own_obj hr hg
    rw [e] at hC
    exact clash h.top hC (by decide)
  · obtain ⟨_, C, hC⟩ := (hn d hd).lt hk
    rw [e] at hC
    exact clash h.top hC (by decide)

/-- the time may not go on -/
theorem on_no {w : World} {rb : Nat} {x : Bx} {now : Int} {v : Value} {L : List Rb} (h : Ra w rb x now v L) (t : Int) (hg : goes now t = false) :
    Calls Try.prog 47 #[.pointer (some ⟨rb, 0, none⟩), .int .i64 t] w fun e w' => e = .returned (.bool false) ∧ w = w' := by
  obtain ⟨-, -, c8, -⟩ := h.cells
  have hl := h.lt
  unfold goes at hg
  by_cases h1 : t < now
  · go_enter Try.func47, Try.ntmps47
    go_wp2
    go_ret
    exact ⟨rfl, rfl⟩
  · have h2 : 1099511627776 < t := by
      simp only [Bool.and_eq_false_iff, decide_eq_false_iff_not] at hg
      omega
    clear hg
    go_enter Try.func47, Try.ntmps47
    go_wp2
    go_ret
    exact ⟨rfl, rfl⟩

set_option maxRecDepth 100000 in
set_option maxHeartbeats 4000000 in
/-- the time goes on -/
theorem on_yes {w : World} {rb : Nat} {x : Bx} {now : Int} {v : Value} {L : List Rb} (h : Ra w rb x now v L) (t : Int) (hg : goes now t = true) (hL : L.length ≤ 100) :
    Calls Try.prog 47 #[.pointer (some ⟨rb, 0, none⟩), .int .i64 t] w fun e w' => e = .returned (.bool true) ∧ ∃ v', Ra w' rb x t v' (liveR L t) ∧ (∀ g, v'.ownBlock = some g → w.heap.size ≤ g) ∧ Keeps (fun k => k = rb) w w' := by
  obtain ⟨-, c7, c8, fz⟩ := h.cells
  have hl := h.lt
  have f8 := fz 8
  have H1 := Lib.hid (h.setNow t)
  obtain ⟨A, c, rfl, hlc, hcm, hnil, had⟩ := h.form
  unfold maxLen at hcm
  have hs : (w.setCell ⟨rb, 8, none⟩ (.int .i64 t)).heap.size = w.heap.size := by simp
  have h1 : ¬ t < now := by
    unfold goes at hg
    simp only [Bool.and_eq_true, decide_eq_true_eq] at hg
    omega
  have h2 : ¬ 1099511627776 < t := by
    unfold goes at hg
    simp only [Bool.and_eq_true, decide_eq_true_eq] at hg
    omega
  obtain ⟨n, hn⟩ : ∃ n, L.length = n := ⟨_, rfl⟩
  have HN := Lib.hid hn
  have HS := Lib.hid hs
  rw [hn] at hlc hL c7 H1 hnil
  clear h hg hn hs
  go_enter Try.func47, Try.ntmps47
  go_wp2
  go_loopw [6, 5] (fun i u wr => ∃ k : Nat, k ≤ n ∧ i = .int .i64 (k : Int) ∧ wr.ownsRow w.heap.size 104 8 u (liveR (L.take k) t).length (cellsR (liveR (L.take k) t)) ∧ Below w.heap.size (w.setCell ⟨rb, 8, none⟩ (.int .i64 t)) wr)
    (fun i _ _ => n - (intOf i).toNat)
  case atStart => exact ⟨0, by omega, rfl, World.ownsRow_nil _ _ _ _, Below.refl _ _⟩
  case round =>
    obtain ⟨k, hk, rfl, hown, hbel⟩ := hrel
    have HB := Lib.hid hbel
    have HO := Lib.hid hown
    have hR : Ra wr rb x t (.slice A n c) L := by
      have := H1.out.below (w' := wr) (by rw [HS.out]; exact hbel)
      exact this
    obtain ⟨-, d7, d8, gz⟩ := hR.cells
    have hlr := hR.lt
    have g7 := gz 7
    have hle : (liveR (L.take k) t).length ≤ k := by
      have h3 := List.length_filter_le (fun d : Rb => !decide (d.b.until_ ≤ t)) (L.take k)
      unfold liveR
      simp at h3 ⊢
      omega
    clear hbel hown c7 c8 f8
    by_cases hkn : k < n
    · obtain ⟨d, hd⟩ : ∃ d, L[k]? = some d := ⟨_, List.getElem?_eq_getElem (by have := HN.out; omega)⟩
      obtain ⟨g, c', e1, _, _, hat, hfz, hgl⟩ := hR.at hd
      cases e1
      have HT := Lib.hid (liveR_take t hd)
      have hcu : wr.cell? ⟨g, k * 8 + 5, none⟩ = some (.int .i64 d.b.until_) := hat 5 (by omega)
      have HAT := Lib.hid hat
      have hsv := hR.nds d (List.mem_of_getElem? hd)
      clear hat hfz gz fz
      have HSV := Lib.hid (sv_one hsv)
      by_cases hu : d.b.until_ ≤ t
      · have t1 : decide (t < d.b.until_) = false := by simp; omega
        rw [if_pos hu, List.append_nil] at HT
        go_wp2
        go_roundw
        case rel => exact ⟨k + 1, by omega, by go_num, by rw [HT.out]; exact HO.out, HB.out⟩
        case measure => simp [intOf]; omega
      · have t1 : decide (t < d.b.until_) = true := by simp; omega
        rw [if_neg hu] at HT
        have a0 : wr.cell? ⟨g, k * 8, none⟩ = some (.int .u32 d.b.inn.1) := HAT.out 0 (by omega)
        have a1 : wr.cell? ⟨g, k * 8 + 1, none⟩ = some (.int .i64 d.b.inn.2) := HAT.out 1 (by omega)
        have a2 : wr.cell? ⟨g, k * 8 + 2, none⟩ = some (.int .u32 d.b.to.1) := HAT.out 2 (by omega)
        have a3 : wr.cell? ⟨g, k * 8 + 3, none⟩ = some (.int .i64 d.b.to.2) := HAT.out 3 (by omega)
        have a4 : wr.cell? ⟨g, k * 8 + 4, none⟩ = some (.int .i64 d.b.port) := HAT.out 4 (by omega)
        have a6 : wr.cell? ⟨g, k * 8 + 6, none⟩ = some (.bool d.b.asked) := HAT.out 6 (by omega)
        have a7 : wr.cell? ⟨g, k * 8 + 7, none⟩ = some d.sv := HAT.out 7 (by omega)
        obtain ⟨Av, cv, esv, _⟩ := hsv
        rw [esv] at a7
        have HC : Hid ((wr.alloc (.cells #[.int .u32 d.b.inn.1, .int .i64 d.b.inn.2, .int .u32 d.b.to.1, .int .i64 d.b.to.2, .int .i64 d.b.port, .int .i64 d.b.until_, .bool d.b.asked, .slice Av d.b.seen.length cv] 104)).heap[wr.heap.size]? = some (.cells (rbCells d).toArray 104 (0, 0))) := Lib.hid (by
          unfold rbCells
          rw [esv]
          exact World.alloc_heap_new wr _)
        clear esv hd
        have HAL := Lib.hid (HO.out.alloc (.cells #[.int .u32 d.b.inn.1, .int .i64 d.b.inn.2, .int .u32 d.b.to.1, .int .i64 d.b.to.2, .int .i64 d.b.port, .int .i64 d.b.until_, .bool d.b.asked, .slice Av d.b.seen.length cv] 104))
        have hsz := HB.out.size
        rw [HS.out] at hsz
        have HBS : Hid (w.heap.size ≤ (wr.alloc (.cells #[.int .u32 d.b.inn.1, .int .i64 d.b.inn.2, .int .u32 d.b.to.1, .int .i64 d.b.to.2, .int .i64 d.b.port, .int .i64 d.b.until_, .bool d.b.asked, .slice Av d.b.seen.length cv] 104)).heap.size) := Lib.hid (by simp; omega)
        have HLE : Hid ((liveR (L.take k) t).length ≤ 1000) := Lib.hid (by omega)
        have HBA : Hid (Below w.heap.size wr (wr.alloc (.cells #[.int .u32 d.b.inn.1, .int .i64 d.b.inn.2, .int .u32 d.b.to.1, .int .i64 d.b.to.2, .int .i64 d.b.port, .int .i64 d.b.until_, .bool d.b.asked, .slice Av d.b.seen.length cv] 104))) := Lib.hid ((Below.refl _ wr).alloc hsz _)
        clear hsz
        go_wp2_with (at_builtin; refine wpList_append_rb rfl (.tmp 41) (.tmp 49) rfl w.heap.size _ _ (liveR (L.take k) t) rfl HAL.out wr.heap.size d rfl HC.out HSV.out HLE.out HBS.out ?_; intro v5 w5 ho5 hg5; have HO5 := Lib.hid ho5; have HG5 : Hid (Below w.heap.size wr w5) := Lib.hid (HBA.out.trans ((Below.refl _ _).grown hg5 HBS.out (fun g' h' => (HAL.out.lt g' h').1))); clear ho5 hg5)
        go_roundw
        case rel => exact ⟨k + 1, by omega, by go_num, by rw [HT.out, List.length_append]; exact HO5.out, HB.out.trans HG5.out⟩
        case measure => simp [intOf]; omega
    · have e : L.take k = L := List.take_of_length_le (by have := HN.out; omega)
      rw [e] at HO
      have HR := Lib.hid hR
      obtain ⟨Au, cu, rfl⟩ := own_slice2 HO.out
      clear e hR
      go_wp2
      go_ret
      refine ⟨rfl, _, HR.out.setRow (Go.Joins.ownsRow_le HO.out (Nat.zero_le _)) (fun d hd => HR.out.nds d (List.mem_filter.1 hd).1), fun g hg => (HO.out.lt g hg).1, ?_⟩
      refine Keeps.set (S := fun k => k = rb) ?_ rb 7 _ rfl
      exact (Keeps.set (S := fun k => k = rb) (Keeps.refl _ _) rb 8 _ rfl).trans (.all (by rw [HS.out]; exact HB.out))
end Go.Proofs.Ytemlnkcokeckmaa
namespace Go.Proofs.Ytemlnkcokeckmaa
open Go.RowKit
attribute [local go_sem] Oper.semAt_some
set_option linter.unusedVariables false
set_option linter.unusedSimpArgs false

theorem ret_bb {a b : Bool} (h : a = b) : Ending.returned (.bool a) = .returned (.bool b) := by rw [h]
/-- no binding has the port, and it is the box's -/
def freeR (x : Bx) (M : List Bn) (p : Int) : Bool := !(M.any fun b => b.port == p) && (decide (x.lo ≤ p) && decide (p ≤ x.hi))

set_option maxRecDepth 100000 in
set_option maxHeartbeats 2000000 in
theorem free_any {w : World} {rb : Nat} {x : Bx} {now : Int} {v : Value} {L : List Rb} (h : Ra w rb x now v L) (p : Int) :
    Calls Try.prog 83 #[.pointer (some ⟨rb, 0, none⟩), .int .i64 p] w fun e w' => e = .returned (.bool (freeR x (L.map Rb.b) p)) ∧ w = w' := by
  obtain ⟨⟨-, c1, c2, -, -, -, -⟩, c7, -, -⟩ := h.cells
  have hl := h.lt
  obtain ⟨A, c, rfl, hlc, hcm, hnil, -⟩ := h.form
  have HR := Lib.hid h
  unfold maxLen at hcm
  obtain ⟨n, hn⟩ : ∃ n, L.length = n := ⟨_, rfl⟩
  have HN := Lib.hid hn
  rw [hn] at hlc c7 HR hnil
  clear h hn
  go_enter Try.func83, Try.ntmps83
  go_wp2
  go_loopw [5] (fun i wr => ∃ k : Nat, k ≤ n ∧ i = .int .i64 (k : Int) ∧ wr = w ∧ ∀ j e, j < k → L[j]? = some e → (e.b.port == p) = false) (fun i _ => n - (intOf i).toNat)
  case atStart => exact ⟨0, by omega, rfl, rfl, fun j e h => by omega⟩
  case round =>
    obtain ⟨k, hk, rfl, rfl, hno⟩ := hrel
    have HNO := Lib.hid hno
    clear hno
    by_cases hkn : k < n
    · obtain ⟨d, hd⟩ : ∃ d, L[k]? = some d := ⟨_, List.getElem?_eq_getElem (by have := HN.out; omega)⟩
      obtain ⟨g, c', e1, _, _, hat, hfz, hgl⟩ := HR.out.at hd
      cases e1
      have a4 : wr.cell? ⟨g, k * 8 + 4, none⟩ = some (.int .i64 d.b.port) := hat 4 (by omega)
      have HD := Lib.hid hd
      clear hat hfz hd
      by_cases hp : d.b.port = p
      · have t1 : (d.b.port == p) = true := by simpa using hp
        have HF : Hid (freeR x (L.map Rb.b) p = false) := Lib.hid (by
          unfold freeR
          rw [Bool.and_eq_false_iff]
          left
          rw [Bool.not_eq_false', List.any_eq_true]
          exact ⟨d.b, List.mem_map.2 ⟨d, List.mem_of_getElem? HD.out, rfl⟩, t1⟩)
        clear hp
        go_wp2
        go_ret
        exact ⟨ret_bb HF.out.symm, rfl⟩
      · have t1 : (d.b.port == p) = false := by simpa using hp
        have t2 : decide (d.b.port = p) = false := decide_eq_false hp
        have HT := Lib.hid t1
        clear hp
        go_wp2
        go_roundw
        case rel =>
          refine ⟨k + 1, by omega, by go_num, trivial, fun j e hj he => ?_⟩
          rcases Nat.lt_or_ge j k with h' | h'
          · exact HNO.out j e h' he
          · obtain rfl : j = k := by omega
            rw [HD.out] at he
            cases he
            exact HT.out
        case measure => simp [intOf]; omega
    · have HF : Hid (freeR x (L.map Rb.b) p = (decide (x.lo ≤ p) && decide (p ≤ x.hi))) := Lib.hid (by
        unfold freeR
        have : (L.map Rb.b).any (fun b => b.port == p) = false := by
          rw [List.any_eq_false]
          intro b hb
          obtain ⟨d, hd, rfl⟩ := List.mem_map.1 hb
          obtain ⟨j, hj, e⟩ := List.getElem_of_mem hd
          have := HNO.out j d (by have := HN.out; omega) (by rw [List.getElem?_eq_getElem hj, e])
          simp [this]
        rw [this]; rfl)
      by_cases h1 : x.lo ≤ p
      · by_cases h2 : p ≤ x.hi
        · have HG := Lib.hid (show freeR x (L.map Rb.b) p = true by rw [HF.out, decide_eq_true h1, decide_eq_true h2]; rfl)
          go_wp2
          go_ret
          exact ⟨ret_bb HG.out.symm, rfl⟩
        · have HG := Lib.hid (show freeR x (L.map Rb.b) p = false by rw [HF.out, decide_eq_true h1, decide_eq_false h2]; rfl)
          go_wp2
          go_ret
          exact ⟨ret_bb HG.out.symm, rfl⟩
      · have HG := Lib.hid (show freeR x (L.map Rb.b) p = false by rw [HF.out, decide_eq_false h1]; rfl)
        go_wp2
        go_ret
        exact ⟨ret_bb HG.out.symm, rfl⟩

theorem may33 (a : A2) (w : World) (ha : isA a) : Calls Try.prog 46 #[adr a] w fun e w' => e = .returned (.bool (mayA a)) ∧ Below w.heap.size w w' := by
  obtain ⟨a1, a2⟩ := a
  obtain ⟨⟨h0, _⟩, _⟩ := ha
  dsimp only at h0
  have HB : Hid (∀ C : Obj, Below w.heap.size w (w.alloc C)) := Lib.hid (fun C => (Below.refl _ w).alloc (Nat.le_refl _) _)
  unfold adr
  dsimp only
  by_cases h1 : 0 < a1
  · by_cases h2 : 0 < a2
    · by_cases h3 : a2 < 65536
      · have e : mayA (a1, a2) = true := mayA_t (by simp only; omega) (by simp only; omega) (by simp only; omega)
        rw [e]
        clear e h0
        go_enter Try.func46, Try.ntmps46
        go_wp2
        go_ret
        exact ⟨rfl, HB.out _⟩
      · have e : mayA (a1, a2) = false := mayA_f (by simp only; omega)
        rw [e]
        clear e h0
        go_enter Try.func46, Try.ntmps46
        go_wp2
        go_ret
        exact ⟨rfl, HB.out _⟩
    · have e : mayA (a1, a2) = false := mayA_f (by simp only; omega)
      rw [e]
      clear e h0
      go_enter Try.func46, Try.ntmps46
      go_wp2
      go_ret
      exact ⟨rfl, HB.out _⟩
  · have e : mayA (a1, a2) = false := mayA_f (by simp only; omega)
    rw [e]
    clear e h0
    go_enter Try.func46, Try.ntmps46
    go_wp2
    go_ret
    exact ⟨rfl, HB.out _⟩

theorem key_any {w : World} {rb : Nat} {x : Bx} {now : Int} {v : Value} {L : List Rb} (h : Ra w rb x now v L) (a : A2) :
    Calls Try.prog 49 #[.pointer (some ⟨rb, 0, none⟩), adr a] w fun e w' => e = .returned (adr (partA a x.map)) ∧ Below w.heap.size w w' := by
  obtain ⟨⟨-, -, -, c3, -, -, -⟩, -, -, -⟩ := h.cells
  have hl := h.lt
  have HB : Hid (∀ C C' : Obj, Below w.heap.size w ((w.alloc C).alloc C')) := Lib.hid (fun C C' => ((Below.refl _ w).alloc (Nat.le_refl _) _).alloc (by simp) _)
  obtain ⟨a1, a2⟩ := a
  unfold adr partA
  dsimp only
  generalize x.map = m at *
  clear h
  by_cases h0 : m = 0
  · subst h0
    rw [if_pos rfl]
    go_enter Try.func49, Try.ntmps49
    go_wp2
    exact ⟨rfl, .agg #[.int .u32 0, .int .i64 0], by simp [results, Try.results49, go_sem], rfl, HB.out _ _⟩
  · rw [if_neg h0]
    by_cases h1 : m = 1
    · subst h1
      rw [if_pos rfl]
      go_enter Try.func49, Try.ntmps49
      go_wp2
      exact ⟨rfl, .agg #[.int .u32 a1, .int .i64 0], by simp [results, Try.results49, go_sem], rfl, HB.out _ _⟩
    · rw [if_neg h1]
      have t0 : (m == 0) = false := by simpa using h0
      have t1 : (m == 1) = false := by simpa using h1
      go_enter Try.func49, Try.ntmps49
      go_wp2
      exact ⟨rfl, .agg #[.int .u32 a1, .int .i64 a2], by simp [results, Try.results49, go_sem], rfl, HB.out _ _⟩

theorem eq_adr (p q : A2) (W : World) : (binOp .eql 38 (.agg #[.int .u32 p.1, .int .i64 p.2]) (.agg #[.int .u32 q.1, .int .i64 q.2])).run Try.prog W = .ok (.bool (decide (p = q))) W := by
  have hm := noGuard38
  obtain ⟨p1, p2⟩ := p
  obtain ⟨q1, q2⟩ := q
  dsimp only
  by_cases h1 : p1 = q1
  · subst h1
    by_cases h2 : p2 = q2
    · subst h2
      have e : decide (((p1, p2) : A2) = (p1, p2)) = true := by simp
      rw [e]
      go_simp
    · have e : decide (((p1, p2) : A2) = (p1, q2)) = false := by simp [h2]
      rw [e]
      go_simp
  · have e : decide (((p1, p2) : A2) = (q1, q2)) = false := by simp [h1]
    rw [e]
    go_simp
/-- the binding of one that was asked for, or else towards another one -/
def findP (a : A2) (s : Bool) (t : A2) (b : Bn) : Bool := decide (b.inn = a) && ((b.asked == s) && (s || decide (b.to = t)))
/-- where it stands -/
def FindsR (L : List Rb) (p : Bn → Bool) (r : Int) : Prop := (∃ (k : Nat) (d : Rb), L[k]? = some d ∧ p d.b = true ∧ (∀ (j : Nat) (e : Rb), j < k → L[j]? = some e → p e.b = false) ∧ r = (k : Int)) ∨ ((∀ d ∈ L, p d.b = false) ∧ r = -1)

set_option maxRecDepth 100000 in
set_option maxHeartbeats 4000000 in
theorem find_any {w : World} {rb : Nat} {x : Bx} {now : Int} {v : Value} {L : List Rb} (h : Ra w rb x now v L) (a : A2) (s : Bool) (t : A2) :
    Calls Try.prog 48 #[.pointer (some ⟨rb, 0, none⟩), adr a, .bool s, adr t] w fun e w' => (∃ r, e = .returned (.int .i64 r) ∧ FindsR L (findP a s t) r) ∧ Below w.heap.size w w' := by
  obtain ⟨A, c, rfl, hlc, hcm, hnil, -⟩ := h.form
  unfold maxLen at hcm
  have HB : Hid (∀ C C' : Obj, Below w.heap.size w ((w.alloc C).alloc C')) := Lib.hid (fun C C' => ((Below.refl _ w).alloc (Nat.le_refl _) _).alloc (by simp) _)
  have HR := Lib.hid h
  have hl := h.lt
  obtain ⟨W1, hW1⟩ : ∃ W1, (w.alloc (.cells #[.int .u32 a.1, .int .i64 a.2] 38)).alloc (.cells #[.int .u32 t.1, .int .i64 t.2] 38) = W1 := ⟨_, rfl⟩
  have HR1 : Hid (Ra W1 rb x now (.slice A L.length c) L) := Lib.hid (by rw [← hW1]; exact h.below (HB.out _ _))
  have HBW : Hid (Below w.heap.size w W1) := Lib.hid (by rw [← hW1]; exact HB.out _ _)
  have n1 : W1.heap[w.heap.size]? = some (.cells #[.int .u32 a.1, .int .i64 a.2] 38 (0, 0)) := by
    rw [← hW1]
    have b3 : Below (w.heap.size + 1) (w.alloc (.cells #[.int .u32 a.1, .int .i64 a.2] 38)) ((w.alloc (.cells #[.int .u32 a.1, .int .i64 a.2] 38)).alloc (.cells #[.int .u32 t.1, .int .i64 t.2] 38)) := (Below.refl _ _).alloc (by simp) _
    exact (b3.block _ (by omega)).trans (World.alloc_heap_new w _)
  have n2 : W1.heap[w.heap.size + 1]? = some (.cells #[.int .u32 t.1, .int .i64 t.2] 38 (0, 0)) := by
    rw [← hW1]
    have := World.alloc_heap_new (w.alloc (.cells #[.int .u32 a.1, .int .i64 a.2] 38)) (.cells #[.int .u32 t.1, .int .i64 t.2] 38)
    rwa [World.size_alloc] at this
  have p0 : W1.cell? ⟨w.heap.size, 0, none⟩ = some (.int .u32 a.1) := (cells_of n1 0).1
  have p1 : W1.cell? ⟨w.heap.size, 1, none⟩ = some (.int .i64 a.2) := (cells_of n1 1).1
  have p2 : W1.cell? ⟨w.heap.size + 1, 0, none⟩ = some (.int .u32 t.1) := (cells_of n2 0).1
  have p3 : W1.cell? ⟨w.heap.size + 1, 1, none⟩ = some (.int .i64 t.2) := (cells_of n2 1).1
  obtain ⟨-, c7, -, -⟩ := HR1.out.cells
  have hl1 := HR1.out.lt
  have l1 : w.heap.size < W1.heap.size := (Array.getElem?_eq_some_iff.1 n1).1
  have l2 : w.heap.size + 1 < W1.heap.size := (Array.getElem?_eq_some_iff.1 n2).1
  obtain ⟨n, hn⟩ : ∃ n, L.length = n := ⟨_, rfl⟩
  have HN := Lib.hid hn
  rw [hn] at hlc c7 HR HR1 hnil
  clear h hn n1 n2
  unfold adr
  go_enter Try.func48, Try.ntmps48
  go_wp2
  try rw [hW1]
  clear hW1 HB HR hl
  go_loopw [9] (fun i wr => ∃ k q : Nat, k ≤ n ∧ i = .int .i64 (k : Int) ∧ wr = W1.drewN q ∧ ∀ j e, j < k → L[j]? = some e → findP a s t e.b = false) (fun i _ => n - (intOf i).toNat)
  case atStart => exact ⟨0, 0, by omega, rfl, rfl, fun j e h => by omega⟩
  case round =>
    obtain ⟨k, q, hk, rfl, rfl, hno⟩ := hrel
    have HNO := Lib.hid hno
    clear hno
    by_cases hkn : k < n
    · obtain ⟨d, hd⟩ : ∃ d, L[k]? = some d := ⟨_, List.getElem?_eq_getElem (by have := HN.out; omega)⟩
      obtain ⟨g, c', e1, _, _, hat, hfz, hgl⟩ := HR1.out.at hd
      cases e1
      have a0 : W1.cell? ⟨g, k * 8, none⟩ = some (.int .u32 d.b.inn.1) := hat 0 (by omega)
      have a1 : W1.cell? ⟨g, k * 8 + 1, none⟩ = some (.int .i64 d.b.inn.2) := hat 1 (by omega)
      have a2 : W1.cell? ⟨g, k * 8 + 2, none⟩ = some (.int .u32 d.b.to.1) := hat 2 (by omega)
      have a3 : W1.cell? ⟨g, k * 8 + 3, none⟩ = some (.int .i64 d.b.to.2) := hat 3 (by omega)
      have a6 : W1.cell? ⟨g, k * 8 + 6, none⟩ = some (.bool d.b.asked) := hat 6 (by omega)
      have HD := Lib.hid hd
      have hq1 := fun W => eq_adr d.b.inn a W
      have hq2 := fun W => eq_adr d.b.to t W
      have HP : Hid (findP a s t d.b = (decide (d.b.inn = a) && ((d.b.asked == s) && (s || decide (d.b.to = t))))) := Lib.hid rfl
      have HSTEP : Hid (findP a s t d.b = false → ∀ j e, j < k + 1 → L[j]? = some e → findP a s t e.b = false) := Lib.hid (fun hf j e hj he => by
        rcases Nat.lt_or_ge j k with h' | h'
        · exact HNO.out j e h' he
        · obtain rfl : j = k := by omega
          rw [HD.out] at he
          cases he
          exact hf)
      clear hat hfz hd
      generalize decide (d.b.inn = a) = u1 at *
      generalize decide (d.b.to = t) = u2 at *
      generalize d.b.asked = sd at *
      cases u1 with
      | false =>
        go_wp2_with fail
        go_quiet (fail)
        go_wp2
        go_roundw
        case rel => exact ⟨k + 1, _, by omega, by go_num, rfl, HSTEP.out (by rw [HP.out]; rfl)⟩
        case measure => simp [intOf]; omega
      | true =>
        cases s with
        | true =>
          cases sd with
          | true =>
            go_wp2_with fail
            go_quiet (fail)
            go_wp2
            go_ret
            exact ⟨⟨_, rfl, .inl ⟨k, d, HD.out, by rw [HP.out]; rfl, HNO.out, rfl⟩⟩, below_drw (below_drw HBW.out _) _⟩
          | false =>
            go_wp2_with fail
            go_quiet (fail)
            go_wp2
            go_roundw
            case rel => exact ⟨k + 1, _, by omega, by go_num, rfl, HSTEP.out (by rw [HP.out]; rfl)⟩
            case measure => simp [intOf]; omega
        | false =>
          cases sd with
          | true =>
            go_wp2_with fail
            go_quiet (fail)
            go_wp2
            go_roundw
            case rel => exact ⟨k + 1, _, by omega, by go_num, rfl, HSTEP.out (by rw [HP.out]; rfl)⟩
            case measure => simp [intOf]; omega
          | false =>
            cases u2 with
            | true =>
              go_wp2_with fail
              go_quiet (fail)
              go_wp2
              go_ret
              exact ⟨⟨_, rfl, .inl ⟨k, d, HD.out, by rw [HP.out]; rfl, HNO.out, rfl⟩⟩, below_drw (below_drw HBW.out _) _⟩
            | false =>
              go_wp2_with fail
              go_quiet (fail)
              go_wp2
              go_roundw
              case rel => exact ⟨k + 1, _, by omega, by go_num, rfl, HSTEP.out (by rw [HP.out]; rfl)⟩
              case measure => simp [intOf]; omega
    · have HALL : Hid (∀ d ∈ L, findP a s t d.b = false) := Lib.hid (fun d hd => by
        obtain ⟨j, hj, e⟩ := List.getElem_of_mem hd
        exact HNO.out j d (by have := HN.out; omega) (by rw [List.getElem?_eq_getElem hj, e]))
      go_wp2
      go_ret
      exact ⟨⟨_, rfl, .inr ⟨HALL.out, rfl⟩⟩, below_drw HBW.out _⟩
end Go.Proofs.Ytemlnkcokeckmaa
