/-
  Contracts of gate's byPmp, by what the bytes are: no request, one about the host, one about a port. Conditions: the gateway stands.
  The contract of gate's byPmp, of a request about a port. Conditions: the gateway stands.
  Contracts of gate's pmpAlone, pcpAlone, and of byPcp where the bytes are no request. Conditions: the gateway stands.
  A gateway that hears NAT-PMP's requests, in the words of the laws: what it answers, what it leaves. Conditions: it speaks NAT-PMP; the bytes are held.
  The contract of the laws' awake: answers that the document fixes. Conditions: none.
-/
import Derived.Test.YtemlnkcokeckmaaMh18
import Derived.Test.YtemlnkcokeckmaaMh6
import Derived.Deep.CutRange
import Derived.Test.YtemlnkcokeckmaaMh17
import Derived.Test.YtemlnkcokeckmaaMh12
namespace Go.Proofs.Ytemlnkcokeckmaa
open Go.RowKit Go.Maps
attribute [local go_sem] Oper.semAt_some
set_option linter.unusedVariables false
set_option linter.unusedSimpArgs false

section
variable {w0 V V' : World} {gb nb nm : Nat} {x : Bx} {most since now now' : Int} {av : Value} {f f' : Nf} {c c' : Nat} {M M' : List Bn} {os : List (Nat × Obj)}
theorem epo_gm (h : Gm w0 gb nb nm x most since av f c now M os V) (t : Int) (h0 : 0 ≤ since) (h1 : since ≤ 1099511627776000) (ht0 : 0 ≤ t) (ht1 : t ≤ 1099511627776) :
    Calls Try.prog 58 #[.pointer (some ⟨gb, 0, none⟩), .int .i64 t] V fun e V' => e = .returned (.int .i64 (epoV since t)) ∧ V = V' := epoch_any t h.top h0 h1 (by omega) (by omega)
theorem box_gm (h : Gm w0 gb nb nm x most since av f c now M os V) :
    Calls Try.prog 16 #[.pointer (some ⟨nb, 0, none⟩)] V fun e V' => e = .returned (.agg (boxCells x)) ∧ Gm w0 gb nb nm x most since av f c now M os V' := by
  obtain ⟨o, hp⟩ := h.pl
  obtain ⟨kv, L, h1, _⟩ := hp.bo
  exact (box_any nb x now kv L V h1).mono fun e V' hq => ⟨hq.1, h.below hq.2⟩
/-- a held lease is another one -/
theorem Gm.put8 {b : Nat} {l0 : Pp.Le} {C : Array Value} (h : Gm w0 gb nb nm x most since av f c now M ((b, Obj.cells C 64 (0, 0)) :: os) V) (l : Pp.Le) (ho : ∀ p ∈ os, p.1 ≠ b) (hb : w0.heap.size ≤ b) (hC : C = Pp.leA l0 := by rfl) :
    Gm w0 gb nb nm x most since av f c now M ((b, Obj.cells (Pp.leA l) 64 (0, 0)) :: os) (Pp.put8 V b l) := by
  subst hC
  have h8 := (((((((h.store (j := 0) (v := .int .i64 l.ver) ho hb).store (j := 1) (v := .int .i64 l.ins) ho hb).store (j := 2) (v := .int .i64 l.prt) ho hb).store (j := 3) (v := .int .i64 l.secs) ho hb).store (j := 4) (v := .int .u64 l.non) ho hb).store (j := 5) (v := .int .i64 l.res) ho hb).store (j := 6) (v := .int .i64 l.epo) ho hb).store (j := 7) (v := .int .u32 l.hst) ho hb
  simp only [Pp.leA, List.setIfInBounds_toArray, List.set_cons_zero, List.set_cons_succ] at h8
  unfold Pp.put8 Pp.leA
  exact h8
theorem host_of (x : Bx) (W : World) : (Instr.field 24 (.agg #[.int .u32 x.host, .int .i64 x.lo, .int .i64 x.hi, .int .i64 x.map, .int .i64 x.filter, .int .i64 x.life, .int .i64 x.most]) 0).run Try.prog W = .ok (.int .u32 x.host) W := by kernel_rfl
theorem epoV_bd {since t : Int} : 0 ≤ epoV since t ∧ epoV since t ≤ 4294967295 := by
  unfold epoV
  split
  · omega
  · omega
set_option maxRecDepth 100000 in
set_option maxHeartbeats 8000000 in
/-- no request -/
theorem byPmp_not (h : Gm w0 gb nb nm x most since av f c now M os V) (t : Int) (a : A2) {v : Value} {zs : List Int} (hr : Pp.Row V v zs) (hz : ∀ l h, ¬ Pp.AskOf zs l h) :
    Calls Try.prog 90 #[.pointer (some ⟨gb, 0, none⟩), .int .i64 t, adr a, v] V fun e V' => e = .returned (.slice none 0 0) ∧ Gm w0 gb nb nm x most since av f c now M os V' := by
  have hb0 : Below V.heap.size V (V.alloc (.cells #[.int .u32 a.1, .int .i64 a.2] 38)) := (Below.refl _ V).alloc (Nat.le_refl _) _
  have hR := Lib.hid (Pp.read_ask_not (hr.below hb0) hz)
  have HG := Lib.hid (h.below hb0)
  clear h hb0 hr
  unfold Pp.noV Pp.leV Pp.leA Pp.zeroL at hR
  unfold adr
  go_enter Try.func90, Try.ntmps90
  go_wp2_with fail
  refine hR.out.mono ?_
  rintro e V1 ⟨rfl, hb⟩
  have HG1 := Lib.hid ((HG.out.below hb).alloc (.cells #[.int .i64 0, .int .i64 0, .int .i64 0, .int .i64 0, .int .u64 0, .int .i64 0, .int .i64 0, .int .u32 0] 64))
  clear hb
  go_wp2
  go_ret
  exact ⟨rfl, HG1.out⟩
set_option maxRecDepth 100000 in
set_option maxHeartbeats 8000000 in
/-- about the host -/
theorem byPmp_host (h : Gm w0 gb nb nm x most since av f c now M os V) (t : Int) (a : A2) {v : Value} {zs : List Int} (hr : Pp.Row V v zs) (hz : Pp.AskOf zs Pp.zeroL true) (h0 : 0 ≤ since) (h1 : since ≤ 1099511627776000) (ht0 : 0 ≤ t) (ht1 : t ≤ 1099511627776) (hx : 0 ≤ x.host ∧ x.host < 4294967296) :
    Calls Try.prog 90 #[.pointer (some ⟨gb, 0, none⟩), .int .i64 t, adr a, v] V fun e V' => ∃ u, e = .returned u ∧ Pp.Row V' u (Pp.ansR ⟨0, 0, 0, 0, 0, 0, epoV since t, x.host⟩ true) ∧ Gm w0 gb nb nm x most since av f c now M os V' := by
  have hb0 : Below V.heap.size V (V.alloc (.cells #[.int .u32 a.1, .int .i64 a.2] 38)) := (Below.refl _ V).alloc (Nat.le_refl _) _
  have hR := Lib.hid (Pp.read_ask_yes (hr.below hb0) hz)
  have HG := Lib.hid (h.below hb0)
  have HEP : Hid (∀ os' W, Gm w0 gb nb nm x most since av f c now M os' W → _) := Lib.hid (fun os' W (hW : Gm w0 gb nb nm x most since av f c now M os' W) => epo_gm hW t h0 h1 ht0 ht1)
  have HE := Lib.hid (epoV_bd (since := since) (t := t))
  have HLW := Lib.hid h.low.size
  clear h hb0 hr
  unfold Pp.okV Pp.leV Pp.leA Pp.zeroL at hR
  unfold adr
  generalize epoV since t = E at HEP HE
  go_enter Try.func90, Try.ntmps90
  go_wp2_with fail
  refine hR.out.mono ?_
  rintro e V1 ⟨rfl, hb⟩
  have hg1 := (HG.out.below hb).box (k := V1.heap.size) #[.int .i64 0, .int .i64 0, .int .i64 0, .int .i64 0, .int .u64 0, .int .i64 0, .int .i64 0, .int .u32 0] 64 rfl
  have HG1 := Lib.hid hg1
  clear hb hg1
  go_upto_region 4 with (fail)
  obtain ⟨W1, hW1⟩ : ∃ W1, V1.alloc (.cells #[.int .i64 0, .int .i64 0, .int .i64 0, .int .i64 0, .int .u64 0, .int .i64 0, .int .i64 0, .int .u32 0] 64) = W1 := ⟨_, rfl⟩
  rw [hW1] at HG1
  rw [hW1]
  clear hW1
  have n1 := (HG1.out.cellsOf (b := V1.heap.size) (C := #[.int .i64 0, .int .i64 0, .int .i64 0, .int .i64 0, .int .u64 0, .int .i64 0, .int .i64 0, .int .u32 0]) (t := 64) (by simp) 1).1
  have nl := HG1.out.lt (p := (V1.heap.size, .cells #[.int .i64 0, .int .i64 0, .int .i64 0, .int .i64 0, .int .u64 0, .int .i64 0, .int .i64 0, .int .u32 0] 64 (0, 0))) (by simp)
  obtain ⟨⟨c0, c1, c2, c3, c4⟩, cf, cl⟩ := HG1.out.cells
  go_cut [12] from 14 (fun v12 wc => ∃ q : Nat, v12 = .pointer (some ⟨q, 0, none⟩) ∧ Hid (Gm w0 gb nb nm x most since av f c now M ((q, .cells (Pp.leA ⟨0, 0, 0, 0, 0, 0, E, 0⟩) 64 (0, 0)) :: os) wc ∧ w0.heap.size ≤ q ∧ ∀ p ∈ os, p.1 ≠ q))
  case first =>
    have HGA := Lib.hid ((HG1.out.sub (os' := os) (fun p hp => by simp [hp])).drewN 1)
    have HGB := Lib.hid (((HG1.out.sub (os' := os) (fun p hp => by simp [hp])).drewN 1).alloc (.cells #[.int .i64 0, .int .i64 0, .int .i64 0, .int .i64 0, .int .u64 0, .int .i64 0, .int .i64 0, .int .u32 0] 64))
    have HSA : Hid ((fun W => W.heap[gb]? = some (.cells (gCells nb most since av nm) 117 (0, 0)) ∧ W.heap[V1.heap.size]? = some (.cells #[.int .i64 0, .int .i64 0, .int .i64 0, .int .i64 0, .int .u64 0, .int .i64 0, .int .i64 0, .int .u32 0] 64 (0, 0))) (W1.drewN 1)) := Lib.hid ⟨(HG1.out.drewN 1).top, (HG1.out.drewN 1).held (p := (V1.heap.size, .cells #[.int .i64 0, .int .i64 0, .int .i64 0, .int .i64 0, .int .u64 0, .int .i64 0, .int .i64 0, .int .u32 0] 64 (0, 0))) (by simp)⟩
    have HSB : Hid ((fun W => W.heap[gb]? = some (.cells (gCells nb most since av nm) 117 (0, 0)) ∧ W.heap[V1.heap.size]? = some (.cells #[.int .i64 0, .int .i64 0, .int .i64 0, .int .i64 0, .int .u64 0, .int .i64 0, .int .i64 0, .int .u32 0] 64 (0, 0))) ((W1.drewN 1).alloc (.cells #[.int .i64 0, .int .i64 0, .int .i64 0, .int .i64 0, .int .u64 0, .int .i64 0, .int .i64 0, .int .u32 0] 64))) := Lib.hid ⟨((HG1.out.drewN 1).alloc _).top, ((HG1.out.drewN 1).alloc _).held (p := (V1.heap.size, .cells #[.int .i64 0, .int .i64 0, .int .i64 0, .int .i64 0, .int .u64 0, .int .i64 0, .int .i64 0, .int .u32 0] 64 (0, 0))) (by simp)⟩
    have hgu := (HG1.out.drewN 1).box (k := W1.heap.size) #[.int .i64 0, .int .i64 0, .int .i64 0, .int .i64 0, .int .u64 0, .int .i64 0, .int .i64 0, .int .u32 0] 64 rfl
    have hla : Pp.LeAt ((W1.drewN 1).alloc (.cells #[.int .i64 0, .int .i64 0, .int .i64 0, .int .i64 0, .int .u64 0, .int .i64 0, .int .i64 0, .int .u32 0] 64)) W1.heap.size Pp.zeroL := hgu.held (p := (W1.heap.size, .cells #[.int .i64 0, .int .i64 0, .int .i64 0, .int .i64 0, .int .u64 0, .int .i64 0, .int .i64 0, .int .u32 0] 64 (0, 0))) (by simp)
    have HU : Hid ((_ ∧ _ ∧ _ ∧ _ ∧ _ ∧ _ ∧ _ ∧ _) ∧ (∀ k, ((W1.drewN 1).alloc (.cells #[.int .i64 0, .int .i64 0, .int .i64 0, .int .i64 0, .int .u64 0, .int .i64 0, .int .i64 0, .int .u32 0] 64)).frozen? ⟨W1.heap.size, k, none⟩ = false) ∧ W1.heap.size < ((W1.drewN 1).alloc (.cells #[.int .i64 0, .int .i64 0, .int .i64 0, .int .i64 0, .int .u64 0, .int .i64 0, .int .i64 0, .int .u32 0] 64)).heap.size) := Lib.hid ⟨hla.cells, fun k => (cells_of hla k).2, hla.lt⟩
    have hp8 := hgu.put8 ⟨0, 0, 0, 0, 0, 0, E, 0⟩ (fun p hp => by have := HG1.out.lt hp; omega) HG1.out.low.size (l0 := Pp.zeroL)
    have HSC : Hid ((fun W => W.heap[gb]? = some (.cells (gCells nb most since av nm) 117 (0, 0)) ∧ W.heap[V1.heap.size]? = some (.cells #[.int .i64 0, .int .i64 0, .int .i64 0, .int .i64 0, .int .u64 0, .int .i64 0, .int .i64 0, .int .u32 0] 64 (0, 0))) (Pp.put8 ((W1.drewN 1).alloc (.cells #[.int .i64 0, .int .i64 0, .int .i64 0, .int .i64 0, .int .u64 0, .int .i64 0, .int .i64 0, .int .u32 0] 64)) W1.heap.size ⟨0, 0, 0, 0, 0, 0, E, 0⟩)) := Lib.hid ⟨hp8.top, hp8.held (p := (V1.heap.size, .cells #[.int .i64 0, .int .i64 0, .int .i64 0, .int .i64 0, .int .u64 0, .int .i64 0, .int .i64 0, .int .u32 0] 64 (0, 0))) (by simp)⟩
    have HX : Hid (Gm w0 gb nb nm x most since av f c now M ((W1.heap.size, .cells (Pp.leA ⟨0, 0, 0, 0, 0, 0, E, 0⟩) 64 (0, 0)) :: os) (Pp.put8 ((W1.drewN 1).alloc (.cells #[.int .i64 0, .int .i64 0, .int .i64 0, .int .i64 0, .int .u64 0, .int .i64 0, .int .i64 0, .int .u32 0] 64)) W1.heap.size ⟨0, 0, 0, 0, 0, 0, E, 0⟩) ∧ w0.heap.size ≤ W1.heap.size ∧ ∀ p ∈ os, p.1 ≠ W1.heap.size) := Lib.hid ⟨hp8.sub (fun p hp => by rcases List.mem_cons.1 hp with rfl | hp; simp; simp [hp]), HG1.out.low.size, fun p hp e => by have := HG1.out.lt (p := p) (by simp [hp]); omega⟩
    clear hgu hla hp8
    refine wp_region_held_drew (S := fun W => W.heap[gb]? = some (.cells (gCells nb most since av nm) 117 (0, 0)) ∧ W.heap[V1.heap.size]? = some (.cells #[.int .i64 0, .int .i64 0, .int .i64 0, .int .i64 0, .int .u64 0, .int .i64 0, .int .i64 0, .int .u32 0] 64 (0, 0))) (by kernel_rfl) HSA.out (fun hHeld => ?_)
    refine wpAnyH_take (i := 0) (oi := _) (v := ?_) rfl (by kernel_rfl) (by kernel_rfl) (by kernel_rfl) (fun _ _ _ h => h) (Or.inl ⟨by rfl, ?_⟩) (by assumption) ?_
    case refine_2 => intro w hSw; (try dsimp only at hSw); obtain ⟨hS1, hS2⟩ := hSw; have rlt := (Array.getElem?_eq_some_iff.1 hS1).1; have blt := (Array.getElem?_eq_some_iff.1 hS2).1; have j1 := (cells_of hS2 1).1; clear hS1 hS2; simp only [List.getElem?_toArray, List.getElem?_cons_zero, List.getElem?_cons_succ] at j1; go_simp; first | done | (with_reducible rfl)
    try simp only [Act.put, List.getElem_toArray, List.getElem_cons_zero, List.getElem_cons_succ, List.setIfInBounds_toArray, List.set_cons_zero, List.set_cons_succ]
    refine wpAnyH_take (i := 1) (oi := _) (v := ?_) rfl (by kernel_rfl) (by kernel_rfl) (by kernel_rfl) (fun _ _ _ h => h) (Or.inl ⟨by rfl, ?_⟩) (by assumption) ?_
    case refine_2 => intro w hSw; (try dsimp only at hSw); obtain ⟨hS1, hS2⟩ := hSw; have rlt := (Array.getElem?_eq_some_iff.1 hS1).1; have blt := (Array.getElem?_eq_some_iff.1 hS2).1; have j1 := (cells_of hS2 1).1; clear hS1 hS2; simp only [List.getElem?_toArray, List.getElem?_cons_zero, List.getElem?_cons_succ] at j1; go_simp; first | done | (with_reducible rfl)
    try simp only [Act.put, List.getElem_toArray, List.getElem_cons_zero, List.getElem_cons_succ, List.setIfInBounds_toArray, List.set_cons_zero, List.set_cons_succ]
    refine wpAnyH_take (i := 3) (oi := _) (v := ?_) rfl (by kernel_rfl) (by kernel_rfl) (by kernel_rfl) (fun _ _ _ h => h) (Or.inl ⟨by rfl, ?_⟩) (by assumption) ?_
    case refine_2 => intro w hSw; (try dsimp only at hSw); obtain ⟨hS1, hS2⟩ := hSw; have rlt := (Array.getElem?_eq_some_iff.1 hS1).1; have blt := (Array.getElem?_eq_some_iff.1 hS2).1; have j1 := (cells_of hS2 1).1; clear hS1 hS2; simp only [List.getElem?_toArray, List.getElem?_cons_zero, List.getElem?_cons_succ] at j1; go_simp; first | done | (with_reducible rfl)
    try simp only [Act.put, List.getElem_toArray, List.getElem_cons_zero, List.getElem_cons_succ, List.setIfInBounds_toArray, List.set_cons_zero, List.set_cons_succ]
    refine wpAnyH_take (i := 4) (oi := _) (v := ?_) rfl (by kernel_rfl) (by kernel_rfl) (by kernel_rfl) (fun _ _ _ h => h) (Or.inl ⟨by rfl, ?_⟩) (by assumption) ?_
    case refine_2 => intro w hSw; (try dsimp only at hSw); obtain ⟨hS1, hS2⟩ := hSw; have rlt := (Array.getElem?_eq_some_iff.1 hS1).1; have blt := (Array.getElem?_eq_some_iff.1 hS2).1; have j1 := (cells_of hS2 1).1; clear hS1 hS2; simp only [List.getElem?_toArray, List.getElem?_cons_zero, List.getElem?_cons_succ] at j1; go_simp; first | done | (with_reducible rfl)
    try simp only [Act.put, List.getElem_toArray, List.getElem_cons_zero, List.getElem_cons_succ, List.setIfInBounds_toArray, List.set_cons_zero, List.set_cons_succ]
    refine wpAnyH_ready (rs := [2, 6]) (by kernel_rfl) (by simp) ?_
    refine (AllReadyH.cons rfl (fun K hK => ?_) (AllReadyH.cons rfl (fun K hK => ?_) AllReadyH.nil))
    · go_simp
      go_at_call 58
      first | refine (HEP.out _ _ HGA.out).mono ?_ | refine (HEP.out _ _ HGB.out).mono ?_
      rintro e W3 ⟨rfl, hW3⟩
      subst hW3
      refine hK.out _ _ HSA.out (fun hHeld => ?_)
      clear hK K
      try simp only [Act.put, List.getElem_toArray, List.getElem_cons_zero, List.getElem_cons_succ, List.setIfInBounds_toArray, List.set_cons_zero, List.set_cons_succ]
      refine wpAnyH_take (i := 5) (oi := _) (v := ?_) rfl (by kernel_rfl) (by kernel_rfl) (by kernel_rfl) (fun _ _ _ h => h) (Or.inl ⟨by rfl, ?_⟩) (by assumption) ?_
      case refine_2 => intro w hSw; (try dsimp only at hSw); obtain ⟨hS1, hS2⟩ := hSw; have rlt := (Array.getElem?_eq_some_iff.1 hS1).1; have blt := (Array.getElem?_eq_some_iff.1 hS2).1; have j1 := (cells_of hS2 1).1; clear hS1 hS2; simp only [List.getElem?_toArray, List.getElem?_cons_zero, List.getElem?_cons_succ] at j1; go_simp; first | done | (with_reducible rfl)
      try simp only [Act.put, List.getElem_toArray, List.getElem_cons_zero, List.getElem_cons_succ, List.setIfInBounds_toArray, List.set_cons_zero, List.set_cons_succ]
      refine wpAnyH_ready (rs := [6]) (by kernel_rfl) (by simp) ?_
      refine (AllReadyH.cons rfl (fun K hK => ?_) AllReadyH.nil)
      go_simp
      refine hK.out _ _ HSB.out (fun hHeld => ?_)
      clear hK K
      try simp only [Act.put, List.getElem_toArray, List.getElem_cons_zero, List.getElem_cons_succ, List.setIfInBounds_toArray, List.set_cons_zero, List.set_cons_succ]
      refine wpAnyH_ready (rs := [7]) (by kernel_rfl) (by simp) ?_
      refine (AllReadyH.cons rfl (fun K hK => ?_) AllReadyH.nil)
      obtain ⟨⟨y0, y1, y2, y3, y4, y5, y6, y7⟩, fz, yl⟩ := HU.out
      go_simp
      clear y0 y1 y2 y3 y4 y5 y6 y7 fz yl
      refine hK.out _ _ HSC.out (fun hHeld => ?_)
      clear hK K
      try simp only [Act.put, List.getElem_toArray, List.getElem_cons_zero, List.getElem_cons_succ, List.setIfInBounds_toArray, List.set_cons_zero, List.set_cons_succ]
      refine wpAnyH_done (by kernel_rfl) ?_ _
      go_wp2
      go_meet
      case rel => exact ⟨_, rfl, HX⟩
    · go_simp
      refine hK.out _ _ HSB.out (fun hHeld => ?_)
      clear hK K
      try simp only [Act.put, List.getElem_toArray, List.getElem_cons_zero, List.getElem_cons_succ, List.setIfInBounds_toArray, List.set_cons_zero, List.set_cons_succ]
      refine wpAnyH_ready (rs := [2]) (by kernel_rfl) (by simp) ?_
      refine (AllReadyH.cons rfl (fun K hK => ?_) AllReadyH.nil)
      go_simp
      go_at_call 58
      first | refine (HEP.out _ _ HGA.out).mono ?_ | refine (HEP.out _ _ HGB.out).mono ?_
      rintro e W3 ⟨rfl, hW3⟩
      subst hW3
      refine hK.out _ _ HSB.out (fun hHeld => ?_)
      clear hK K
      try simp only [Act.put, List.getElem_toArray, List.getElem_cons_zero, List.getElem_cons_succ, List.setIfInBounds_toArray, List.set_cons_zero, List.set_cons_succ]
      refine wpAnyH_take (i := 5) (oi := _) (v := ?_) rfl (by kernel_rfl) (by kernel_rfl) (by kernel_rfl) (fun _ _ _ h => h) (Or.inl ⟨by rfl, ?_⟩) (by assumption) ?_
      case refine_2 => intro w hSw; (try dsimp only at hSw); obtain ⟨hS1, hS2⟩ := hSw; have rlt := (Array.getElem?_eq_some_iff.1 hS1).1; have blt := (Array.getElem?_eq_some_iff.1 hS2).1; have j1 := (cells_of hS2 1).1; clear hS1 hS2; simp only [List.getElem?_toArray, List.getElem?_cons_zero, List.getElem?_cons_succ] at j1; go_simp; first | done | (with_reducible rfl)
      try simp only [Act.put, List.getElem_toArray, List.getElem_cons_zero, List.getElem_cons_succ, List.setIfInBounds_toArray, List.set_cons_zero, List.set_cons_succ]
      refine wpAnyH_ready (rs := [7]) (by kernel_rfl) (by simp) ?_
      refine (AllReadyH.cons rfl (fun K hK => ?_) AllReadyH.nil)
      obtain ⟨⟨y0, y1, y2, y3, y4, y5, y6, y7⟩, fz, yl⟩ := HU.out
      go_simp
      clear y0 y1 y2 y3 y4 y5 y6 y7 fz yl
      refine hK.out _ _ HSC.out (fun hHeld => ?_)
      clear hK K
      try simp only [Act.put, List.getElem_toArray, List.getElem_cons_zero, List.getElem_cons_succ, List.setIfInBounds_toArray, List.set_cons_zero, List.set_cons_succ]
      refine wpAnyH_done (by kernel_rfl) ?_ _
      go_wp2
      go_meet
      case rel => exact ⟨_, rfl, HX⟩
  case rest =>
    obtain ⟨q, rfl, HQ⟩ := hcut
    clear c0 c1 c2 c3 c4 cf cl n1 nl HG1
    have HG2 := Lib.hid HQ.out.1
    obtain ⟨⟨c0, c1, c2, c3, c4⟩, cf, cl⟩ := HG2.out.cells
    have HBX := Lib.hid (box_gm HG2.out)
    unfold boxCells at HBX
    have hfld := fun W => host_of x W
    go_wp2_with fail
    refine HBX.out.mono ?_
    rintro e W5 ⟨rfl, hg5⟩
    have ht5 : Pp.LeAt W5 q ⟨0, 0, 0, 0, 0, 0, E, 0⟩ := hg5.held (p := (q, .cells (Pp.leA ⟨0, 0, 0, 0, 0, 0, E, 0⟩) 64 (0, 0))) (by simp)
    have ql := ht5.lt
    obtain ⟨y0, y1, y2, y3, y4, y5, y6, y7⟩ := ht5.cells
    have yf : ∀ k, W5.frozen? ⟨q, k, none⟩ = false := fun k => (cells_of ht5 k).2
    have hg6 := hg5.store (j := 7) (v := .int .u32 x.host) HQ.out.2.2 HQ.out.2.1
    have hc6 : (Pp.leA ⟨0, 0, 0, 0, 0, 0, E, 0⟩).setIfInBounds 7 (.int .u32 x.host) = Pp.leA ⟨0, 0, 0, 0, 0, 0, E, x.host⟩ := rfl
    rw [hc6] at hg6
    have HG6 := Lib.hid hg6
    have hans := Pp.tell_ans ⟨0, 0, 0, 0, 0, 0, E, x.host⟩ true (W5.setCell ⟨q, 7, none⟩ (.int .u32 x.host)) (by have := HE.out; constructor <;> (simp only [Pp.W64]; omega))
    have HANS := Lib.hid hans
    unfold Pp.leV Pp.leA at HANS
    dsimp only at y0 y1 y2 y3 y4 y5 y6 y7 HANS
    clear hg5 ht5 hg6 hc6 hans c0 c1 c2 c3 c4 cf cl HBX HG2
    go_wp2_with fail
    refine HANS.out.mono ?_
    rintro e W7 ⟨u, rfl, hrow, hb7⟩
    have HROW := Lib.hid hrow
    have HG7 := Lib.hid ((HG6.out.sub (os' := os) (fun p hp => by simp [hp])).below hb7)
    clear hrow hb7
    go_wp2
    go_ret
    exact ⟨u, rfl, HROW.out, HG7.out⟩
end
end Go.Proofs.Ytemlnkcokeckmaa
namespace Go.Proofs.Ytemlnkcokeckmaa
open Go.RowKit Go.Maps
attribute [local go_sem] Oper.semAt_some
set_option linter.unusedVariables false
set_option linter.unusedSimpArgs false

theorem ask_port_bd {x : Bx} {now : Int} {M : List Bn} {t : Int} {a : A2} {s u : Int} (hx : OkB x) (h : Okb x M) : 0 ≤ (askS x now M t a s u).1 ∧ (askS x now M t a s u).1 ≤ 65535 := by
  have hl := hx.lo; have hh := hx.hi
  unfold askS
  split
  · dsimp only
    unfold askM
    split
    · split
      · rename_i d hd
        have := (h.live t).rng d (List.mem_of_find?_eq_some hd)
        dsimp only
        omega
      · split
        · rename_i p hp
          have := add_is hx.lh hp
          dsimp only
          omega
        · dsimp only; omega
    · dsimp only; omega
  · dsimp only; omega
theorem ask_code_bd {x : Bx} {now : Int} {M : List Bn} {t : Int} {a : A2} {s u : Int} : (askS x now M t a s u).2.1 = 0 ∨ (askS x now M t a s u).2.1 = 1 ∨ (askS x now M t a s u).2.1 = 10 := by
  unfold askS
  split
  · dsimp only
    unfold askM
    split
    · split
      · exact .inl rfl
      · split
        · exact .inl rfl
        · exact .inr (.inr rfl)
    · exact .inr (.inl rfl)
  · exact .inr (.inl rfl)
theorem srv_bd {x : Bx} {most now : Int} {M : List Bn} {t : Int} {a : A2} {p s : Int} (hx : OkB x) (h : Okb x M) (hs : 0 ≤ s ∧ s ≤ 4294967295) (hm : 1 ≤ most) : (0 ≤ (srvS x most now M t a p s).port ∧ (srvS x most now M t a p s).port ≤ 65535) ∧ (0 ≤ (srvS x most now M t a p s).secs ∧ (srvS x most now M t a p s).secs ≤ 4294967295) ∧ ((srvS x most now M t a p s).code = 0 ∨ (srvS x most now M t a p s).code = 1 ∨ (srvS x most now M t a p s).code = 10) := by
  have h1 := ask_port_bd (now := now) (t := t) (a := a) (s := p) (u := t + min s most) hx h
  have h2 := ask_code_bd (x := x) (now := now) (M := M) (t := t) (a := a) (s := p) (u := t + min s most)
  unfold srvS
  split
  · simp
  · split
    · dsimp only; omega
    · dsimp only; omega
section
variable {w0 V V' : World} {gb nb nm : Nat} {x : Bx} {most since now now' : Int} {av : Value} {f f' : Nf} {c c' : Nat} {M M' : List Bn} {os : List (Nat × Obj)}
/-- the answer about a port -/
def portA (l : Pp.Le) (E : Int) (s : Srv) : Pp.Le := ⟨0, l.ins, s.port, s.secs, 0, resV s.code 4 2, E, 0⟩
set_option maxRecDepth 100000 in
set_option maxHeartbeats 16000000 in
theorem byPmp_port (h : Gm w0 gb nb nm x most since av f c now M os V) (hx : OkB x) (hok : Okb x M) (hM : OkM M) (t : Int) (a : A2) (ha : isA a) {v : Value} {zs : List Int} {l : Pp.Le} (hr : Pp.Row V v zs) (hz : Pp.AskOf zs l false) (h0 : 0 ≤ since) (h1 : since ≤ 1099511627776000) (ht0 : 0 ≤ t) (ht1 : t ≤ 1099511627776) (hm : 1 ≤ most ∧ most ≤ 4294967295) :
    Calls Try.prog 90 #[.pointer (some ⟨gb, 0, none⟩), .int .i64 t, adr a, v] V fun e V' => ∃ u, e = .returned u ∧ Pp.Row V' u (Pp.ansR (portA l (epoV since t) (srvS x most now M t (a.1, l.ins) l.prt l.secs)) false) ∧
      Gm w0 gb nb nm x most since av (cutIf (srvS x most now M t (a.1, l.ins) l.prt l.secs).cut f (a.1, l.ins)) c (srvS x most now M t (a.1, l.ins) l.prt l.secs).now (srvS x most now M t (a.1, l.ins) l.prt l.secs).M os V' := by
  obtain ⟨e0, b1, b2, b3⟩ := Pp.askB_port hz.1
  have hl : Pp.isL l := by rw [e0]; constructor <;> (simp only [Pp.W64]; omega)
  have hia : isA (a.1, l.ins) := ⟨ha.1, by dsimp only; omega, by dsimp only; omega⟩
  have hg0 := h.box (k := V.heap.size) #[.int .u32 a.1, .int .i64 a.2] 38 rfl
  have hR := Lib.hid (Pp.read_ask_yes (hr.below ((Below.refl _ V).alloc (Nat.le_refl _) (.cells #[.int .u32 a.1, .int .i64 a.2] 38))) hz)
  have HG := Lib.hid hg0
  have HEP := Lib.hid (fun os' W (hW : Gm w0 gb nb nm x most since av f c now M os' W) => epo_gm hW t h0 h1 ht0 ht1)
  have HE := Lib.hid (epoV_bd (since := since) (t := t))
  have HSV := Lib.hid (fun os' W (hW : Gm w0 gb nb nm x most since av f c now M os' W) => serve_gm hW hx hM t (a.1, l.ins) hia l hl ht0 ht1 b3 hm)
  have HSB0 := Lib.hid (srv_bd (most := most) (now := now) (t := t) (a := (a.1, l.ins)) (p := l.prt) hx hok b3 hm.1)
  have HLB := Lib.hid b1
  clear h hg0 hr e0
  unfold Pp.okV Pp.leV Pp.leA at hR
  unfold adr Pp.leV Pp.leA at HSV
  dsimp only at HSV
  unfold adr
  have HPA : Hid (∀ E s, portA l E s = ⟨0, l.ins, s.port, s.secs, 0, resV s.code 4 2, E, 0⟩) := Lib.hid (fun E s => rfl)
  generalize epoV since t = E at HEP HE ⊢
  generalize srvS x most now M t (a.1, l.ins) l.prt l.secs = sv at HSV HSB0 ⊢
  go_enter Try.func90, Try.ntmps90
  go_wp2_with fail
  refine hR.out.mono ?_
  rintro e V1 ⟨rfl, hb⟩
  have hg1 := (HG.out.below hb).box (k := V1.heap.size) (Pp.leA l) 64 rfl
  have HG1 := Lib.hid hg1
  clear hb hg1
  go_upto_region 4 with (fail)
  obtain ⟨W1, hW1⟩ : ∃ W1, V1.alloc (.cells (Pp.leA l) 64) = W1 := ⟨_, rfl⟩
  rw [hW1] at HG1
  unfold Pp.leA at hW1
  rw [hW1]
  clear hW1
  obtain ⟨⟨c0, c1, c2, c3, c4⟩, cf, cl⟩ := HG1.out.cells
  go_cut [12] from 14 (fun v12 wc => ∃ q : Nat, v12 = .pointer (some ⟨q, 0, none⟩) ∧ Hid (Gm w0 gb nb nm x most since av f c now M ((q, .cells (Pp.leA ⟨0, l.ins, 0, 0, 0, 0, E, 0⟩) 64 (0, 0)) :: (V1.heap.size, .cells (Pp.leA l) 64 (0, 0)) :: (V.heap.size, .cells #[.int .u32 a.1, .int .i64 a.2] 38 (0, 0)) :: os) wc ∧ w0.heap.size ≤ q ∧ ∀ p ∈ (V1.heap.size, .cells (Pp.leA l) 64 (0, 0)) :: (V.heap.size, .cells #[.int .u32 a.1, .int .i64 a.2] 38 (0, 0)) :: os, p.1 ≠ q))
  case first =>
    have HGA := Lib.hid (HG1.out.drewN 1)
    have HGB := Lib.hid ((HG1.out.drewN 1).alloc (.cells #[.int .i64 0, .int .i64 0, .int .i64 0, .int .i64 0, .int .u64 0, .int .i64 0, .int .i64 0, .int .u32 0] 64))
    have HSA : Hid ((fun W => W.heap[gb]? = some (.cells (gCells nb most since av nm) 117 (0, 0)) ∧ W.heap[V1.heap.size]? = some (.cells (Pp.leA l) 64 (0, 0))) (W1.drewN 1)) := Lib.hid ⟨(HG1.out.drewN 1).top, (HG1.out.drewN 1).held (p := (V1.heap.size, .cells (Pp.leA l) 64 (0, 0))) (by simp)⟩
    have HSB : Hid ((fun W => W.heap[gb]? = some (.cells (gCells nb most since av nm) 117 (0, 0)) ∧ W.heap[V1.heap.size]? = some (.cells (Pp.leA l) 64 (0, 0))) ((W1.drewN 1).alloc (.cells #[.int .i64 0, .int .i64 0, .int .i64 0, .int .i64 0, .int .u64 0, .int .i64 0, .int .i64 0, .int .u32 0] 64))) := Lib.hid ⟨((HG1.out.drewN 1).alloc _).top, ((HG1.out.drewN 1).alloc _).held (p := (V1.heap.size, .cells (Pp.leA l) 64 (0, 0))) (by simp)⟩
    have hgu := (HG1.out.drewN 1).box (k := W1.heap.size) #[.int .i64 0, .int .i64 0, .int .i64 0, .int .i64 0, .int .u64 0, .int .i64 0, .int .i64 0, .int .u32 0] 64 rfl
    have hla : Pp.LeAt ((W1.drewN 1).alloc (.cells #[.int .i64 0, .int .i64 0, .int .i64 0, .int .i64 0, .int .u64 0, .int .i64 0, .int .i64 0, .int .u32 0] 64)) W1.heap.size Pp.zeroL := hgu.held (p := (W1.heap.size, .cells #[.int .i64 0, .int .i64 0, .int .i64 0, .int .i64 0, .int .u64 0, .int .i64 0, .int .i64 0, .int .u32 0] 64 (0, 0))) (by simp)
    have HU : Hid ((_ ∧ _ ∧ _ ∧ _ ∧ _ ∧ _ ∧ _ ∧ _) ∧ (∀ k, ((W1.drewN 1).alloc (.cells #[.int .i64 0, .int .i64 0, .int .i64 0, .int .i64 0, .int .u64 0, .int .i64 0, .int .i64 0, .int .u32 0] 64)).frozen? ⟨W1.heap.size, k, none⟩ = false) ∧ W1.heap.size < ((W1.drewN 1).alloc (.cells #[.int .i64 0, .int .i64 0, .int .i64 0, .int .i64 0, .int .u64 0, .int .i64 0, .int .i64 0, .int .u32 0] 64)).heap.size) := Lib.hid ⟨hla.cells, fun k => (cells_of hla k).2, hla.lt⟩
    have hp8 := hgu.put8 ⟨0, l.ins, 0, 0, 0, 0, E, 0⟩ (fun p hp => by have := HG1.out.lt hp; omega) HG1.out.low.size (l0 := Pp.zeroL)
    have HSC : Hid ((fun W => W.heap[gb]? = some (.cells (gCells nb most since av nm) 117 (0, 0)) ∧ W.heap[V1.heap.size]? = some (.cells (Pp.leA l) 64 (0, 0))) (Pp.put8 ((W1.drewN 1).alloc (.cells #[.int .i64 0, .int .i64 0, .int .i64 0, .int .i64 0, .int .u64 0, .int .i64 0, .int .i64 0, .int .u32 0] 64)) W1.heap.size ⟨0, l.ins, 0, 0, 0, 0, E, 0⟩)) := Lib.hid ⟨hp8.top, hp8.held (p := (V1.heap.size, .cells (Pp.leA l) 64 (0, 0))) (by simp)⟩
    have HX : Hid (Gm w0 gb nb nm x most since av f c now M ((W1.heap.size, .cells (Pp.leA ⟨0, l.ins, 0, 0, 0, 0, E, 0⟩) 64 (0, 0)) :: (V1.heap.size, .cells (Pp.leA l) 64 (0, 0)) :: (V.heap.size, .cells #[.int .u32 a.1, .int .i64 a.2] 38 (0, 0)) :: os) (Pp.put8 ((W1.drewN 1).alloc (.cells #[.int .i64 0, .int .i64 0, .int .i64 0, .int .i64 0, .int .u64 0, .int .i64 0, .int .i64 0, .int .u32 0] 64)) W1.heap.size ⟨0, l.ins, 0, 0, 0, 0, E, 0⟩) ∧ w0.heap.size ≤ W1.heap.size ∧ ∀ p ∈ (V1.heap.size, .cells (Pp.leA l) 64 (0, 0)) :: (V.heap.size, .cells #[.int .u32 a.1, .int .i64 a.2] 38 (0, 0)) :: os, p.1 ≠ W1.heap.size) := Lib.hid ⟨hp8, HG1.out.low.size, fun p hp e => by have := HG1.out.lt (p := p) hp; omega⟩
    clear hgu hla hp8
    refine wp_region_held_drew (S := fun W => W.heap[gb]? = some (.cells (gCells nb most since av nm) 117 (0, 0)) ∧ W.heap[V1.heap.size]? = some (.cells (Pp.leA l) 64 (0, 0))) (by kernel_rfl) HSA.out (fun hHeld => ?_)
    refine wpAnyH_take (i := 0) (oi := _) (v := ?_) rfl (by kernel_rfl) (by kernel_rfl) (by kernel_rfl) (fun _ _ _ h => h) (Or.inl ⟨by rfl, ?_⟩) (by assumption) ?_
    case refine_2 => intro w hSw; (try dsimp only at hSw); obtain ⟨hS1, hS2⟩ := hSw; have rlt := (Array.getElem?_eq_some_iff.1 hS1).1; have blt := (Array.getElem?_eq_some_iff.1 hS2).1; have j1 := (cells_of hS2 1).1; clear hS1 hS2; unfold Pp.leA at j1; simp only [List.getElem?_toArray, List.getElem?_cons_zero, List.getElem?_cons_succ] at j1; go_simp; first | done | (with_reducible rfl)
    try simp only [Act.put, List.getElem_toArray, List.getElem_cons_zero, List.getElem_cons_succ, List.setIfInBounds_toArray, List.set_cons_zero, List.set_cons_succ]
    refine wpAnyH_take (i := 1) (oi := _) (v := ?_) rfl (by kernel_rfl) (by kernel_rfl) (by kernel_rfl) (fun _ _ _ h => h) (Or.inl ⟨by rfl, ?_⟩) (by assumption) ?_
    case refine_2 => intro w hSw; (try dsimp only at hSw); obtain ⟨hS1, hS2⟩ := hSw; have rlt := (Array.getElem?_eq_some_iff.1 hS1).1; have blt := (Array.getElem?_eq_some_iff.1 hS2).1; have j1 := (cells_of hS2 1).1; clear hS1 hS2; unfold Pp.leA at j1; simp only [List.getElem?_toArray, List.getElem?_cons_zero, List.getElem?_cons_succ] at j1; go_simp; first | done | (with_reducible rfl)
    try simp only [Act.put, List.getElem_toArray, List.getElem_cons_zero, List.getElem_cons_succ, List.setIfInBounds_toArray, List.set_cons_zero, List.set_cons_succ]
    refine wpAnyH_take (i := 3) (oi := _) (v := ?_) rfl (by kernel_rfl) (by kernel_rfl) (by kernel_rfl) (fun _ _ _ h => h) (Or.inl ⟨by rfl, ?_⟩) (by assumption) ?_
    case refine_2 => intro w hSw; (try dsimp only at hSw); obtain ⟨hS1, hS2⟩ := hSw; have rlt := (Array.getElem?_eq_some_iff.1 hS1).1; have blt := (Array.getElem?_eq_some_iff.1 hS2).1; have j1 := (cells_of hS2 1).1; clear hS1 hS2; unfold Pp.leA at j1; simp only [List.getElem?_toArray, List.getElem?_cons_zero, List.getElem?_cons_succ] at j1; go_simp; first | done | (with_reducible rfl)
    try simp only [Act.put, List.getElem_toArray, List.getElem_cons_zero, List.getElem_cons_succ, List.setIfInBounds_toArray, List.set_cons_zero, List.set_cons_succ]
    refine wpAnyH_take (i := 4) (oi := _) (v := ?_) rfl (by kernel_rfl) (by kernel_rfl) (by kernel_rfl) (fun _ _ _ h => h) (Or.inl ⟨by rfl, ?_⟩) (by assumption) ?_
    case refine_2 => intro w hSw; (try dsimp only at hSw); obtain ⟨hS1, hS2⟩ := hSw; have rlt := (Array.getElem?_eq_some_iff.1 hS1).1; have blt := (Array.getElem?_eq_some_iff.1 hS2).1; have j1 := (cells_of hS2 1).1; clear hS1 hS2; unfold Pp.leA at j1; simp only [List.getElem?_toArray, List.getElem?_cons_zero, List.getElem?_cons_succ] at j1; go_simp; first | done | (with_reducible rfl)
    try simp only [Act.put, List.getElem_toArray, List.getElem_cons_zero, List.getElem_cons_succ, List.setIfInBounds_toArray, List.set_cons_zero, List.set_cons_succ]
    refine wpAnyH_ready (rs := [2, 6]) (by kernel_rfl) (by simp) ?_
    refine (AllReadyH.cons rfl (fun K hK => ?_) (AllReadyH.cons rfl (fun K hK => ?_) AllReadyH.nil))
    · go_simp
      go_at_call 58
      first | refine (HEP.out _ _ HGA.out).mono ?_ | refine (HEP.out _ _ HGB.out).mono ?_
      rintro e W3 ⟨rfl, hW3⟩
      subst hW3
      refine hK.out _ _ HSA.out (fun hHeld => ?_)
      clear hK K
      try simp only [Act.put, List.getElem_toArray, List.getElem_cons_zero, List.getElem_cons_succ, List.setIfInBounds_toArray, List.set_cons_zero, List.set_cons_succ]
      refine wpAnyH_take (i := 5) (oi := _) (v := ?_) rfl (by kernel_rfl) (by kernel_rfl) (by kernel_rfl) (fun _ _ _ h => h) (Or.inl ⟨by rfl, ?_⟩) (by assumption) ?_
      case refine_2 => intro w hSw; (try dsimp only at hSw); obtain ⟨hS1, hS2⟩ := hSw; have rlt := (Array.getElem?_eq_some_iff.1 hS1).1; have blt := (Array.getElem?_eq_some_iff.1 hS2).1; have j1 := (cells_of hS2 1).1; clear hS1 hS2; unfold Pp.leA at j1; simp only [List.getElem?_toArray, List.getElem?_cons_zero, List.getElem?_cons_succ] at j1; go_simp; first | done | (with_reducible rfl)
      try simp only [Act.put, List.getElem_toArray, List.getElem_cons_zero, List.getElem_cons_succ, List.setIfInBounds_toArray, List.set_cons_zero, List.set_cons_succ]
      refine wpAnyH_ready (rs := [6]) (by kernel_rfl) (by simp) ?_
      refine (AllReadyH.cons rfl (fun K hK => ?_) AllReadyH.nil)
      go_simp
      refine hK.out _ _ HSB.out (fun hHeld => ?_)
      clear hK K
      try simp only [Act.put, List.getElem_toArray, List.getElem_cons_zero, List.getElem_cons_succ, List.setIfInBounds_toArray, List.set_cons_zero, List.set_cons_succ]
      refine wpAnyH_ready (rs := [7]) (by kernel_rfl) (by simp) ?_
      refine (AllReadyH.cons rfl (fun K hK => ?_) AllReadyH.nil)
      obtain ⟨⟨y0, y1, y2, y3, y4, y5, y6, y7⟩, fz, yl⟩ := HU.out
      go_simp
      clear y0 y1 y2 y3 y4 y5 y6 y7 fz yl
      refine hK.out _ _ HSC.out (fun hHeld => ?_)
      clear hK K
      try simp only [Act.put, List.getElem_toArray, List.getElem_cons_zero, List.getElem_cons_succ, List.setIfInBounds_toArray, List.set_cons_zero, List.set_cons_succ]
      refine wpAnyH_done (by kernel_rfl) ?_ _
      go_wp2
      go_meet
      case rel => exact ⟨_, rfl, HX⟩
    · go_simp
      refine hK.out _ _ HSB.out (fun hHeld => ?_)
      clear hK K
      try simp only [Act.put, List.getElem_toArray, List.getElem_cons_zero, List.getElem_cons_succ, List.setIfInBounds_toArray, List.set_cons_zero, List.set_cons_succ]
      refine wpAnyH_ready (rs := [2]) (by kernel_rfl) (by simp) ?_
      refine (AllReadyH.cons rfl (fun K hK => ?_) AllReadyH.nil)
      go_simp
      go_at_call 58
      first | refine (HEP.out _ _ HGA.out).mono ?_ | refine (HEP.out _ _ HGB.out).mono ?_
      rintro e W3 ⟨rfl, hW3⟩
      subst hW3
      refine hK.out _ _ HSB.out (fun hHeld => ?_)
      clear hK K
      try simp only [Act.put, List.getElem_toArray, List.getElem_cons_zero, List.getElem_cons_succ, List.setIfInBounds_toArray, List.set_cons_zero, List.set_cons_succ]
      refine wpAnyH_take (i := 5) (oi := _) (v := ?_) rfl (by kernel_rfl) (by kernel_rfl) (by kernel_rfl) (fun _ _ _ h => h) (Or.inl ⟨by rfl, ?_⟩) (by assumption) ?_
      case refine_2 => intro w hSw; (try dsimp only at hSw); obtain ⟨hS1, hS2⟩ := hSw; have rlt := (Array.getElem?_eq_some_iff.1 hS1).1; have blt := (Array.getElem?_eq_some_iff.1 hS2).1; have j1 := (cells_of hS2 1).1; clear hS1 hS2; unfold Pp.leA at j1; simp only [List.getElem?_toArray, List.getElem?_cons_zero, List.getElem?_cons_succ] at j1; go_simp; first | done | (with_reducible rfl)
      try simp only [Act.put, List.getElem_toArray, List.getElem_cons_zero, List.getElem_cons_succ, List.setIfInBounds_toArray, List.set_cons_zero, List.set_cons_succ]
      refine wpAnyH_ready (rs := [7]) (by kernel_rfl) (by simp) ?_
      refine (AllReadyH.cons rfl (fun K hK => ?_) AllReadyH.nil)
      obtain ⟨⟨y0, y1, y2, y3, y4, y5, y6, y7⟩, fz, yl⟩ := HU.out
      go_simp
      clear y0 y1 y2 y3 y4 y5 y6 y7 fz yl
      refine hK.out _ _ HSC.out (fun hHeld => ?_)
      clear hK K
      try simp only [Act.put, List.getElem_toArray, List.getElem_cons_zero, List.getElem_cons_succ, List.setIfInBounds_toArray, List.set_cons_zero, List.set_cons_succ]
      refine wpAnyH_done (by kernel_rfl) ?_ _
      go_wp2
      go_meet
      case rel => exact ⟨_, rfl, HX⟩
  case rest =>
    obtain ⟨q, rfl, HQ⟩ := hcut
    clear c0 c1 c2 c3 c4 cf cl HG1 HG HEP
    have HQG := Lib.hid HQ.out.1
    have hq0 := HQ.out.2.1
    have hqn := HQ.out.2.2
    obtain ⟨k0, k1, k2, k3, k4, k5, k6, k7⟩ := Pp.LeAt.cells (w := wc) (g := V1.heap.size) (l := l) (HQG.out.held (p := (V1.heap.size, .cells (Pp.leA l) 64 (0, 0))) (by simp))
    have kl := HQG.out.lt (p := (V1.heap.size, .cells (Pp.leA l) 64 (0, 0))) (by simp)
    have b0 : wc.cell? ⟨V.heap.size, 0, none⟩ = some (.int .u32 a.1) := (HQG.out.cellsOf (b := V.heap.size) (C := #[.int .u32 a.1, .int .i64 a.2]) (t := 38) (by simp) 0).1
    have bl := HQG.out.lt (p := (V.heap.size, .cells #[.int .u32 a.1, .int .i64 a.2] 38 (0, 0))) (by simp)
    have hg8 := HQG.out.box (k := wc.heap.size) #[.int .u32 a.1, .int .i64 l.ins] 38 rfl
    have HS8 := Lib.hid (HSV.out _ _ hg8)
    have HQ0 := Lib.hid hq0
    have HQN := Lib.hid hqn
    dsimp only at kl bl
    clear hg8 hq0 hqn HQ HSV HQG
    go_wp2_with fail
    refine HS8.out.mono ?_
    rintro e W9 ⟨rfl, hg9⟩
    have ht9 : Pp.LeAt W9 q ⟨0, l.ins, 0, 0, 0, 0, E, 0⟩ := hg9.held (p := (q, .cells (Pp.leA ⟨0, l.ins, 0, 0, 0, 0, E, 0⟩) 64 (0, 0))) (by simp)
    have ql := ht9.lt
    obtain ⟨y0, y1, y2, y3, y4, y5, y6, y7⟩ := ht9.cells
    have yf : ∀ k, W9.frozen? ⟨q, k, none⟩ = false := fun k => (cells_of ht9 k).2
    have hgA := hg9.sub (os' := (q, .cells (Pp.leA ⟨0, l.ins, 0, 0, 0, 0, E, 0⟩) 64 (0, 0)) :: os) (fun p hp => by rcases List.mem_cons.1 hp with rfl | hp; simp; simp [hp])
    have hosq : ∀ p ∈ os, p.1 ≠ q := fun p hp => HQN.out p (by simp [hp])
    have hgB := (((hgA.store (j := 2) (v := .int .i64 sv.port) hosq HQ0.out).store (j := 3) (v := .int .i64 sv.secs) hosq HQ0.out).store (j := 5) (v := .int .i64 (resV sv.code 4 2)) hosq HQ0.out).sub (os' := os) (fun p hp => by simp [hp])
    have HGB := Lib.hid hgB
    have hans := Pp.tell_ans ⟨0, l.ins, sv.port, sv.secs, 0, resV sv.code 4 2, E, 0⟩ false (((W9.setCell ⟨q, 2, none⟩ (.int .i64 sv.port)).setCell ⟨q, 3, none⟩ (.int .i64 sv.secs)).setCell ⟨q, 5, none⟩ (.int .i64 (resV sv.code 4 2))) (by
      have h1 := HSB0.out; have h2 := HE.out; have h3 := HLB.out
      have h4 : resV sv.code 4 2 = 0 ∨ resV sv.code 4 2 = 2 ∨ resV sv.code 4 2 = 4 := by
        unfold resV
        rcases h1.2.2 with e | e | e <;> rw [e] <;> simp
      constructor <;> (simp only [Pp.W64]; omega))
    have HANS := Lib.hid hans
    have HRS := Lib.hid (fun W => resultOf_any sv.code 4 2 W)
    unfold Pp.leV Pp.leA at HANS
    dsimp only at y0 y1 y2 y3 y4 y5 y6 y7 HANS
    clear hg9 ht9 hgA hgB hosq hans HS8 k0 k1 k2 k3 k4 k5 k6 k7 kl b0 bl
    go_wp2_with fail
    refine (HRS.out _).mono ?_
    rintro e W10 ⟨rfl, rfl⟩
    go_wp2_with fail
    refine HANS.out.mono ?_
    rintro e W11 ⟨u, rfl, hrow, hb7⟩
    have HROW := Lib.hid hrow
    have HG7 := Lib.hid (HGB.out.below hb7)
    clear hrow hb7
    go_wp2
    go_ret
    exact ⟨u, rfl, HROW.out, HG7.out⟩
end
end Go.Proofs.Ytemlnkcokeckmaa
namespace Go.Proofs.Ytemlnkcokeckmaa
open Go.RowKit Go.Maps
attribute [local go_sem] Oper.semAt_some
set_option linter.unusedVariables false
set_option linter.unusedSimpArgs false

theorem ptell_ans (l : Pp.Le) (w : World) (hl : Pp.isL l) : Calls Try.prog 72 #[Pp.leV l] w fun e w' => ∃ V, e = .returned V ∧ Pp.Row w' V (Pp.pansR l) ∧ Below w.heap.size w w' :=
  (Pp.panswer_any l w hl).mono fun e w' ⟨V, h1, h2, h3⟩ => ⟨V, h1, .own h2 (Pp.pansR_bd l hl), h3⟩
theorem pread_ask {V : Value} {zs : List Int} {w : World} (hr : Pp.Row w V zs) : Calls Try.prog 116 #[V] w fun e w' => e = .returned (Pp.paR zs) ∧ Below w.heap.size w w' := by
  obtain ⟨A, c, rfl, h1, h2, h3, h4⟩ := hr
  exact Pp.preadAsk_any A _ c zs w h1 h2 h3 h4
section
variable {w0 V V' : World} {gb nb nm : Nat} {x : Bx} {most since now now' : Int} {av : Value} {f f' : Nf} {c c' : Nat} {M M' : List Bn} {os : List (Nat × Obj)}
set_option maxHeartbeats 4000000 in
theorem pmpAlone_gm (h : Gm w0 gb nb nm x most since av f c now M os V) (t : Int) (a : A2) (v : Value) (h0 : 0 ≤ since) (h1 : since ≤ 1099511627776000) (ht0 : 0 ≤ t) (ht1 : t ≤ 1099511627776) :
    Calls Try.prog 92 #[.pointer (some ⟨gb, 0, none⟩), .int .i64 t, adr a, v] V fun e V' => ∃ u, e = .returned u ∧ Pp.Row V' u (Pp.ansR ⟨0, 0, 0, 0, 0, 1, epoV since t, 0⟩ true) ∧ Gm w0 gb nb nm x most since av f c now M os V' := by
  have hg := h.alloc (.cells #[.int .u32 a.1, .int .i64 a.2] 38)
  have HG := Lib.hid hg
  have HEP := Lib.hid (epo_gm hg t h0 h1 ht0 ht1)
  have HE := Lib.hid (epoV_bd (since := since) (t := t))
  have HA := Lib.hid (fun W => Pp.tell_ans ⟨0, 0, 0, 0, 0, 1, epoV since t, 0⟩ true W (by have := HE.out; constructor <;> (simp only [Pp.W64]; omega)))
  clear h hg
  unfold Pp.leV Pp.leA at HA
  dsimp only at HA
  generalize epoV since t = E at HEP HA ⊢
  unfold adr
  go_enter Try.func92, Try.ntmps92
  go_wp2_with fail
  refine HEP.out.mono ?_
  rintro e W1 ⟨rfl, rfl⟩
  go_wp2_with fail
  refine (HA.out _).mono ?_
  rintro e W2 ⟨u, rfl, hrow, hb⟩
  have HROW := Lib.hid hrow
  have HG2 := Lib.hid (HG.out.below hb)
  clear hrow hb
  go_wp2
  go_ret
  exact ⟨u, rfl, HROW.out, HG2.out⟩
set_option maxHeartbeats 4000000 in
theorem pcpAlone_gm (h : Gm w0 gb nb nm x most since av f c now M os V) (t : Int) (a : A2) (v : Value) (h0 : 0 ≤ since) (h1 : since ≤ 1099511627776000) (ht0 : 0 ≤ t) (ht1 : t ≤ 1099511627776) :
    Calls Try.prog 93 #[.pointer (some ⟨gb, 0, none⟩), .int .i64 t, adr a, v] V fun e V' => ∃ u, e = .returned u ∧ Pp.Row V' u (Pp.pansR ⟨2, 0, 0, 0, 0, 1, epoV since t, 0⟩) ∧ Gm w0 gb nb nm x most since av f c now M os V' := by
  have hg := h.alloc (.cells #[.int .u32 a.1, .int .i64 a.2] 38)
  have HG := Lib.hid hg
  have HEP := Lib.hid (epo_gm hg t h0 h1 ht0 ht1)
  have HE := Lib.hid (epoV_bd (since := since) (t := t))
  have HA := Lib.hid (fun W => ptell_ans ⟨2, 0, 0, 0, 0, 1, epoV since t, 0⟩ W (by have := HE.out; constructor <;> (simp only [Pp.W64]; omega)))
  clear h hg
  unfold Pp.leV Pp.leA at HA
  dsimp only at HA
  generalize epoV since t = E at HEP HA ⊢
  unfold adr
  go_enter Try.func93, Try.ntmps93
  go_wp2_with fail
  refine HEP.out.mono ?_
  rintro e W1 ⟨rfl, rfl⟩
  go_wp2_with fail
  refine (HA.out _).mono ?_
  rintro e W2 ⟨u, rfl, hrow, hb⟩
  have HROW := Lib.hid hrow
  have HG2 := Lib.hid (HG.out.below hb)
  clear hrow hb
  go_wp2
  go_ret
  exact ⟨u, rfl, HROW.out, HG2.out⟩
set_option maxRecDepth 100000 in
set_option maxHeartbeats 8000000 in
/-- no request -/
theorem byPcp_not (h : Gm w0 gb nb nm x most since av f c now M os V) (t : Int) (a : A2) {v : Value} {zs : List Int} (hr : Pp.Row V v zs) (hz : ∀ l k, ¬ Pp.PAskOf zs l k) :
    Calls Try.prog 91 #[.pointer (some ⟨gb, 0, none⟩), .int .i64 t, adr a, v] V fun e V' => e = .returned (.slice none 0 0) ∧ Gm w0 gb nb nm x most since av f c now M os V' := by
  have hb0 : Below V.heap.size V (V.alloc (.cells #[.int .u32 a.1, .int .i64 a.2] 38)) := (Below.refl _ V).alloc (Nat.le_refl _) _
  have hR := Lib.hid (pread_ask (hr.below hb0))
  rw [Pp.paR_no hr.bd hz] at hR
  have HG := Lib.hid (h.below hb0)
  clear h hb0 hr
  unfold Pp.paT Pp.leV Pp.leA Pp.zeroL at hR
  unfold adr
  go_enter Try.func91, Try.ntmps91
  go_wp2_with fail
  refine hR.out.mono ?_
  rintro e V1 ⟨rfl, hb⟩
  have HG1 := Lib.hid ((HG.out.below hb).alloc (.cells #[.int .i64 0, .int .i64 0, .int .i64 0, .int .i64 0, .int .u64 0, .int .i64 0, .int .i64 0, .int .u32 0] 64))
  clear hb
  go_wp2
  go_ret
  exact ⟨rfl, HG1.out⟩
end
end Go.Proofs.Ytemlnkcokeckmaa
namespace Go.Proofs.Ytemlnkcokeckmaa
open Go.RowKit Go.Maps
set_option linter.unusedVariables false
set_option linter.unusedSimpArgs false

theorem row_nil (W : World) : Pp.Row W (.slice none 0 0) [] := ⟨none, 0, rfl, ⟨rfl, by simp, fun h => absurd h (by simp)⟩, Nat.le_refl _, Nat.zero_le _, fun _ => ⟨rfl, rfl⟩⟩
section
variable {w0 V V' : World} {gb nb nm : Nat} {x : Bx} {most since now now' : Int} {av : Value} {f f' : Nf} {c c' : Nat} {M M' : List Bn} {os : List (Nat × Obj)} {p q : Bool}
/-- a row that was just made is held -/
theorem hold_own (h : Gm w0 gb nb nm x most since av f c now M os V) (hb : Below V.heap.size V V') {u : Value} {zs : List Int} (ho : V'.ownsRow V.heap.size 5 1 u zs.length (Pp.B zs)) (hz : ∀ z ∈ zs, 0 ≤ z ∧ z ≤ 255) :
    ∃ OB, Gm w0 gb nb nm x most since av f c now M (OB ++ os) V' ∧ ∀ s' f' n' M' os1 W, Gm w0 gb nb nm x most s' av f' c n' M' os1 W → (∀ r ∈ OB, r ∈ os1) → Pp.Row W u zs := by
  have ho' := ho
  rcases ho'.2 with hn | ⟨g, cap, cur, rfl, hg, hobj, hrest⟩
  · refine ⟨[], h.below hb, fun s' f' n' M' os1 W hW _ => ?_⟩
    have h0 : zs = [] := List.eq_nil_of_length_eq_zero hn.2
    subst h0
    rw [hn.1]
    exact row_nil W
  · refine ⟨[(g, .cells cur 5 (0, 0))], h.fresh hb hg hobj, fun s' f' n' M' os1 W hW hs => ?_⟩
    have hk := hW.held (hs (g, .cells cur 5 (0, 0)) (by simp))
    exact .own (b := 0) ⟨ho.1, .inr ⟨g, cap, cur, rfl, Nat.zero_le _, hk, hrest⟩⟩ hz
/-- NAT-PMP's request, made and held -/
theorem ask_gm (h : Gm w0 gb nb nm x most since av f c now M os V) (l : Pp.Le) (hl : Pp.isL l) (hh : Bool) :
    Calls Try.prog 33 #[Pp.leV l, .bool hh] V fun e V' => ∃ u OB, e = .returned u ∧ Gm w0 gb nb nm x most since av f c now M (OB ++ os) V' ∧ (∀ s' f' n' M' os1 W, Gm w0 gb nb nm x most s' av f' c n' M' os1 W → (∀ r ∈ OB, r ∈ os1) → Pp.Row W u (Pp.askR l hh)) :=
  (Pp.ask_any l hh V hl).mono fun e V' ⟨u, h1, h2, h3⟩ => by
    obtain ⟨OB, g1, g2⟩ := hold_own h h3 h2 (Pp.askR_bd l hh)
    exact ⟨u, OB, h1, g1, g2⟩
/-- what a gateway answers and leaves that hears NAT-PMP's request about a port -/
def HearR (x : Bx) (most since now : Int) (M : List Bn) (t : Int) (a : A2) (l : Pp.Le) (r : List Int) (n' : Int) (M' : List Bn) : Prop :=
  ((goes now t && mayA a) = false ∧ r = [] ∧ n' = (inS x now M t 0 a).2.2.1 ∧ M' = (inS x now M t 0 a).2.2.2) ∨
  ((goes now t && mayA a) = true ∧ Pp.askB l false = false ∧ r = [] ∧ n' = t ∧ M' = liveM M t) ∨
  ((goes now t && mayA a) = true ∧ Pp.askB l false = true ∧ r = Pp.ansR (portA l (epoV since t) (srvS x most t (liveM M t) t (a.1, l.ins) l.prt l.secs)) false ∧ n' = (srvS x most t (liveM M t) t (a.1, l.ins) l.prt l.secs).now ∧ M' = (srvS x most t (liveM M t) t (a.1, l.ins) l.prt l.secs).M)
theorem ver_ask {l : Pp.Le} (h : Pp.askB l false = true) : verL (Pp.askR l false) = 0 := by
  unfold verL Pp.askR
  rw [if_pos h]
  simp
theorem ver_nil : verL [] = -1 := rfl
theorem hear_ask (h : Gm w0 gb nb nm x most since av f c now M os V) (hx : OkB x) (hok : Okb x M) (hM : OkM M) (t : Int) (a : A2) (ha : isA a) (v : Value) (l : Pp.Le) (han : An gb true q av os)
    (hrow : ∀ s' f' n' M' os1 W, Gm w0 gb nb nm x most s' av f' c n' M' os1 W → (∀ r ∈ os, r ∈ os1) → Pp.Row W v (Pp.askR l false)) (h0 : 0 ≤ since) (h1 : since ≤ 1099511627776000) (ht0 : 0 ≤ t) (hm : 1 ≤ most ∧ most ≤ 4294967295) :
    Calls Try.prog 32 #[.pointer (some ⟨gb, 0, none⟩), .int .i64 t, adr a, v] V fun e V' => ∃ u, e = .returned u ∧ ∃ r f' n' M', Pp.Row V' u r ∧ Gm w0 gb nb nm x most since av f' c n' M' os V' ∧ HearR x most since now M t a l r n' M' := by
  cases hb : (goes now t && mayA a) with
  | false =>
    refine (hear_bad h hM t a ha v hb).mono fun e V' hq => ?_
    exact ⟨_, hq.1, [], _, _, _, row_nil V', hq.2, .inl ⟨hb, rfl, rfl, rfl⟩⟩
  | true =>
    have hg : goes now t = true := by rw [Bool.and_eq_true] at hb; exact hb.1
    have ht1 : t ≤ 1099511627776 := by unfold goes at hg; simp only [Bool.and_eq_true, decide_eq_true_eq] at hg; exact hg.2
    have hok1 := hok.live t
    have hM1 : OkM (liveM M t) := ⟨Nat.le_trans (List.length_filter_le _ _) hM.len, fun b hb => hM.seen b (List.mem_filter.1 hb).1⟩
    refine hear_tell h hM t a ha v (Pp.askR l false) hb (Pp.askR_bd l false) han (fun f' n' M' W hW => hrow _ f' n' M' _ W hW (fun r hr => hr)) _ ?_
    cases hl : Pp.askB l false with
    | false =>
      have e : Pp.askR l false = [] := by unfold Pp.askR; rw [hl]; rfl
      have e2 : kAt true q (verL (Pp.askR l false)) = none := by rw [e, ver_nil]; unfold kAt; simp
      rw [e2]
      exact fun W hW => ⟨[], _, _, _, row_nil W, hW, .inr (.inl ⟨hb, hl, rfl, rfl, rfl⟩)⟩
    | true =>
      have e2 : kAt true q (verL (Pp.askR l false)) = some 90 := by rw [ver_ask hl]; unfold kAt kOf0; simp
      rw [e2]
      intro W os' hW
      refine (byPmp_port hW hx hok1 hM1 t a ha (hrow _ _ _ _ _ W hW (fun r hr => List.mem_append_right _ hr)) ⟨hl, rfl⟩ h0 h1 ht0 ht1 hm).mono fun e V' hq => ?_
      obtain ⟨u, q1, q2, q3⟩ := hq
      exact ⟨u, q1, _, _, _, _, q2, q3.sub (fun r hr => List.mem_append_right _ hr), .inr (.inr ⟨hb, hl, rfl, rfl, rfl⟩)⟩
end
end Go.Proofs.Ytemlnkcokeckmaa
namespace Go.Proofs.Ytemlnkcokeckmaa
open Go.RowKit Go.Maps
attribute [local go_sem] Oper.semAt_some
set_option linter.unusedVariables false
set_option linter.unusedSimpArgs false

section
variable {w0 V V' : World} {gb nb nm : Nat} {x : Bx} {most since now now' : Int} {av : Value} {f f' : Nf} {c c' : Nat} {M M' : List Bn} {os : List (Nat × Obj)} {p q : Bool}
/-- bytes that are written out -/
theorem row_lit {W : World} {g : Nat} {zs : List Int} (h : W.heap[g]? = some (.cells (Pp.B zs).toArray 5 (0, 0))) (hz : ∀ z ∈ zs, 0 ≤ z ∧ z ≤ 255) (hn : zs.length ≤ 1000) : Pp.Row W (.slice (some ⟨g, 0, none⟩) zs.length zs.length) zs := by
  refine .own (b := 0) ⟨by simp [Pp.B_length], .inr ⟨g, zs.length, (Pp.B zs).toArray, rfl, Nat.zero_le _, h, Nat.le_refl _, by unfold maxLen; omega, by simp [Pp.B_length], ?_⟩⟩ hz
  simp [Pp.B_length, List.take_of_length_le]
theorem hear_host (h : Gm w0 gb nb nm x most since av f c now M os V) (hM : OkM M) (t : Int) (a : A2) (ha : isA a) (v : Value) (han : An gb true q av os) (hb : (goes now t && mayA a) = true)
    (hrow : ∀ f' n' M' W, Gm w0 gb nb nm x most since av f' c n' M' os W → Pp.Row W v [0, 0]) (h0 : 0 ≤ since) (h1 : since ≤ 1099511627776000) (ht0 : 0 ≤ t) (hxh : 0 ≤ x.host ∧ x.host < 4294967296) :
    Calls Try.prog 32 #[.pointer (some ⟨gb, 0, none⟩), .int .i64 t, adr a, v] V fun e V' => ∃ u, e = .returned u ∧ ∃ f', Pp.Row V' u (Pp.ansR ⟨0, 0, 0, 0, 0, 0, epoV since t, x.host⟩ true) ∧ Gm w0 gb nb nm x most since av f' c t (liveM M t) os V' := by
  have hg : goes now t = true := by rw [Bool.and_eq_true] at hb; exact hb.1
  have ht1 : t ≤ 1099511627776 := by unfold goes at hg; simp only [Bool.and_eq_true, decide_eq_true_eq] at hg; exact hg.2
  refine hear_tell h hM t a ha v [0, 0] hb (by simp [Pp.Bd]) han hrow _ ?_
  have e2 : kAt true q (verL [0, 0]) = some 90 := by unfold kAt kOf0 verL; simp
  rw [e2]
  intro W os' hW
  refine (byPmp_host hW t a (hrow _ _ _ W (hW.sub (fun r hr => List.mem_append_right _ hr))) ⟨by decide, by decide⟩ h0 h1 ht0 ht1 hxh).mono fun e V' hq => ?_
  obtain ⟨u, q1, q2, q3⟩ := hq
  exact ⟨u, q1, _, q2, q3.sub (fun r hr => List.mem_append_right _ hr)⟩
theorem hear_two (h : Gm w0 gb nb nm x most since av f c now M os V) (hM : OkM M) (t : Int) (a : A2) (ha : isA a) (v : Value) (zs : List Int) (han : An gb true false av os) (hb : (goes now t && mayA a) = true) (hz : verL zs = 2) (hbd : Pp.Bd zs)
    (hrow : ∀ f' n' M' W, Gm w0 gb nb nm x most since av f' c n' M' os W → Pp.Row W v zs) (h0 : 0 ≤ since) (h1 : since ≤ 1099511627776000) (ht0 : 0 ≤ t) :
    Calls Try.prog 32 #[.pointer (some ⟨gb, 0, none⟩), .int .i64 t, adr a, v] V fun e V' => ∃ u, e = .returned u ∧ ∃ f', Pp.Row V' u (Pp.ansR ⟨0, 0, 0, 0, 0, 1, epoV since t, 0⟩ true) ∧ Gm w0 gb nb nm x most since av f' c t (liveM M t) os V' := by
  have hg : goes now t = true := by rw [Bool.and_eq_true] at hb; exact hb.1
  have ht1 : t ≤ 1099511627776 := by unfold goes at hg; simp only [Bool.and_eq_true, decide_eq_true_eq] at hg; exact hg.2
  refine hear_tell h hM t a ha v zs hb hbd han hrow _ ?_
  have e2 : kAt true false (verL zs) = some 92 := by rw [hz]; unfold kAt kOf2; simp
  rw [e2]
  intro W os' hW
  refine (pmpAlone_gm hW t a v h0 h1 ht0 ht1).mono fun e V' hq => ?_
  obtain ⟨u, q1, q2, q3⟩ := hq
  exact ⟨u, q1, _, q2, q3.sub (fun r hr => List.mem_append_right _ hr)⟩
end
theorem an_more {gb : Nat} {p q : Bool} {av : Value} {os os' : List (Nat × Obj)} (h : An gb p q av os) (hs : ∀ r ∈ os, r ∈ os') : An gb p q av os' := by
  unfold An at h ⊢
  split
  · rename_i hn; rw [if_pos hn] at h; exact h
  · rename_i hn
    rw [if_neg hn] at h
    obtain ⟨am, o, h1, h2, h3⟩ := h
    exact ⟨am, o, h1, hs _ h2, h3⟩
set_option maxRecDepth 100000 in
set_option maxHeartbeats 8000000 in
theorem gawake_any (w : World) : Calls Try.prog 30 #[] w fun e w' => e = .returned (.bool true) ∧ Below w.heap.size w w' := by
  go_enter Try.func30, Try.ntmps30
  go_wp2_with fail
  have h25 := box25 0 (by omega) w
  refine h25.mono ?_
  rintro e w1 ⟨rfl, hb1⟩
  have h10 := new_pl (w0 := w) (V := w1) (bxC 0) (bxC_is 0) (bxC_2 0) [] hb1 (by simp)
  clear hb1 h25
  go_wp2_with fail
  refine h10.mono ?_
  rintro e V1 ⟨g, rfl, hp1⟩
  clear h10
  have HGN := Lib.hid (gnew_pl hp1 true false 60 100 ⟨by omega, by omega⟩ ⟨by omega, by omega⟩)
  clear hp1
  go_wp2_with fail
  refine HGN.out.mono ?_
  rintro e V2 ⟨gb, nm, av, os', rfl, hg2, han⟩
  have HAN := Lib.hid han
  have hg3 := hg2.box (k := V2.heap.size) (Pp.B [0, 0]).toArray 5 rfl
  have HRL := Lib.hid (fun f' n' M' W (hW : Gm w gb g nm (bxC 0) 60 100 av f' 0 n' M' ((V2.heap.size, .cells (Pp.B [0, 0]).toArray 5 (0, 0)) :: (os' ++ [])) W) => row_lit (zs := [0, 0]) (hW.held (p := (V2.heap.size, .cells (Pp.B [0, 0]).toArray 5 (0, 0))) (by simp)) (by simp) (by simp))
  have hHH := hear_host hg3 ok_nil 105 (167772161, 5) ⟨⟨by decide, by decide⟩, by decide, by decide⟩ (.slice (some ⟨V2.heap.size, 0, none⟩) 2 2) (an_more han (fun r hr => by simp at hr; simp [hr])) (by decide) HRL.out (by omega) (by omega) (by omega) (by decide)
  have HHH := Lib.hid hHH
  clear hg2 han hg3 hHH
  unfold adr at HHH
  dsimp only at HHH
  go_wp2_with fail
  refine HHH.out.mono ?_
  rintro e V4 ⟨u, rfl, f4, hrow, hg4⟩
  rw [show epoV 100 105 = 5 by decide, show (bxC 0).host = 3405803777 from rfl] at hrow
  obtain ⟨A4, c4, rfl⟩ := row_form hrow
  have HRA := Lib.hid (Pp.read_ans_yes hrow (l := ⟨0, 0, 0, 0, 0, 0, 5, 3405803777⟩) (h := true) ⟨by constructor <;> simp [Pp.W64], by decide, rfl⟩)
  have HG4 := Lib.hid hg4
  unfold Pp.okV Pp.leV Pp.leA at HRA
  dsimp only at HRA
  generalize (Pp.ansR ⟨0, 0, 0, 0, 0, 0, 5, 3405803777⟩ true).length = n4 at HRA ⊢
  clear hrow hg4 HHH HRL HGN
  go_wp2_with fail
  refine HRA.out.mono ?_
  rintro e V5 ⟨rfl, hb5⟩
  have hg6 := (HG4.out.below hb5).alloc (.cells #[.int .i64 0, .int .i64 0, .int .i64 0, .int .i64 0, .int .u64 0, .int .i64 0, .int .i64 5, .int .u32 3405803777] 64)
  have HEP := epo_gm hg6 107 (by omega) (by omega) (by omega) (by omega)
  rw [show epoV 100 107 = 7 by decide] at HEP
  have HEP := Lib.hid HEP
  have hg7 := hg6.box (k := V5.heap.size + 1) (Pp.B [2]).toArray 5 (by simp)
  have h2 := hear_two hg7 (by rw [show liveM [] 105 = [] from rfl]; exact ok_nil) 105 (1, 5) ⟨⟨by decide, by decide⟩, by decide, by decide⟩ (.slice (some ⟨V5.heap.size + 1, 0, none⟩) 1 1) [2] (an_more HAN.out (fun r hr => by simp at hr; simp [hr])) (by decide) rfl (by simp [Pp.Bd]) (fun f' n' M' W hW => row_lit (zs := [2]) (hW.held (p := (V5.heap.size + 1, .cells (Pp.B [2]).toArray 5 (0, 0))) (by simp)) (by simp) (by simp)) (by omega) (by omega) (by omega)
  have H2 := Lib.hid h2
  unfold adr at H2
  dsimp only at H2
  clear hb5 hg6 hg7 h2 HRA HG4
  go_wp2_with fail
  refine HEP.out.mono ?_
  rintro e W6 ⟨rfl, rfl⟩
  go_wp2_with fail
  refine H2.out.mono ?_
  rintro e V8 ⟨u, rfl, f8, hrow, hg8⟩
  obtain ⟨A8, c8, rfl⟩ := row_form hrow
  have HL := Lib.hid hg8.low
  rw [show (Pp.ansR ⟨0, 0, 0, 0, 0, 1, epoV 100 105, 0⟩ true).length = 12 by decide +kernel]
  clear hrow hg8 H2 HEP
  go_wp2
  go_ret
  exact ⟨rfl, HL.out⟩
end Go.Proofs.Ytemlnkcokeckmaa
