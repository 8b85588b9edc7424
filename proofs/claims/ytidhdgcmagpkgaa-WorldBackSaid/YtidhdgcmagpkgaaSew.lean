/-
  The contract of a binding's see. Conditions: the binding lies in memory, with at most sixteen seen ones.
-/
import Derived.Test.YtidhdgcmagpkgaaSee
namespace Go.Proofs.Ytidhdgcmagpkgaa
open Go.RowKit
attribute [local go_sem] Oper.semAt_some
set_option linter.unusedVariables false

theorem own_slice2 {w : World} {base : Nat} {e : TypeId} {k : Nat} {v : Value} {n : Nat} {xs : List Value} (h : w.ownsRow base e k v n xs) : ∃ A c, v = .slice A n c := by
  rcases h.2 with ⟨rfl, rfl⟩ | ⟨g, cap, cur, rfl, _⟩
  · exact ⟨_, _, rfl⟩
  · exact ⟨_, _, rfl⟩
theorem tests50 {V : World} {cb : Nat} {t : A2} {v : Value} (c0 : V.cell? ⟨cb, 0, none⟩ = some (.int .u32 t.1)) (c1 : V.cell? ⟨cb, 1, none⟩ = some (.int .i64 t.2)) (hv : v.ownBlock ≠ some cb) :
    TestsA 61 #[.pointer (some ⟨cb, 0, none⟩)] (fun a => decide (a = t)) (fun k => v.ownBlock = some k) V := by
  intro a W hW
  have hcl := World.block_lt_of_cell? V _ c0
  exact same_any cb t a W ((World.cell?_of_block (hW.block cb hcl hv)).trans c0) ((World.cell?_of_block (hW.block cb hcl hv)).trans c1)

set_option maxRecDepth 100000 in
set_option maxHeartbeats 4000000 in
/-- the last part of see: the row is l, cut by now -/
theorem see_tail {w V : World} {d : Nd} {p : Nat} {b : Bn} {v : Value} {l : List A2} {a : A2} {K : World → Prop} (h : NdAt V ⟨p, { b with seen := l }, v⟩) (hl : l.length ≤ 15) :
    ∃ v' W', (∀ ty, (Builtin.append_ #[73, 73] ty #[v, .slice (some ⟨V.heap.size, 0, none⟩) 1 1]).run Try.prog (V.alloc (.cells #[.int .u32 a.1, .int .i64 a.2] 36)) = .ok v' W') ∧ (∃ A n c, v' = .slice A n c) ∧ W'.cell? ⟨p, 7, none⟩ = some v ∧ W'.frozen? ⟨p, 7, none⟩ = false ∧
      NdAt (W'.setCell ⟨p, 7, none⟩ v') ⟨p, { b with seen := l ++ [a] }, v'⟩ ∧ (∀ g, v'.ownBlock = some g → v.ownBlock = some g ∨ V.heap.size ≤ g) ∧ Keeps (fun k => k = p ∨ v.ownBlock = some k) V (W'.setCell ⟨p, 7, none⟩ v') := by
  obtain ⟨v', W', h1, h2, h3, h4, h5⟩ := see_end (a := a) h.row hl
  have hp : W'.heap[p]? = some (.cells (bnCells { b with seen := l } v) 75 (0, 0)) := (h5.block p h.lt (fun e => by
    obtain ⟨C, hC⟩ := own_obj h.row e
    exact clash h.own hC (by decide))).trans h.own
  refine ⟨v', W', h1, h2, (cells_of hp 7).1, (cells_of hp 7).2, put_seen (b := { b with seen := l }) hp h3, h4, (h5.mono (fun k _ e => Or.inr e)).set p 7 v' (.inl rfl)⟩

set_option maxRecDepth 100000 in
set_option maxHeartbeats 4000000 in
theorem see_any (d : Nd) (to : A2) (w : World) (h : NdAt w d) (hs : d.b.seen.length ≤ 16) :
    Calls Try.prog 43 #[ptr d.p, adr to] w (Saw w d (seeL d.b.seen to)) := by
  have c7 := h.cells.2.1
  have f7 := h.cells.2.2 7
  have hlt := h.lt
  have H := Lib.hid h
  have hb0 : Below w.heap.size w (w.alloc (.cells #[.int .u32 to.1, .int .i64 to.2] 36)) := (Below.refl _ _).alloc (Nat.le_refl _) _
  have hV0 : NdAt (w.alloc (.cells #[.int .u32 to.1, .int .i64 to.2] 36)) d := h.kept (hb0.block _ hlt) (fun g hg => hb0.block g (h.rowlt hg))
  have hD := deleteA w.heap.size (fun a => decide (a = to)) d.sv d.b.seen _ hV0.row (by omega) (tests50 (by go_simp) (by go_simp) (fun e => by have := h.rowlt e; omega))
  obtain ⟨A0, m0, cc0, hsv⟩ := own_slice h.row
  have HSV := Lib.hid hsv
  have HV0 := Lib.hid hV0
  have HL := Lib.hid hs
  have HS2 : Hid (seeL d.b.seen to = cut16 (d.b.seen.filter (fun p => !decide (p = to))) ++ [to]) := Lib.hid rfl
  have HFL : Hid ((d.b.seen.filter (fun p => !decide (p = to))).length ≤ 16) := Lib.hid (by have := List.length_filter_le (fun p => !decide (p = to)) d.b.seen; omega)
  clear h hs hV0 hsv hb0
  unfold ptr adr
  generalize d.b.seen.filter (fun p => !decide (p = to)) = l1 at *
  go_enter Try.func43, Try.ntmps43
  go_wp2_with fail
  refine hD.mono ?_
  rintro e w1 ⟨v1, rfl, h1, h2, h3⟩
  obtain ⟨A1, cc1, rfl⟩ := own_slice2 h2
  have hne : ∀ k, d.sv.ownBlock = some k → k ≠ d.p := fun k hk e => by
    obtain ⟨C, hC⟩ := own_obj H.out.row hk
    rw [e] at hC
    exact clash H.out.own hC (by decide)
  have hp1 : w1.heap[d.p]? = some (.cells (bnCells d.b d.sv) 75 (0, 0)) := (h3.block d.p (by simp; omega) (fun e => hne _ e rfl)).trans HV0.out.own
  have d7 : w1.cell? ⟨d.p, 7, none⟩ = some d.sv := (cells_of hp1 7).1
  have g7 := (cells_of hp1 7).2
  have b0 : w1.cell? ⟨w.heap.size, 0, none⟩ = some (.int .u32 to.1) := (World.cell?_of_block (h3.block w.heap.size (by simp) (fun e => by have := H.out.rowlt e; omega))).trans (by go_simp)
  have b1 : w1.cell? ⟨w.heap.size, 1, none⟩ = some (.int .i64 to.2) := (World.cell?_of_block (h3.block w.heap.size (by simp) (fun e => by have := H.out.rowlt e; omega))).trans (by go_simp)
  have hk1 : Keeps (fun k => k = d.p ∨ d.sv.ownBlock = some k) w (w1.setCell ⟨d.p, 7, none⟩ (.slice A1 l1.length cc1)) := (((Keeps.refl _ w).alloc _).trans (h3.mono (fun k _ e => Or.inr e))).set d.p 7 _ (.inl rfl)
  have hN1 := put_seen (b := d.b) (sv := d.sv) hp1 h2
  have HN1 := Lib.hid hN1; have HK1 := Lib.hid hk1; have H1 := Lib.hid h1
  have e7 : (w1.setCell ⟨d.p, 7, none⟩ (.slice A1 l1.length cc1)).cell? ⟨d.p, 7, none⟩ = some (.slice A1 l1.length cc1) := (cells_of hN1.own 7).1
  have k7 := (cells_of hN1.own 7).2
  have x0 : (w1.setCell ⟨d.p, 7, none⟩ (.slice A1 l1.length cc1)).cell? ⟨w.heap.size, 0, none⟩ = some (.int .u32 to.1) := (World.cell?_of_block (heap_setCell_other _ ⟨d.p, 7, none⟩ w.heap.size _ (fun e => by have e2 : w.heap.size = d.p := e; omega))).trans b0
  have x1 : (w1.setCell ⟨d.p, 7, none⟩ (.slice A1 l1.length cc1)).cell? ⟨w.heap.size, 1, none⟩ = some (.int .i64 to.2) := (World.cell?_of_block (heap_setCell_other _ ⟨d.p, 7, none⟩ w.heap.size _ (fun e => by have e2 : w.heap.size = d.p := e; omega))).trans b1
  clear hN1 hk1 h1 h2 h3 hp1 c7 f7 hne
  by_cases h16 : l1.length = 16
  · have HCUT : Hid (cut16 l1 = l1.drop 1) := Lib.hid (if_pos h16)
    have h15 : (l1.drop 1).length ≤ 15 := by rw [List.length_drop]; omega
    have h16z : (l1.length : Int) = 16 := by omega
    obtain ⟨g, cg, hve, hC⟩ := cut_run HN1.out.row h16
    rw [h16] at hve
    cases hve
    rw [h16] at HN1 HK1 e7 k7 x0 x1 H1 hC
    go_wp2_with fail
    have hrl : Hid (w.heap.size ≤ w1.heap.size) := Lib.hid (by have := HK1.out.size; simpa using this)
    generalize w1.setCell ⟨d.p, 7, none⟩ (.slice (some ⟨g, 0, none⟩) 16 cc1) = V0 at *
    refine hC.mono ?_
    rintro e w2 ⟨v2, rfl, q1, q2, q3⟩
    obtain ⟨A2', c2', rfl⟩ := own_slice2 q2
    have hgs : d.sv.ownBlock = some g := by rw [← H1.out]; rfl
    have hgp : g ≠ d.p := fun e => by
      obtain ⟨C, hC⟩ := own_obj H.out.row hgs
      rw [e] at hC
      exact clash H.out.own hC (by decide)
    have hgB : g < w.heap.size := H.out.rowlt hgs
    have hlV : d.p < V0.heap.size := HN1.out.lt
    have hp2 : w2.heap[d.p]? = some (.cells (bnCells { d.b with seen := l1 } (.slice (some ⟨g, 0, none⟩) 16 cc1)) 75 (0, 0)) := (q3.block d.p hlV (fun e => hgp e.symm)).trans HN1.out.own
    have m7 : w2.cell? ⟨d.p, 7, none⟩ = some (.slice (some ⟨g, 0, none⟩) 16 cc1) := (cells_of hp2 7).1
    have n7 := (cells_of hp2 7).2
    have hBV : w.heap.size < V0.heap.size := World.block_lt_of_cell? V0 _ x0
    have z0 := (World.cell?_of_block (a := ⟨w.heap.size, 0, none⟩) (q3.block w.heap.size hBV (fun e => by omega))).trans x0
    have z1 := (World.cell?_of_block (a := ⟨w.heap.size, 1, none⟩) (q3.block w.heap.size hBV (fun e => by omega))).trans x1
    have hN2 := put_seen (b := { d.b with seen := l1 }) (l := l1.drop 1) hp2 (by rw [List.length_drop, h16]; exact q2)
    have hk2 : Keeps (fun k => k = d.p ∨ d.sv.ownBlock = some k) w (w2.setCell ⟨d.p, 7, none⟩ (.slice A2' 15 c2')) := (HK1.out.trans (q3.mono (fun k _ e => Or.inr (by rw [e]; exact hgs)))).set d.p 7 _ (.inl rfl)
    clear e7 k7 x0 x1
    have e7 : (w2.setCell ⟨d.p, 7, none⟩ (.slice A2' 15 c2')).cell? ⟨d.p, 7, none⟩ = some (.slice A2' 15 c2') := (cells_of hN2.own 7).1
    have k7 := (cells_of hN2.own 7).2
    have x0 := (World.cell?_of_block (a := ⟨w.heap.size, 0, none⟩) (heap_setCell_other w2 ⟨d.p, 7, none⟩ w.heap.size (.slice A2' 15 c2') (fun e => by have e2 : w.heap.size = d.p := e; omega))).trans z0
    have x1 := (World.cell?_of_block (a := ⟨w.heap.size, 1, none⟩) (heap_setCell_other w2 ⟨d.p, 7, none⟩ w.heap.size (.slice A2' 15 c2') (fun e => by have e2 : w.heap.size = d.p := e; omega))).trans z1
    have HN2 := Lib.hid hN2; have HK2 := Lib.hid hk2; have H2 : Hid (Value.ownBlock (.slice A2' 15 c2') = d.sv.ownBlock) := Lib.hid (q1.trans H1.out)
    clear hN2 hk2 q1 q2 q3 hp2 z0 z1
    go_wp2_with fail
    generalize w2.setCell ⟨d.p, 7, none⟩ (.slice A2' 15 c2') = V at *
    obtain ⟨v9, W9, t1, ⟨A9, n9, c9, rfl⟩, t3, t4, t5, t6, t7⟩ := see_tail (w := w) (d := d) (a := to) (K := fun _ => True) (V := V.drew) (p := d.p) (b := d.b) (v := .slice A2' 15 c2') (l := l1.drop 1) (HN2.out.kept (w' := V.drew) rfl (fun _ _ => rfl)) h15
    have T1 := Lib.hid t1
    have HEND : Hid (Saw w d (l1.drop 1 ++ [to]) (.returned (.tuple #[])) (W9.setCell ⟨d.p, 7, none⟩ (.slice A9 n9 c9))) := Lib.hid ⟨rfl, _, t5, fun g hg => ?hg, ?hk⟩
    case hg =>
      rcases t6 g hg with e | e
      · exact .inl ((fun g e => (H2.out ▸ e)) g e)
      · exact .inr (Nat.le_trans HK2.out.size e)
    case hk => exact (HK2.out.trans (.all (below_drw (Below.refl _ V) 1))).then t7 (fun i hi e => e.imp id ((fun g e => (H2.out ▸ e)) i))
    clear t1 t5 t6 t7
    have e8 : V.drew.cell? ⟨d.p, 7, none⟩ = some (.slice A2' 15 c2') := e7
    have y0 : V.drew.cell? ⟨w.heap.size, 0, none⟩ = some (.int .u32 to.1) := x0
    have y1 : V.drew.cell? ⟨w.heap.size, 1, none⟩ = some (.int .i64 to.2) := x1
    have y2 : d.p < V.heap.size := Nat.lt_of_lt_of_le hlt HK2.out.size
    have y3 : w.heap.size < V.heap.size := World.block_lt_of_cell? V _ x0
    go_region_law (refine step_run rfl (.tmp 31) (.tmp 33) 73 rfl (v1 := .slice A2' 15 c2') (v2 := .slice (some ⟨V.heap.size, 0, none⟩) 1 1) (v := .slice A9 n9 c9) (W' := W9) rfl rfl (T1.out 73) ?_)
    all_goals
      go_wp2
      go_end0
      rw [HS2.out, HCUT.out]
      exact HEND.out

  · have HCUT : Hid (cut16 l1 = l1) := Lib.hid (if_neg h16)
    have h15 : l1.length ≤ 15 := by have := HFL.out; omega
    have h16z : ¬ (l1.length : Int) = 16 := by omega
    go_wp2_with fail
    generalize w1.setCell ⟨d.p, 7, none⟩ (.slice A1 l1.length cc1) = V at *
    obtain ⟨v9, W9, t1, ⟨A9, n9, c9, rfl⟩, t3, t4, t5, t6, t7⟩ := see_tail (w := w) (d := d) (a := to) (K := fun _ => True) (V := V.drew) (p := d.p) (b := d.b) (v := .slice A1 l1.length cc1) (l := l1) (HN1.out.kept (w' := V.drew) rfl (fun _ _ => rfl)) h15
    have T1 := Lib.hid t1
    have HEND : Hid (Saw w d (l1 ++ [to]) (.returned (.tuple #[])) (W9.setCell ⟨d.p, 7, none⟩ (.slice A9 n9 c9))) := Lib.hid ⟨rfl, _, t5, fun g hg => ?hg, ?hk⟩
    case hg =>
      rcases t6 g hg with e | e
      · exact .inl ((fun g e => (H1.out ▸ e)) g e)
      · exact .inr (Nat.le_trans HK1.out.size e)
    case hk => exact (HK1.out.trans (.all (below_drw (Below.refl _ V) 1))).then t7 (fun i hi e => e.imp id ((fun g e => (H1.out ▸ e)) i))
    clear t1 t5 t6 t7
    have e8 : V.drew.cell? ⟨d.p, 7, none⟩ = some (.slice A1 l1.length cc1) := e7
    have y0 : V.drew.cell? ⟨w.heap.size, 0, none⟩ = some (.int .u32 to.1) := x0
    have y1 : V.drew.cell? ⟨w.heap.size, 1, none⟩ = some (.int .i64 to.2) := x1
    have y2 : d.p < V.heap.size := Nat.lt_of_lt_of_le hlt HK1.out.size
    have y3 : w.heap.size < V.heap.size := World.block_lt_of_cell? V _ x0
    go_region_law (refine step_run rfl (.tmp 31) (.tmp 33) 73 rfl (v1 := .slice A1 l1.length cc1) (v2 := .slice (some ⟨V.heap.size, 0, none⟩) 1 1) (v := .slice A9 n9 c9) (W' := W9) rfl rfl (T1.out 73) ?_)
    all_goals
      go_wp2
      go_end0
      rw [HS2.out, HCUT.out]
      exact HEND.out
end Go.Proofs.Ytidhdgcmagpkgaa
