/-
  The contract of the document's own Take. Conditions: the net lies in memory; at most 1000 datagrams.
-/
import Derived.Test.YthfdnidcmkjmoaaNt
import Derived.Test.YthfdnidcmkjmoaaTil
namespace Go.Proofs.Ythfdnidcmkjmoaa
open Go.RowKit
attribute [local go_sem] Oper.semAt_some
set_option linter.unusedVariables false
section
variable {w : World} {T nb : Nat} {last : Int} {kv kv' : Value} {L L' : List Md}
theorem add_spot6 (b o k : Nat) : (⟨b, o, none⟩ : Addr).add k = ⟨b, o + k, none⟩ := by unfold Addr.add; split <;> simp_all
/-- datagrams behind a row of the call's own -/
theorem appD {B0 : Nat} {W : World} {v : Value} {l1 l2 : List Md} (hr : W.ownsRow B0 43 6 v l1.length (cellsD l1)) (ad : Addr) (c : Nat) (hn : ∀ j u, (cellsD l2)[j]? = some u → W.cell? (ad.add j) = some u) (hl : l1.length + l2.length ≤ 1000) (hB : B0 ≤ W.heap.size) :
    ∃ A' c' W', (∀ ty, (Builtin.append_ #[28, 28] ty #[v, .slice (some ad) l2.length c]).run Try.prog W = .ok (.slice A' (l1 ++ l2).length c') W') ∧ W'.ownsRow B0 43 6 (.slice A' (l1 ++ l2).length c') (l1 ++ l2).length (cellsD (l1 ++ l2)) ∧ W.grownBy W' v.ownBlock := by
  obtain ⟨i0, hi0, hz0, hz1, hz2⟩ := info_parts top_info
  have hrun := fun ty => run_append_own_at (P := Try.prog) W B0 28 ty 43 i0 _ 6 64 Try.underlying28 hi0 hz0 hz1 hz2 rfl (by decide) v l1.length (cellsD l1) hr ad l2.length c (cellsD l2) (by rw [cellsD_len]) hn (cellsD_one _) (by unfold maxLen; omega) (by omega) hB
  obtain ⟨v', w', r0, r1, r2, r3, r4⟩ := hrun 28
  have e1 : ∃ A' c', v' = .slice A' (l1 ++ l2).length c' := by
    rw [List.length_append]
    rcases r1.2 with ⟨e, e0⟩ | ⟨g, cap, cur, e, _⟩
    · rw [e0]; exact ⟨_, _, e⟩
    · exact ⟨_, _, e⟩
  obtain ⟨A', c', rfl⟩ := e1
  refine ⟨A', c', w', fun ty => by rw [← r0]; rfl, ?_, r2⟩
  rw [List.length_append, cellsD_append]
  rw [List.length_append] at r1
  exact r1
theorem own0 (W : World) : (W.alloc (.cells #[] 43)).ownsRow W.heap.size 43 6 (.slice (some ⟨W.heap.size, 0, none⟩) 0 0) ([] : List Md).length (cellsD []) := World.ownsRow_lit W #[] 0 (Nat.le_refl _) (Nat.zero_le _) rfl
theorem own_grownD {W w w' : World} {v : Value} {n : Nat} {xs : List Value} (hown : w.ownsRow W.heap.size 43 6 v n xs) (hb : Below W.heap.size W w) (hg : w.grownBy w' v.ownBlock) : Below W.heap.size W w' :=
  hb.grown hg hb.size (fun g h => (hown.lt g h).1)
/-- cells of a part of a net's row -/
theorem part_cells (h : Na w T nb last kv L) {g : Nat} (hg : kv.ownBlock = some g) (a m : Nat) (ham : a + m ≤ L.length) : ∀ j u, (cellsD ((L.drop a).take m))[j]? = some u → w.cell? ((⟨g, a * 6, none⟩ : Addr).add j) = some u := by
  intro j u hj
  have hj2 := (List.getElem?_eq_some_iff.1 hj).1
  rw [cellsD_len, List.length_take, List.length_drop] at hj2
  obtain ⟨k, i, hi, rfl⟩ : ∃ k i, i < 6 ∧ j = k * 6 + i := ⟨j / 6, j % 6, Nat.mod_lt _ (by omega), by omega⟩
  have hk : k < m := by omega
  have hm : ((L.drop a).take m)[k]? = some L[a + k] := by
    rw [List.getElem?_take_of_lt hk, List.getElem?_drop]
    exact List.getElem?_eq_getElem (by omega)
  rw [cellsD_at hm i hi] at hj
  obtain ⟨A, c, rfl, -, -, -, hat⟩ := h.form
  obtain ⟨g', rfl, _, hgb, d0, d1, d2, d3, d4, d5⟩ := hat (a + k) L[a + k] (List.getElem?_eq_getElem (by omega))
  rw [hg] at hgb
  cases hgb
  rw [add_spot6]
  have e : a * 6 + (k * 6 + i) = (a + k) * 6 + i := by omega
  rw [e]
  rw [← hj]
  clear hj hj2 e
  obtain rfl | rfl | rfl | rfl | rfl | rfl : i = 0 ∨ i = 1 ∨ i = 2 ∨ i = 3 ∨ i = 4 ∨ i = 5 := by omega
  · exact d0
  · exact d1
  · exact d2
  · exact d3
  · exact d4
  · exact d5

set_option maxRecDepth 100000 in
set_option maxHeartbeats 4000000 in
theorem rtake_n (h : Na w T nb last kv L) (no : Int) (hL : L.length ≤ 1000) :
    Calls Try.prog 17 #[.pointer (some ⟨nb, 0, none⟩), .int .i64 no] w (TakenR (fun _ _ _ => True) w T nb last kv L (takeN (L.map Md.d) no)) := by
  have hb0 : Below w.heap.size w (w.alloc (.cells (sentC 0 (0, 0) (0, 0) (.slice none 0 0)) 43)) := (Below.refl _ w).alloc (Nat.le_refl _) _
  have HF := Lib.hid (rfind_n (h.below hb0) no)
  have H := Lib.hid h
  have HB0 := Lib.hid hb0
  have HR0 : Hid ((w.alloc (.cells (sentC 0 (0, 0) (0, 0) (.slice none 0 0)) 43)).heap[w.heap.size]? = some (.cells (sentC 0 (0, 0) (0, 0) (.slice none 0 0)) 43 (0, 0))) := Lib.hid (World.alloc_heap_new w _)
  cases hf : findN (L.map Md.d) no with
  | none =>
    have e1 : findI (L.map Md.d) no = -1 := by unfold findI; rw [hf]
    rw [e1] at HF
    rw [takeN_none hf]
    clear h e1 hf hb0
    have HDF : Hid (takeV default (.slice none 0 0) 5 = .tuple #[.agg #[.int .i64 0, .int .u32 0, .int .i64 0, .int .u32 0, .int .i64 0, .slice none 0 0], .int .i64 5]) := Lib.hid rfl
    unfold sentC at *
    dsimp only at *
    go_enter Try.func17, Try.ntmps17
    go_wp2_with fail
    refine HF.out.mono ?_
    rintro e w1 ⟨rfl, rfl⟩
    have hb1 := Below.refl (w.alloc (.cells #[.int .i64 0, .int .u32 0, .int .i64 0, .int .u32 0, .int .i64 0, .slice none 0 0] 43)).heap.size (w.alloc (.cells #[.int .i64 0, .int .u32 0, .int .i64 0, .int .u32 0, .int .i64 0, .slice none 0 0] 43))
    generalize hW1 : w.alloc (.cells #[.int .i64 0, .int .u32 0, .int .i64 0, .int .u32 0, .int .i64 0, .slice none 0 0] 43) = w1 at *
    have HB1 := Lib.hid (HB0.out.trans (hb1.mono HB0.out.size))
    have r1 := HR0.out
    have HEND : Hid (Below w.heap.size w (six w1 w.heap.size (.int .i64 0) (.int .u32 0) (.int .i64 0) (.int .u32 0) (.int .i64 0) (.slice none 0 0))) := Lib.hid (HB1.out.trans ((six_keeps w1 w.heap.size (.int .i64 0) (.int .u32 0) (.int .i64 0) (.int .u32 0) (.int .i64 0) (.slice none 0 0)).below (fun k hk => by omega) HB1.out.size))
    obtain ⟨z0, z1, z2, z3, z4, z5⟩ := six_cells r1 rfl (.int .i64 0) (.int .u32 0) (.int .i64 0) (.int .u32 0) (.int .i64 0) (.slice none 0 0)
    have y0 := (cells_of r1 0).1; have y1 := (cells_of r1 1).1; have y2 := (cells_of r1 2).1; have y3 := (cells_of r1 3).1; have y4 := (cells_of r1 4).1; have y5 := (cells_of r1 5).1
    have x0 := (cells_of r1 0).2; have x1 := (cells_of r1 1).2; have x2 := (cells_of r1 2).2; have x3 := (cells_of r1 3).2; have x4 := (cells_of r1 4).2; have x5 := (cells_of r1 5).2
    simp at y0 y1 y2 y3 y4 y5
    clear hb1 r1
    go_wp2
    exact ⟨rfl, takeV default (.slice none 0 0) 5, by rw [HDF.out]; simp [results, Try.results17, go_sem, z0, z1, z2, z3, z4, z5], .slice none 0 0, kv, L, rfl, .same H.out HEND.out, rfl, .nil _, fun g hg => trivial⟩
  | some k =>
    obtain ⟨m, hm, ht⟩ := takeN_some hf
    have hk : k < L.length := (List.getElem?_eq_some_iff.1 hm).1
    have e1 : findI (L.map Md.d) no = (k : Int) := by unfold findI; rw [hf]
    rw [e1] at HF
    rw [ht]
    have HM := Lib.hid hm
    obtain ⟨n1, hn1⟩ : ∃ n1, L.length = n1 + 1 := ⟨L.length - 1, by omega⟩
    clear h e1 hf hb0 ht hm
    unfold sentC at *
    dsimp only at *
    go_enter Try.func17, Try.ntmps17
    go_wp2_with fail
    refine HF.out.mono ?_
    rintro e w1 ⟨rfl, rfl⟩
    have hb1 := Below.refl (w.alloc (.cells #[.int .i64 0, .int .u32 0, .int .i64 0, .int .u32 0, .int .i64 0, .slice none 0 0] 43)).heap.size (w.alloc (.cells #[.int .i64 0, .int .u32 0, .int .i64 0, .int .u32 0, .int .i64 0, .slice none 0 0] 43))
    generalize hW1 : w.alloc (.cells #[.int .i64 0, .int .u32 0, .int .i64 0, .int .u32 0, .int .i64 0, .slice none 0 0] 43) = w1 at *
    have hb1' := HB0.out.trans (hb1.mono HB0.out.size)
    have HB1 := Lib.hid hb1'
    have HR1 := Lib.hid (HR0.out)
    have h1w := H.out.below hb1'
    clear hb1 hb1'
    obtain ⟨A, c, hkv, hlc, hcm, -, hat⟩ := h1w.form
    obtain ⟨g, rfl, gl, hgb, d0, d1, d2, d3, d4, d5⟩ := hat k m HM.out
    obtain ⟨c0, c1, fr, hl⟩ := h1w.cells
    have f0 := fr 0
    rw [hkv, hn1] at c0
    unfold maxLen at hcm
    unfold Md.v at d5
    have k1 : (k : Int) < (n1 : Int) + 1 := by omega
    have HKV := Lib.hid hkv; have H1 := Lib.hid h1w
    clear hat fr h1w
    have hcur : ∃ cur, w1.heap[g]? = some (.cells cur 43 (0, 0)) ∧ cur.size = c * 6 ∧ cur.toList.take ((n1 + 1) * 6) = cellsD L := by
      rcases H1.out.row.2 with ⟨e, e0⟩ | ⟨g', cap, cur, e, hg', hgg, q1, q2, q3, q4⟩
      · omega
      · have e2 := HKV.out.symm.trans e
        simp only [Value.slice.injEq, Option.some.injEq, Addr.mk.injEq, and_true, true_and] at e2
        obtain ⟨e3, e4⟩ := e2
        subst e3; subst e4
        exact ⟨cur, hgg, q3, by rw [← hn1]; exact q4⟩
    obtain ⟨cur, r1, r2, r3⟩ := hcur
    have hgn : g ≠ nb := fun e => H1.out.ne_row (by rw [hgb, e])
    go_upto_region 5 with (fail)
    obtain ⟨w2, hw2⟩ : ∃ W, w1.alloc (.cells #[.int .i64 m.d.no, .int .u32 m.d.f.1, .int .i64 m.d.f.2, .int .u32 m.d.t.1, .int .i64 m.d.t.2, .slice m.A m.d.b.length m.c] 43) = W := ⟨_, rfl⟩
    have hb2 : Below w1.heap.size w1 w2 := by rw [← hw2]; exact (Below.refl _ _).alloc (Nat.le_refl _) _
    have hs2 : w2.heap[w1.heap.size]? = some (.cells #[.int .i64 m.d.no, .int .u32 m.d.f.1, .int .i64 m.d.f.2, .int .u32 m.d.t.1, .int .i64 m.d.t.2, .slice m.A m.d.b.length m.c] 43 (0, 0)) := by rw [← hw2]; exact World.alloc_heap_new w1 _
    try rw [hw2]
    clear hw2
    have HB2 := Lib.hid hb2; have HS2 := Lib.hid hs2
    have HN2 := Lib.hid (H1.out.below hb2)
    have hl2 : nb < w2.heap.size := by have := hb2.size; omega
    have HGB := Lib.hid hgb
    have HW1S : Hid (w.heap.size < w1.heap.size) := Lib.hid (Array.getElem?_eq_some_iff.1 HR1.out).1
    have hkc : k < c := by omega
    clear c0 c1 d0 d1 d2 d3 d4 d5 hb2 hs2 f0 hgb
    by_cases hend : c = k + 1
    · obtain rfl : k = n1 := by omega
      subst hend
      have HT : Hid ((L.take k).length = k) := Lib.hid (by rw [List.length_take]; omega)
      have HD : Hid ((L.drop (k + 1)).length = 0) := Lib.hid (by rw [List.length_drop]; omega)
      have HLE : Hid ((L.take k ++ L.drop (k + 1)).length = k) := Lib.hid (by rw [List.length_append, HT.out, HD.out]; omega)
      have HCX : Hid (∀ W, Below w2.heap.size w2 W → W.cell? ⟨nb, 0, none⟩ = some (.slice (some ⟨g, 0, none⟩) (k + 1) (k + 1)) ∧ nb < W.heap.size ∧ (∀ j, W.frozen? ⟨nb, j, none⟩ = false)) := Lib.hid (fun W h => by
        have := (HN2.out.below h).cells
        rw [HKV.out, hn1] at this
        exact ⟨this.1, this.2.2.2, this.2.2.1⟩)
      have HBA : Hid (∀ q o, Below w2.heap.size w2 ((w2.drewN q).alloc o)) := Lib.hid (fun q o => (below_drw (Below.refl _ w2) q).alloc (Nat.le_refl _) _)
      obtain ⟨A8, c8, W8, r8, o8, g8⟩ := appD (l1 := []) (l2 := L.take k) (own0 (w2.drewN 1)) ⟨g, 0, none⟩ (k + 1) (fun j u hj => by
        have := part_cells (HN2.out.below (HBA.out 1 (.cells #[] 43))) HGB.out 0 k (by omega) j u (by simpa using hj)
        simpa using this) (by rw [HT.out]; simp; omega) (by simp)
      have HB8 : Hid (Below w2.heap.size w2 W8) := Lib.hid (own_grownD (own0 (w2.drewN 1)) (HBA.out 1 _) g8)
      rw [List.nil_append, HT.out] at r8
      rw [List.nil_append] at o8
      have o8' : W8.ownsRow w2.heap.size 43 6 (.slice A8 k c8) (L.take k).length (cellsD (L.take k)) := by rw [HT.out] at o8 ⊢; exact o8
      obtain ⟨A9, c9, W9, r9, o9, g9⟩ := appD (l1 := L.take k) (l2 := L.drop (k + 1)) o8' ⟨g, 0, none⟩ (0) (fun j u hj => by
        have := (List.getElem?_eq_some_iff.1 hj).1
        rw [cellsD_len, HD.out] at this
        omega) (by rw [HT.out, HD.out]; omega) HB8.out.size
      have HB9 : Hid (Below w2.heap.size w2 W9) := Lib.hid (own_grownD o8' HB8.out g9)
      rw [HLE.out, HD.out] at r9
      rw [HLE.out] at o9
      have HR8 := Lib.hid r8; have HR9 := Lib.hid r9
      have hle : (L.eraseIdx k).length = k := by rw [List.eraseIdx_eq_take_drop_succ]; exact HLE.out
      obtain ⟨q1, q2⟩ := na_row (L' := L.eraseIdx k) (kv' := .slice A9 k c9) (W := W9) HN2.out (fun d hd => HN2.out.mds d (List.mem_of_mem_eraseIdx hd)) (by rw [hle, List.eraseIdx_eq_take_drop_succ]; exact ⟨o9.1, o9.2.imp id (fun ⟨g, cap, cur, e1, e2, e3⟩ => ⟨g, cap, cur, e1, Nat.zero_le _, e3⟩)⟩) (.ofBelow HB9.out (fun i h1 h2 => by omega))
      have hlw1 : w1.heap.size < w2.heap.size := (Array.getElem?_eq_some_iff.1 HS2.out).1
      have htop : ∀ i, Top nb kv i → i < w1.heap.size := fun i hi => H1.out.foot_lt (.inl hi)
      have htop0 : ∀ i, Top nb kv i → i < w.heap.size := fun i hi => H.out.foot_lt (.inl hi)
      have s4 := (q2.block w1.heap.size hlw1 (fun e => by have := htop _ e; omega)).trans HS2.out
      have hw1s := HW1S.out
      have r5 := (q2.block w.heap.size (by omega) (fun e => by have := htop0 _ e; omega)).trans ((HB2.out.block w.heap.size hw1s).trans HR1.out)
      have y0 := (cells_of s4 0).1; have y1 := (cells_of s4 1).1; have y2 := (cells_of s4 2).1; have y3 := (cells_of s4 3).1; have y4 := (cells_of s4 4).1; have y5 := (cells_of s4 5).1
      simp at y0 y1 y2 y3 y4 y5
      have hkE : Keeps (Top nb kv) w (six (W9.setCell ⟨nb, 0, none⟩ (.slice A9 k c9)) w.heap.size (.int .i64 m.d.no) (.int .u32 m.d.f.1) (.int .i64 m.d.f.2) (.int .u32 m.d.t.1) (.int .i64 m.d.t.2) (.slice m.A m.d.b.length m.c)) :=
        ((Keeps.all (S := Top nb kv) (HB1.out.trans (HB2.out.mono HB1.out.size))).trans q2).then (six_keeps _ w.heap.size _ _ _ _ _ _) (fun i hi e => by omega)
      have hb1s := HB1.out.size
      have hft : ∀ i, FootN nb (.slice A9 k c9) (L.eraseIdx k) i → FootN nb kv L i ∨ w2.heap.size ≤ i := fun i hi => by
        rcases hi with (e | e) | ⟨d, hd, e⟩
        · exact .inl (.inl (.inl e))
        · exact .inr (o9.lt i e).1
        · exact .inl (.inr ⟨d, List.mem_of_mem_eraseIdx hd, e⟩)
      have hS6 := six_keeps (W9.setCell ⟨nb, 0, none⟩ (.slice A9 k c9)) w.heap.size (.int .i64 m.d.no) (.int .u32 m.d.f.1) (.int .i64 m.d.f.2) (.int .u32 m.d.t.1) (.int .i64 m.d.t.2) (.slice m.A m.d.b.length m.c)
      have hNE := q1.keeps hS6 (fun i hi e => by
        rcases hft i hi with h7 | h7
        · have := H.out.foot_lt h7; omega
        · omega)
      have hRB : RowB (six (W9.setCell ⟨nb, 0, none⟩ (.slice A9 k c9)) w.heap.size (.int .i64 m.d.no) (.int .u32 m.d.f.1) (.int .i64 m.d.f.2) (.int .u32 m.d.t.1) (.int .i64 m.d.t.2) (.slice m.A m.d.b.length m.c)) (.slice m.A m.d.b.length m.c) m.d.b := by
        have hm0 := H.out.mds m (List.mem_of_getElem? HM.out)
        exact (hm0.kept (fun j hj => hkE.block j (hm0.lt hj) (H.out.ne_top hm0 hj))).rowB
      have HEND : Hid (TakenR (fun _ _ _ => True) w T nb last kv L ((m.d, 0), (L.eraseIdx k).map Md.d) (.returned (takeV m.d (.slice m.A m.d.b.length m.c) 0)) (six (W9.setCell ⟨nb, 0, none⟩ (.slice A9 k c9)) w.heap.size (.int .i64 m.d.no) (.int .u32 m.d.f.1) (.int .i64 m.d.f.2) (.int .u32 m.d.t.1) (.int .i64 m.d.t.2) (.slice m.A m.d.b.length m.c))) :=
        Lib.hid ⟨_, _, _, rfl, ⟨hNE, fun i hi => (hft i hi).imp id (fun e => by omega), hkE⟩, rfl, hRB, fun i hi => trivial⟩
      obtain ⟨z0, z1, z2, z3, z4, z5⟩ := six_cells r5 rfl (.int .i64 m.d.no) (.int .u32 m.d.f.1) (.int .i64 m.d.f.2) (.int .u32 m.d.t.1) (.int .i64 m.d.t.2) (.slice m.A m.d.b.length m.c)
      have v0 := (cells_of r5 0).1; have v1 := (cells_of r5 1).1; have v2 := (cells_of r5 2).1; have v3 := (cells_of r5 3).1; have v4 := (cells_of r5 4).1; have v5 := (cells_of r5 5).1
      have x0 := (cells_of r5 0).2; have x1 := (cells_of r5 1).2; have x2 := (cells_of r5 2).2; have x3 := (cells_of r5 3).2; have x4 := (cells_of r5 4).2; have x5 := (cells_of r5 5).2
      simp at v0 v1 v2 v3 v4 v5
      clear r5 hkE hft hNE hRB hS6 s4 q1 q2 hle o8 o8' o9 g8 g9 r8 r9 htop htop0 hlw1
      have k5 : ((k : Int) + 1).toNat = k + 1 := by omega
      have k6 : (0 : Int) ≤ (k : Int) + 1 := by omega
      have k8 : IntKind.i64.wrap ((k : Int) + 1) = (k : Int) + 1 := by rw [IntKind.wrap_i64]; omega
      have k9 : (k : Int) ≤ (k : Int) + 1 := by omega
      refine wp_region_till (S := fun W => Below w2.heap.size w2 W) (z := 19) (by kernel_rfl) (below_drw (Below.refl _ w2) 1) (fun hHeld => ?_)
      refine till_take (i := 0) (oi := _) (v := ?_) [] rfl (by kernel_rfl) (by kernel_rfl) (by decide) (by kernel_rfl) (by kernel_rfl) (by kernel_rfl) (fun _ _ _ h => h) (Or.inl ⟨by rfl, ?_⟩) (by assumption) ?_
      case refine_2 => intro w hSw; obtain ⟨p0, pl, -⟩ := HCX.out _ hSw; go_simp; first | done | (with_reducible rfl)
      try simp only [Act.put, List.getElem_toArray, List.getElem_cons_zero, List.setIfInBounds_toArray, List.set_cons_zero, List.set_cons_succ]
      refine till_take (i := 2) (oi := _) (v := ?_) [] rfl (by kernel_rfl) (by kernel_rfl) (by decide) (by kernel_rfl) (by kernel_rfl) (by kernel_rfl) (fun _ _ _ h => h) (Or.inl ⟨by rfl, ?_⟩) (by assumption) ?_
      case refine_2 => intro w hSw; obtain ⟨p0, pl, -⟩ := HCX.out _ hSw; go_simp; first | done | (with_reducible rfl)
      try simp only [Act.put, List.getElem_toArray, List.getElem_cons_zero, List.getElem_cons_succ, List.setIfInBounds_toArray, List.set_cons_zero, List.set_cons_succ]
      refine till_take (i := 3) (oi := _) (v := ?_) [] rfl (by kernel_rfl) (by kernel_rfl) (by decide) (by kernel_rfl) (by kernel_rfl) (by kernel_rfl) (fun _ _ _ h => h) (Or.inl ⟨by rfl, ?_⟩) (by assumption) ?_
      case refine_2 => intro w hSw; obtain ⟨p0, pl, -⟩ := HCX.out _ hSw; go_simp; first | done | (with_reducible rfl)
      try simp only [Act.put, List.getElem_toArray, List.getElem_cons_zero, List.getElem_cons_succ, List.setIfInBounds_toArray, List.set_cons_zero, List.set_cons_succ]
      refine till_take (i := 4) (oi := _) (v := ?_) [] rfl (by kernel_rfl) (by kernel_rfl) (by decide) (by kernel_rfl) (by kernel_rfl) (by kernel_rfl) (fun _ _ _ h => h) (Or.inl ⟨by rfl, ?_⟩) (by assumption) ?_
      case refine_2 => intro w hSw; obtain ⟨p0, pl, -⟩ := HCX.out _ hSw; go_simp; first | done | (with_reducible rfl)
      try simp only [Act.put, List.getElem_toArray, List.getElem_cons_zero, List.getElem_cons_succ, List.setIfInBounds_toArray, List.set_cons_zero, List.set_cons_succ]
      refine till_take (i := 5) (oi := _) (v := ?_) [] rfl (by kernel_rfl) (by kernel_rfl) (by decide) (by kernel_rfl) (by kernel_rfl) (by kernel_rfl) (fun _ _ _ h => h) (Or.inl ⟨by rfl, ?_⟩) (by assumption) ?_
      case refine_2 => intro w hSw; obtain ⟨p0, pl, -⟩ := HCX.out _ hSw; go_simp; first | done | (with_reducible rfl)
      try simp only [Act.put, List.getElem_toArray, List.getElem_cons_zero, List.getElem_cons_succ, List.setIfInBounds_toArray, List.set_cons_zero, List.set_cons_succ]
      refine till_take (i := 6) (oi := _) (v := ?_) [] rfl (by kernel_rfl) (by kernel_rfl) (by decide) (by kernel_rfl) (by kernel_rfl) (by kernel_rfl) (fun _ _ _ h => h) (Or.inl ⟨by rfl, ?_⟩) (by assumption) ?_
      case refine_2 => intro w hSw; obtain ⟨p0, pl, -⟩ := HCX.out _ hSw; go_simp; first | done | (with_reducible rfl)
      try simp only [Act.put, List.getElem_toArray, List.getElem_cons_zero, List.getElem_cons_succ, List.setIfInBounds_toArray, List.set_cons_zero, List.set_cons_succ]
      refine till_take (i := 7) (oi := _) (v := ?_) [] rfl (by kernel_rfl) (by kernel_rfl) (by decide) (by kernel_rfl) (by kernel_rfl) (by kernel_rfl) (fun _ _ _ h => h) (Or.inl ⟨by rfl, ?_⟩) (by assumption) ?_
      case refine_2 => intro w hSw; obtain ⟨p0, pl, -⟩ := HCX.out _ hSw; go_simp; first | done | (with_reducible rfl)
      try simp only [Act.put, List.getElem_toArray, List.getElem_cons_zero, List.getElem_cons_succ, List.setIfInBounds_toArray, List.set_cons_zero, List.set_cons_succ]
      refine till_take (i := 9) (oi := _) (v := ?_) [] rfl (by kernel_rfl) (by kernel_rfl) (by decide) (by kernel_rfl) (by kernel_rfl) (by kernel_rfl) (fun _ _ _ h => h) (Or.inl ⟨by rfl, ?_⟩) (by assumption) ?_
      case refine_2 => intro w hSw; obtain ⟨p0, pl, -⟩ := HCX.out _ hSw; go_simp; first | done | (with_reducible rfl)
      try simp only [Act.put, List.getElem_toArray, List.getElem_cons_zero, List.getElem_cons_succ, List.setIfInBounds_toArray, List.set_cons_zero, List.set_cons_succ]
      refine till_take (i := 10) (oi := _) (v := ?_) [] rfl (by kernel_rfl) (by kernel_rfl) (by decide) (by kernel_rfl) (by kernel_rfl) (by kernel_rfl) (fun _ _ _ h => h) (Or.inl ⟨by rfl, ?_⟩) (by assumption) ?_
      case refine_2 => intro w hSw; obtain ⟨p0, pl, -⟩ := HCX.out _ hSw; go_simp; first | done | (with_reducible rfl)
      try simp only [Act.put, List.getElem_toArray, List.getElem_cons_zero, List.getElem_cons_succ, List.setIfInBounds_toArray, List.set_cons_zero, List.set_cons_succ]
      refine till_take (i := 11) (oi := _) (v := ?_) [] rfl (by kernel_rfl) (by kernel_rfl) (by decide) (by kernel_rfl) (by kernel_rfl) (by kernel_rfl) (fun _ _ _ h => h) (Or.inl ⟨by rfl, ?_⟩) (by assumption) ?_
      case refine_2 => intro w hSw; obtain ⟨p0, pl, -⟩ := HCX.out _ hSw; go_simp; first | done | (with_reducible rfl)
      try simp only [Act.put, List.getElem_toArray, List.getElem_cons_zero, List.getElem_cons_succ, List.setIfInBounds_toArray, List.set_cons_zero, List.set_cons_succ]
      refine till_take (i := 12) (oi := _) (v := ?_) [] rfl (by kernel_rfl) (by kernel_rfl) (by decide) (by kernel_rfl) (by kernel_rfl) (by kernel_rfl) (fun _ _ _ h => h) (Or.inl ⟨by rfl, ?_⟩) (by assumption) ?_
      case refine_2 => intro w hSw; obtain ⟨p0, pl, -⟩ := HCX.out _ hSw; go_simp; first | done | (with_reducible rfl)
      try simp only [Act.put, List.getElem_toArray, List.getElem_cons_zero, List.getElem_cons_succ, List.setIfInBounds_toArray, List.set_cons_zero, List.set_cons_succ]
      refine till_take (i := 13) (oi := _) (v := ?_) [] rfl (by kernel_rfl) (by kernel_rfl) (by decide) (by kernel_rfl) (by kernel_rfl) (by kernel_rfl) (fun _ _ _ h => h) (Or.inl ⟨by rfl, ?_⟩) (by assumption) ?_
      case refine_2 => intro w hSw; obtain ⟨p0, pl, -⟩ := HCX.out _ hSw; go_simp; first | done | (with_reducible rfl)
      try simp only [Act.put, List.getElem_toArray, List.getElem_cons_zero, List.getElem_cons_succ, List.setIfInBounds_toArray, List.set_cons_zero, List.set_cons_succ]
      refine till_take (i := 14) (oi := _) (v := ?_) [] rfl (by kernel_rfl) (by kernel_rfl) (by decide) (by kernel_rfl) (by kernel_rfl) (by kernel_rfl) (fun _ _ _ h => h) (Or.inl ⟨by rfl, ?_⟩) (by assumption) ?_
      case refine_2 => intro w hSw; obtain ⟨p0, pl, -⟩ := HCX.out _ hSw; go_simp; first | done | (with_reducible rfl)
      try simp only [Act.put, List.getElem_toArray, List.getElem_cons_zero, List.getElem_cons_succ, List.setIfInBounds_toArray, List.set_cons_zero, List.set_cons_succ]
      refine till_take (i := 15) (oi := _) (v := ?_) [] rfl (by kernel_rfl) (by kernel_rfl) (by decide) (by kernel_rfl) (by kernel_rfl) (by kernel_rfl) (fun _ _ _ h => h) (Or.inl ⟨by rfl, ?_⟩) (by assumption) ?_
      case refine_2 => intro w hSw; obtain ⟨p0, pl, -⟩ := HCX.out _ hSw; go_simp; first | done | (with_reducible rfl)
      try simp only [Act.put, List.getElem_toArray, List.getElem_cons_zero, List.getElem_cons_succ, List.setIfInBounds_toArray, List.set_cons_zero, List.set_cons_succ]
      refine till_ready (rs := [1]) (by kernel_rfl) (by simp) ?_
      refine TillReady.cons rfl (fun K hK => ?_) TillReady.nil
      go_simp
      refine hK.out _ _ (HBA.out _ _) (fun hHeld => ?_)
      clear hK K
      try simp only [Act.put, List.getElem_toArray, List.getElem_cons_zero, List.getElem_cons_succ, List.setIfInBounds_toArray, List.set_cons_zero, List.set_cons_succ]
      refine till_ready (rs := [8]) (by kernel_rfl) (by simp) ?_
      refine TillReady.cons rfl (fun K hK => ?_) TillReady.nil
      refine step_run rfl (.tmp 22) (.tmp 28) 28 rfl (v1 := .slice (some ⟨w2.heap.size, 0, none⟩) 0 0) (v2 := .slice (some ⟨g, 0, none⟩) k (k + 1)) (v := .slice A8 k c8) (W' := W8) rfl rfl (HR8.out _) ?_
      refine hK.out _ _ HB8.out (fun hHeld => ?_)
      clear hK K
      try simp only [Act.put, List.getElem_toArray, List.getElem_cons_zero, List.getElem_cons_succ, List.setIfInBounds_toArray, List.set_cons_zero, List.set_cons_succ]
      refine till_ready (rs := [16]) (by kernel_rfl) (by simp) ?_
      refine TillReady.cons rfl (fun K hK => ?_) TillReady.nil
      refine step_run rfl (.tmp 29) (.tmp 36) 28 rfl (v1 := .slice A8 k c8) (v2 := .slice (some ⟨g, 0, none⟩) 0 0) (v := .slice A9 k c9) (W' := W9) rfl rfl (HR9.out _) ?_
      refine hK.out _ _ HB9.out (fun hHeld => ?_)
      clear hK K
      try simp only [Act.put, List.getElem_toArray, List.getElem_cons_zero, List.getElem_cons_succ, List.setIfInBounds_toArray, List.set_cons_zero, List.set_cons_succ]
      refine till_take (i := 17) (oi := _) (v := ?_) [18] rfl (by kernel_rfl) (by kernel_rfl) (by decide) (by kernel_rfl) (by kernel_rfl) (by kernel_rfl) (fun _ _ _ h => h) (Or.inl ⟨by rfl, ?_⟩) (by assumption) ?_
      case refine_2 => intro w hSw; obtain ⟨p0, pl, -⟩ := HCX.out _ hSw; go_simp; first | done | (with_reducible rfl)
      try simp only [Act.put, List.getElem_toArray, List.getElem_cons_zero, List.getElem_cons_succ, List.setIfInBounds_toArray, List.set_cons_zero, List.set_cons_succ]
      refine till_take (i := 18) (oi := _) (v := ?_) [] rfl (by kernel_rfl) (by kernel_rfl) (by decide) (by kernel_rfl) (by kernel_rfl) (by kernel_rfl) (fun _ _ _ h => h) (Or.inl ⟨by rfl, ?_⟩) (by assumption) ?_
      case refine_2 => intro w hSw; obtain ⟨p0, pl, -⟩ := HCX.out _ hSw; go_simp; first | done | (with_reducible rfl)
      try simp only [Act.put, List.getElem_toArray, List.getElem_cons_zero, List.getElem_cons_succ, List.setIfInBounds_toArray, List.set_cons_zero, List.set_cons_succ]
      refine till_ready (rs := [19]) (by kernel_rfl) (by simp) ?_
      refine TillReady.past rfl (by kernel_rfl) (fun K hK => ?_) TillReady.nil
      obtain ⟨p0, pl, pf⟩ := HCX.out _ HB9.out
      have pf0 := pf 0
      go_simp
      clear p0 pl pf pf0
      refine hK.out _ _ ?_
      clear hK K
      try simp only [Act.put, List.getElem_toArray, List.getElem_cons_zero, List.getElem_cons_succ, List.setIfInBounds_toArray, List.set_cons_zero, List.set_cons_succ]
      refine till_done (by kernel_rfl) ?_ _
      go_wp2
      exact ⟨rfl, takeV m.d (.slice m.A m.d.b.length m.c) 0, by simp [results, Try.results17, go_sem, z0, z1, z2, z3, z4, z5, takeV, sentC], HEND.out⟩
    · have hend' : ¬ c - (k + 1) = 0 := by omega
      have HT : Hid ((L.take k).length = k) := Lib.hid (by rw [List.length_take]; omega)
      have HD : Hid ((L.drop (k + 1)).length = (n1 - k)) := Lib.hid (by rw [List.length_drop]; omega)
      have HLE : Hid ((L.take k ++ L.drop (k + 1)).length = n1) := Lib.hid (by rw [List.length_append, HT.out, HD.out]; omega)
      have HCX : Hid (∀ W, Below w2.heap.size w2 W → W.cell? ⟨nb, 0, none⟩ = some (.slice (some ⟨g, 0, none⟩) (n1 + 1) c) ∧ nb < W.heap.size ∧ (∀ j, W.frozen? ⟨nb, j, none⟩ = false)) := Lib.hid (fun W h => by
        have := (HN2.out.below h).cells
        rw [HKV.out, hn1] at this
        exact ⟨this.1, this.2.2.2, this.2.2.1⟩)
      have HBA : Hid (∀ q o, Below w2.heap.size w2 ((w2.drewN q).alloc o)) := Lib.hid (fun q o => (below_drw (Below.refl _ w2) q).alloc (Nat.le_refl _) _)
      obtain ⟨A8, c8, W8, r8, o8, g8⟩ := appD (l1 := []) (l2 := L.take k) (own0 (w2.drewN 1)) ⟨g, 0, none⟩ c (fun j u hj => by
        have := part_cells (HN2.out.below (HBA.out 1 (.cells #[] 43))) HGB.out 0 k (by omega) j u (by simpa using hj)
        simpa using this) (by rw [HT.out]; simp; omega) (by simp)
      have HB8 : Hid (Below w2.heap.size w2 W8) := Lib.hid (own_grownD (own0 (w2.drewN 1)) (HBA.out 1 _) g8)
      rw [List.nil_append, HT.out] at r8
      rw [List.nil_append] at o8
      have o8' : W8.ownsRow w2.heap.size 43 6 (.slice A8 k c8) (L.take k).length (cellsD (L.take k)) := by rw [HT.out] at o8 ⊢; exact o8
      obtain ⟨A9, c9, W9, r9, o9, g9⟩ := appD (l1 := L.take k) (l2 := L.drop (k + 1)) o8' ⟨g, (k + 1) * 6, none⟩ ((c - (k + 1))) (fun j u hj => by
        have := part_cells (HN2.out.below HB8.out) HGB.out (k + 1) (n1 - k) (by omega) j u (by rw [List.take_of_length_le (by rw [HD.out]; exact Nat.le_refl _)]; exact hj)
        exact this) (by rw [HT.out, HD.out]; omega) HB8.out.size
      have HB9 : Hid (Below w2.heap.size w2 W9) := Lib.hid (own_grownD o8' HB8.out g9)
      rw [HLE.out, HD.out] at r9
      rw [HLE.out] at o9
      have HR8 := Lib.hid r8; have HR9 := Lib.hid r9
      have hle : (L.eraseIdx k).length = n1 := by rw [List.eraseIdx_eq_take_drop_succ]; exact HLE.out
      obtain ⟨q1, q2⟩ := na_row (L' := L.eraseIdx k) (kv' := .slice A9 n1 c9) (W := W9) HN2.out (fun d hd => HN2.out.mds d (List.mem_of_mem_eraseIdx hd)) (by rw [hle, List.eraseIdx_eq_take_drop_succ]; exact ⟨o9.1, o9.2.imp id (fun ⟨g, cap, cur, e1, e2, e3⟩ => ⟨g, cap, cur, e1, Nat.zero_le _, e3⟩)⟩) (.ofBelow HB9.out (fun i h1 h2 => by omega))
      have hlw1 : w1.heap.size < w2.heap.size := (Array.getElem?_eq_some_iff.1 HS2.out).1
      have htop : ∀ i, Top nb kv i → i < w1.heap.size := fun i hi => H1.out.foot_lt (.inl hi)
      have htop0 : ∀ i, Top nb kv i → i < w.heap.size := fun i hi => H.out.foot_lt (.inl hi)
      have s4 := (q2.block w1.heap.size hlw1 (fun e => by have := htop _ e; omega)).trans HS2.out
      have hw1s := HW1S.out
      have r5 := (q2.block w.heap.size (by omega) (fun e => by have := htop0 _ e; omega)).trans ((HB2.out.block w.heap.size hw1s).trans HR1.out)
      have y0 := (cells_of s4 0).1; have y1 := (cells_of s4 1).1; have y2 := (cells_of s4 2).1; have y3 := (cells_of s4 3).1; have y4 := (cells_of s4 4).1; have y5 := (cells_of s4 5).1
      simp at y0 y1 y2 y3 y4 y5
      have hkE : Keeps (Top nb kv) w (six (W9.setCell ⟨nb, 0, none⟩ (.slice A9 n1 c9)) w.heap.size (.int .i64 m.d.no) (.int .u32 m.d.f.1) (.int .i64 m.d.f.2) (.int .u32 m.d.t.1) (.int .i64 m.d.t.2) (.slice m.A m.d.b.length m.c)) :=
        ((Keeps.all (S := Top nb kv) (HB1.out.trans (HB2.out.mono HB1.out.size))).trans q2).then (six_keeps _ w.heap.size _ _ _ _ _ _) (fun i hi e => by omega)
      have hb1s := HB1.out.size
      have hft : ∀ i, FootN nb (.slice A9 n1 c9) (L.eraseIdx k) i → FootN nb kv L i ∨ w2.heap.size ≤ i := fun i hi => by
        rcases hi with (e | e) | ⟨d, hd, e⟩
        · exact .inl (.inl (.inl e))
        · exact .inr (o9.lt i e).1
        · exact .inl (.inr ⟨d, List.mem_of_mem_eraseIdx hd, e⟩)
      have hS6 := six_keeps (W9.setCell ⟨nb, 0, none⟩ (.slice A9 n1 c9)) w.heap.size (.int .i64 m.d.no) (.int .u32 m.d.f.1) (.int .i64 m.d.f.2) (.int .u32 m.d.t.1) (.int .i64 m.d.t.2) (.slice m.A m.d.b.length m.c)
      have hNE := q1.keeps hS6 (fun i hi e => by
        rcases hft i hi with h7 | h7
        · have := H.out.foot_lt h7; omega
        · omega)
      have hRB : RowB (six (W9.setCell ⟨nb, 0, none⟩ (.slice A9 n1 c9)) w.heap.size (.int .i64 m.d.no) (.int .u32 m.d.f.1) (.int .i64 m.d.f.2) (.int .u32 m.d.t.1) (.int .i64 m.d.t.2) (.slice m.A m.d.b.length m.c)) (.slice m.A m.d.b.length m.c) m.d.b := by
        have hm0 := H.out.mds m (List.mem_of_getElem? HM.out)
        exact (hm0.kept (fun j hj => hkE.block j (hm0.lt hj) (H.out.ne_top hm0 hj))).rowB
      have HEND : Hid (TakenR (fun _ _ _ => True) w T nb last kv L ((m.d, 0), (L.eraseIdx k).map Md.d) (.returned (takeV m.d (.slice m.A m.d.b.length m.c) 0)) (six (W9.setCell ⟨nb, 0, none⟩ (.slice A9 n1 c9)) w.heap.size (.int .i64 m.d.no) (.int .u32 m.d.f.1) (.int .i64 m.d.f.2) (.int .u32 m.d.t.1) (.int .i64 m.d.t.2) (.slice m.A m.d.b.length m.c))) :=
        Lib.hid ⟨_, _, _, rfl, ⟨hNE, fun i hi => (hft i hi).imp id (fun e => by omega), hkE⟩, rfl, hRB, fun i hi => trivial⟩
      obtain ⟨z0, z1, z2, z3, z4, z5⟩ := six_cells r5 rfl (.int .i64 m.d.no) (.int .u32 m.d.f.1) (.int .i64 m.d.f.2) (.int .u32 m.d.t.1) (.int .i64 m.d.t.2) (.slice m.A m.d.b.length m.c)
      have v0 := (cells_of r5 0).1; have v1 := (cells_of r5 1).1; have v2 := (cells_of r5 2).1; have v3 := (cells_of r5 3).1; have v4 := (cells_of r5 4).1; have v5 := (cells_of r5 5).1
      have x0 := (cells_of r5 0).2; have x1 := (cells_of r5 1).2; have x2 := (cells_of r5 2).2; have x3 := (cells_of r5 3).2; have x4 := (cells_of r5 4).2; have x5 := (cells_of r5 5).2
      simp at v0 v1 v2 v3 v4 v5
      clear r5 hkE hft hNE hRB hS6 s4 q1 q2 hle o8 o8' o9 g8 g9 r8 r9 htop htop0 hlw1
      have k2 : (k : Int) ≤ (c : Int) := by omega
      have k3 : k ≤ n1 := by omega
      have k4 : (k : Int) ≤ (n1 : Int) := by omega
      have k5 : ((k : Int) + 1).toNat = k + 1 := by omega
      have k6 : (0 : Int) ≤ (k : Int) + 1 := by omega
      have k8 : IntKind.i64.wrap ((k : Int) + 1) = (k : Int) + 1 := by rw [IntKind.wrap_i64]; omega
      have k9 : (k : Int) ≤ (k : Int) + 1 := by omega
      have k7 : ¬ c = k + 1 := hend
      refine wp_region_till (S := fun W => Below w2.heap.size w2 W) (z := 19) (by kernel_rfl) (below_drw (Below.refl _ w2) 1) (fun hHeld => ?_)
      refine till_take (i := 0) (oi := _) (v := ?_) [] rfl (by kernel_rfl) (by kernel_rfl) (by decide) (by kernel_rfl) (by kernel_rfl) (by kernel_rfl) (fun _ _ _ h => h) (Or.inl ⟨by rfl, ?_⟩) (by assumption) ?_
      case refine_2 => intro w hSw; obtain ⟨p0, pl, -⟩ := HCX.out _ hSw; go_simp; first | done | (with_reducible rfl)
      try simp only [Act.put, List.getElem_toArray, List.getElem_cons_zero, List.setIfInBounds_toArray, List.set_cons_zero, List.set_cons_succ]
      refine till_take (i := 2) (oi := _) (v := ?_) [] rfl (by kernel_rfl) (by kernel_rfl) (by decide) (by kernel_rfl) (by kernel_rfl) (by kernel_rfl) (fun _ _ _ h => h) (Or.inl ⟨by rfl, ?_⟩) (by assumption) ?_
      case refine_2 => intro w hSw; obtain ⟨p0, pl, -⟩ := HCX.out _ hSw; go_simp; first | done | (with_reducible rfl)
      try simp only [Act.put, List.getElem_toArray, List.getElem_cons_zero, List.getElem_cons_succ, List.setIfInBounds_toArray, List.set_cons_zero, List.set_cons_succ]
      refine till_take (i := 3) (oi := _) (v := ?_) [] rfl (by kernel_rfl) (by kernel_rfl) (by decide) (by kernel_rfl) (by kernel_rfl) (by kernel_rfl) (fun _ _ _ h => h) (Or.inl ⟨by rfl, ?_⟩) (by assumption) ?_
      case refine_2 => intro w hSw; obtain ⟨p0, pl, -⟩ := HCX.out _ hSw; go_simp; first | done | (with_reducible rfl)
      try simp only [Act.put, List.getElem_toArray, List.getElem_cons_zero, List.getElem_cons_succ, List.setIfInBounds_toArray, List.set_cons_zero, List.set_cons_succ]
      refine till_take (i := 4) (oi := _) (v := ?_) [] rfl (by kernel_rfl) (by kernel_rfl) (by decide) (by kernel_rfl) (by kernel_rfl) (by kernel_rfl) (fun _ _ _ h => h) (Or.inl ⟨by rfl, ?_⟩) (by assumption) ?_
      case refine_2 => intro w hSw; obtain ⟨p0, pl, -⟩ := HCX.out _ hSw; go_simp; first | done | (with_reducible rfl)
      try simp only [Act.put, List.getElem_toArray, List.getElem_cons_zero, List.getElem_cons_succ, List.setIfInBounds_toArray, List.set_cons_zero, List.set_cons_succ]
      refine till_take (i := 5) (oi := _) (v := ?_) [] rfl (by kernel_rfl) (by kernel_rfl) (by decide) (by kernel_rfl) (by kernel_rfl) (by kernel_rfl) (fun _ _ _ h => h) (Or.inl ⟨by rfl, ?_⟩) (by assumption) ?_
      case refine_2 => intro w hSw; obtain ⟨p0, pl, -⟩ := HCX.out _ hSw; go_simp; first | done | (with_reducible rfl)
      try simp only [Act.put, List.getElem_toArray, List.getElem_cons_zero, List.getElem_cons_succ, List.setIfInBounds_toArray, List.set_cons_zero, List.set_cons_succ]
      refine till_take (i := 6) (oi := _) (v := ?_) [] rfl (by kernel_rfl) (by kernel_rfl) (by decide) (by kernel_rfl) (by kernel_rfl) (by kernel_rfl) (fun _ _ _ h => h) (Or.inl ⟨by rfl, ?_⟩) (by assumption) ?_
      case refine_2 => intro w hSw; obtain ⟨p0, pl, -⟩ := HCX.out _ hSw; go_simp; first | done | (with_reducible rfl)
      try simp only [Act.put, List.getElem_toArray, List.getElem_cons_zero, List.getElem_cons_succ, List.setIfInBounds_toArray, List.set_cons_zero, List.set_cons_succ]
      refine till_take (i := 7) (oi := _) (v := ?_) [] rfl (by kernel_rfl) (by kernel_rfl) (by decide) (by kernel_rfl) (by kernel_rfl) (by kernel_rfl) (fun _ _ _ h => h) (Or.inl ⟨by rfl, ?_⟩) (by assumption) ?_
      case refine_2 => intro w hSw; obtain ⟨p0, pl, -⟩ := HCX.out _ hSw; go_simp; first | done | (with_reducible rfl)
      try simp only [Act.put, List.getElem_toArray, List.getElem_cons_zero, List.getElem_cons_succ, List.setIfInBounds_toArray, List.set_cons_zero, List.set_cons_succ]
      refine till_take (i := 9) (oi := _) (v := ?_) [] rfl (by kernel_rfl) (by kernel_rfl) (by decide) (by kernel_rfl) (by kernel_rfl) (by kernel_rfl) (fun _ _ _ h => h) (Or.inl ⟨by rfl, ?_⟩) (by assumption) ?_
      case refine_2 => intro w hSw; obtain ⟨p0, pl, -⟩ := HCX.out _ hSw; go_simp; first | done | (with_reducible rfl)
      try simp only [Act.put, List.getElem_toArray, List.getElem_cons_zero, List.getElem_cons_succ, List.setIfInBounds_toArray, List.set_cons_zero, List.set_cons_succ]
      refine till_take (i := 10) (oi := _) (v := ?_) [] rfl (by kernel_rfl) (by kernel_rfl) (by decide) (by kernel_rfl) (by kernel_rfl) (by kernel_rfl) (fun _ _ _ h => h) (Or.inl ⟨by rfl, ?_⟩) (by assumption) ?_
      case refine_2 => intro w hSw; obtain ⟨p0, pl, -⟩ := HCX.out _ hSw; go_simp; first | done | (with_reducible rfl)
      try simp only [Act.put, List.getElem_toArray, List.getElem_cons_zero, List.getElem_cons_succ, List.setIfInBounds_toArray, List.set_cons_zero, List.set_cons_succ]
      refine till_take (i := 11) (oi := _) (v := ?_) [] rfl (by kernel_rfl) (by kernel_rfl) (by decide) (by kernel_rfl) (by kernel_rfl) (by kernel_rfl) (fun _ _ _ h => h) (Or.inl ⟨by rfl, ?_⟩) (by assumption) ?_
      case refine_2 => intro w hSw; obtain ⟨p0, pl, -⟩ := HCX.out _ hSw; go_simp; first | done | (with_reducible rfl)
      try simp only [Act.put, List.getElem_toArray, List.getElem_cons_zero, List.getElem_cons_succ, List.setIfInBounds_toArray, List.set_cons_zero, List.set_cons_succ]
      refine till_take (i := 12) (oi := _) (v := ?_) [] rfl (by kernel_rfl) (by kernel_rfl) (by decide) (by kernel_rfl) (by kernel_rfl) (by kernel_rfl) (fun _ _ _ h => h) (Or.inl ⟨by rfl, ?_⟩) (by assumption) ?_
      case refine_2 => intro w hSw; obtain ⟨p0, pl, -⟩ := HCX.out _ hSw; go_simp; first | done | (with_reducible rfl)
      try simp only [Act.put, List.getElem_toArray, List.getElem_cons_zero, List.getElem_cons_succ, List.setIfInBounds_toArray, List.set_cons_zero, List.set_cons_succ]
      refine till_take (i := 13) (oi := _) (v := ?_) [] rfl (by kernel_rfl) (by kernel_rfl) (by decide) (by kernel_rfl) (by kernel_rfl) (by kernel_rfl) (fun _ _ _ h => h) (Or.inl ⟨by rfl, ?_⟩) (by assumption) ?_
      case refine_2 => intro w hSw; obtain ⟨p0, pl, -⟩ := HCX.out _ hSw; go_simp; first | done | (with_reducible rfl)
      try simp only [Act.put, List.getElem_toArray, List.getElem_cons_zero, List.getElem_cons_succ, List.setIfInBounds_toArray, List.set_cons_zero, List.set_cons_succ]
      refine till_take (i := 14) (oi := _) (v := ?_) [] rfl (by kernel_rfl) (by kernel_rfl) (by decide) (by kernel_rfl) (by kernel_rfl) (by kernel_rfl) (fun _ _ _ h => h) (Or.inl ⟨by rfl, ?_⟩) (by assumption) ?_
      case refine_2 => intro w hSw; obtain ⟨p0, pl, -⟩ := HCX.out _ hSw; go_simp; first | done | (with_reducible rfl)
      try simp only [Act.put, List.getElem_toArray, List.getElem_cons_zero, List.getElem_cons_succ, List.setIfInBounds_toArray, List.set_cons_zero, List.set_cons_succ]
      refine till_take (i := 15) (oi := _) (v := ?_) [] rfl (by kernel_rfl) (by kernel_rfl) (by decide) (by kernel_rfl) (by kernel_rfl) (by kernel_rfl) (fun _ _ _ h => h) (Or.inl ⟨by rfl, ?_⟩) (by assumption) ?_
      case refine_2 => intro w hSw; obtain ⟨p0, pl, -⟩ := HCX.out _ hSw; go_simp; first | done | (with_reducible rfl)
      try simp only [Act.put, List.getElem_toArray, List.getElem_cons_zero, List.getElem_cons_succ, List.setIfInBounds_toArray, List.set_cons_zero, List.set_cons_succ]
      refine till_ready (rs := [1]) (by kernel_rfl) (by simp) ?_
      refine TillReady.cons rfl (fun K hK => ?_) TillReady.nil
      go_simp
      refine hK.out _ _ (HBA.out _ _) (fun hHeld => ?_)
      clear hK K
      try simp only [Act.put, List.getElem_toArray, List.getElem_cons_zero, List.getElem_cons_succ, List.setIfInBounds_toArray, List.set_cons_zero, List.set_cons_succ]
      refine till_ready (rs := [8]) (by kernel_rfl) (by simp) ?_
      refine TillReady.cons rfl (fun K hK => ?_) TillReady.nil
      refine step_run rfl (.tmp 22) (.tmp 28) 28 rfl (v1 := .slice (some ⟨w2.heap.size, 0, none⟩) 0 0) (v2 := .slice (some ⟨g, 0, none⟩) k c) (v := .slice A8 k c8) (W' := W8) rfl rfl (HR8.out _) ?_
      refine hK.out _ _ HB8.out (fun hHeld => ?_)
      clear hK K
      try simp only [Act.put, List.getElem_toArray, List.getElem_cons_zero, List.getElem_cons_succ, List.setIfInBounds_toArray, List.set_cons_zero, List.set_cons_succ]
      refine till_ready (rs := [16]) (by kernel_rfl) (by simp) ?_
      refine TillReady.cons rfl (fun K hK => ?_) TillReady.nil
      refine step_run rfl (.tmp 29) (.tmp 36) 28 rfl (v1 := .slice A8 k c8) (v2 := .slice (some ⟨g, (k + 1) * 6, none⟩) (n1 - k) (c - (k + 1))) (v := .slice A9 n1 c9) (W' := W9) rfl rfl (HR9.out _) ?_
      refine hK.out _ _ HB9.out (fun hHeld => ?_)
      clear hK K
      try simp only [Act.put, List.getElem_toArray, List.getElem_cons_zero, List.getElem_cons_succ, List.setIfInBounds_toArray, List.set_cons_zero, List.set_cons_succ]
      refine till_take (i := 17) (oi := _) (v := ?_) [18] rfl (by kernel_rfl) (by kernel_rfl) (by decide) (by kernel_rfl) (by kernel_rfl) (by kernel_rfl) (fun _ _ _ h => h) (Or.inl ⟨by rfl, ?_⟩) (by assumption) ?_
      case refine_2 => intro w hSw; obtain ⟨p0, pl, -⟩ := HCX.out _ hSw; go_simp; first | done | (with_reducible rfl)
      try simp only [Act.put, List.getElem_toArray, List.getElem_cons_zero, List.getElem_cons_succ, List.setIfInBounds_toArray, List.set_cons_zero, List.set_cons_succ]
      refine till_take (i := 18) (oi := _) (v := ?_) [] rfl (by kernel_rfl) (by kernel_rfl) (by decide) (by kernel_rfl) (by kernel_rfl) (by kernel_rfl) (fun _ _ _ h => h) (Or.inl ⟨by rfl, ?_⟩) (by assumption) ?_
      case refine_2 => intro w hSw; obtain ⟨p0, pl, -⟩ := HCX.out _ hSw; go_simp; first | done | (with_reducible rfl)
      try simp only [Act.put, List.getElem_toArray, List.getElem_cons_zero, List.getElem_cons_succ, List.setIfInBounds_toArray, List.set_cons_zero, List.set_cons_succ]
      refine till_ready (rs := [19]) (by kernel_rfl) (by simp) ?_
      refine TillReady.past rfl (by kernel_rfl) (fun K hK => ?_) TillReady.nil
      obtain ⟨p0, pl, pf⟩ := HCX.out _ HB9.out
      have pf0 := pf 0
      go_simp
      clear p0 pl pf pf0
      refine hK.out _ _ ?_
      clear hK K
      try simp only [Act.put, List.getElem_toArray, List.getElem_cons_zero, List.getElem_cons_succ, List.setIfInBounds_toArray, List.set_cons_zero, List.set_cons_succ]
      refine till_done (by kernel_rfl) ?_ _
      go_wp2
      exact ⟨rfl, takeV m.d (.slice m.A m.d.b.length m.c) 0, by simp [results, Try.results17, go_sem, z0, z1, z2, z3, z4, z5, takeV, sentC], HEND.out⟩
end
end Go.Proofs.Ythfdnidcmkjmoaa
