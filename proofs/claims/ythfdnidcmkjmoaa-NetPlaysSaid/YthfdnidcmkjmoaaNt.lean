/-
  Contracts of net's Take and of the document's own. Conditions: the net lies in memory; at most 1000 datagrams, none of more than a million bytes.
-/
import Derived.Test.YthfdnidcmkjmoaaNd
namespace Go.Proofs.Ythfdnidcmkjmoaa
open Go.RowKit
attribute [local go_sem] Oper.semAt_some
set_option linter.unusedVariables false

/-- bytes of the program's own as a value -/
def RowB (w : World) (v : Value) (b : List Int) : Prop := (∃ A c, v = .slice A b.length c) ∧ w.ownsRow 0 5 1 v b.length (B b) ∧ ∀ z ∈ b, 0 ≤ z ∧ z ≤ 255
theorem MdAt.rowB {w : World} {m : Md} (h : MdAt w m) : RowB w m.v m.d.b := ⟨⟨_, _, rfl⟩, h.row, h.bd⟩
theorem RowB.nil (w : World) : RowB w (.slice none 0 0) [] := ⟨⟨none, 0, rfl⟩, World.ownsRow_nil _ _ _ _, by simp⟩
theorem RowB.below {w w' : World} {v : Value} {b : List Int} (h : RowB w v b) (hb : Below w.heap.size w w') : RowB w' v b := ⟨h.1, own_below h.2.1 hb, h.2.2⟩
theorem RowB.parts {w : World} {v : Value} {b : List Int} (h : RowB w v b) : ∃ A c, v = .slice A b.length c ∧ b.length ≤ c ∧ c ≤ maxLen ∧ Bts w A b.length b ∧ (A = none → b.length = 0 ∧ c = 0) := by
  obtain ⟨A, c, e, h1, h2, h3⟩ := own_form h.2.1 h.2.2
  subst e
  exact ⟨A, c, rfl, h1, h2, h3, own_nil h.2.1⟩
def takeV (d : Dg) (v : Value) (c : Int) : Value := .tuple #[.agg (sentC d.no d.f d.t v), .int .i64 c]
/-- what a Take answers and leaves; P: what is said of the block of the answer's bytes -/
def TakenR (P : Nat → Value → List Md → Prop) (w : World) (T nb : Nat) (last : Int) (kv : Value) (L : List Md) (S : (Dg × Int) × List Dg) : Ending → World → Prop := fun e w' =>
  ∃ v kv' L', e = .returned (takeV S.1.1 v S.1.2) ∧ MvN w T nb kv L w' last kv' L' ∧ L'.map Md.d = S.2 ∧ RowB w' v S.1.1.b ∧ ∀ g, v.ownBlock = some g → P g kv' L'
section
variable {w : World} {T nb : Nat} {last : Int} {kv kv' : Value} {L L' : List Md}
/-- another row is stored -/
theorem na_row {V W : World} (h : Na V T nb last kv L) (hm : ∀ m ∈ L', MdAt V m)
    (h1 : W.ownsRow 0 43 6 kv' L'.length (cellsD L')) (h3 : Keeps (fun k => kv.ownBlock = some k) V W) :
    Na (W.setCell ⟨nb, 0, none⟩ kv') T nb last kv' L' ∧ Keeps (Top nb kv) V (W.setCell ⟨nb, 0, none⟩ kv') := by
  have hk : Keeps (Top nb kv) V (W.setCell ⟨nb, 0, none⟩ kv') := (h3.mono (fun k _ e => Or.inr e)).set nb 0 kv' (.inl rfl)
  have ht1 : W.heap[nb]? = some (.cells #[kv, .int .i64 last] T (0, 0)) := (h3.block nb h.lt h.ne_row).trans h.top
  refine ⟨⟨h.ty, heap_setCell_same W nb 0 _ T kv' ht1, ?_, fun d hd => (hm d hd).kept (fun g hg => hk.block g ((hm d hd).lt hg) (h.ne_top (hm d hd) hg))⟩, hk⟩
  refine own_at h1 (fun g hg => heap_setCell_other W ⟨nb, 0, none⟩ g kv' (fun e => ?_))
  have e3 : g = nb := e
  obtain ⟨C, hC⟩ := own_obj h1 hg
  rw [e3] at hC
  exact clash ht1 hC h.ty1.2
theorem takeN_some {no : Int} {k : Nat} (h : findN (L.map Md.d) no = some k) : ∃ m, L[k]? = some m ∧ takeN (L.map Md.d) no = ((m.d, 0), (L.eraseIdx k).map Md.d) := by
  obtain ⟨m, hm, hg⟩ := findN_at h
  refine ⟨m, hm, ?_⟩
  unfold takeN
  rw [h]
  simp only
  rw [hg]
  congr 1
  simp [List.eraseIdx_eq_take_drop_succ]
theorem takeN_none {no : Int} (h : findN (L.map Md.d) no = none) : takeN (L.map Md.d) no = ((default, 5), L.map Md.d) := by unfold takeN; rw [h]

set_option maxRecDepth 100000 in
set_option maxHeartbeats 4000000 in
theorem take_n (h : Na w T nb last kv L) (no : Int) (hL : L.length ≤ 1000) (hS : ∀ m ∈ L, m.d.b.length ≤ 1000000) :
    Calls Try.prog 16 #[.pointer (some ⟨nb, 0, none⟩), .int .i64 no] w (TakenR (fun g kv' L' => w.heap.size ≤ g ∧ ¬ FootN nb kv' L' g) w T nb last kv L (takeN (L.map Md.d) no)) := by
  have hb0 : Below w.heap.size w (w.alloc (.cells (sentC 0 (0, 0) (0, 0) (.slice none 0 0)) 43)) := (Below.refl _ w).alloc (Nat.le_refl _) _
  have HF := Lib.hid (find_n (h.below hb0) no)
  have H := Lib.hid h
  have HB0 := Lib.hid hb0
  have HR0 : Hid ((w.alloc (.cells (sentC 0 (0, 0) (0, 0) (.slice none 0 0)) 43)).heap[w.heap.size]? = some (.cells (sentC 0 (0, 0) (0, 0) (.slice none 0 0)) 43 (0, 0))) := Lib.hid (World.alloc_heap_new w _)
  cases hf : findN (L.map Md.d) no with
  | none =>
    have e1 : findI (L.map Md.d) no = -1 := by unfold findI; rw [hf]
    rw [e1] at HF
    rw [takeN_none hf]
    clear h e1 hf hb0 hS
    have HDF : Hid (takeV default (.slice none 0 0) 5 = .tuple #[.agg #[.int .i64 0, .int .u32 0, .int .i64 0, .int .u32 0, .int .i64 0, .slice none 0 0], .int .i64 5]) := Lib.hid rfl
    unfold sentC at *
    dsimp only at *
    go_enter Try.func16, Try.ntmps16
    go_wp2_with fail
    refine HF.out.mono ?_
    rintro e w1 ⟨rfl, hb1⟩
    have HB1 := Lib.hid (HB0.out.trans (hb1.mono HB0.out.size))
    have r1 := (hb1.block w.heap.size (by simp)).trans HR0.out
    have HEND : Hid (Below w.heap.size w (six w1 w.heap.size (.int .i64 0) (.int .u32 0) (.int .i64 0) (.int .u32 0) (.int .i64 0) (.slice none 0 0))) := Lib.hid (HB1.out.trans ((six_keeps w1 w.heap.size (.int .i64 0) (.int .u32 0) (.int .i64 0) (.int .u32 0) (.int .i64 0) (.slice none 0 0)).below (fun k hk => by omega) HB1.out.size))
    obtain ⟨z0, z1, z2, z3, z4, z5⟩ := six_cells r1 rfl (.int .i64 0) (.int .u32 0) (.int .i64 0) (.int .u32 0) (.int .i64 0) (.slice none 0 0)
    have y0 := (cells_of r1 0).1; have y1 := (cells_of r1 1).1; have y2 := (cells_of r1 2).1; have y3 := (cells_of r1 3).1; have y4 := (cells_of r1 4).1; have y5 := (cells_of r1 5).1
    have x0 := (cells_of r1 0).2; have x1 := (cells_of r1 1).2; have x2 := (cells_of r1 2).2; have x3 := (cells_of r1 3).2; have x4 := (cells_of r1 4).2; have x5 := (cells_of r1 5).2
    simp at y0 y1 y2 y3 y4 y5
    clear hb1 r1
    go_wp2
    exact ⟨rfl, takeV default (.slice none 0 0) 5, by rw [HDF.out]; simp [results, Try.results16, go_sem, z0, z1, z2, z3, z4, z5], .slice none 0 0, kv, L, rfl, .same H.out HEND.out, rfl, .nil _, fun g hg => by cases hg⟩
  | some k =>
    obtain ⟨m, hm, ht⟩ := takeN_some hf
    have hk : k < L.length := (List.getElem?_eq_some_iff.1 hm).1
    have e1 : findI (L.map Md.d) no = (k : Int) := by unfold findI; rw [hf]
    rw [e1] at HF
    rw [ht]
    have HM := Lib.hid hm
    have hsm := hS m (List.mem_of_getElem? hm)
    obtain ⟨n1, hn1⟩ : ∃ n1, L.length = n1 + 1 := ⟨L.length - 1, by omega⟩
    clear h e1 hf hb0 hS ht hm
    unfold sentC at *
    dsimp only at *
    go_enter Try.func16, Try.ntmps16
    go_wp2_with fail
    refine HF.out.mono ?_
    rintro e w1 ⟨rfl, hb1⟩
    have hb1' := HB0.out.trans (hb1.mono HB0.out.size)
    have HB1 := Lib.hid hb1'
    have HR1 := Lib.hid ((hb1.block w.heap.size (by simp)).trans HR0.out)
    have h1w := H.out.below hb1'
    clear hb1 hb1'
    obtain ⟨A, c, hkv, hlc, hcm, -, hat⟩ := h1w.form
    obtain ⟨g, rfl, gl, hgb, d0, d1, d2, d3, d4, d5⟩ := hat k m HM.out
    obtain ⟨c0, c1, fr, hl⟩ := h1w.cells
    have f0 := fr 0
    rw [hkv, hn1] at c0
    unfold maxLen at hcm
    unfold Md.v at d5
    have k1 : (k : Int) < (n1 : Int) + 1 := by omega
    have HKV := Lib.hid hkv; have H1 := Lib.hid h1w
    clear hat fr h1w
    have hcur : ∃ cur, w1.heap[g]? = some (.cells cur 43 (0, 0)) ∧ cur.size = c * 6 ∧ cur.toList.take ((n1 + 1) * 6) = cellsD L := by
      rcases H1.out.row.2 with ⟨e, e0⟩ | ⟨g', cap, cur, e, hg', hgg, q1, q2, q3, q4⟩
      · omega
      · have e2 := HKV.out.symm.trans e
        simp only [Value.slice.injEq, Option.some.injEq, Addr.mk.injEq, and_true, true_and] at e2
        obtain ⟨e3, e4⟩ := e2
        subst e3; subst e4
        exact ⟨cur, hgg, q3, by rw [← hn1]; exact q4⟩
    obtain ⟨cur, r1, r2, r3⟩ := hcur
    have hgn : g ≠ nb := fun e => H1.out.ne_row (by rw [hgb, e])
    go_upto_region 5 with (fail)
    obtain ⟨w2, hw2⟩ : ∃ W, w1.alloc (.cells #[.int .i64 m.d.no, .int .u32 m.d.f.1, .int .i64 m.d.f.2, .int .u32 m.d.t.1, .int .i64 m.d.t.2, .slice m.A m.d.b.length m.c] 43) = W := ⟨_, rfl⟩
    have hb2 : Below w1.heap.size w1 w2 := by rw [← hw2]; exact (Below.refl _ _).alloc (Nat.le_refl _) _
    have hs2 : w2.heap[w1.heap.size]? = some (.cells #[.int .i64 m.d.no, .int .u32 m.d.f.1, .int .i64 m.d.f.2, .int .u32 m.d.t.1, .int .i64 m.d.t.2, .slice m.A m.d.b.length m.c] 43 (0, 0)) := by rw [← hw2]; exact World.alloc_heap_new w1 _
    try rw [hw2]
    clear hw2
    have HDEL := Lib.hid (deleteD g c n1 k cur L w2 ((hb2.block g gl).trans r1) hn1 (by omega) (by omega) (by unfold maxLen; omega) r2 r3)
    have HB2 := Lib.hid hb2; have HS2 := Lib.hid hs2
    have c0' : w2.cell? ⟨nb, 0, none⟩ = some (.slice (some ⟨g, 0, none⟩) (n1 + 1) c) := (hb2.cell (p := ⟨nb, 0, none⟩) hl).trans c0
    have hl2 : nb < w2.heap.size := by have := hb2.size; omega
    clear c0 c1 d0 d1 d2 d3 d4 d5 hb2 hs2 f0 r1 r2 r3
    go_wp2_with fail
    refine HDEL.out.mono ?_
    rintro e w3 ⟨rfl, hr3, hk3⟩
    have hle : (L.eraseIdx k).length = n1 := by rw [List.length_eraseIdx]; simp [hn1]; omega
    obtain ⟨q1, q2⟩ := na_row (L' := L.eraseIdx k) (kv' := .slice (some ⟨g, 0, none⟩) n1 c) (W := w3) (H1.out.below HB2.out) (fun d hd => (H1.out.mds d (List.mem_of_mem_eraseIdx hd)).below HB2.out) (by rw [hle]; exact hr3) (hk3.mono (fun i _ e => by rw [e]; exact hgb))
    have hlw1 : w1.heap.size < w2.heap.size := (Array.getElem?_eq_some_iff.1 HS2.out).1
    have htop : ∀ i, Top nb kv i → i < w1.heap.size := fun i hi => H1.out.foot_lt (.inl hi)
    have hwS : w.heap.size < w1.heap.size := (Array.getElem?_eq_some_iff.1 HR1.out).1
    have htop0 : ∀ i, Top nb kv i → i < w.heap.size := fun i hi => H.out.foot_lt (.inl hi)
    have s4 := (q2.block w1.heap.size hlw1 (fun e => by have := htop _ e; omega)).trans HS2.out
    have t4 := (q2.block w.heap.size (by omega) (fun e => by have := htop0 _ e; omega)).trans ((HB2.out.block w.heap.size hwS).trans HR1.out)
    have hm4 : MdAt (w3.setCell ⟨nb, 0, none⟩ (.slice (some ⟨g, 0, none⟩) n1 c)) m := by
      have := (H1.out.mds m (List.mem_of_getElem? HM.out)).below HB2.out
      exact this.kept (fun j hj => q2.block j (this.lt hj) ((H1.out.below HB2.out).ne_top this hj))
    obtain ⟨b1, b2, b3, b4⟩ := hm4.bts
    have HTOLD := Lib.hid (told_any m.d.no m.d.f m.d.t m.A m.d.b.length m.c m.d.b _ b1 b4 hsm)
    unfold sentC at HTOLD
    have n3 : w3.heap[nb]? = some (.cells #[.slice (some ⟨g, 0, none⟩) (n1 + 1) c, .int .i64 last] T (0, 0)) := (hk3.block nb hl2 (fun e => hgn e.symm)).trans (by rw [(H1.out.below HB2.out).top, HKV.out, hn1])
    have m0 := (cells_of n3 0).1; have mf := (cells_of n3 0).2; have ml := (Array.getElem?_eq_some_iff.1 n3).1
    have y0 := (cells_of s4 0).1; have y1 := (cells_of s4 1).1; have y2 := (cells_of s4 2).1; have y3 := (cells_of s4 3).1; have y4 := (cells_of s4 4).1; have y5 := (cells_of s4 5).1
    simp at m0 y0 y1 y2 y3 y4 y5
    have Q1 := Lib.hid q1; have Q2 := Lib.hid q2; have T4 := Lib.hid t4; have HTP := Lib.hid htop0
    have HK24 := Lib.hid ((Keeps.all (S := Top nb kv) (HB1.out.trans (HB2.out.mono HB1.out.size))).trans q2)
    clear q1 q2 s4 t4 hm4 b1 b2 b3 b4 hr3 hk3 n3 htop htop0
    go_wp2_with fail
    refine HTOLD.out.mono ?_
    rintro e w5 ⟨A', c', rfl, ho, hb5⟩
    have r5 := (hb5.block w.heap.size (Array.getElem?_eq_some_iff.1 T4.out).1).trans T4.out
    have hkE : Keeps (Top nb kv) w (six w5 w.heap.size (.int .i64 m.d.no) (.int .u32 m.d.f.1) (.int .i64 m.d.f.2) (.int .u32 m.d.t.1) (.int .i64 m.d.t.2) (.slice A' m.d.b.length c')) :=
      (HK24.out.trans (.all hb5)).then (six_keeps w5 w.heap.size _ _ _ _ _ _) (fun i hi e => by omega)
    have hsz4 : w.heap.size < (w3.setCell ⟨nb, 0, none⟩ (.slice (some ⟨g, 0, none⟩) n1 c)).heap.size := (Array.getElem?_eq_some_iff.1 T4.out).1
    have hft : ∀ i, FootN nb (.slice (some ⟨g, 0, none⟩) n1 c) (L.eraseIdx k) i → FootN nb kv L i := fun i hi => by
      rcases hi with (e | e) | ⟨d, hd, e⟩
      · exact .inl (.inl e)
      · exact .inl (.inr (by rw [hgb]; exact e))
      · exact .inr ⟨d, List.mem_of_mem_eraseIdx hd, e⟩
    have hN5 := Q1.out.below hb5
    have hNE := hN5.keeps (six_keeps w5 w.heap.size (.int .i64 m.d.no) (.int .u32 m.d.f.1) (.int .i64 m.d.f.2) (.int .u32 m.d.t.1) (.int .i64 m.d.t.2) (.slice A' m.d.b.length c')) (fun i hi e => by
      have := H.out.foot_lt (hft i hi)
      omega)
    have hRB : RowB (six w5 w.heap.size (.int .i64 m.d.no) (.int .u32 m.d.f.1) (.int .i64 m.d.f.2) (.int .u32 m.d.t.1) (.int .i64 m.d.t.2) (.slice A' m.d.b.length c')) (.slice A' m.d.b.length c') m.d.b := by
      refine ⟨⟨_, _, rfl⟩, ?_, (H1.out.mds m (List.mem_of_getElem? HM.out)).bd⟩
      have h2 := own_at ho (fun i hi => (six_keeps w5 w.heap.size (.int .i64 m.d.no) (.int .u32 m.d.f.1) (.int .i64 m.d.f.2) (.int .u32 m.d.t.1) (.int .i64 m.d.t.2) (.slice A' m.d.b.length c')).block i (ho.lt i hi).2 (fun e => by have := (ho.lt i hi).1; omega))
      exact ⟨h2.1, h2.2.imp id (fun ⟨g, cap, cur, e1, e2, e3⟩ => ⟨g, cap, cur, e1, Nat.zero_le _, e3⟩)⟩
    have HEND : Hid (TakenR (fun g kv' L' => w.heap.size ≤ g ∧ ¬ FootN nb kv' L' g) w T nb last kv L ((m.d, 0), (L.eraseIdx k).map Md.d) (.returned (takeV m.d (.slice A' m.d.b.length c') 0)) (six w5 w.heap.size (.int .i64 m.d.no) (.int .u32 m.d.f.1) (.int .i64 m.d.f.2) (.int .u32 m.d.t.1) (.int .i64 m.d.t.2) (.slice A' m.d.b.length c'))) :=
      Lib.hid ⟨_, _, _, rfl, ⟨hNE, fun i hi => .inl (hft i hi), hkE⟩, rfl, hRB, fun i hi => by
        have h7 := (ho.lt i hi).1
        exact ⟨by omega, fun e => by have := H.out.foot_lt (hft i e); omega⟩⟩
    obtain ⟨z0, z1, z2, z3, z4, z5⟩ := six_cells r5 rfl (.int .i64 m.d.no) (.int .u32 m.d.f.1) (.int .i64 m.d.f.2) (.int .u32 m.d.t.1) (.int .i64 m.d.t.2) (.slice A' m.d.b.length c')
    have v0 := (cells_of r5 0).1; have v1 := (cells_of r5 1).1; have v2 := (cells_of r5 2).1; have v3 := (cells_of r5 3).1; have v4 := (cells_of r5 4).1; have v5 := (cells_of r5 5).1
    have x0 := (cells_of r5 0).2; have x1 := (cells_of r5 1).2; have x2 := (cells_of r5 2).2; have x3 := (cells_of r5 3).2; have x4 := (cells_of r5 4).2; have x5 := (cells_of r5 5).2
    simp at v0 v1 v2 v3 v4 v5
    clear r5 hkE hft hN5 hNE hRB ho hb5 y0 y1 y2 y3 y4 y5 m0 mf
    go_wp2
    exact ⟨rfl, takeV m.d (.slice A' m.d.b.length c') 0, by simp [results, Try.results16, go_sem, z0, z1, z2, z3, z4, z5, takeV, sentC], HEND.out⟩
end
end Go.Proofs.Ythfdnidcmkjmoaa
