/-
  wire.reader.message once more: the row of numbers is a block of its own. Conditions: as it states.
-/
import Derived.Test.YtdiilgedicfekaaDoorMh8
import Derived.Test.YtdiilgedicfekaaDoorMh7
namespace Go.Proofs.YtdiilgedicfekaaDoor
open Go.RowKit
attribute [local go_sem] Oper.semAt_some
set_option linter.unusedVariables false
set_option maxRecDepth 100000

def MsgAns2 (w : World) (R b : Nat) (zs : List Int) (e : Ending) (w' : World) : Prop :=
  ∃ m x1 x2 x3 r bd, e = .returned (.agg #[.int .i64 m.kind, x1, x2, x3]) ∧ MsgV w' x1 x2 x3 m ∧ w.grownBy w' (some R) ∧ Rd w' R b r bd ∧ (bd = false → Wi.readMsg zs = some (m, r)) ∧ (bd = true → Wi.readMsg zs = none) ∧ (∀ g, (x1.ownBlock = some g ∨ x2.ownBlock = some g ∨ x3.ownBlock = some g) → w.heap.size ≤ g ∧ g < w'.heap.size) ∧ (∀ g, x1.ownBlock = some g → ∃ C, w'.heap[g]? = some (.cells C 22 (0, 0)))
theorem row_cells {V : World} {base e n g : Nat} {v : Value} {xs : List Value} (h : V.ownsRow base e 1 v n xs) (hg : v.ownBlock = some g) : ∃ cur, V.heap[g]? = some (.cells cur e (0, 0)) := by
  rcases h.2 with ⟨rfl, _⟩ | ⟨g', cap, cur, rfl, _, hgg, _⟩
  · cases hg
  · simp only [Value.ownBlock, Option.some.injEq] at hg
    subst hg
    exact ⟨cur, hgg⟩
theorem msg_end2 {w V3 : World} {R b M G C k D q : Nat} {v1 v2 x3 : Value} {vs : List Nat} {xs : List (Int × Int)} {zs r r2 : List Int} {bd bd2 : Bool}
    (hR : R < G) (hb : b < G) (hG : w.heap.size = G) (hGM : G < M) (hMC : M < C) (hCD : C < D) (hB3 : M < V3.heap.size) (hqb : q < 9223372036854775808) (hq : Uv.val zs = (q : Int)) (hk : (Wi.numsOf (q : Int)).toNat = k)
    (h1 : MBox V3 M (q : Int) v1 v2 (.slice none 0 0)) (h2 : MBox V3 G 0 (.slice none 0 0) (.slice none 0 0) (.slice none 0 0)) (h3 : V3.ownsRow (M + 1) 22 1 v1 k (U vs)) (h4 : V3.ownsRow (C + 1) 87 2 v2 xs.length (A2 xs)) (h5 : w.grownBy V3 (some R)) (h7 : ∀ a ∈ xs, 0 ≤ a.1 ∧ a.1 < 4294967296)
    {B3 : Nat} (hB : M < B3) (ho : V3.ownsRow B3 5 1 x3 (Fr.row r2).length (B (Fr.row r2))) (hrb : ∀ z ∈ Fr.row r2, 0 ≤ z ∧ z ≤ 255) (hr : Rd V3 R b (frest r2) (spoils bd2 (Fr.code r2))) (hD : V3.heap[D]? = some (.deferred (some [])))
    (e1 : vs.length = k) (e2 : ∀ x ∈ vs, x < 9223372036854775808) (h8 : bd = false → Uv.code zs = 0 ∧ Wi.readNums (nrest zs) k = some (vs, r)) (h9 : bd = true → Uv.code zs ≠ 0 ∨ Wi.readNums (nrest zs) k = none)
    (hf : bd2 = false → bd = false ∧ Uv.code r = 0 ∧ Wi.readAddrs (nrest r) (Uv.val r).toNat = some (xs, r2)) (ht : bd2 = true → bd = true ∨ Uv.code r ≠ 0 ∨ Wi.readAddrs (nrest r) (Uv.val r).toNat = none)
    {W5 : World} (hW : W5 = ((((V3.setCell ⟨M, 3, none⟩ x3).setCell ⟨G, 0, none⟩ (.int .i64 (q : Int))).setCell ⟨G, 1, none⟩ v1).setCell ⟨G, 2, none⟩ v2).setCell ⟨G, 3, none⟩ x3) :
    W5.heap[D]? = some (.deferred (some [])) ∧ Mx (W5.putObj D (.deferred none)) G (q : Int) v1 v2 x3 ∧ MsgAns2 w R b zs (.returned (.agg #[.int .i64 (q : Int), v1, v2, x3])) (W5.putObj D (.deferred none)) := by
  have hsz : W5.heap.size = V3.heap.size := by subst hW; simp [World.setCell]
  have other : ∀ g, g ≠ M → g ≠ G → W5.heap[g]? = V3.heap[g]? := fun g n1 n2 => by
    subst hW
    exact (Below.heap_setCell _ _ _ _ n2).trans ((Below.heap_setCell _ _ _ _ n2).trans ((Below.heap_setCell _ _ _ _ n2).trans ((Below.heap_setCell _ _ _ _ n2).trans (Below.heap_setCell _ _ _ _ n1))))
  have hG5 : W5.heap[G]? = some (.cells #[.int .i64 (q : Int), v1, v2, x3] 46 (0, 0)) := by
    subst hW
    have a0 : (V3.setCell ⟨M, 3, none⟩ x3).heap[G]? = _ := (Below.heap_setCell _ _ _ _ (by show G ≠ M; omega)).trans h2
    have a1 := heap_mod (k := 0) a0 (by simp) (.int .i64 (q : Int))
    have a2 := heap_mod (k := 1) a1 (by simp) v1
    have a3 := heap_mod (k := 2) a2 (by simp) v2
    have a4 := heap_mod (k := 3) a3 (by simp) x3
    simpa using a4
  have hD5 : W5.heap[D]? = some (.deferred (some [])) := (other D (by omega) (by omega)).trans hD
  have o6 : ∀ g, g ≠ M → g ≠ G → g ≠ D → (W5.putObj D (.deferred none)).heap[g]? = V3.heap[g]? := fun g n1 n2 n3 => (World.putObj_heap_other n3).trans (other g n1 n2)
  have hG6 : (W5.putObj D (.deferred none)).heap[G]? = some (.cells #[.int .i64 (q : Int), v1, v2, x3] 46 (0, 0)) := (World.putObj_heap_other (by omega)).trans hG5
  have hs6 : (W5.putObj D (.deferred none)).heap.size = V3.heap.size := by rw [World.putObj_size, hsz]
  have oc : ∀ g c t, V3.heap[g]? = some (.cells c t (0, 0)) → g ≠ D := fun g c t hc e => by
    subst e
    rw [hD] at hc
    cases hc
  have hg6 : w.grownBy (W5.putObj D (.deferred none)) (some R) := by
    have q1 : W5.os = V3.os ∧ W5.tape = V3.tape ∧ W5.output = V3.output := by subst hW; simp only [World.setCell, and_self]
    have q2 := grownBy_putObj' W5 D (.deferred none)
    refine ⟨q2.os.trans (q1.1.trans h5.os), q2.tape.trans (q1.2.1.trans h5.tape), q2.output.trans (q1.2.2.trans h5.output), by rw [hs6]; exact h5.size, fun g hg hn => ?_⟩
    exact (o6 g (by omega) (by omega) (by omega)).trans (h5.block g hg hn)
  refine ⟨hD5, (MBox.mx hG6).1, ⟨⟨Uv.val zs, vs, xs, Fr.row r2⟩, v1, v2, x3, frest r2, spoils bd2 (Fr.code r2), by rw [hq], ⟨?_, ?_, ?_, by show _ ≤ Uv.val zs; omega, by show Uv.val zs ≤ _; omega⟩, hg6, hr.kept (by rw [hs6]; exact Nat.le_refl _) (o6 R (by omega) (by omega) (by omega)) (fun _ => o6 b (by omega) (by omega) (by omega)), fun h => ?_, fun h => ?_, ?_, fun g hg => ?_⟩⟩
  · exact own_ns (own_at h3 (fun g c t hg hc => o6 g (by omega) (by omega) (oc g c t hc))) e1 (fun x hx => by have := e2 x hx; omega)
  · exact own_as (own_at h4 (fun g c t hg hc => o6 g (by omega) (by omega) (oc g c t hc))) rfl h7
  · exact own_tx (own_at ho (fun g c t hg hc => o6 g (by omega) (by omega) (oc g c t hc))) hrb
  · obtain ⟨a1, a2⟩ := spoils_f h
    obtain ⟨b1, b2, b3⟩ := hf a1
    obtain ⟨c1, c2⟩ := h8 b1
    exact readMsg_yes (by rw [hq]; exact hk) c1 c2 b2 b3 a2
  · exact readMsg_no (by rw [hq]; exact hk) h8 h9 hf ht (spoils_t h)
  · rintro g (h | h | h)
    · have := h3.lt g h; omega
    · have := h4.lt g h; omega
    · have := ho.lt g h; omega
  · obtain ⟨cur, hc⟩ := row_cells h3 hg
    exact ⟨cur, (o6 g (by have := h3.lt g hg; omega) (by have := h3.lt g hg; omega) (oc g _ _ hc)).trans hc⟩

set_option maxRecDepth 100000 in
set_option maxHeartbeats 4000000 in
theorem message_any2 (R b : Nat) (zs : List Int) (w : World) (hR : Rd w R b zs false) (hb : b < w.heap.size) (hT : Tb w) (hz : zs.length ≤ 1000000) :
    Calls Tryd.prog 46 #[.pointer (some ⟨R, 0, none⟩)] w (MsgAns2 w R b zs) := by
  have HL := Lib.hid hR.lt
  have HBD := Lib.hid hR.bd
  have CN := Lib.hid (number_any R b zs false (w.alloc zbox) (hR.below ((Below.refl _ _).alloc (Nat.le_refl _) _)))
  have hvb := Uv.val_bd zs
  obtain ⟨q, hq⟩ : ∃ q : Nat, Uv.val zs = (q : Int) := ⟨(Uv.val zs).toNat, by omega⟩
  have hqb : q < 9223372036854775808 := by omega
  have HQ := Lib.hid hq
  rw [hq] at CN
  have HB := Lib.hid hb
  have HT := Lib.hid hT
  have HNS : Hid (R ≠ 0) := Lib.hid (by
    rintro rfl
    obtain ⟨A, n, c, e, _⟩ := hR
    have h1 := (Rd.cells e).2.1
    rw [hT 0 (by omega)] at h1
    cases h1)
  have hRG := hR.lt
  unfold zbox at CN
  clear hR hb hvb hq hT
  refine (callsIn_wide (n := 6)).1 ?_
  refine callsIn_of_wp_marks Tryd.func46 rfl trivial ?_ rfl
  refine wpIn_wide.2 ?_
  simp only [Tryd.ntmps46, List.size_toArray, List.length_cons, List.length_nil, Nat.reduceAdd, Nat.reduceSub, Array.replicate_succ, Array.replicate_zero, List.push_toArray, List.append_toArray, List.nil_append, List.cons_append]
  go_wp2_with (go_at_call 63; refine CN.out.mono ?_; rintro e w1 ⟨rfl, hg1, hr1⟩; have HG1 := Lib.hid hg1; have HR1 := Lib.hid hr1; clear hg1 hr1)
  obtain ⟨HN0, HBE⟩ := (num_start (q := q) HL.out HB.out HG1.out HR1.out).out
  have hM0 := HG1.out.size
  simp at hM0
  have HT1 : Tb (w1.alloc (.cells #[.int .i64 (q : Int), .slice none 0 0, .slice none 0 0, .slice none 0 0] 46)) := fun k hk =>
    (World.cell?_of_block (a := ⟨0, k, none⟩) ((HBE.block 0 (by omega)).trans ((HG1.out.block 0 (by simp) (fun e => HNS.out (by simpa using e.symm))).trans (Below.heap_alloc _ _ _ HT.out.pos)))).trans (HT.out k hk)
  have CK := Lib.hid (nums_any (q : Int) _ HT1)
  have hnb := Wi.numsOf_bd (q : Int)
  obtain ⟨cc, hcc⟩ : ∃ cc : Int, Wi.numsOf (q : Int) = cc := ⟨_, rfl⟩
  rw [hcc] at CK hnb
  have HCC := Lib.hid hcc
  have HA0 := Lib.hid HN0
  have HM0 : Hid (w.heap.size < w1.heap.size) := Lib.hid (by omega)
  obtain ⟨M, hM⟩ : ∃ M, w1.heap.size = M := ⟨_, rfl⟩
  have hc1 : -1 ≤ cc := hnb.1
  have hc6 : cc ≤ 6 := hnb.2.1
  obtain ⟨G, hG⟩ : ∃ G, w.heap.size = G := ⟨_, rfl⟩
  clear hcc HT1 HBE hnb HN0 hM0 HG1 HR1 CN
  go_wp2_with (go_at_call 56; refine CK.out.mono ?_; rintro e w2 ⟨rfl, rfl⟩)
  rw [hM] at HA0 HM0
  rw [hG] at HA0 HM0 HL HB hRG
  try simp only [hM, hG]
  clear CK hM
  have HG := Lib.hid hG
  clear hG
  go_loopw [12] (fun p wr => ∃ k : Nat, p = .int .i64 (k : Int) ∧ (k = 0 ∨ (k : Int) ≤ cc) ∧ NumAt w R b M G (q : Int) zs k wr) (fun p _ => (cc - intOf p).toNat)
  case atStart => exact ⟨0, rfl, .inl rfl, HA0.out⟩
  case round =>
    clear HA0
    obtain ⟨k, rfl, hkc, hN⟩ := hrel
    by_cases hk : (k : Int) < cc
    · obtain ⟨vs, r, bd, v, h1, h2, h3, h4, h5, h6, h7, h8, h9⟩ := hN
      have hx := Uv.val_bd r
      obtain ⟨x, hxe⟩ : ∃ x : Nat, Uv.val r = (x : Int) := ⟨_, (Int.toNat_of_nonneg hx.1).symm⟩
      have hMs : M < wr.heap.size := (Array.getElem?_eq_some_iff.1 h3).1
      have hMR : some M ≠ some R := (fun e => by have := HM0.out; simp at e; omega)
      have CS : Hid (Calls Tryd.prog 63 #[.pointer (some ⟨R, 0, none⟩)] wr.drew fun e w2 => e = .returned (.int .u64 (x : Int)) ∧ w2.cell? ⟨M, 1, none⟩ = some v ∧ w2.frozen? ⟨M, 1, none⟩ = false ∧ M < w2.heap.size ∧
          Hid ((∀ o, (w2.alloc o).ownsRow (M + 1) 22 1 v k (U vs)) ∧ ∀ o w4 v2, w4.ownsRow (M + 1) 22 1 v2 (k + 1) (U vs ++ [.int .u64 (x : Int)]) → (w2.alloc o).grownBy w4 v.ownBlock → w4.cell? ⟨M, 1, none⟩ = some v ∧ w4.frozen? ⟨M, 1, none⟩ = false ∧ M < w4.heap.size ∧ Hid (NumAt w R b M G (q : Int) zs (k + 1) (w4.setCell ⟨M, 1, none⟩ v2)))) := Lib.hid (by
        refine (number_any R b r bd wr.drew (h7.below (Below.refl _ _).drew)).mono ?_
        rintro e w2 ⟨rfl, hg2, hr2⟩
        have hb2 : w2.heap[M]? = some _ := (hg2.block M hMs hMR).trans h3
        have hc2 := MBox.mx hb2
        refine ⟨by rw [hxe], hc2.1.c1, hc2.2.2 1, hc2.2.1, Lib.hid ⟨fun o => ((h5.drew).kept hg2 ?_).alloc o, fun o w4 v2 ho4 hg4 => ?_⟩⟩
        · exact .inr (fun e => by have := (h5.lt R e).1; have := HM0.out; omega)
        · have hb4 : w4.heap[M]? = some _ := (hg4.block M (by simp; omega) (fun e => by have := (h5.lt M e.symm).1; omega)).trans ((Below.heap_alloc _ _ _ hc2.2.1).trans hb2)
          have hc4 := MBox.mx hb4
          exact ⟨hc4.1.c1, hc4.2.2 1, hc4.2.1, num_step (by have := HL.out; have := HG.out; omega) (by have := HB.out; have := HG.out; omega) (Nat.le_of_eq HG.out) HM0.out h1 h2 h3 h4 h5 h6 h8 h9 hxe hg2 hr2 hg4 ho4⟩)
      have hc := (MBox.mx h3).1.c1
      have hf := (MBox.mx h3).2.2 1
      have hk6 : k ≤ 1000000 := by omega
      clear h1 h2 h3 h4 h5 h6 h7 h8 h9 hx hxe hMR hkc
      go_wp2_with fail
      refine Code.wp_mono (Q := Only _) Only.all ?_
      go_region_law (first
        | (refine step_num rfl (.tmp 15) (.tmp 18) rfl (k := k) (g := w2.heap.size) (base := M + 1) (y := x) (xs := U vs) (v := v) rfl (HZ.out.1 _) rfl (by go_simp) hk6 (by simp; omega) ?_; intro v2 w4 ho4 hg4; obtain ⟨A4, c4, rfl⟩ := own_slice ho4; obtain ⟨d1, d2, d3, HN4⟩ := HZ.out.2 _ _ _ ho4 hg4; clear ho4 hg4)
        | (go_simp; go_at_call 63; refine CS.out.mono ?_; rintro e w2 ⟨rfl, hc2, hf2, hl2, HZ⟩; dsimp only))
      all_goals simp only [Only]
      all_goals
        go_wp2
        go_roundw
        case rel => exact ⟨k + 1, by go_num, .inr (by omega), HN4.out⟩
        case measure => simp [intOf]; omega
    · have HK : Hid (cc.toNat = k) := Lib.hid (by omega)
      have hk6 : k ≤ 6 := by omega
      have HN := Lib.hid hN
      clear hN hkc
      go_wp2_with (go_at_call 64; refine (addrs_any R _).mono ?_; rintro e w2 ⟨rfl, rfl⟩)
      obtain ⟨w5, hw5⟩ : ∃ w5, wr.alloc (.cells #[.pointer (some ⟨R, 0, none⟩)] 115) = w5 := ⟨_, rfl⟩
      obtain ⟨C, hC⟩ : ∃ C, wr.heap.size = C := ⟨_, rfl⟩
      obtain ⟨vs, r, bd, v1, h1, h2, h3, h4, h5, h6, h7, h8, h9⟩ := HN.out
      have HA := adr_start (.cells #[.pointer (some ⟨R, 0, none⟩)] 115) h3 h4 h5 h6
      have HR5 : Rd w5 R b r bd := hw5 ▸ h7.below ((Below.refl _ _).alloc (Nat.le_refl _) _)
      have hC5 : w5.cell? ⟨C, 0, none⟩ = some (.pointer (some ⟨R, 0, none⟩)) := by
        have := (cells_of (heap_new wr (.cells #[.pointer (some ⟨R, 0, none⟩)] 115)) 0).1
        rw [hw5, hC] at this
        exact this
      have hS5 : w5.heap.size = C + 1 := by rw [← hw5, World.size_alloc, hC]
      have hMC : M < C := by rw [← hC]; exact (Array.getElem?_eq_some_iff.1 h3).1
      have hv1 : ∀ g, v1.ownBlock = some g → g < C := fun g hg => by rw [← hC]; exact (h5.lt g hg).2
      rw [hw5, hC] at HA
      rw [hw5, hC]
      have hn1 : C ≠ R := by have := HM0.out; omega
      have HLR := Lib.hid (nums_len HBD.out hz h8)
      have HOK := Lib.hid (fun pre z W => okA_facts (pre := pre) (z := z) (W := W) h7.bd HLR.out)
      have HT5 := adrs_tells 5 (by omega) R b C [C, R, b] r bd w5 HR5 hC5 (by simp) (by simp) (by simp) hn1
      have H1 := Lib.hid h1; have H2 := Lib.hid h2; have H8 := Lib.hid h8; have H9 := Lib.hid h9; have HV1 := Lib.hid hv1
      have HS5 := Lib.hid hS5; have HMC := Lib.hid hMC
      have hgs : ∀ g ∈ [C, R, b], g < w5.heap.size := by
        intro g hg
        have := HB.out; have := HL.out; have := HM0.out
        simp at hg
        omega
      have hms : ∀ g ∈ [R], g < w5.heap.size := by
        intro g hg
        have := HL.out; have := HM0.out
        simp at hg
        omega
      have HWG : Hid (w.heap.size ≤ w5.heap.size) := Lib.hid (by have := HG.out; have := HM0.out; omega)
      clear h1 h2 h3 h4 h5 h6 h7 h8 h9 hv1 hw5 hC hC5 HR5 hn1 hS5 hMC HN hk wr
      refine (wpIn_wide (n := 6)).1 ?_
      apply range_told2 (F := Fence.wide) (n := 6) (f := 70) (own := #[.pointer (some ⟨C, 0, none⟩)]) ⟨rfl, by omega, trivial, enters_of Tryd.func70 (by kernel_rfl) rfl, HT5⟩ rfl (Below.refl _ _) hgs hms (fun _ => rfl) (fun zs => SA.own zs) (fun zs => fun s A B row h _ _ => h)
        (AdrI w R M G C (q : Int) k v1 vs) (fun _ _ _ => False) ⟨AdrI.own HWG.out, ?_, fun c s A B row h _ _ => h, fun zs z s A B row h _ _ => h⟩ HA
      case al => exact fun z => .cells #[.int .u32 z.1, .int .i64 z.2] 87
      case hassign =>
        intro l z V g K hg hK
        simp only [encA]
        gi_wp2
        exact hK
      case hbody =>
        rintro l pre z V g hg hVg hal ⟨v2, h1, h2, h3, h4, h5, h6, h7⟩ hok
        have hf := HOK.out _ _ _ hok
        have hc := (MBox.mx h1).1.c2
        have hcf := (MBox.mx h1).2.2 2
        have hML := (MBox.mx h1).2.1
        have hz0 := (cells_of hal 0).1
        have hz1 := (cells_of hal 1).1
        simp at hz0 hz1
        have hpl : pre.length ≤ 1000000 := hf.1
        have hgl : g < V.heap.size := by omega
        have HWS : Hid (∀ o, (V.alloc o).heap[g + 1]? = some o) := Lib.hid (fun o => by rw [← hVg]; exact heap_new V o)
        have HST : Hid (∀ o w4 v3, (V.alloc o).grownBy w4 v2.ownBlock → w4.ownsRow (C + 1) 87 2 v3 (pre.length + 1) (A2 pre ++ [.int .u32 z.1, .int .i64 z.2]) → w4.cell? ⟨M, 2, none⟩ = some v2 ∧ w4.frozen? ⟨M, 2, none⟩ = false ∧ M < w4.heap.size ∧
            Hid (Kept [C, R, b] false w5.heap.size V (w4.setCell ⟨M, 2, none⟩ v3) ∧ AdrI w R M G C (q : Int) k v1 vs (pre ++ [(z.1, z.2)]) (w4.setCell ⟨M, 2, none⟩ v3))) := Lib.hid (by
          intro o w4 v3 hg4 ho4
          have hb4 : w4.heap[M]? = some _ := (hg4.block M (by simp; omega) (fun e => by have := (h4.lt M e.symm).1; have := HMC.out; omega)).trans ((Below.heap_alloc _ _ _ hML).trans h1)
          have hc4 := MBox.mx hb4
          exact ⟨hc4.1.c2, hc4.2.2 2, hc4.2.1, adr_step (by have := HL.out; have := HG.out; omega) (by have := HB.out; have := HG.out; omega) (Nat.le_of_eq HG.out) HM0.out HMC.out (by have := HS5.out; omega) (by omega) HV1.out h1 h2 h3 h4 h5 h6 h7 hf.2 hg4 ho4⟩)
        have HO4 : Hid (∀ o, (V.alloc o).ownsRow (C + 1) 87 2 v2 pre.length (A2 pre)) := Lib.hid (fun o => h4.alloc o)
        have HCV : Hid (C < V.heap.size) := Lib.hid h6
        clear h1 h2 h3 h4 h5 h6 h7 hok hf hal hg
        gi_wp2_with (gi_at_builtin; refine stepIn_adr rfl (.tmp 26) (.tmp 28) rfl (base := C + 1) (g := g + 1) (h := z.1) (p := z.2) (k := pre.length) (v := v2) (xs := A2 pre) rfl (HO4.out _) rfl (HWS.out _) hpl (by simp; have := HCV.out; omega) ?_; intro v3 w4 ho4 hg4; obtain ⟨A4, c4, rfl⟩ := own_slice ho4; obtain ⟨d1, d2, d3, HN4⟩ := HST.out _ _ _ hg4 ho4; clear ho4 hg4)
        exact ⟨HN4.out.1, HN4.out.2⟩
      case hstop =>
        rintro D c xs V hD _ h _
        exact h.elim
      case hdone =>
        rintro D xs V hD ⟨r2, bd2, hr2, hf2, ht2⟩ hI hK
        have CB := Lib.hid (body_any R b r2 bd2 V hr2)
        have HI := Lib.hid hI
        have HK2 := Lib.hid hK
        have HF2 := Lib.hid hf2; have HT2 := Lib.hid ht2
        have HRB : Hid (∀ z ∈ Fr.row r2, 0 ≤ z ∧ z ≤ 255) := Lib.hid (Fr.row_bd hr2.bd)
        have HD : Hid (w5.heap.size ≤ D) := Lib.hid hD
        clear hI hK hf2 ht2 hr2 hD
        go_wp2_with fail
        refine CB.out.mono ?_
        rintro e V3 ⟨x3, rfl, ho3, hg3, hr3⟩
        have hI3 := HI.out.turn hg3 (by have := HL.out; have := HM0.out; omega) (by have := HL.out; omega) HMC.out
        have hD3 : V3.heap[D]? = some (.deferred (some [])) := (hg3.block D (Array.getElem?_eq_some_iff.1 HK2.out).1 (fun e => by simp at e; have := HD.out; have := HS5.out; have := HL.out; have := HM0.out; have := HMC.out; omega)).trans HK2.out
        obtain ⟨v2, h1, h2, h3, h4, h5, h6, h7⟩ := hI3
        obtain ⟨A1, c1, rfl⟩ := own_slice h3
        obtain ⟨A2', c2, rfl⟩ := own_slice h4
        obtain ⟨A3, c3, rfl⟩ := own_slice ho3
        obtain ⟨⟨m0, m1, m2, m3⟩, hML, mf⟩ := MBox.mx h1
        obtain ⟨⟨g0, g1, g2, g3⟩, hGL, gf⟩ := MBox.mx h2
        have mf3 := mf 3
        have gf0 := gf 0; have gf1 := gf 1; have gf2 := gf 2; have gf3 := gf 3
        have hgm := HM0.out
        have HR3 := Lib.hid hr3
        clear hr3
        have HE := Lib.hid (fun W5 hW => msg_end2 (W5 := W5) (zs := zs) (r := r) (bd := bd) HL.out HB.out HG.out HM0.out HMC.out (by have := HD.out; have := HS5.out; omega) hML hqb HQ.out (by rw [HCC.out]; exact HK.out) h1 h2 h3 h4 h5 h7 (by have := HD.out; have := HS5.out; have := HMC.out; have := (Array.getElem?_eq_some_iff.1 HK2.out).1; omega) ho3 HRB.out HR3.out hD3 H1.out H2.out H8.out H9.out HF2.out HT2.out hW)
        clear h1 h2 h3 h4 h5 h6 h7 ho3 hD3
        go_wp2
        obtain ⟨hD5, hm, ha⟩ := HE.out _ rfl
        refine ⟨by simp, .inl ⟨_, _, rfl, run_takeDeferred hD5, ?_⟩⟩
        obtain ⟨k0, k1, k2, k3⟩ := hm
        exact ⟨.agg #[.int .i64 (q : Int), .slice A1 k c1, .slice A2' xs.length c2, .slice A3 (Fr.row r2).length c3], by simp [results, Tryd.f46, go_sem, k0, k1, k2, k3], ha⟩
      · exact fun zs A B g hg hs hgr => by
          have hg' : g = R := by simpa using hg
          subst hg'
          exact hs.turn hgr (by have := HL.out; have := HM0.out; omega) (by have := HL.out; omega) HMC.out
end Go.Proofs.YtdiilgedicfekaaDoor
