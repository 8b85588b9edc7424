/-
  The contract of nat's way: the binding by which something goes out, if there is one. Conditions: the box lies in memory; at most 1000 bindings.
-/
import Derived.Test.YtidhdgcmagpkgaaAsk
import Derived.Test.YtidhdgcmagpkgaaRnd
namespace Go.Proofs.Ytidhdgcmagpkgaa
open Go.RowKit Go.Shelf Go.Sort
attribute [local go_sem] Oper.semAt_some
set_option linter.unusedVariables false

/-- the binding of one by which something goes to another one -/
def wayN (x : Bx) (L : List Nd) (a b : A2) : Option Nd := (L.find? (fun d => inF a d && d.b.asked)).or (L.find? (fun d => inF a d && decide (d.b.to = partA b x.map)))
set_option maxRecDepth 100000 in
set_option maxHeartbeats 4000000 in
theorem way_any (nb : Nat) (x : Bx) (now : Int) (kv : Value) (L : List Nd) (a b : A2) (w : World) (h : Na w nb x now kv L) (hbig : L.length ≤ 1000) :
    Calls Try.prog 40 #[.pointer (some ⟨nb, 0, none⟩), adr a, adr b] w fun e w' => e = .returned (ptrO (wayN x L a b)) ∧ Below w.heap.size w w' := by
  have H := Lib.hid h
  have hlt := h.lt
  clear h
  have HOF := Lib.hid (fun W => of_any nb a W)
  refine (callsIn_wide (n := 6)).1 ?_
  unfold adr at *
  refine callsIn_of_wp_marks Try.func40 rfl trivial ?_ rfl
  refine wpIn_wide.2 ?_
  simp only [Try.ntmps40, List.size_toArray, List.length_cons, List.length_nil, Nat.reduceAdd, Nat.reduceSub, Array.replicate_succ, Array.replicate_zero, List.push_toArray, List.append_toArray, List.nil_append, List.cons_append]
  go_wp2_with fail
  obtain ⟨V, hV⟩ : ∃ V, ((((w.alloc (.cells #[.pointer (some ⟨nb, 0, none⟩)] 50)).alloc (.cells #[.int .u32 a.1, .int .i64 a.2] 36)).alloc (.cells #[.int .u32 b.1, .int .i64 b.2] 36)).alloc (.cells #[.pointer none] 70)) = V := ⟨_, rfl⟩
  rw [hV]
  have hvs : V.heap.size = w.heap.size + 4 := by rw [← hV]; simp
  have HBV : Hid (Below w.heap.size w V) := Lib.hid (by rw [← hV]; exact ((((Below.refl _ w).alloc (Nat.le_refl _) _).alloc (by simp) _).alloc (by simp; omega) _).alloc (by simp; omega) _)
  have HRV : Hid (Boxed V (w.heap.size + 3) 70 (.pointer none)) := Lib.hid (by
    rw [← hV]
    have := Boxed.new (((w.alloc (.cells #[.pointer (some ⟨nb, 0, none⟩)] 50)).alloc (.cells #[.int .u32 a.1, .int .i64 a.2] 36)).alloc (.cells #[.int .u32 b.1, .int .i64 b.2] 36)) 70 (.pointer none)
    rwa [World.size_alloc, World.size_alloc, World.size_alloc] at this)
  have HCV : Hid (V.cell? ⟨w.heap.size, 0, none⟩ = some (.pointer (some ⟨nb, 0, none⟩)) ∧ V.cell? ⟨w.heap.size + 1, 0, none⟩ = some (.int .u32 a.1) ∧ V.cell? ⟨w.heap.size + 1, 1, none⟩ = some (.int .i64 a.2) ∧ V.cell? ⟨w.heap.size + 2, 0, none⟩ = some (.int .u32 b.1) ∧ V.cell? ⟨w.heap.size + 2, 1, none⟩ = some (.int .i64 b.2)) := Lib.hid (by
    rw [← hV]; clear hV hvs
    exact ⟨by go_simp, by go_simp, by go_simp, by go_simp, by go_simp⟩)
  have HNV : Hid (Na V nb x now kv L) := Lib.hid (H.out.below HBV.out)
  have HAS := Lib.hid (asked_any nb x now kv L a V HNV.out hbig)
  unfold adr at HAS
  clear hV
  refine HAS.out.mono ?_
  rintro e w1 ⟨rfl, hb1⟩
  have HB1 := Lib.hid hb1
  have hw1 := hb1.size
  have cn := (hb1.cell (p := ⟨w.heap.size, 0, none⟩) (by show w.heap.size < _; omega)).trans HCV.out.1
  have ca0 := (hb1.cell (p := ⟨w.heap.size + 1, 0, none⟩) (by show w.heap.size + 1 < _; omega)).trans HCV.out.2.1
  have ca1 := (hb1.cell (p := ⟨w.heap.size + 1, 1, none⟩) (by show w.heap.size + 1 < _; omega)).trans HCV.out.2.2.1
  have cb0 := (hb1.cell (p := ⟨w.heap.size + 2, 0, none⟩) (by show w.heap.size + 2 < _; omega)).trans HCV.out.2.2.2.1
  have cb1 := (hb1.cell (p := ⟨w.heap.size + 2, 1, none⟩) (by show w.heap.size + 2 < _; omega)).trans HCV.out.2.2.2.2
  have hR1 : Boxed w1 (w.heap.size + 3) 70 (.pointer none) := (hb1.block _ (by omega)).trans HRV.out
  have cr := hR1.cell
  have fr := hR1.frozen
  have HR1 := Lib.hid hR1
  clear hb1 hR1
  cases hfa : L.find? (fun d => inF a d && d.b.asked) with
  | some d =>
    have HV : Hid (wayN x L a b = some d) := Lib.hid (by unfold wayN; rw [hfa]; rfl)
    clear hfa
    unfold ptrO
    dsimp only [Option.map]
    have HE : Hid (Below w.heap.size w (w1.setCell ⟨w.heap.size + 3, 0, none⟩ (.pointer (some ⟨d.p, 0, none⟩)))) := Lib.hid ((HBV.out.trans (HB1.out.mono (by omega))).setCell (p := ⟨w.heap.size + 3, 0, none⟩) (by show w.heap.size ≤ w.heap.size + 3; omega) _)
    have e0 := (HR1.out.set (.pointer (some ⟨d.p, 0, none⟩))).cell
    go_wp2
    exact ⟨.pointer (some ⟨d.p, 0, none⟩), by simp [results, Try.results40, go_sem, e0], by rw [HV.out]; rfl, HE.out⟩
  | none =>
    have HV1 : Hid (wayN x L a b = L.find? (fun d => inF a d && decide (d.b.to = partA b x.map))) := Lib.hid (by unfold wayN; rw [hfa]; rfl)
    clear hfa
    unfold ptrO
    dsimp only [Option.map]
    go_wp2_with (go_at_call 58; refine (HOF.out _).mono ?_; rintro e w' ⟨rfl, rfl⟩)
    obtain ⟨W0, hW0⟩ : ∃ W0, ((w1.alloc (.cells #[.pointer (some ⟨nb, 0, none⟩)] 50)).alloc (.cells #[.int .u32 a.1, .int .i64 a.2] 36)) = W0 := ⟨_, rfl⟩
    rw [hW0]
    have hsz : W0.heap.size = w1.heap.size + 2 := by rw [← hW0]; simp
    have hb01 : Below w1.heap.size w1 W0 := by rw [← hW0]; exact ((Below.refl _ w1).alloc (Nat.le_refl _) _).alloc (by simp) _
    have HB0 : Hid (Below w.heap.size w W0) := Lib.hid ((HBV.out.trans (HB1.out.mono (by omega))).trans (hb01.mono (by omega)))
    have HR0 : Hid (Boxed W0 (w.heap.size + 3) 70 (.pointer none)) := Lib.hid ((hb01.block _ (by omega)).trans HR1.out)
    have hc2 : W0.cell? ⟨w1.heap.size, 0, none⟩ = some (.pointer (some ⟨nb, 0, none⟩)) := by rw [← hW0]; clear hW0; go_simp
    have hc3 : W0.cell? ⟨w1.heap.size + 1, 0, none⟩ = some (.int .u32 a.1) := by rw [← hW0]; clear hW0; go_simp
    have hc4 : W0.cell? ⟨w1.heap.size + 1, 1, none⟩ = some (.int .i64 a.2) := by rw [← hW0]; clear hW0; go_simp
    have dn := (hb01.cell (p := ⟨w.heap.size, 0, none⟩) (by show w.heap.size < _; omega)).trans cn
    have db0 := (hb01.cell (p := ⟨w.heap.size + 2, 0, none⟩) (by show w.heap.size + 2 < _; omega)).trans cb0
    have db1 := (hb01.cell (p := ⟨w.heap.size + 2, 1, none⟩) (by show w.heap.size + 2 < _; omega)).trans cb1
    have HDC := Lib.hid (And.intro dn (And.intro db0 db1))
    clear hb01 cn ca0 ca1 cb0 cb1 cr fr dn db0 db1
    clear hW0
    have hN0 := H.out.below HB0.out
    have HN0 := Lib.hid hN0
    have hall : ∀ g ∈ blks w1.heap.size (w1.heap.size + 1) nb kv L, g < W0.heap.size ∧ g ≠ w.heap.size + 3 := by
      have hft : ∀ k, Foot nb kv L k → k < W0.heap.size ∧ k ≠ w.heap.size + 3 := fun k hk => by have := H.out.foot_lt hk; omega
      exact blks_all (p := fun g => g < W0.heap.size ∧ g ≠ w.heap.size + 3) (by omega) (by omega) (hft _ (.inl rfl)) (fun g hg => hft _ (.inr (.inl hg))) (fun d hd => hft _ (.inr (.inr ⟨d, hd, .inl rfl⟩)))
    have hne : w.heap.size + 3 ∉ blks w1.heap.size (w1.heap.size + 1) nb kv L := fun hm => (hall _ hm).2 rfl
    have hst := of1_tells 5 (by omega) w1.heap.size (w1.heap.size + 1) nb (blks w1.heap.size (w1.heap.size + 1) nb kv L) x now kv L a W0 (fun g hg => (hall g hg).1) hN0 hbig hc2 hc3 hc4 (by simp [blks]) (by simp [blks]) (by simp [blks]) blks_row blks_nd
    clear hN0 hc2 hc3 hc4
    refine (wpIn_wide (n := 6)).1 ?_
    apply range_told (F := Fence.wide) (n := 6) (f := 70) (own := #[.pointer (some ⟨w1.heap.size, 0, none⟩), .pointer (some ⟨w1.heap.size + 1, 0, none⟩)]) ⟨rfl, by omega, trivial, enters_of Try.func70 (by kernel_rfl) rfl, hst⟩ rfl (Below.refl _ _) (fun g hg => (hall g hg).1) (fun _ => rfl)
      (IO (fun d => decide (d.b.to = partA b x.map)) (w.heap.size + 3) W0) (IX (fun d => decide (d.b.to = partA b x.map)) (w.heap.size + 3) W0) (io_lasts (by omega)) ⟨HR0.out, by simp, World.grownBy.refl _ _⟩
    case hassign =>
      intro l z W K hK
      simp only [encN]
      gi_wp2
      exact hK
    case hbody =>
      rintro l pre z W hWs ⟨bx, hpre, hg⟩ hok
      have hz := ok_mem hok
      have hcl := bx.cell
      have hfr := bx.frozen
      have hzl : z.p < W0.heap.size := (HN0.out.nds z hz).lt
      have hcl2 : ∀ k, W.cell? ⟨z.p, k, none⟩ = W0.cell? ⟨z.p, k, none⟩ := fun k => World.cell?_of_block (a := ⟨z.p, k, none⟩) (hg.block z.p hzl (fun e => (hall _ (blks_nd z hz)).2 (Option.some.inj e)))
      have z2 := (hcl2 2).trans (HN0.out.nds z hz).cells.1.2.2.1
      have z3 := (hcl2 3).trans (HN0.out.nds z hz).cells.1.2.2.2.1
      have hne2 : ∀ g, g < W0.heap.size → g ≠ w.heap.size + 3 → ∀ k, W.cell? ⟨g, k, none⟩ = W0.cell? ⟨g, k, none⟩ := fun g h1 h2 k => World.cell?_of_block (a := ⟨g, k, none⟩) (hg.block g h1 (fun e => h2 (Option.some.inj e)))
      have dn := (hne2 w.heap.size (by omega) (by omega) 0).trans HDC.out.1
      have db0 := (hne2 (w.heap.size + 2) (by omega) (by omega) 0).trans HDC.out.2.1
      have db1 := (hne2 (w.heap.size + 2) (by omega) (by omega) 1).trans HDC.out.2.2
      have hnl := HN0.out.lt
      have d3 := (hne2 nb hnl (by omega) 3).trans HN0.out.cells.1.2.2.2.1
      have hWl : W0.heap.size ≤ W.heap.size := hg.size
      have BX := Lib.hid bx; have HG := Lib.hid hg; have HPRE := Lib.hid hpre
      clear bx hg hpre hok hcl2 hne2
      have HP := Lib.hid (fun V => part_any b x.map V)
      have hE := fun V => run_eqA z.b.to (partA b x.map) V
      have HQ : ∃ q, q = decide (z.b.to = partA b x.map) := ⟨_, rfl⟩
      obtain ⟨q, hq⟩ := HQ
      rw [← hq] at hE
      unfold adr at HP
      have HQ := Lib.hid hq; clear hq
      generalize partA b x.map = pb at *
      have k1 := cell_regrown z2; have k2 := cell_regrown z3; have k3 := cell_regrown dn; have k4 := cell_regrown db0; have k5 := cell_regrown db1; have k6 := cell_regrown d3
      have cP : ∀ d os, CallsIn Fence.wide 3 Try.prog 42 #[.agg #[.int .u32 b.1, .int .i64 b.2], .int .i64 x.map] (grow (redrawn W d) os) fun e w'' => e = .returned (.agg #[.int .u32 pb.1, .int .i64 pb.2]) ∧ ∃ p : Regrown, w'' = grow (redrawn W p.d) p.os := fun d os => CallsIn.regrown_of (callsIn_wide.2 (HP.out _))
      have HIOW : Hid (∀ V, Below W.heap.size W V → Kept (blks w1.heap.size (w1.heap.size + 1) nb kv L) false W0.heap.size W V ∧ IO (fun d => decide (d.b.to = pb)) (w.heap.size + 3) W0 pre V) := Lib.hid (fun V hV => ⟨⟨hV.size, fun g hg => hV.block g (Nat.lt_of_lt_of_le (hall g hg).1 hWl), fun k o h1 h2 _ => (hV.block k (Array.getElem?_eq_some_iff.1 h2).1).trans h2⟩, (hV.block _ (by omega)).trans BX.out, HPRE.out, ⟨hV.os.trans HG.out.os, hV.tape.trans HG.out.tape, hV.output.trans HG.out.output, Nat.le_trans HG.out.size hV.size, fun k hk hne => (hV.block k (Nat.lt_of_lt_of_le hk HG.out.size)).trans (HG.out.block k hk hne)⟩⟩)
      gi_wp2
      refine region_round (by kernel_rfl) (by kernel_rfl) (by kernel_rfl) ?_
      repeat (refine wpQuietIn_step (ask_wide _ _ _) (fun K hK => ?_); go_simp; first | (refine hK _ ?_; clear hK K) | (apply Exists.intro; refine ⟨fun _ => ?_, hK _ ?_⟩; (first | exact ⟨trivial, cP _ _⟩ | exact cP _ _); clear hK K))
      refine wpQuietIn_nil ?_
      intro _ hw'
      obtain ⟨⟨dq, osq⟩, hw''⟩ := hw'
      subst hw''
      have hV := below_regrown W dq osq
      have hV1 := HIOW.out _ hV
      generalize grow (redrawn W dq) osq = V at *
      have HV1 := Lib.hid hV1
      have cl1 := hV1.2.1.cell
      have fl1 := hV1.2.1.frozen
      clear hV hV1 k1 k2 k3 k4 k5 k6 cP hE
      cases q with
      | true =>
        gi_wp2
        exact ⟨HV1.out.1.trans (Kept.set' (by omega) hne _), rfl, pre, z, rfl, HV1.out.2.2.1, HQ.out.symm, HV1.out.2.1.set _, grown_set HV1.out.2.2.2 _⟩
      | false =>
        gi_wp2
        refine ⟨HV1.out.1, HV1.out.2.1, fun d hd => ?_, HV1.out.2.2.2⟩
        rcases List.mem_append.1 hd with h | h
        · exact HV1.out.2.2.1 d h
        · simp at h; rw [h]; exact HQ.out.symm
    case hstop =>
      rintro D c pre W hD ⟨rest, hL⟩ ⟨rfl, pre', d, rfl, h1, h2, bx, hg⟩ hK
      have HV : Hid (L.find? (fun d => inF a d && decide (d.b.to = partA b x.map)) = some d) := Lib.hid (io_some hL h1 h2)
      have HK := Lib.hid hK
      have hcl := bx.cell
      have HB : Hid (Below w.heap.size w W) := Lib.hid (HB0.out.trans (grown_belw hg (by omega) (by omega)))
      clear hK bx hg hL h1 h2
      gi_wp2
      refine ⟨by simp, .inl ⟨_, _, rfl, run_takeDeferred HK.out, ?_⟩⟩
      have e0 := cell_kept hcl (grownBy_putObj' _ D (.deferred none)) (fun r e => by cases e; exact ⟨_, HK.out, rfl⟩)
      exact ⟨.pointer (some ⟨d.p, 0, none⟩), by simp [results, Try.results40, go_sem, e0], by rw [HV1.out, HV.out]; rfl, HB.out.trans (belowK_b (w := w) (Nat.le_refl _) _ D _ _ (by omega) HK.out rfl rfl)⟩
    case hdone =>
      rintro D xs W hD hxs ⟨bx, hpre, hg⟩ hK
      have hxs : xs = L.filter (inF a) := hxs
      subst hxs
      have HV : Hid (L.find? (fun d => inF a d && decide (d.b.to = partA b x.map)) = none) := Lib.hid (io_none hpre)
      have HK := Lib.hid hK
      have hcl := bx.cell
      have hfr := bx.frozen
      have HB : Hid (Below w.heap.size w W) := Lib.hid (HB0.out.trans (grown_belw hg (by omega) (by omega)))
      have BX := Lib.hid bx
      clear hK bx hg hpre
      go_wp2
      have HK2 : (W.setCell ⟨w.heap.size + 3, 0, none⟩ (.pointer none)).heap[D]? = some (.deferred (some [])) := (heap_setCell_other _ ⟨w.heap.size + 3, 0, none⟩ D _ (fun e => by have e2 : D = w.heap.size + 3 := e; omega)).trans HK.out
      refine ⟨by simp, .inl ⟨_, _, rfl, run_takeDeferred HK2, ?_⟩⟩
      have e0 := cell_kept (BX.out.set (.pointer none)).cell (grownBy_putObj' _ D (.deferred none)) (fun r e => by cases e; exact ⟨_, HK2, rfl⟩)
      exact ⟨.pointer none, by simp [results, Try.results40, go_sem, e0], by rw [HV1.out, HV.out]; rfl, (HB.out.setCell (p := ⟨w.heap.size + 3, 0, none⟩) (by show w.heap.size ≤ w.heap.size + 3; omega) _).trans (belowK_b (w := w) (Nat.le_refl _) _ D _ _ (by omega) HK2 rfl rfl)⟩
end Go.Proofs.Ytidhdgcmagpkgaa
