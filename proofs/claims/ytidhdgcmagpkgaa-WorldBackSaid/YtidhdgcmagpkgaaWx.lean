/-
  Contract of a world's New. Conditions: as each lemma states.
-/
import Derived.Test.YtidhdgcmagpkgaaWv
namespace Go.Proofs.Ytidhdgcmagpkgaa
open Go.RowKit
attribute [local go_sem] Oper.semAt_some
set_option linter.unusedVariables false
set_option linter.unusedSimpArgs false

/-- what New answers -/
def MadeW (w : World) (bx : List Bx) (bh : List Int) (H : List St) : Ending → World → Prop := fun e w' =>
  (okNew bx bh H = false ∧ e = .returned (.tuple #[.pointer none, .int .i64 1]) ∧ Below w.heap.size w w') ∨
  (okNew bx bh H = true ∧ ∃ wb bv sv hv, e = .returned (.tuple #[.pointer (some ⟨wb, 0, none⟩), .int .i64 0]) ∧ Wp w wb bv sv hv (sitesOf bx bh) H (bx.map freshP) 0 [] w')
theorem sitesOf_len {bx : List Bx} {bh : List Int} (h : bh.length = bx.length) : (sitesOf bx bh).length = bx.length := by
  unfold sitesOf
  rw [List.length_zipWith]; omega
set_option maxRecDepth 100000 in
set_option maxHeartbeats 8000000 in
theorem new_wd (A0 A1 A2 : Option Addr) (c0 c1 c2 : Nat) (bx : List Bx) (bh : List Int) (H : List St) (w : World) (h0 : BAt w A0 bx) (h1 : IAt w A1 bh) (h2 : SAt w A2 H) (hn2 : A2 = none → H = [] ∧ c2 = 0) (hx : ∀ x ∈ bx, isBx x) :
    Calls Try.prog 8 #[.slice A0 bx.length c0, .slice A1 bh.length c1, .slice A2 H.length c2] w (MadeW w bx bh H) := by
  obtain ⟨P, hP⟩ : ∃ P, MadeW w bx bh H = P := ⟨_, rfl⟩
  have HBAD : Hid (okNew bx bh H = false → ∀ w', Below w.heap.size w w' → P (.returned (.tuple #[.pointer none, .int .i64 1])) w') := Lib.hid (fun h w' hb => by rw [← hP]; exact .inl ⟨h, rfl, hb⟩)
  have HGOOD : Hid (okNew bx bh H = true → ∀ w' wb bv sv hv, Wp w wb bv sv hv (sitesOf bx bh) H (bx.map freshP) 0 [] w' → P (.returned (.tuple #[.pointer (some ⟨wb, 0, none⟩), .int .i64 0])) w') := Lib.hid (fun h w' wb bv sv hv hw => by rw [← hP]; exact .inr ⟨h, wb, bv, sv, hv, rfl, hw⟩)
  rw [hP]
  clear hP
  have H0 := Lib.hid h0; have H1 := Lib.hid h1; have H2 := Lib.hid h2; have HN2 := Lib.hid hn2; have HX := Lib.hid hx
  obtain ⟨n, hn⟩ : ∃ n, bx.length = n := ⟨_, rfl⟩
  obtain ⟨m, hm⟩ : ∃ m, bh.length = m := ⟨_, rfl⟩
  obtain ⟨r, hr⟩ : ∃ r, H.length = r := ⟨_, rfl⟩
  have HL : Hid (bx.length = n ∧ bh.length = m ∧ H.length = r) := Lib.hid ⟨hn, hm, hr⟩
  rw [hn, hm, hr]
  clear h0 h1 h2 hn2 hx hn hm hr
  go_enter Try.func8, Try.ntmps8
  by_cases g1 : 16 < n
  · have HE : Hid (okNew bx bh H = false) := Lib.hid (by unfold okNew; simp; have := HL.out; omega)
    have g1z : (16 : Int) < (n : Int) := by omega
    go_wp2
    exact HBAD.out HE.out _ (Below.refl _ _)
  by_cases g2 : m = n
  case neg =>
    have HE : Hid (okNew bx bh H = false) := Lib.hid (by unfold okNew; have := HL.out; have e : ¬ bh.length = bx.length := by omega
                                                         simp [e])
    have g1z : ¬ (16 : Int) < (n : Int) := by omega
    have g2z : ((m : Int) != (n : Int)) = true := by simp; omega
    go_wp2
    exact HBAD.out HE.out _ (Below.refl _ _)
  subst g2
  by_cases g3 : 16 < r
  · have HE : Hid (okNew bx bh H = false) := Lib.hid (by unfold okNew; have := HL.out; have e : ¬ H.length ≤ 16 := by omega
                                                         simp [e])
    have g1z : ¬ (16 : Int) < (m : Int) := by omega
    have g3z : (16 : Int) < (r : Int) := by omega
    go_wp2
    exact HBAD.out HE.out _ (Below.refl _ _)
  have g1z : ¬ (16 : Int) < (m : Int) := by omega
  have g3z : ¬ (16 : Int) < (r : Int) := by omega
  have HCL := Lib.hid (clone_s A2 c2 H w H2.out HN2.out (by have := HL.out; omega))
  rw [HL.out.2.2] at HCL
  go_wp2_with fail
  refine HCL.out.mono ?_
  rintro e w1 ⟨hv, rfl, hown, hb1⟩
  obtain ⟨Ah, Ch, rfl, -, -⟩ := own_form hown
  have hsz1 := hb1.size
  have HOWN := Lib.hid hown; have HB1 := Lib.hid hb1
  have hwo : Wo (w1.alloc (.cells #[.slice none 0 0, .slice none 0 0, .slice Ah r Ch, .int .i64 0] 60)) w.heap.size w1.heap.size (.slice none 0 0) (.slice none 0 0) (.slice Ah r Ch) [] H [] 0 :=
    ⟨World.alloc_heap_new w1 _, World.ownsRow_nil _ _ _ _, World.ownsRow_nil _ _ _ _, (by rw [HL.out.2.2]; exact hown.alloc _), by simp, ⟨hsz1, by simp⟩, fun i j b c hi => by simp at hi⟩
  have HWO := Lib.hid hwo
  have HBW : Hid (Below w.heap.size w (w1.alloc (.cells #[.slice none 0 0, .slice none 0 0, .slice Ah r Ch, .int .i64 0] 60))) := Lib.hid (hb1.alloc hsz1 _)
  obtain ⟨wb, hwb⟩ : ∃ wb, w1.heap.size = wb := ⟨_, rfl⟩
  obtain ⟨W1, hW1⟩ : ∃ W1, w1.alloc (.cells #[.slice none 0 0, .slice none 0 0, .slice Ah r Ch, .int .i64 0] 60) = W1 := ⟨_, rfl⟩
  rw [hwb] at HWO
  rw [hW1] at HWO HBW
  clear hown hb1 hwo HCL g1z g3z
  go_upto_region 4 with fail
  clear hW1
  go_wp2
  go_loopg [34] m (fun gg s34 wr => ∃ (k : Nat) (B : List Bm) (bv sv : Value), k ≤ m ∧ m - k ≤ gg ∧ s34 = .int .i64 (k : Int) ∧ Hid (Wo wr w.heap.size wb bv sv (.slice Ah r Ch) (sitesOf (bx.take k) (bh.take k)) H B 0) ∧ Hid (B.map Bm.plain = (bx.take k).map freshP) ∧ Hid (Below w.heap.size w wr) ∧ Hid (∀ x ∈ bx.take k, box2 x = true) ∧ Hid (∀ g, (Value.slice Ah r Ch).ownBlock = some g → sv.ownBlock ≠ some g))
  case atStart => exact ⟨0, [], _, _, by omega, by omega, rfl, HWO, Lib.hid rfl, HBW, Lib.hid (by simp), Lib.hid (fun g _ e => by cases e)⟩
  case round =>
    obtain ⟨k, B, bv, sv, hk, hkg, rfl, HW, HP, HB, HOKB, HSEP⟩ := hrel
    clear HWO HBW
    have hwr := HB.out.size
    by_cases hkm : k < m
    · obtain ⟨x, hxk⟩ : ∃ x, bx[k]? = some x := ⟨_, List.getElem?_eq_getElem (by have := HL.out; omega)⟩
      obtain ⟨z, hzk⟩ : ∃ z, bh[k]? = some z := ⟨_, List.getElem?_eq_getElem (by have := HL.out; omega)⟩
      have hkz : (k : Int) < (m : Int) := by omega
      obtain ⟨xb, xo, rfl, hxb, hxc⟩ := H0.out (by have := HL.out; omega)
      obtain ⟨ib, io, rfl, hib, hic⟩ := H1.out (by have := HL.out; omega)
      have hq := fun i hi => (HB.out.cell (p := ⟨xb, xo + k * 7 + i, none⟩) hxb).trans (hxc k x hxk i hi)
      have q0 : wr.cell? ⟨xb, xo + k * 7, none⟩ = some (.int .u32 x.host) := hq 0 (by omega)
      have q1 : wr.cell? ⟨xb, xo + k * 7 + 1, none⟩ = some (.int .i64 x.lo) := hq 1 (by omega)
      have q2 : wr.cell? ⟨xb, xo + k * 7 + 2, none⟩ = some (.int .i64 x.hi) := hq 2 (by omega)
      have q3 : wr.cell? ⟨xb, xo + k * 7 + 3, none⟩ = some (.int .i64 x.map) := hq 3 (by omega)
      have q4 : wr.cell? ⟨xb, xo + k * 7 + 4, none⟩ = some (.int .i64 x.filter) := hq 4 (by omega)
      have q5 : wr.cell? ⟨xb, xo + k * 7 + 5, none⟩ = some (.int .i64 x.life) := hq 5 (by omega)
      have q6 : wr.cell? ⟨xb, xo + k * 7 + 6, none⟩ = some (.int .i64 x.most) := hq 6 (by omega)
      have hqi := (HB.out.cell (p := ⟨ib, io + k, none⟩) hib).trans (hic k z hzk)
      have hxw : xb < wr.heap.size := Nat.lt_of_lt_of_le hxb hwr
      have hiw : ib < wr.heap.size := Nat.lt_of_lt_of_le hib hwr
      have HNB := Lib.hid (fun W => new_any x W (HX.out x (List.mem_of_getElem? hxk)))
      have HXK := Lib.hid hxk; have HZK := Lib.hid hzk; have HQI : Hid (∀ W, Below w.heap.size w W → W.cell? ⟨ib, io + k, none⟩ = some (.int .i64 z)) := Lib.hid (fun W hb => (hb.cell (p := ⟨ib, io + k, none⟩) hib).trans (hic k z hzk))
      unfold boxCells at HNB
      clear hxc hic hq hxk hzk hqi
      go_wp2_with fail
      refine (HNB.out _).mono ?_
      rintro e V1 ⟨hbn, hmade⟩
      have HBN := Lib.hid hbn
      have hszn := hbn.size
      simp only [World.size_alloc] at hszn
      cases hb2 : box2 x with
      | false =>
        rw [hb2] at hmade
        rw [if_neg (by decide)] at hmade
        subst hmade
        have HE : Hid (okNew bx bh H = false) := Lib.hid (by
          have : bx.all box2 = false := by
            rw [List.all_eq_false]
            exact ⟨x, List.mem_of_getElem? HXK.out, by rw [hb2]; simp⟩
          unfold okNew
          rw [this]; simp)
        have HBE : Hid (Below w.heap.size w V1) := Lib.hid ((HB.out.alloc hwr (.cells #[.int .u32 x.host, .int .i64 x.lo, .int .i64 x.hi, .int .i64 x.map, .int .i64 x.filter, .int .i64 x.life, .int .i64 x.most] 55)).trans (hbn.mono (by simp; omega)))
        clear hbn hb2 q0 q1 q2 q3 q4 q5 q6
        go_wp2
        exact HBAD.out HE.out _ HBE.out
      | true =>
        rw [hb2, if_pos rfl] at hmade
        obtain ⟨g, rfl, hg, hna⟩ := hmade
        simp only [World.size_alloc] at hg
        have hwo1 := HW.out.below ((Below.refl _ wr).alloc (Nat.le_refl _) (.cells #[.int .u32 x.host, .int .i64 x.lo, .int .i64 x.hi, .int .i64 x.map, .int .i64 x.filter, .int .i64 x.life, .int .i64 x.most] 55))
        have hwo2 := hwo1.below hbn
        have hgx : V1.heap[wr.heap.size]? = some (.cells #[.int .u32 x.host, .int .i64 x.lo, .int .i64 x.hi, .int .i64 x.map, .int .i64 x.filter, .int .i64 x.life, .int .i64 x.most] 55 (0, 0)) := (hbn.block _ (by simp)).trans (World.alloc_heap_new wr _)
        have hbV1 : Below w.heap.size w V1 := (HB.out.alloc hwr _).trans (hbn.mono (by simp; omega))
        obtain ⟨bv', W2, r1, r2, r3, r4⟩ := app_p (ps := B.map Bm.nb) (by rw [List.length_map]; exact hwo2.bxs) (by have h9 := congrArg List.length HP.out; simp at h9 ⊢; omega) hbV1.size g
        have R1 := Lib.hid r1; have HNA := Lib.hid hna; have HGX := Lib.hid hgx
        have hwo3 := hwo1.add_box hbn hna (by simp; omega) r2 r3 r4 (by simp; omega)
        have HW3 := Lib.hid hwo3
        have hwV1 := hwo2.lt
        obtain ⟨t0, t1, t2, -⟩ : V1.cell? ⟨wb, 0, none⟩ = some bv ∧ V1.cell? ⟨wb, 1, none⟩ = some sv ∧ V1.cell? ⟨wb, 2, none⟩ = some (.slice Ah r Ch) ∧ True := ⟨(cells_of hwo2.top 0).1, (cells_of hwo2.top 1).1, (cells_of hwo2.top 2).1, trivial⟩
        have hwW2 : W2.heap[wb]? = V1.heap[wb]? := r4.block wb hwV1 (fun e => hwo2.top_row hwo2.bxs (.inr rfl) e rfl)
        have y0 := (cells_of (hwW2.trans hwo2.top) 0).1
        have y1 := (cells_of (hwW2.trans hwo2.top) 0).2
        have HB3 : Hid (Below w.heap.size w (W2.setCell ⟨wb, 0, none⟩ bv')) := Lib.hid ((hbV1.trans (r4.below (fun k hk => (hwo2.bxs.lt k hk).1) hbV1.size)).setCell (p := ⟨wb, 0, none⟩) hwo2.low.1 _)
        obtain ⟨Abv, Nbv, Cbv, e1⟩ : ∃ A n c, bv = .slice A n c := by obtain ⟨A, c, e, _⟩ := own_form hwo2.bxs; exact ⟨A, _, c, e⟩
        obtain ⟨A9, N9, C9, e2⟩ : ∃ A n c, bv' = .slice A n c := by obtain ⟨A, c, e, _⟩ := own_form r2; exact ⟨A, _, c, e⟩
        have HGX3 : Hid ((W2.setCell ⟨wb, 0, none⟩ bv').cell? ⟨wr.heap.size, 0, none⟩ = some (.int .u32 x.host)) := Lib.hid (by
          have h9 : wr.heap.size ≠ wb := by have := HW.out.lt; omega
          have h8 : wr.heap.size < V1.heap.size := by omega
          have h7 : bv.ownBlock ≠ some wr.heap.size := fun e => by have := (HW.out.bxs.lt _ e).2; omega
          exact (cells_of ((heap_setCell_other W2 ⟨wb, 0, none⟩ _ _ h9).trans ((r4.block _ h8 h7).trans hgx)) 0).1)
        subst e1 e2
        clear hna hgx hwo1 hwo2 hwo3 r1 r2 r3 r4 hbn hbV1 q0 q1 q2 q3 q4 q5 q6
        have hgv : wr.heap.size < V1.heap.size := by omega
        go_wp2_with (at_builtin; refine wpList_run rfl (.tmp 50) (.tmp 52) 58 rfl rfl rfl R1.out ?_)
        obtain ⟨V3, hV3⟩ : ∃ V3, W2.setCell ⟨wb, 0, none⟩ (.slice A9 N9 C9) = V3 := ⟨_, rfl⟩
        rw [hV3] at HW3 HB3 HGX3 ⊢
        clear hV3 t0 t1 t2 y0 y1 hwW2 hwV1 R1
        have hwd := HW3.out.below (below_drw (Below.refl _ _) 1)
        have hbd : Below w.heap.size w (V3.drewN 1) := HB3.out.trans ((below_drw (Below.refl _ V3) 1).mono HB3.out.size)
        obtain ⟨sv', W8, u1, u2, u3, u4⟩ := app_s hwd.sts (by rw [show (sitesOf (bx.take k) (bh.take k)).length = k by rw [sitesOf_len (by rw [List.length_take, List.length_take]; have := HL.out; omega), List.length_take]; have := HL.out; omega]; omega) hbd.size (x.host, z)
        have R4 := Lib.hid u1
        dsimp only at R4
        have hwo5 := hwd.add_site u2 u3 u4 HSEP.out
        have HW5 := Lib.hid hwo5
        have hne : ∀ k, sv.ownBlock = some k → k ≠ wb := fun k hk => hwd.top_row hwd.sts (.inl rfl) hk
        have hw8 : W8.heap[wb]? = _ := (u4.block wb hwd.lt (fun e => hne wb e rfl)).trans hwd.top
        have y0 := (cells_of hw8 1).1
        have y1 := (cells_of hw8 1).2
        have HB5 : Hid (Below w.heap.size w (W8.setCell ⟨wb, 1, none⟩ sv')) := Lib.hid ((hbd.trans (u4.below (fun k hk => (hwd.sts.lt k hk).1) hbd.size)).setCell (p := ⟨wb, 1, none⟩) hwd.low.1 _)
        have HSEP5 : Hid (∀ g, (Value.slice Ah r Ch).ownBlock = some g → sv'.ownBlock ≠ some g) := Lib.hid (fun g hg e => by
          rcases u3 g e with h9 | h9
          · exact HSEP.out g hg h9
          · have := (hwd.hst.lt g hg).2
            omega)
        obtain ⟨Asv, Nsv, Csv, e3⟩ : ∃ A n c, sv = .slice A n c := by obtain ⟨A, c, e, _⟩ := own_form hwd.sts; exact ⟨A, _, c, e⟩
        obtain ⟨A8, N8, C8, e4⟩ : ∃ A n c, sv' = .slice A n c := by obtain ⟨A, c, e, _⟩ := own_form u2; exact ⟨A, _, c, e⟩
        have s1 := (cells_of hwd.top 1).1
        have s2 : (V3.drewN 1).cell? ⟨wr.heap.size, 0, none⟩ = some (.int .u32 x.host) := HGX3.out
        have s3 := HQI.out _ hbd
        have hba := (Below.refl _ (V3.drewN 1)).alloc (Nat.le_refl _) (.cells #[.int .u32 x.host, .int .i64 z] 42)
        have s4 := (hba.cell (p := ⟨wb, 1, none⟩) hwd.lt).trans s1
        have s5 := (hba.cell (p := ⟨wr.heap.size, 0, none⟩) (World.block_lt_of_cell? _ _ s2)).trans s2
        have s6 := HQI.out _ (hbd.trans (hba.mono hbd.size))
        subst e3 e4
        have g3 := HGX3.out
        have hm3 := HQI.out _ HB3.out
        clear hwd hbd u1 u2 u3 u4 hwo5 hne hw8 hba HGX HGX3 HW HB
        go_wp2_with fail
        refine wp_region_till (S := fun W => W.cell? ⟨wb, 1, none⟩ = some (.slice Asv Nsv Csv) ∧ W.cell? ⟨wr.heap.size, 0, none⟩ = some (.int .u32 x.host) ∧ W.cell? ⟨ib, io + k, none⟩ = some (.int .i64 z)) (z := 13) (by kernel_rfl) ⟨s1, s2, s3⟩ (fun hHeld => ?_)
        refine till_pure (i := 0) (oi := _) (v := ?_) rfl (by kernel_rfl) (by decide) (by kernel_rfl) (by kernel_rfl) (fun _ _ _ h => h) (Or.inl ⟨by rfl, ?_⟩) (fun _ => hHeld) ?_
        case refine_2 => intro w _; go_simp; first | done | (with_reducible rfl)
        try simp only [Act.put, List.getElem_toArray, List.getElem_cons_zero, List.setIfInBounds_toArray, List.set_cons_zero, List.set_cons_succ]
        refine till_take (i := 1) (oi := _) (v := ?_) [4, 3, 2] rfl (by kernel_rfl) (by kernel_rfl) (by decide) (by kernel_rfl) (by kernel_rfl) (by kernel_rfl) (fun _ _ _ h => h) (Or.inl ⟨by rfl, ?_⟩) (by assumption) ?_
        case refine_2 => intro w hSw; (try dsimp only at hSw); obtain ⟨z1, z2, z3⟩ := hSw; go_simp; first | done | (with_reducible rfl)
        try simp only [Act.put, List.getElem_toArray, List.getElem_cons_zero, List.getElem_cons_succ, List.setIfInBounds_toArray, List.set_cons_zero, List.set_cons_succ]
        refine till_take (i := 2) (oi := _) (v := ?_) [4, 3] rfl (by kernel_rfl) (by kernel_rfl) (by decide) (by kernel_rfl) (by kernel_rfl) (by kernel_rfl) (fun _ _ _ h => h) (Or.inl ⟨by rfl, ?_⟩) (by assumption) ?_
        case refine_2 => intro w hSw; (try dsimp only at hSw); obtain ⟨z1, z2, z3⟩ := hSw; go_simp; first | done | (with_reducible rfl)
        try simp only [Act.put, List.getElem_toArray, List.getElem_cons_zero, List.getElem_cons_succ, List.setIfInBounds_toArray, List.set_cons_zero, List.set_cons_succ]
        refine till_take (i := 3) (oi := _) (v := ?_) [4] rfl (by kernel_rfl) (by kernel_rfl) (by decide) (by kernel_rfl) (by kernel_rfl) (by kernel_rfl) (fun _ _ _ h => h) (Or.inl ⟨by rfl, ?_⟩) (by assumption) ?_
        case refine_2 => intro w hSw; (try dsimp only at hSw); obtain ⟨z1, z2, z3⟩ := hSw; go_simp; first | done | (with_reducible rfl)
        try simp only [Act.put, List.getElem_toArray, List.getElem_cons_zero, List.getElem_cons_succ, List.setIfInBounds_toArray, List.set_cons_zero, List.set_cons_succ]
        refine till_take (i := 4) (oi := _) (v := ?_) [] rfl (by kernel_rfl) (by kernel_rfl) (by decide) (by kernel_rfl) (by kernel_rfl) (by kernel_rfl) (fun _ _ _ h => h) (Or.inl ⟨by rfl, ?_⟩) (by assumption) ?_
        case refine_2 => intro w hSw; (try dsimp only at hSw); obtain ⟨z1, z2, z3⟩ := hSw; go_simp; first | done | (with_reducible rfl)
        try simp only [Act.put, List.getElem_toArray, List.getElem_cons_zero, List.getElem_cons_succ, List.setIfInBounds_toArray, List.set_cons_zero, List.set_cons_succ]
        refine till_take (i := 5) (oi := _) (v := ?_) [12, 11, 6] rfl (by kernel_rfl) (by kernel_rfl) (by decide) (by kernel_rfl) (by kernel_rfl) (by kernel_rfl) (fun _ _ _ h => h) (Or.inl ⟨by rfl, ?_⟩) (by assumption) ?_
        case refine_2 => intro w hSw; (try dsimp only at hSw); obtain ⟨z1, z2, z3⟩ := hSw; go_simp; first | done | (with_reducible rfl)
        try simp only [Act.put, List.getElem_toArray, List.getElem_cons_zero, List.getElem_cons_succ, List.setIfInBounds_toArray, List.set_cons_zero, List.set_cons_succ]
        refine till_take (i := 6) (oi := _) (v := ?_) [12, 11] rfl (by kernel_rfl) (by kernel_rfl) (by decide) (by kernel_rfl) (by kernel_rfl) (by kernel_rfl) (fun _ _ _ h => h) (Or.inl ⟨by rfl, ?_⟩) (by assumption) ?_
        case refine_2 => intro w hSw; (try dsimp only at hSw); obtain ⟨z1, z2, z3⟩ := hSw; go_simp; first | done | (with_reducible rfl)
        try simp only [Act.put, List.getElem_toArray, List.getElem_cons_zero, List.getElem_cons_succ, List.setIfInBounds_toArray, List.set_cons_zero, List.set_cons_succ]
        refine till_take (i := 7) (oi := _) (v := ?_) [12, 11, 10, 9] rfl (by kernel_rfl) (by kernel_rfl) (by decide) (by kernel_rfl) (by kernel_rfl) (by kernel_rfl) (fun _ _ _ h => h) (Or.inl ⟨by rfl, ?_⟩) (by assumption) ?_
        case refine_2 => intro w hSw; (try dsimp only at hSw); obtain ⟨z1, z2, z3⟩ := hSw; go_simp; first | done | (with_reducible rfl)
        try simp only [Act.put, List.getElem_toArray, List.getElem_cons_zero, List.getElem_cons_succ, List.setIfInBounds_toArray, List.set_cons_zero, List.set_cons_succ]
        refine till_take (i := 8) (oi := _) (v := ?_) [12, 11, 10, 9] rfl (by kernel_rfl) (by kernel_rfl) (by decide) (by kernel_rfl) (by kernel_rfl) (by kernel_rfl) (fun _ _ _ h => h) (Or.inl ⟨by rfl, ?_⟩) (by assumption) ?_
        case refine_2 => intro w hSw; (try dsimp only at hSw); obtain ⟨z1, z2, z3⟩ := hSw; go_simp; first | done | (with_reducible rfl)
        try simp only [Act.put, List.getElem_toArray, List.getElem_cons_zero, List.getElem_cons_succ, List.setIfInBounds_toArray, List.set_cons_zero, List.set_cons_succ]
        refine till_take (i := 9) (oi := _) (v := ?_) [12, 11, 10] rfl (by kernel_rfl) (by kernel_rfl) (by decide) (by kernel_rfl) (by kernel_rfl) (by kernel_rfl) (fun _ _ _ h => h) (Or.inl ⟨by rfl, ?_⟩) (by assumption) ?_
        case refine_2 => intro w hSw; (try dsimp only at hSw); obtain ⟨z1, z2, z3⟩ := hSw; go_simp; first | done | (with_reducible rfl)
        try simp only [Act.put, List.getElem_toArray, List.getElem_cons_zero, List.getElem_cons_succ, List.setIfInBounds_toArray, List.set_cons_zero, List.set_cons_succ]
        refine till_take (i := 10) (oi := _) (v := ?_) [12, 11] rfl (by kernel_rfl) (by kernel_rfl) (by decide) (by kernel_rfl) (by kernel_rfl) (by kernel_rfl) (fun _ _ _ h => h) (Or.inl ⟨by rfl, ?_⟩) (by assumption) ?_
        case refine_2 => intro w hSw; (try dsimp only at hSw); obtain ⟨z1, z2, z3⟩ := hSw; go_simp; first | done | (with_reducible rfl)
        try simp only [Act.put, List.getElem_toArray, List.getElem_cons_zero, List.getElem_cons_succ, List.setIfInBounds_toArray, List.set_cons_zero, List.set_cons_succ]
        refine till_take (i := 11) (oi := _) (v := ?_) [12] rfl (by kernel_rfl) (by kernel_rfl) (by decide) (by kernel_rfl) (by kernel_rfl) (by kernel_rfl) (fun _ _ _ h => h) (Or.inl ⟨by rfl, ?_⟩) (by assumption) ?_
        case refine_2 => intro w hSw; (try dsimp only at hSw); obtain ⟨z1, z2, z3⟩ := hSw; go_simp; first | done | (with_reducible rfl)
        try simp only [Act.put, List.getElem_toArray, List.getElem_cons_zero, List.getElem_cons_succ, List.setIfInBounds_toArray, List.set_cons_zero, List.set_cons_succ]
        refine till_ready (rs := [12]) (by kernel_rfl) (by simp) ?_
        refine TillReady.cons rfl (fun K hK => ?_) TillReady.nil
        go_simp
        refine hK.out _ _ ⟨s4, s5, s6⟩ (fun hHeld => ?_)
        clear hK K
        try simp only [Act.put, List.getElem_toArray, List.getElem_cons_zero, List.getElem_cons_succ, List.setIfInBounds_toArray, List.set_cons_zero, List.set_cons_succ]
        refine till_ready (rs := [13]) (by kernel_rfl) (by simp) ?_
        refine TillReady.past rfl (by kernel_rfl) (fun K hK => ?_) TillReady.nil
        refine step_run rfl (.tmp 60) (.tmp 68) 24 rfl (v1 := .slice Asv Nsv Csv) (v2 := .slice (some ⟨V3.heap.size, 0, none⟩) 1 1) (v := .slice A8 N8 C8) (W' := W8) rfl rfl (by exact R4.out _) ?_
        refine hK.out _ _ ?_
        clear hK K
        try simp only [Act.put, List.getElem_toArray, List.getElem_cons_zero, List.getElem_cons_succ, List.setIfInBounds_toArray, List.set_cons_zero, List.set_cons_succ]
        refine till_pure (i := 14) (oi := _) (v := ?_) rfl (by kernel_rfl) (by decide) (by kernel_rfl) (by kernel_rfl) (fun _ _ _ h => h) (Or.inl ⟨by rfl, ?_⟩) (fun h => absurd h (by decide)) ?_
        case refine_2 => intro w _; go_simp; first | done | (with_reducible rfl)
        try simp only [Act.put, List.getElem_toArray, List.getElem_cons_zero, List.getElem_cons_succ, List.setIfInBounds_toArray, List.set_cons_zero, List.set_cons_succ]
        refine till_pure (i := 15) (oi := _) (v := ?_) rfl (by kernel_rfl) (by decide) (by kernel_rfl) (by kernel_rfl) (fun _ _ _ h => h) (Or.inl ⟨by rfl, ?_⟩) (fun h => absurd h (by decide)) ?_
        case refine_2 => intro w _; go_simp; first | done | (with_reducible rfl)
        try simp only [Act.put, List.getElem_toArray, List.getElem_cons_zero, List.getElem_cons_succ, List.setIfInBounds_toArray, List.set_cons_zero, List.set_cons_succ]
        refine till_ready (rs := [16]) (by kernel_rfl) (by simp) ?_
        refine TillReady.past rfl (by kernel_rfl) (fun K hK => ?_) TillReady.nil
        go_simp
        refine hK.out _ _ ?_
        clear hK K
        try simp only [Act.put, List.getElem_toArray, List.getElem_cons_zero, List.getElem_cons_succ, List.setIfInBounds_toArray, List.set_cons_zero, List.set_cons_succ]
        refine till_done (by kernel_rfl) ?_ _
        go_wp2
        go_roundg (m - (k + 1))
        case measure => omega
        case rel =>
          refine ⟨k + 1, B ++ [newM g x], .slice A9 N9 C9, .slice A8 N8 C8, by omega, by omega, by go_num, Lib.hid ?_, Lib.hid ?_, HB5, Lib.hid ?_, HSEP5⟩
          · rw [sites_take HXK.out HZK.out]; exact HW5.out
          · rw [List.map_append, HP.out, List.take_add_one, HXK.out]; simp [newM, Bm.plain, freshP]
          · intro y hy
            rw [List.take_add_one, HXK.out] at hy
            rcases List.mem_append.1 hy with hy | hy
            · exact HOKB.out y hy
            · simp only [Option.toList_some, List.mem_singleton] at hy
              rw [hy]; exact hb2
    · obtain rfl : k = m := by omega
      have e1 : bx.take k = bx := List.take_of_length_le (by have := HL.out; omega)
      have e2 : bh.take k = bh := List.take_of_length_le (by have := HL.out; omega)
      rw [e1] at HW HP HOKB
      rw [e2] at HW
      have hsl : (sitesOf bx bh).length = k := by rw [sitesOf_len (by have := HL.out; omega)]; exact HL.out.1
      have hwp : Wp w wb bv sv (.slice Ah r Ch) (sitesOf bx bh) H (bx.map freshP) 0 [] wr := ⟨⟨B, HW.out, HP.out, by simp⟩, by simp, HB.out⟩
      have HST := Lib.hid (stands_any hwp (by rw [List.length_map, hsl]; exact HL.out.1) (by omega) (by have := HL.out; omega))
      have HOK : Hid (okNew bx bh H = standB (sitesOf bx bh) H) := Lib.hid (by
        obtain ⟨h1, h2, h3⟩ := HL.out
        have h4 : bx.all box2 = true := by rw [List.all_eq_true]; exact HOKB.out
        unfold okNew
        rw [h4, decide_eq_true (by omega : bx.length ≤ 16), decide_eq_true (by omega : bh.length = bx.length), decide_eq_true (by omega : H.length ≤ 16)]; simp)
      clear e1 e2 hwp
      go_wp2_with fail
      refine HST.out.mono ?_
      rintro e W5 ⟨rfl, hw5⟩
      have HW5 := Lib.hid hw5
      cases hst : standB (sitesOf bx bh) H with
      | false =>
        have HE := Lib.hid (HOK.out.trans hst)
        clear hst hw5
        go_wp2
        exact HBAD.out HE.out _ HW5.out.low
      | true =>
        have HE := Lib.hid (HOK.out.trans hst)
        clear hst hw5
        go_wp2
        exact HGOOD.out HE.out _ _ _ _ _ HW5.out
end Go.Proofs.Ytidhdgcmagpkgaa
