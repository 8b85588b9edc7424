/-
  The contract of the document's own Same of two messages. No conditions.
-/
import Derived.Test.YtebgfiibcmnfnaaDoorLawIn
namespace Go.Proofs.YtebgfiibcmnfnaaDoor
open Go.RowKit
set_option linter.unusedVariables false

theorem msg_eq {m n : Wi.Msg} : m = n ↔ m.kind = n.kind ∧ m.nums = n.nums ∧ m.addrs = n.addrs ∧ m.body = n.body := by
  cases m; cases n; simp
theorem list_eq {α : Type} [Inhabited α] (d : α) {a b : List α} (hl : a.length = b.length) (h : ∀ j, j < a.length → a.getD j d = b.getD j d) : a = b := by
  refine List.ext_getElem hl (fun i h1 h2 => ?_)
  have := h i h1
  simpa [List.getD, h1, h2] using this

set_option maxRecDepth 100000 in
set_option maxHeartbeats 4000000 in
theorem rsame_msg (m n : Wi.Msg) (x1 x2 x3 y1 y2 y3 : Value) (w : World) (hm : MsgV w x1 x2 x3 m) (hn : MsgV w y1 y2 y3 n) :
    Calls Tryd.prog 19 #[.agg #[.int .i64 m.kind, x1, x2, x3], .agg #[.int .i64 n.kind, y1, y2, y3]] w fun e w' => ∃ t, e = .returned (.bool t) ∧ (t = true ↔ m = n) ∧ Below w.heap.size w w' := by
  have HE : Hid (m = n ↔ m.kind = n.kind ∧ m.nums = n.nums ∧ m.addrs = n.addrs ∧ m.body = n.body) := Lib.hid msg_eq
  have HM := Lib.hid hm; have HN := Lib.hid hn
  obtain ⟨⟨A1, c1, rfl, n1, n2, n3, n4, n5⟩, ⟨A2, c2, rfl, a1, a2, a3, a4, a5⟩, ⟨A3, c3, rfl, b1, b2, b3, b4⟩, k0, k1⟩ := hm
  obtain ⟨⟨D1, e1, rfl, p1, p2, p3, p4, p5⟩, ⟨D2, e2, rfl, q1, q2, q3, q4, q5⟩, ⟨D3, e3, rfl, r1, r2, r3, r4⟩, l0, l1⟩ := hn
  have N5 := Lib.hid n5; have A5 := Lib.hid a5; have P5 := Lib.hid p5; have Q5 := Lib.hid q5
  have CS := Lib.hid (fun W (hb : Below w.heap.size w W) => same_any A3 D3 m.body.length n.body.length c3 e3 m.body n.body W (Nat.le_trans b2 b3) (b1.below hb) (r1.below hb))
  unfold maxLen at n2 a2 b3 p2 q2 r3
  obtain ⟨kd, hkd⟩ : ∃ q, m.kind = q := ⟨_, rfl⟩
  obtain ⟨ke, hke⟩ : ∃ q, n.kind = q := ⟨_, rfl⟩
  obtain ⟨nl, hnl⟩ : ∃ q, m.nums.length = q := ⟨_, rfl⟩
  obtain ⟨ol, hol⟩ : ∃ q, n.nums.length = q := ⟨_, rfl⟩
  obtain ⟨al, hal⟩ : ∃ q, m.addrs.length = q := ⟨_, rfl⟩
  obtain ⟨cl, hcl⟩ : ∃ q, n.addrs.length = q := ⟨_, rfl⟩
  rw [hkd, hke] at HE ⊢
  rw [hnl] at N5 n1 ⊢; rw [hol] at P5 p1 ⊢; rw [hal] at A5 a1 ⊢; rw [hcl] at Q5 q1 ⊢
  have HNL := Lib.hid hnl; have HOL := Lib.hid hol; have HAL := Lib.hid hal; have HCL := Lib.hid hcl
  obtain ⟨bl, hbl⟩ : ∃ q, m.body.length = q := ⟨_, rfl⟩
  obtain ⟨dl, hdl⟩ : ∃ q, n.body.length = q := ⟨_, rfl⟩
  rw [hbl] at CS b2 ⊢; rw [hdl] at CS r2 ⊢
  clear hkd hke hnl hol hal hcl hbl hdl n3 n4 n5 a3 a4 a5 b1 b4 p3 p4 p5 q3 q4 q5 r1 r4 k0 k1 l0 l1
  have HB0 : Hid (Below w.heap.size w ((w.alloc (.cells #[.int .i64 kd, .slice A1 nl c1, .slice A2 al c2, .slice A3 bl c3] 26)).alloc (.cells #[.int .i64 ke, .slice D1 ol e1, .slice D2 cl e2, .slice D3 dl e3] 26))) := Lib.hid (((Below.refl _ _).alloc (Nat.le_refl _) _).alloc (by simp) _)
  have hX0 := (Mx.new w kd (.slice A1 nl c1) (.slice A2 al c2) (.slice A3 bl c3)).call ((Below.refl (w.alloc (.cells #[.int .i64 kd, .slice A1 nl c1, .slice A2 al c2, .slice A3 bl c3] 26)).heap.size _).alloc (Nat.le_refl _) (.cells #[.int .i64 ke, .slice D1 ol e1, .slice D2 cl e2, .slice D3 dl e3] 26))
  have hY0 := Mx.new (w.alloc (.cells #[.int .i64 kd, .slice A1 nl c1, .slice A2 al c2, .slice A3 bl c3] 26)) ke (.slice D1 ol e1) (.slice D2 cl e2) (.slice D3 dl e3)
  rw [World.size_alloc] at hY0
  have HX0 := Lib.hid hX0; have HY0 := Lib.hid hY0
  clear hX0 hY0
  by_cases hk : kd = ke
  · by_cases hl : nl = ol
    · by_cases ha : al = cl
      · subst hk hl ha
        have HS := Lib.hid (CS.out _ HB0.out)
        have hdr : ∀ q, Below w.heap.size w (((w.alloc (.cells #[.int .i64 kd, .slice A1 nl c1, .slice A2 al c2, .slice A3 bl c3] 26)).alloc (.cells #[.int .i64 kd, .slice D1 nl e1, .slice D2 al e2, .slice D3 dl e3] 26)).drewN q) := fun q => below_drewN' HB0.out q
        have HDR := Lib.hid hdr
        clear hdr
        by_cases hb : m.body = n.body
        · have hd : decide (m.body = n.body) = true := by simp [hb]
          rw [hd] at HS
          have HBO := Lib.hid hb
          clear hb hd
          go_enter Tryd.func19, Tryd.ntmps19
          go_wp2_with fail
          refine HS.out.mono ?_
          rintro e w1 ⟨rfl, q, rfl⟩
          have HB1 := Lib.hid (HDR.out q)
          have HX1 := Lib.hid (HX0.out.call (below_drewN' (Below.refl _ _) q))
          have HY1 := Lib.hid (HY0.out.call (below_drewN' (Below.refl _ _) q))
          generalize ((w.alloc (.cells #[.int .i64 kd, .slice A1 nl c1, .slice A2 al c2, .slice A3 bl c3] 26)).alloc (.cells #[.int .i64 kd, .slice D1 nl e1, .slice D2 al e2, .slice D3 dl e3] 26)).drewN q = w1 at *
          obtain ⟨y0, y1, y2, y3⟩ := HX1.out
          obtain ⟨z0, z1, z2, z3⟩ := HY1.out
          clear HX0 HY0 HS HDR
          go_wp2
          clear y0 y1 y2 y3 z0 z1 z2 z3
          go_loopw [5] (fun i wr => ∃ k : Nat, k ≤ nl ∧ i = .int .i64 (k : Int) ∧ Below w.heap.size w wr ∧ Mx wr w.heap.size kd (.slice A1 nl c1) (.slice A2 al c2) (.slice A3 bl c3) ∧ Mx wr (w.heap.size + 1) kd (.slice D1 nl e1) (.slice D2 al e2) (.slice D3 dl e3) ∧ ∀ j, j < k → m.nums.getD j 0 = n.nums.getD j 0) (fun i _ => nl - (intOf i).toNat)
          case atStart => exact ⟨0, by omega, rfl, HB1.out, HX1.out, HY1.out, fun j h => by omega⟩
          case round =>
            obtain ⟨k, hk, rfl, hB, hX, hY, hP⟩ := hrel
            have HP := Lib.hid hP; have HB2 := Lib.hid hB; have HX2 := Lib.hid hX; have HY2 := Lib.hid hY
            clear hP hB
            obtain ⟨y0, y1, y2, y3⟩ := hX
            obtain ⟨z0, z1, z2, z3⟩ := hY
            by_cases hlt : k < nl
            · obtain ⟨g1, o1, rfl, hc1⟩ := N5.out (by omega)
              obtain ⟨g2, o2, rfl, hc2⟩ := P5.out (by omega)
              have hcell1 := (HB2.out.cell (p := ⟨g1, o1 + k, none⟩) (lt_of_cell (hc1 k hlt))).trans (hc1 k hlt)
              have hcell2 := (HB2.out.cell (p := ⟨g2, o2 + k, none⟩) (lt_of_cell (hc2 k hlt))).trans (hc2 k hlt)
              obtain ⟨v1, hv1⟩ : ∃ v, m.nums.getD k 0 = v := ⟨_, rfl⟩
              obtain ⟨v2, hv2⟩ : ∃ v, n.nums.getD k 0 = v := ⟨_, rfl⟩
              rw [hv1] at hcell1; rw [hv2] at hcell2
              have HV1 := Lib.hid hv1; have HV2 := Lib.hid hv2
              clear hc1 hc2 hv1 hv2
              by_cases hvv : v1 = v2
              · subst hvv
                go_wp2_with fail
                go_quiet (fail)
                go_wp2
                go_roundw
                case rel => exact ⟨k + 1, by omega, by go_num, below_drewN' HB2.out _, HX2.out.call (below_drewN' (Below.refl _ _) _), HY2.out.call (below_drewN' (Below.refl _ _) _), fun j hj => by
                  rcases Nat.lt_or_ge j k with h | h
                  · exact HP.out j h
                  · obtain rfl : j = k := by omega
                    rw [HV1.out, HV2.out]⟩
                case measure => simp [intOf]; omega
              · have t1 : ((v1 : Int) != (v2 : Int)) = true := by simp; omega
                have HF : Hid (¬ (m = n)) := Lib.hid (fun h => hvv (by rw [← HV1.out, ← HV2.out, h]))
                clear hvv
                go_wp2_with fail
                go_quiet (fail)
                go_wp2
                go_ret
                exact ⟨false, rfl, by simp [HF.out], below_drewN' HB2.out _⟩
            · obtain rfl : k = nl := by omega
              have HNU : Hid (m.nums = n.nums) := Lib.hid (list_eq 0 (by rw [HNL.out, HOL.out]) (fun j hj => HP.out j (by have := HNL.out; omega)))
              go_wp2
              clear y0 y1 y2 y3 z0 z1 z2 z3
              go_loopw [6] (fun i wr => ∃ j : Nat, j ≤ al ∧ i = .int .i64 (j : Int) ∧ Below w.heap.size w wr ∧ Mx wr w.heap.size kd (.slice A1 k c1) (.slice A2 al c2) (.slice A3 bl c3) ∧ Mx wr (w.heap.size + 1) kd (.slice D1 k e1) (.slice D2 al e2) (.slice D3 dl e3) ∧ ∀ i, i < j → m.addrs.getD i (0, 0) = n.addrs.getD i (0, 0)) (fun i _ => al - (intOf i).toNat)
              case atStart => exact ⟨0, by omega, rfl, HB2.out, HX2.out, HY2.out, fun j h => by omega⟩
              case round =>
                clear HX2 HY2 HB2
                obtain ⟨j, hj, rfl, hB, hX, hY, hP2⟩ := hrel
                have HP2 := Lib.hid hP2; have HB2 := Lib.hid hB; have HX2 := Lib.hid hX; have HY2 := Lib.hid hY
                clear hP2 hB
                obtain ⟨y0, y1, y2, y3⟩ := hX
                obtain ⟨z0, z1, z2, z3⟩ := hY
                by_cases hlt2 : j < al
                · obtain ⟨g1, o1, rfl, hc1⟩ := A5.out (by omega)
                  obtain ⟨g2, o2, rfl, hc2⟩ := Q5.out (by omega)
                  have hcell1 := (HB2.out.cell (p := ⟨g1, o1 + j * 2, none⟩) (lt_of_cell (hc1 j hlt2).1)).trans (hc1 j hlt2).1
                  have hcell1' := (HB2.out.cell (p := ⟨g1, o1 + j * 2 + 1, none⟩) (lt_of_cell (hc1 j hlt2).2)).trans (hc1 j hlt2).2
                  have hcell2 := (HB2.out.cell (p := ⟨g2, o2 + j * 2, none⟩) (lt_of_cell (hc2 j hlt2).1)).trans (hc2 j hlt2).1
                  have hcell2' := (HB2.out.cell (p := ⟨g2, o2 + j * 2 + 1, none⟩) (lt_of_cell (hc2 j hlt2).2)).trans (hc2 j hlt2).2
                  obtain ⟨⟨u1, v1⟩, hv1⟩ : ∃ v, m.addrs.getD j (0, 0) = v := ⟨_, rfl⟩
                  obtain ⟨⟨u2, v2⟩, hv2⟩ : ∃ v, n.addrs.getD j (0, 0) = v := ⟨_, rfl⟩
                  rw [hv1] at hcell1 hcell1'; rw [hv2] at hcell2 hcell2'
                  dsimp only at hcell1 hcell1' hcell2 hcell2'
                  have HV1 := Lib.hid hv1; have HV2 := Lib.hid hv2
                  clear hc1 hc2 hv1 hv2
                  by_cases hu : u1 = u2
                  · by_cases hvv : v1 = v2
                    · subst hvv hu
                      go_wp2_with fail
                      go_quiet (fail)
                      go_wp2
                      go_roundw
                      case rel => exact ⟨j + 1, by omega, by go_num, below_drewN' HB2.out _, HX2.out.call (below_drewN' (Below.refl _ _) _), HY2.out.call (below_drewN' (Below.refl _ _) _), fun i hi => by
                        rcases Nat.lt_or_ge i j with h | h
                        · exact HP2.out i h
                        · obtain rfl : i = j := by omega
                          rw [HV1.out, HV2.out]⟩
                      case measure => simp [intOf]; omega
                    · have t1 : (v1 == v2) = false := by simp [hvv]
                      subst hu
                      have HF : Hid (¬ (m = n)) := Lib.hid (fun h => hvv (by have := HV1.out; rw [h, HV2.out] at this; simp at this; exact this.symm))
                      go_wp2_with fail
                      go_quiet (fail)
                      go_wp2
                      go_ret
                      exact ⟨false, rfl, by simp [HF.out], below_drewN' HB2.out _⟩
                  · have t1 : (u1 == u2) = false := by simp [hu]
                    have HF : Hid (¬ (m = n)) := Lib.hid (fun h => hu (by have := HV1.out; rw [h, HV2.out] at this; simp at this; exact this.1.symm))
                    go_wp2_with fail
                    go_quiet (fail)
                    go_wp2
                    go_ret
                    exact ⟨false, rfl, by simp [HF.out], below_drewN' HB2.out _⟩
                · obtain rfl : j = al := by omega
                  have HAD : Hid (m.addrs = n.addrs) := Lib.hid (list_eq (0, 0) (by rw [HAL.out, HCL.out]) (fun i hi => HP2.out i (by have := HAL.out; omega)))
                  go_wp2
                  go_ret
                  exact ⟨true, rfl, by simp [HE.out, HNU.out, HAD.out, HBO.out], HB2.out⟩
        · have hd : decide (m.body = n.body) = false := by simp [hb]
          rw [hd] at HS
          have HF : Hid (¬ (m = n)) := Lib.hid (fun h => hb (HE.out.1 h).2.2.2)
          clear hb hd
          go_enter Tryd.func19, Tryd.ntmps19
          go_wp2_with fail
          refine HS.out.mono ?_
          rintro e w1 ⟨rfl, q, rfl⟩
          go_wp2
          go_ret
          exact ⟨false, rfl, by simp [HF.out], HDR.out q⟩
      · have t1 : (kd != ke) = false := by simp [hk]
        have t2 : ((nl : Int) != (ol : Int)) = false := by simp [hl]
        have t3 : ((al : Int) != (cl : Int)) = true := by simp; omega
        have HF : Hid (¬ (m = n)) := Lib.hid (fun h => ha (by have := (HE.out.1 h).2.2.1; have h1 := HAL.out; have h2 := HCL.out; rw [this] at h1; omega))
        clear hk hl ha
        go_enter Tryd.func19, Tryd.ntmps19
        go_wp2
        go_ret
        exact ⟨false, rfl, by simp [HF.out], HB0.out⟩
    · have t1 : (kd != ke) = false := by simp [hk]
      have t2 : ((nl : Int) != (ol : Int)) = true := by simp; omega
      have HF : Hid (¬ (m = n)) := Lib.hid (fun h => hl (by have := (HE.out.1 h).2.1; have h1 := HNL.out; have h2 := HOL.out; rw [this] at h1; omega))
      clear hk hl
      go_enter Tryd.func19, Tryd.ntmps19
      go_wp2
      go_ret
      exact ⟨false, rfl, by simp [HF.out], HB0.out⟩
  · have t1 : (kd != ke) = true := by simp [hk]
    have HF : Hid (¬ (m = n)) := Lib.hid (fun h => hk (HE.out.1 h).1)
    clear hk
    go_enter Tryd.func19, Tryd.ntmps19
    go_wp2
    go_ret
    exact ⟨false, rfl, by simp [HF.out], HB0.out⟩
end Go.Proofs.YtebgfiibcmnfnaaDoor
