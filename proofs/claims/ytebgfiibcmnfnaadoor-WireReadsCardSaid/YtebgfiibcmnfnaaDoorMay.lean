/-
  Contracts of embrasure/wire's May and the document's own. Conditions: the table is as the program's text lays it.
-/
import Derived.Test.YtebgfiibcmnfnaaDoorNums
import Derived.Deep.RegionHeld3
import Derived.OwnWalk
import Derived.Deep.QuietTactic
import Derived.BigQuiet
namespace Go.Proofs.YtebgfiibcmnfnaaDoor
open Go.RowKit
set_option linter.unusedVariables false

/-- a message's box -/
structure Mx (W : World) (g : Nat) (k : Int) (x1 x2 x3 : Value) : Prop where
  c0 : W.cell? ⟨g, 0, none⟩ = some (.int .i64 k)
  c1 : W.cell? ⟨g, 1, none⟩ = some x1
  c2 : W.cell? ⟨g, 2, none⟩ = some x2
  c3 : W.cell? ⟨g, 3, none⟩ = some x3
theorem Mx.call {W W' : World} {g : Nat} {k : Int} {x1 x2 x3 : Value} (b : Mx W g k x1 x2 x3) (h : Below W.heap.size W W') : Mx W' g k x1 x2 x3 :=
  ⟨(h.cell (p := ⟨g, 0, none⟩) (lt_of_cell b.c0)).trans b.c0, (h.cell (p := ⟨g, 1, none⟩) (lt_of_cell b.c1)).trans b.c1, (h.cell (p := ⟨g, 2, none⟩) (lt_of_cell b.c2)).trans b.c2, (h.cell (p := ⟨g, 3, none⟩) (lt_of_cell b.c3)).trans b.c3⟩
theorem Mx.new (W : World) (k : Int) (x1 x2 x3 : Value) : Mx (W.alloc (.cells #[.int .i64 k, x1, x2, x3] 26)) W.heap.size k x1 x2 x3 := ⟨by go_simp, by go_simp, by go_simp, by go_simp⟩
theorem may_no {m : Wi.Msg} (h : ¬ ((m.nums.length : Int) = Wi.numsOf m.kind ∧ m.addrs.length ≤ 8 ∧ m.body.length ≤ 1000)) : Wi.may m = false := by
  cases hm : Wi.may m with
  | false => rfl
  | true => have := Wi.may_iff.1 hm; exact absurd ⟨this.1, this.2.1, this.2.2.1⟩ h
theorem may_num {m : Wi.Msg} {k : Nat} (hk : k < m.nums.length) (h : ¬ m.nums.getD k 0 < 9223372036854775808) : Wi.may m = false := by
  cases hm : Wi.may m with
  | false => rfl
  | true =>
    have := (Wi.may_iff.1 hm).2.2.2.1 (m.nums.getD k 0) (by simp [List.getD, hk])
    exact absurd this h
theorem may_adr {m : Wi.Msg} {k : Nat} (hk : k < m.addrs.length) (h : mayA (m.addrs.getD k (0, 0)).1 (m.addrs.getD k (0, 0)).2 = false) : Wi.may m = false := by
  cases hm : Wi.may m with
  | false => rfl
  | true =>
    have := (Wi.may_iff.1 hm).2.2.2.2 (m.addrs.getD k (0, 0)) (by simp [List.getD, hk])
    rw [this] at h
    cases h
theorem may_yes {m : Wi.Msg} (h : (m.nums.length : Int) = Wi.numsOf m.kind ∧ m.addrs.length ≤ 8 ∧ m.body.length ≤ 1000) (h1 : ∀ j, j < m.nums.length → m.nums.getD j 0 < 9223372036854775808) (h2 : ∀ j, j < m.addrs.length → mayA (m.addrs.getD j (0, 0)).1 (m.addrs.getD j (0, 0)).2 = true) : Wi.may m = true := by
  refine Wi.may_iff.2 ⟨h.1, h.2.1, h.2.2, fun v hv => ?_, fun a ha => ?_⟩
  · obtain ⟨j, hj, rfl⟩ := List.getElem_of_mem hv
    have := h1 j hj
    simpa [List.getD, hj] using this
  · obtain ⟨j, hj, rfl⟩ := List.getElem_of_mem ha
    have := h2 j hj
    simpa [List.getD, hj] using this

set_option maxRecDepth 100000 in
set_option maxHeartbeats 4000000 in
theorem may_msg (m : Wi.Msg) (x1 x2 x3 : Value) (w : World) (hv : MsgV w x1 x2 x3 m) (hT : Tb w) :
    Calls Tryd.prog 12 #[.agg #[.int .i64 m.kind, x1, x2, x3]] w fun e w' => e = .returned (.bool (Wi.may m)) ∧ Below w.heap.size w w' := by
  obtain ⟨T, hTT⟩ : ∃ T, Wi.may m = T := ⟨_, rfl⟩
  rw [hTT]
  have HTT := Lib.hid hTT; clear hTT
  have HV := Lib.hid hv
  obtain ⟨⟨A1, c1, rfl, n1, n2, n3, n4, n5⟩, ⟨A2, c2, rfl, a1, a2, a3, a4, a5⟩, ⟨A3, c3, rfl, b1, b2, b3, b4⟩, k0, k1⟩ := hv
  have N5 := Lib.hid n5; have A5 := Lib.hid a5; have A4 := Lib.hid a4; have N4 := Lib.hid n4
  have CN := Lib.hid (fun W (h : Tb W) => nums_any m.kind W h)
  have HTB := Lib.hid hT
  have hq0 := Wi.numsOf_bd m.kind
  obtain ⟨q, hq⟩ : ∃ q, Wi.numsOf m.kind = q := ⟨_, rfl⟩
  simp only [hq] at CN hq0
  have HQ := Lib.hid hq
  unfold maxLen at n2 a2 b3
  clear hq hT n3 n4 n5 a3 a4 a5 b1 b4
  obtain ⟨nl, hnl⟩ : ∃ n, m.nums.length = n := ⟨_, rfl⟩
  obtain ⟨al, hal⟩ : ∃ n, m.addrs.length = n := ⟨_, rfl⟩
  obtain ⟨bl, hbl⟩ : ∃ n, m.body.length = n := ⟨_, rfl⟩
  obtain ⟨kd, hkd⟩ : ∃ n, m.kind = n := ⟨_, rfl⟩
  have HNL := Lib.hid hnl; have HAL := Lib.hid hal; have HBL := Lib.hid hbl
  rw [hnl] at n1 N5 ⊢; rw [hal] at a1 A5 ⊢; rw [hbl] at b2 ⊢; rw [hkd] at k0 k1 CN ⊢
  clear hnl hal hbl
  by_cases hok : ((nl : Int) = q ∧ al ≤ 8 ∧ bl ≤ 1000)
  · obtain ⟨o1, o2, o3⟩ := hok
    go_enter Tryd.func12, Tryd.ntmps12
    go_wp2
    have HX := Mx.new w kd (.slice A1 nl c1) (.slice A2 al c2) (.slice A3 bl c3)
    have HB0 : Hid (Below w.heap.size w (w.alloc (.cells #[.int .i64 kd, .slice A1 nl c1, .slice A2 al c2, .slice A3 bl c3] 26))) := Lib.hid ((Below.refl _ _).alloc (Nat.le_refl _) _)
    generalize w.alloc (.cells #[.int .i64 kd, .slice A1 nl c1, .slice A2 al c2, .slice A3 bl c3] 26) = W0 at *
    have HTB1 : Hid (Tb W0.drew) := Lib.hid (HTB.out.below (HB0.out.trans (Below.refl _ _).drew))
    have HB1 : Hid (Below w.heap.size w W0.drew) := Lib.hid (HB0.out.trans (Below.refl _ _).drew)
    have t1 : ((nl : Int) != q) = false := by rw [bne_eq_false_iff_eq]; exact o1
    have t2 : decide ((8 : Int) < (al : Int)) = false := by simp; omega
    have t3 : decide ((1000 : Int) < (bl : Int)) = false := by simp; omega
    go_region_held3 (fun W => W.cell? ⟨w.heap.size, 0, none⟩ = some (.int .i64 kd) ∧ W.cell? ⟨w.heap.size, 1, none⟩ = some (.slice A1 nl c1) ∧ W.cell? ⟨w.heap.size, 2, none⟩ = some (.slice A2 al c2) ∧ W.cell? ⟨w.heap.size, 3, none⟩ = some (.slice A3 bl c3)) (first | exact ⟨HX.c0, HX.c1, HX.c2, HX.c3⟩) (first | (go_at_call 16; refine (CN.out _ HTB1.out).mono ?_; rintro e w' ⟨rfl, rfl⟩))
    have x0 : W0.drew.cell? ⟨w.heap.size, 0, none⟩ = some (.int .i64 kd) := HX.c0
    have x1 : W0.drew.cell? ⟨w.heap.size, 1, none⟩ = some (.slice A1 nl c1) := HX.c1
    have x2 : W0.drew.cell? ⟨w.heap.size, 2, none⟩ = some (.slice A2 al c2) := HX.c2
    have HO : Hid ((m.nums.length : Int) = Wi.numsOf m.kind ∧ m.addrs.length ≤ 8 ∧ m.body.length ≤ 1000) := Lib.hid (by rw [HNL.out, HAL.out, HBL.out, HQ.out]; exact ⟨o1, o2, o3⟩)
    clear t1 t2 t3 o1 o2 o3
    generalize W0.drew = W1 at *
    go_wp2
    go_loopw [29] (fun i wr => ∃ k : Nat, k ≤ nl ∧ i = .int .i64 (k : Int) ∧ wr = W1 ∧ ∀ j, j < k → m.nums.getD j 0 < 9223372036854775808) (fun i _ => nl - (intOf i).toNat)
    case atStart => exact ⟨0, by omega, rfl, rfl, fun j h => by omega⟩
    case round =>
      obtain ⟨k, hk, rfl, rfl, hP⟩ := hrel
      have HP := Lib.hid hP; clear hP
      by_cases hlt : k < nl
      · obtain ⟨b, off, rfl, hc⟩ := N5.out (by omega)
        have hcell := (HB1.out.cell (p := ⟨b, off + k, none⟩) (lt_of_cell (hc k hlt))).trans (hc k hlt)
        have hvb := N4.out (m.nums.getD k 0) (by have := HNL.out; simp [List.getD, show k < m.nums.length by omega])
        obtain ⟨v, hvv⟩ : ∃ v, m.nums.getD k 0 = v := ⟨_, rfl⟩
        rw [hvv] at hcell hvb
        have HVV := Lib.hid hvv
        have LN := Lib.hid (fun W => len_any v W hvb)
        clear hc hvv
        by_cases hv : v < 9223372036854775808
        · have hl : lenOf v = Uv.len v := by unfold lenOf; rw [if_pos hv]
          have hl1 := Uv.len_pos v
          rw [hl] at LN
          generalize Uv.len v = L at *
          have hl9 : ((L : Int) == 0) = false := by rw [beq_eq_false_iff_ne]; omega
          clear hl
          go_wp2_with fail
          refine (LN.out _).mono ?_
          rintro e w' ⟨rfl, rfl⟩
          go_wp2
          go_roundw
          case rel => exact ⟨k + 1, by omega, by go_num, trivial, fun j hj => by
            rcases Nat.lt_or_ge j k with h | h
            · exact HP.out j h
            · obtain rfl : j = k := by omega
              rw [HVV.out]; exact hv⟩
          case measure => simp [intOf]; omega
        · have hl : lenOf v = 0 := by unfold lenOf; rw [if_neg hv]
          rw [hl] at LN
          have HE : Hid (Wi.may m = false) := Lib.hid (may_num (k := k) (by have := HNL.out; omega) (by rw [HVV.out]; exact hv))
          clear hl
          go_wp2_with fail
          refine (LN.out _).mono ?_
          rintro e w' ⟨rfl, rfl⟩
          go_wp2
          go_ret
          exact ⟨ret_bool (by rw [← HTT.out, HE.out]), HB1.out⟩
      · obtain rfl : k = nl := by omega
        go_wp2
        go_loopw [40] (fun i wr => ∃ j : Nat, j ≤ al ∧ i = .int .i64 (j : Int) ∧ Below w.heap.size w wr ∧ ∀ l, l < j → mayA (m.addrs.getD l (0, 0)).1 (m.addrs.getD l (0, 0)).2 = true) (fun i _ => al - (intOf i).toNat)
        case atStart => exact ⟨0, by omega, rfl, HB1.out, fun j h => by omega⟩
        case round =>
          obtain ⟨j, hj, rfl, hB, hP2⟩ := hrel
          have HP2 := Lib.hid hP2; have HB2 := Lib.hid hB; clear hP2 hB
          by_cases hlt2 : j < al
          · obtain ⟨b, off, rfl, hc⟩ := A5.out (by omega)
            have hcell0 := (HB2.out.cell (p := ⟨b, off + j * 2, none⟩) (lt_of_cell (hc j hlt2).1)).trans (hc j hlt2).1
            have hcell1 := (HB2.out.cell (p := ⟨b, off + j * 2 + 1, none⟩) (lt_of_cell (hc j hlt2).2)).trans (hc j hlt2).2
            have hab := A4.out (m.addrs.getD j (0, 0)) (by have := HAL.out; simp [List.getD, show j < m.addrs.length by omega])
            obtain ⟨⟨h, p⟩, hvv⟩ : ∃ v, m.addrs.getD j (0, 0) = v := ⟨_, rfl⟩
            rw [hvv] at hcell0 hcell1 hab
            have HVV := Lib.hid hvv
            have HM := Lib.hid (fun W => may_any h p W hab.1 hab.2)
            unfold adr at HM
            clear hc hvv
            cases hm : mayA h p with
            | true =>
              have HMM := Lib.hid hm
              rw [hm] at HM
              clear hm
              go_wp2_with fail
              refine (HM.out _).mono ?_
              rintro e w' ⟨rfl, hb'⟩
              have HB3 : Hid (Below w.heap.size w w') := Lib.hid ((HB2.out.alloc HB2.out.size _).trans (hb'.mono (by have := HB2.out.size; simp; omega)))
              clear hb'
              go_wp2
              go_roundw
              case rel => exact ⟨j + 1, by omega, by go_num, HB3.out, fun l hl => by
                rcases Nat.lt_or_ge l j with h' | h'
                · exact HP2.out l h'
                · obtain rfl : l = j := by omega
                  rw [HVV.out]; exact HMM.out⟩
              case measure => simp [intOf]; omega
            | false =>
              have HE : Hid (Wi.may m = false) := Lib.hid (may_adr (k := j) (by have := HAL.out; omega) (by rw [HVV.out]; exact hm))
              rw [hm] at HM
              clear hm
              go_wp2_with fail
              refine (HM.out _).mono ?_
              rintro e w' ⟨rfl, hb'⟩
              have HB3 : Hid (Below w.heap.size w w') := Lib.hid ((HB2.out.alloc HB2.out.size _).trans (hb'.mono (by have := HB2.out.size; simp; omega)))
              clear hb'
              go_wp2
              go_ret
              exact ⟨ret_bool (by rw [← HTT.out, HE.out]), HB3.out⟩
          · obtain rfl : j = al := by omega
            have HE : Hid (Wi.may m = true) := Lib.hid (may_yes HO.out (fun l hl => HP.out l (by have := HNL.out; omega)) (fun l hl => HP2.out l (by have := HAL.out; omega)))
            go_wp2
            go_ret
            exact ⟨ret_bool (by rw [← HTT.out, HE.out]), HB2.out⟩
  · have HE : Hid (Wi.may m = false) := Lib.hid (may_no (by rw [HNL.out, HAL.out, HBL.out, HQ.out]; exact hok))
    have HF : Hid (T = false) := Lib.hid (by rw [← HTT.out, HE.out])
    go_enter Tryd.func12, Tryd.ntmps12
    go_wp2
    have HX := Mx.new w kd (.slice A1 nl c1) (.slice A2 al c2) (.slice A3 bl c3)
    have HB0 : Hid (Below w.heap.size w (w.alloc (.cells #[.int .i64 kd, .slice A1 nl c1, .slice A2 al c2, .slice A3 bl c3] 26))) := Lib.hid ((Below.refl _ _).alloc (Nat.le_refl _) _)
    generalize w.alloc (.cells #[.int .i64 kd, .slice A1 nl c1, .slice A2 al c2, .slice A3 bl c3] 26) = W0 at *
    have HTB1 : Hid (Tb W0.drew) := Lib.hid (HTB.out.below (HB0.out.trans (Below.refl _ _).drew))
    have HB1 : Hid (Below w.heap.size w W0.drew) := Lib.hid (HB0.out.trans (Below.refl _ _).drew)
    by_cases o1 : (nl : Int) = q
    · have t1 : ((nl : Int) != q) = false := by rw [bne_eq_false_iff_eq]; exact o1
      by_cases o2 : al ≤ 8
      · have o3 : ¬ bl ≤ 1000 := fun h => hok ⟨o1, o2, h⟩
        have t2 : decide ((8 : Int) < (al : Int)) = false := by simp; omega
        have t3 : decide ((1000 : Int) < (bl : Int)) = true := by simp; omega
        clear hok
        have x0 : W0.cell? ⟨w.heap.size, 0, none⟩ = some (.int .i64 kd) := HX.c0
        have x1 : W0.cell? ⟨w.heap.size, 1, none⟩ = some (.slice A1 nl c1) := HX.c1
        have x2 : W0.cell? ⟨w.heap.size, 2, none⟩ = some (.slice A2 al c2) := HX.c2
        have x3 : W0.cell? ⟨w.heap.size, 3, none⟩ = some (.slice A3 bl c3) := HX.c3
        go_quiet ((go_at_call 16; refine Calls.quiet_of_same (CN.out _ (fun j hj => HTB1.out j hj))))
        go_wp2
        go_ret
        exact ⟨ret_bool HF.out.symm, below_drewN' HB0.out _⟩
      · have t2 : decide ((8 : Int) < (al : Int)) = true := by simp; omega
        clear hok
        have x0 : W0.cell? ⟨w.heap.size, 0, none⟩ = some (.int .i64 kd) := HX.c0
        have x1 : W0.cell? ⟨w.heap.size, 1, none⟩ = some (.slice A1 nl c1) := HX.c1
        have x2 : W0.cell? ⟨w.heap.size, 2, none⟩ = some (.slice A2 al c2) := HX.c2
        have x3 : W0.cell? ⟨w.heap.size, 3, none⟩ = some (.slice A3 bl c3) := HX.c3
        go_quiet ((go_at_call 16; refine Calls.quiet_of_same (CN.out _ (fun j hj => HTB1.out j hj))))
        go_wp2
        go_ret
        exact ⟨ret_bool HF.out.symm, below_drewN' HB0.out _⟩
    · have t1 : ((nl : Int) != q) = true := by rw [bne_iff_ne]; exact o1
      clear hok
      have x0 : W0.cell? ⟨w.heap.size, 0, none⟩ = some (.int .i64 kd) := HX.c0
      have x1 : W0.cell? ⟨w.heap.size, 1, none⟩ = some (.slice A1 nl c1) := HX.c1
      have x2 : W0.cell? ⟨w.heap.size, 2, none⟩ = some (.slice A2 al c2) := HX.c2
      have x3 : W0.cell? ⟨w.heap.size, 3, none⟩ = some (.slice A3 bl c3) := HX.c3
      go_quiet ((go_at_call 16; refine Calls.quiet_of_same (CN.out _ (fun j hj => HTB1.out j hj))))
      go_wp2
      go_ret
      exact ⟨ret_bool HF.out.symm, below_drewN' HB0.out _⟩
end Go.Proofs.YtebgfiibcmnfnaaDoor
