/-
  The contract of the document's own May. No conditions.
-/
import Derived.Test.YtebgfiibcmnfnaaDoorMay
namespace Go.Proofs.YtebgfiibcmnfnaaDoor
open Go.RowKit
set_option linter.unusedVariables false

set_option maxRecDepth 100000 in
set_option maxHeartbeats 4000000 in
theorem rmay_msg (m : Wi.Msg) (x1 x2 x3 : Value) (w : World) (hv : MsgV w x1 x2 x3 m) :
    Calls Tryd.prog 13 #[.agg #[.int .i64 m.kind, x1, x2, x3]] w fun e w' => e = .returned (.bool (Wi.may m)) ∧ Below w.heap.size w w' := by
  obtain ⟨T, hTT⟩ : ∃ T, Wi.may m = T := ⟨_, rfl⟩
  rw [hTT]
  have HTT := Lib.hid hTT; clear hTT
  obtain ⟨⟨A1, c1, rfl, n1, n2, n3, n4, n5⟩, ⟨A2, c2, rfl, a1, a2, a3, a4, a5⟩, ⟨A3, c3, rfl, b1, b2, b3, b4⟩, k0, k1⟩ := hv
  have N5 := Lib.hid n5; have A5 := Lib.hid a5; have A4 := Lib.hid a4; have N4 := Lib.hid n4
  have CN := Lib.hid (fun W => rnums_any m.kind W)
  have hq0 := Wi.numsOf_bd m.kind
  obtain ⟨q, hq⟩ : ∃ q, Wi.numsOf m.kind = q := ⟨_, rfl⟩
  simp only [hq] at CN hq0
  have HQ := Lib.hid hq
  unfold maxLen at n2 a2 b3
  clear hq n3 n4 n5 a3 a4 a5 b1 b4
  obtain ⟨nl, hnl⟩ : ∃ n, m.nums.length = n := ⟨_, rfl⟩
  obtain ⟨al, hal⟩ : ∃ n, m.addrs.length = n := ⟨_, rfl⟩
  obtain ⟨bl, hbl⟩ : ∃ n, m.body.length = n := ⟨_, rfl⟩
  obtain ⟨kd, hkd⟩ : ∃ n, m.kind = n := ⟨_, rfl⟩
  have HNL := Lib.hid hnl; have HAL := Lib.hid hal; have HBL := Lib.hid hbl
  rw [hnl] at n1 N5 ⊢; rw [hal] at a1 A5 ⊢; rw [hbl] at b2 ⊢; rw [hkd] at k0 k1 CN ⊢
  clear hnl hal hbl
  go_enter Tryd.func13, Tryd.ntmps13
  go_wp2
  have HX := Mx.new w kd (.slice A1 nl c1) (.slice A2 al c2) (.slice A3 bl c3)
  have HB0 : Hid (Below w.heap.size w (w.alloc (.cells #[.int .i64 kd, .slice A1 nl c1, .slice A2 al c2, .slice A3 bl c3] 26))) := Lib.hid ((Below.refl _ _).alloc (Nat.le_refl _) _)
  generalize w.alloc (.cells #[.int .i64 kd, .slice A1 nl c1, .slice A2 al c2, .slice A3 bl c3] 26) = W0 at *
  have HXX := Lib.hid HX
  obtain ⟨x0, x1, x2, x3⟩ := HX
  go_loopw [3] (fun i wr => ∃ k : Nat, k ≤ nl ∧ i = .int .i64 (k : Int) ∧ wr = W0 ∧ ∀ j, j < k → m.nums.getD j 0 < 9223372036854775808) (fun i _ => nl - (intOf i).toNat)
  case atStart => exact ⟨0, by omega, rfl, rfl, fun j h => by omega⟩
  case round =>
    obtain ⟨k, hk, rfl, rfl, hP⟩ := hrel
    have HP := Lib.hid hP; clear hP
    by_cases hlt : k < nl
    · obtain ⟨b, off, rfl, hc⟩ := N5.out (by omega)
      have hcell := (HB0.out.cell (p := ⟨b, off + k, none⟩) (lt_of_cell (hc k hlt))).trans (hc k hlt)
      have hvb := N4.out (m.nums.getD k 0) (by have := HNL.out; simp [List.getD, show k < m.nums.length by omega])
      obtain ⟨v, hvv⟩ : ∃ v, m.nums.getD k 0 = v := ⟨_, rfl⟩
      rw [hvv] at hcell hvb
      have HVV := Lib.hid hvv
      clear hc hvv
      by_cases hv : v < 9223372036854775808
      · have t1 : decide ((9223372036854775807 : Int) < (v : Int)) = false := by simp; omega
        go_wp2
        go_roundw
        case rel => exact ⟨k + 1, by omega, by go_num, trivial, fun j hj => by
          rcases Nat.lt_or_ge j k with h | h
          · exact HP.out j h
          · obtain rfl : j = k := by omega
            rw [HVV.out]; exact hv⟩
        case measure => simp [intOf]; omega
      · have t1 : decide ((9223372036854775807 : Int) < (v : Int)) = true := by simp; omega
        have HE : Hid (Wi.may m = false) := Lib.hid (may_num (k := k) (by have := HNL.out; omega) (by rw [HVV.out]; exact hv))
        go_wp2
        go_ret
        exact ⟨ret_bool (by rw [← HTT.out, HE.out]), HB0.out⟩
    · obtain rfl : k = nl := by omega
      go_wp2
      clear x0 x1 x2 x3
      go_loopw [4] (fun i wr => ∃ j : Nat, j ≤ al ∧ i = .int .i64 (j : Int) ∧ Below w.heap.size w wr ∧ Mx wr w.heap.size kd (.slice A1 k c1) (.slice A2 al c2) (.slice A3 bl c3) ∧ ∀ l, l < j → mayA (m.addrs.getD l (0, 0)).1 (m.addrs.getD l (0, 0)).2 = true) (fun i _ => al - (intOf i).toNat)
      case atStart => exact ⟨0, by omega, rfl, HB0.out, HXX.out, fun j h => by omega⟩
      case round =>
        obtain ⟨j, hj, rfl, hB, hX, hP2⟩ := hrel
        have HP2 := Lib.hid hP2; have HB2 := Lib.hid hB; have HX2 := Lib.hid hX; clear hP2 hB
        obtain ⟨x0, x1, x2, x3⟩ := hX
        by_cases hlt2 : j < al
        · obtain ⟨b, off, rfl, hc⟩ := A5.out (by omega)
          have hcell0 := (HB2.out.cell (p := ⟨b, off + j * 2, none⟩) (lt_of_cell (hc j hlt2).1)).trans (hc j hlt2).1
          have hcell1 := (HB2.out.cell (p := ⟨b, off + j * 2 + 1, none⟩) (lt_of_cell (hc j hlt2).2)).trans (hc j hlt2).2
          have hab := A4.out (m.addrs.getD j (0, 0)) (by have := HAL.out; simp [List.getD, show j < m.addrs.length by omega])
          obtain ⟨⟨h, p⟩, hvv⟩ : ∃ v, m.addrs.getD j (0, 0) = v := ⟨_, rfl⟩
          rw [hvv] at hcell0 hcell1 hab
          have HVV := Lib.hid hvv
          have HM := Lib.hid (fun W => rmay_any h p W hab.1 hab.2)
          unfold adr at HM
          clear hc hvv
          cases hm : mayA h p with
          | true =>
            have HMM := Lib.hid hm
            rw [hm] at HM
            clear hm
            go_wp2_with fail
            refine (HM.out _).mono ?_
            rintro e w' ⟨rfl, hb'⟩
            have HB3 : Hid (Below w.heap.size w w') := Lib.hid (HB2.out.trans (hb'.mono HB2.out.size))
            have HX3 := Lib.hid (HX2.out.call hb')
            clear hb' x0 x1 x2 x3
            go_wp2
            go_roundw
            case rel => exact ⟨j + 1, by omega, by go_num, HB3.out, HX3.out, fun l hl => by
              rcases Nat.lt_or_ge l j with h' | h'
              · exact HP2.out l h'
              · obtain rfl : l = j := by omega
                rw [HVV.out]; exact HMM.out⟩
            case measure => simp [intOf]; omega
          | false =>
            have HE : Hid (Wi.may m = false) := Lib.hid (may_adr (k := j) (by have := HAL.out; omega) (by rw [HVV.out]; exact hm))
            rw [hm] at HM
            clear hm
            go_wp2_with fail
            refine (HM.out _).mono ?_
            rintro e w' ⟨rfl, hb'⟩
            have HB3 : Hid (Below w.heap.size w w') := Lib.hid (HB2.out.trans (hb'.mono HB2.out.size))
            clear hb'
            go_wp2
            go_ret
            exact ⟨ret_bool (by rw [← HTT.out, HE.out]), HB3.out⟩
        · obtain rfl : j = al := by omega
          by_cases hok : ((k : Int) = q ∧ j ≤ 8 ∧ bl ≤ 1000)
          · have HE : Hid (Wi.may m = true) := Lib.hid (may_yes (by rw [HNL.out, HAL.out, HBL.out, HQ.out]; exact hok) (fun l hl => HP.out l (by have := HNL.out; omega)) (fun l hl => HP2.out l (by have := HAL.out; omega)))
            obtain ⟨o1, o2, o3⟩ := hok
            have t1 : ((k : Int) == q) = true := by simp [o1]
            have t2 : decide ((j : Int) ≤ 8) = true := by simp; omega
            have t3 : decide ((bl : Int) ≤ 1000) = true := by simp; omega
            have HF : Hid (T = true) := Lib.hid (by rw [← HTT.out, HE.out])
            clear o1
            go_wp2
            go_quiet ((go_at_call 17; refine Calls.quiet_of_same (CN.out _)))
            go_wp2
            go_ret
            exact ⟨ret_bool HF.out.symm, below_drewN' HB2.out _⟩
          · have HE : Hid (Wi.may m = false) := Lib.hid (may_no (by rw [HNL.out, HAL.out, HBL.out, HQ.out]; exact hok))
            have HF : Hid (T = false) := Lib.hid (by rw [← HTT.out, HE.out])
            by_cases o1 : (k : Int) = q
            · have t1 : ((k : Int) == q) = true := by simp [o1]
              by_cases o2 : j ≤ 8
              · have t2 : decide ((j : Int) ≤ 8) = true := by simp; omega
                have t3 : decide ((bl : Int) ≤ 1000) = false := decide_eq_false (by have h3 : ¬ bl ≤ 1000 := (fun h => hok ⟨o1, o2, h⟩); omega)
                clear hok o1
                go_wp2
                go_quiet ((go_at_call 17; refine Calls.quiet_of_same (CN.out _)))
                go_wp2
                go_ret
                exact ⟨ret_bool HF.out.symm, below_drewN' HB2.out _⟩
              · have t2 : decide ((j : Int) ≤ 8) = false := by simp; omega
                clear hok o1
                go_wp2
                go_quiet ((go_at_call 17; refine Calls.quiet_of_same (CN.out _)))
                go_wp2
                go_ret
                exact ⟨ret_bool HF.out.symm, below_drewN' HB2.out _⟩
            · have t1 : ((k : Int) == q) = false := by simpa using o1
              clear hok
              go_wp2
              go_quiet ((go_at_call 17; refine Calls.quiet_of_same (CN.out _)))
              go_wp2
              go_ret
              exact ⟨ret_bool HF.out.symm, below_drewN' HB2.out _⟩

/-- is a message such as is gone through? -/
def small (m : Wi.Msg) : Bool := decide (m.nums.length ≤ 40) && decide (m.addrs.length ≤ 40) && decide (m.body.length ≤ 3000)
set_option maxRecDepth 100000 in
set_option maxHeartbeats 2000000 in
theorem small_msg (m : Wi.Msg) (x1 x2 x3 : Value) (w : World) (hv : MsgV w x1 x2 x3 m) :
    Calls Tryd.prog 10 #[.agg #[.int .i64 m.kind, x1, x2, x3]] w fun e w' => e = .returned (.bool (small m)) ∧ Below w.heap.size w w' := by
  obtain ⟨⟨A1, c1, rfl, n1, n2, n3, n4, n5⟩, ⟨A2, c2, rfl, a1, a2, a3, a4, a5⟩, ⟨A3, c3, rfl, b1, b2, b3, b4⟩, k0, k1⟩ := hv
  unfold small
  unfold maxLen at n2 a2 b3
  clear n3 n4 n5 a3 a4 a5 b1 b4
  generalize m.nums.length = nl at *
  generalize m.addrs.length = al at *
  generalize m.body.length = bl at *
  by_cases o1 : nl ≤ 40
  · by_cases o2 : al ≤ 40
    all_goals
      go_enter Tryd.func10, Tryd.ntmps10
      go_wp2
      go_ret
      exact ⟨ret_bool (by first | (simp [o1, o2]; done) | (rw [Bool.eq_iff_iff]; simp [o1, o2]; omega)), (Below.refl _ _).alloc (Nat.le_refl _) _⟩
  · go_enter Tryd.func10, Tryd.ntmps10
    go_wp2
    go_ret
    exact ⟨ret_bool (by simp), (Below.refl _ _).alloc (Nat.le_refl _) _⟩
end Go.Proofs.YtebgfiibcmnfnaaDoor
