/-
  embrasure/wire's May, as the statement WireFields asks: a message may be as soon as each of its parts may. Conditions: the tables are as the program's text lays them; a message's parts of up to as many as the statement goes through.
-/

import Derived.Test.YtebgfiibcmnfnaaDoorAwake
import Derived.Test.YtebgfiibcmnfnaaDoorRows
import Derived.Test.YtebgfiibcmnfnaaDoorCards
import Derived.Test.YtebgfiibcmnfnaaDoorTie
import Derived.WalkKit
import Derived.ProofKit
import Derived.OpenShut
import Derived.ShutString
import Derived.ChangeOld
import Derived.Below
import Derived.Lay
import Derived.LaidMore
import Derived.LaidOnce
import Derived.SevenTiedAt
namespace Go.Proofs.YtebgfiibcmnfnaaDoor.wireFields
open Go.ChangeShapes Go.WideShapes Go.ChangeAt Go.RowKit
open Go.ChangeMaps (open_string shut_string)
set_option linter.unusedVariables false

theorem own : ownKnob Tryd.prog.godebug = none := by kernel_rfl
theorem laidOut : laidOutB Tryd.prog = true := by kernel_rfl

def fR (pb : Bool) (vs : List Nat) (k : Nat) : Bool := pb && (vs.take k).all Wi.numOk
def fA (pb : Bool) (vs : List Nat) (al : List (Int × Int)) (j : Nat) : Bool := pb && vs.all Wi.numOk && (al.take j).all fun a => mayA a.1 a.2
theorem fR_succ (pb : Bool) (vs : List Nat) (k : Nat) (hk : k < vs.length) : fR pb vs (k + 1) = (fR pb vs k && Wi.numOk (vs.getD k 0)) := by
  unfold fR
  rw [List.take_succ_eq_append_getElem hk]
  simp [-List.take_append_getElem, List.getD, hk, Bool.and_assoc]
theorem fA_succ (pb : Bool) (vs : List Nat) (al : List (Int × Int)) (j : Nat) (hj : j < al.length) : fA pb vs al (j + 1) = (fA pb vs al j && mayA (al.getD j (0, 0)).1 (al.getD j (0, 0)).2) := by
  unfold fA
  rw [List.take_succ_eq_append_getElem hj]
  simp [-List.take_append_getElem, List.getD, hj, Bool.and_assoc]
theorem may_one (v : Nat) : Wi.may ⟨5, [v], [], []⟩ = Wi.numOk v := by
  have : Wi.numsOf 5 = 1 := by decide
  simp [Wi.may, this]
theorem may_oneA (a : Int × Int) : Wi.may ⟨5, [0], [a], []⟩ = mayA a.1 a.2 := by
  have : Wi.numsOf 5 = 1 := by decide
  simp [Wi.may, this, Wi.numOk]

theorem one_num {w : World} {b o c v : Nat} (hc : w.cell? ⟨b, o, none⟩ = some (.int .u64 (v : Int))) (hT : Tb w) (hv : v < 18446744073709551616) (h1 : 1 ≤ c) (h2 : c ≤ maxLen) :
    Calls Tryd.prog 12 #[.agg #[.int .i64 5, .slice (some ⟨b, o, none⟩) 1 c, .slice none 0 0, .slice none 0 0]] w fun e w' => e = .returned (.bool (Wi.numOk v)) ∧ Below w.heap.size w w' := by
  have hm : MsgV w (.slice (some ⟨b, o, none⟩) 1 c) (.slice none 0 0) (.slice none 0 0) ⟨5, [v], [], []⟩ :=
    ⟨⟨_, c, rfl, h1, h2, (fun h => by cases h), by simpa using hv, fun _ => ⟨b, o, rfl, fun j hj => by
      obtain rfl : j = 0 := by simpa using hj
      exact hc⟩⟩, (msgV_no w).2.1, (msgV_no w).2.2.1, by simp, by simp⟩
  have := may_msg _ _ _ _ w hm hT
  rw [may_one] at this
  exact this
theorem one_adr {w : World} {b o c g : Nat} {h p : Int} (hc : w.cell? ⟨b, o, none⟩ = some (.int .u32 h)) (hd : w.cell? ⟨b, o + 1, none⟩ = some (.int .i64 p)) (hg : w.cell? ⟨g, 0, none⟩ = some (.int .u64 0)) (hT : Tb w) (hv : 0 ≤ h ∧ h < 4294967296) (h1 : 1 ≤ c) (h2 : c ≤ maxLen) :
    Calls Tryd.prog 12 #[.agg #[.int .i64 5, .slice (some ⟨g, 0, none⟩) 1 1, .slice (some ⟨b, o, none⟩) 1 c, .slice none 0 0]] w fun e w' => e = .returned (.bool (mayA h p)) ∧ Below w.heap.size w w' := by
  have hm : MsgV w (.slice (some ⟨g, 0, none⟩) 1 1) (.slice (some ⟨b, o, none⟩) 1 c) (.slice none 0 0) ⟨5, [0], [(h, p)], []⟩ :=
    ⟨⟨_, 1, rfl, by simp, by decide, (fun h => by cases h), by simp, fun _ => ⟨g, 0, rfl, fun j hj => by
      obtain rfl : j = 0 := by simpa using hj
      exact hg⟩⟩, ⟨_, c, rfl, h1, h2, (fun h => by cases h), by simpa using hv, fun _ => ⟨b, o, rfl, fun j hj => by
      obtain rfl : j = 0 := by simpa using hj
      exact ⟨hc, hd⟩⟩⟩, (msgV_no w).2.2.1, by simp, by simp⟩
  have := may_msg _ _ _ _ w hm hT
  rw [may_oneA] at this
  exact this

set_option maxRecDepth 100000 in
set_option maxHeartbeats 4000000 in
theorem walk (v0 : Value) (s0 : Wi.Msg) (w : World) (w0 : IsMsg w v0 s0) (hL : laidMet Tryd.prog Rows.wireFieldsRow.laid w) :
    Calls Tryd.prog 6 #[v0] w fun e w' => e = .returned (.bool true) ∧ Below w.heap.size w w' := by
  obtain ⟨x1, x2, x3, rfl, hv⟩ := w0
  have hT := tb_laid hL
  have HV := Lib.hid hv
  have HT := Lib.hid hT
  obtain ⟨T, hTT⟩ : ∃ T, Wi.may s0 = T := ⟨_, rfl⟩
  obtain ⟨⟨A1, c1, rfl, n1, n2, n3, n4, n5⟩, ⟨A2, c2, rfl, a1, a2, a3, a4, a5⟩, ⟨A3, c3, rfl, b1, b2, b3, b4⟩, k0, k1⟩ := hv
  have N5 := Lib.hid n5; have A5 := Lib.hid a5; have A4 := Lib.hid a4; have N4 := Lib.hid n4
  unfold maxLen at n2 a2 b3
  clear n3 n4 n5 a3 a4 a5 b1 b4 hL hT
  obtain ⟨nl, hnl⟩ : ∃ n, s0.nums.length = n := ⟨_, rfl⟩
  obtain ⟨al, hal⟩ : ∃ n, s0.addrs.length = n := ⟨_, rfl⟩
  obtain ⟨bl, hbl⟩ : ∃ n, s0.body.length = n := ⟨_, rfl⟩
  obtain ⟨kd, hkd⟩ : ∃ n, s0.kind = n := ⟨_, rfl⟩
  have HNL := Lib.hid hnl; have HAL := Lib.hid hal; have HBL := Lib.hid hbl
  rw [hnl] at n1 N5; rw [hal] at a1 A5; rw [hbl] at b2; rw [hkd] at k0 k1; rw [hnl, hal, hbl] at HV ⊢; rw [hkd]
  have hq0 := Wi.numsOf_bd kd
  obtain ⟨q, hq⟩ : ∃ q, Wi.numsOf kd = q := ⟨_, rfl⟩
  have HX0 := Mx.new w kd (.slice A1 nl c1) (.slice A2 al c2) (.slice A3 bl c3)
  have hB0 : Below w.heap.size w (w.alloc (.cells #[.int .i64 kd, .slice A1 nl c1, .slice A2 al c2, .slice A3 bl c3] 26)) := (Below.refl _ _).alloc (Nat.le_refl _) _
  have HB0 := Lib.hid hB0
  have HXX := Lib.hid HX0
  have CS : Hid (∀ W, Below w.heap.size w W → Calls Tryd.prog 10 #[.agg #[.int .i64 kd, .slice A1 nl c1, .slice A2 al c2, .slice A3 bl c3]] W fun e w' => e = .returned (.bool (small s0)) ∧ Below W.heap.size W w') := Lib.hid (fun W hb => by
    have := small_msg s0 _ _ _ W (HV.out.below hb)
    rw [hkd] at this
    exact this)
  have CM : Hid (∀ W, Below w.heap.size w W → Calls Tryd.prog 12 #[.agg #[.int .i64 kd, .slice A1 nl c1, .slice A2 al c2, .slice A3 bl c3]] W fun e w' => e = .returned (.bool T) ∧ Below W.heap.size W w') := Lib.hid (fun W hb => by
    have := may_msg s0 _ _ _ W (HV.out.below hb) (HT.out.below hb)
    rw [hkd, hTT] at this
    exact this)
  have CN : Hid (∀ W, Below w.heap.size w W → Calls Tryd.prog 16 #[.int .i64 kd] W fun e w' => e = .returned (.int .i64 q) ∧ w' = W) := Lib.hid (fun W hb => by
    have := nums_any kd W (HT.out.below hb)
    rw [hq] at this
    exact this)
  have HTT := Lib.hid hTT
  have HQ := Lib.hid hq
  clear hTT hq HX0 hnl hal hbl hB0
  generalize hW0 : w.alloc (.cells #[.int .i64 kd, .slice A1 nl c1, .slice A2 al c2, .slice A3 bl c3] 26) = W0 at *
  go_enter Tryd.func6, Tryd.ntmps6
  go_wp2_with fail
  refine (awake_any _ (HT.out.below HB0.out)).mono ?_
  rintro e w1 ⟨rfl, hb1⟩
  have HB1 : Hid (Below w.heap.size w w1) := Lib.hid (HB0.out.trans (hb1.mono HB0.out.size))
  have hX1 := HXX.out.call hb1
  have HX1 := Lib.hid hX1
  obtain ⟨y0, y1, y2, y3⟩ := hX1
  clear hb1
  go_wp2_with fail
  refine (CS.out _ HB1.out).mono ?_
  rintro e w2 ⟨rfl, hb2⟩
  have HB2 : Hid (Below w.heap.size w w2) := Lib.hid (HB1.out.trans (hb2.mono HB1.out.size))
  have hX2 := HX1.out.call hb2
  have HX2 := Lib.hid hX2
  clear hb2 y0 y1 y2 y3 hW0
  cases hs : small s0 with
  | false =>
    go_wp2
    go_ret
    exact ⟨rfl, HB2.out⟩
  | true =>
    obtain ⟨y0, y1, y2, y3⟩ := hX2
    obtain ⟨pb, hpb⟩ : ∃ pb, (decide ((nl : Int) = q) && decide (al ≤ 8) && decide (bl ≤ 1000)) = pb := ⟨_, rfl⟩
    have hc : ((q == (nl : Int)) = true ∧ decide ((al : Int) ≤ 8) = true ∧ decide ((bl : Int) ≤ 1000) = true ∧ pb = true) ∨ ((q == (nl : Int)) = true ∧ decide ((al : Int) ≤ 8) = true ∧ decide ((bl : Int) ≤ 1000) = false ∧ pb = false) ∨ ((q == (nl : Int)) = true ∧ decide ((al : Int) ≤ 8) = false ∧ True ∧ pb = false) ∨ ((q == (nl : Int)) = false ∧ True ∧ True ∧ pb = false) := by
      rw [← hpb]
      by_cases o1 : (nl : Int) = q
      · have t1 : (q == (nl : Int)) = true := by simp [o1]
        by_cases o2 : al ≤ 8
        · have t2 : decide ((al : Int) ≤ 8) = true := by simp; omega
          by_cases o3 : bl ≤ 1000
          · exact .inl ⟨t1, t2, by simp; omega, by simp [o1, o2, o3]⟩
          · exact .inr (.inl ⟨t1, t2, by simp; omega, by simp [o3]⟩)
        · exact .inr (.inr (.inl ⟨t1, by simp; omega, trivial, by simp [o2]⟩))
      · exact .inr (.inr (.inr ⟨by simp; omega, trivial, trivial, by simp [o1]⟩))
    have CN2 : Hid (∀ n, Calls Tryd.prog 16 #[.int .i64 kd] (w2.drewN n) fun e w' => e = .returned (.int .i64 q) ∧ w' = w2.drewN n) := Lib.hid (fun n => CN.out _ (below_drewN' HB2.out n))
    clear hs
    rcases hc with ⟨t1, t2, t3, hp⟩ | ⟨t1, t2, t3, hp⟩ | ⟨t1, t2, t3, hp⟩ | ⟨t1, t2, t3, hp⟩
    all_goals
      go_wp2
      go_quiet ((go_at_call 16; refine Calls.quiet_of_same (CN2.out _)))
      go_wp2
      have HB4 : Hid (Below w.heap.size w (w2.drewN nq)) := Lib.hid (below_drewN' HB2.out nq)
      have HX4 := Lib.hid (HX2.out.call (below_drewN' (Below.refl _ _) nq))
      clear y0 y1 y2 y3 t1 t2 t3
      generalize w2.drewN nq = w4 at *
      go_loopw [3, 4] (fun r i wr => ∃ k : Nat, k ≤ nl ∧ r = .bool (fR pb s0.nums k) ∧ i = .int .i64 (k : Int) ∧ Below w.heap.size w wr ∧ Mx wr w.heap.size kd (.slice A1 nl c1) (.slice A2 al c2) (.slice A3 bl c3)) (fun _ i _ => nl - (intOf i).toNat)
      case atStart => exact ⟨0, by omega, by rw [hp]; rfl, rfl, HB4.out, HX4.out⟩
      case round =>
        obtain ⟨k, hk, rfl, rfl, hB, hX⟩ := hrel
        have HB5 := Lib.hid hB; have HX5 := Lib.hid hX; clear hB
        obtain ⟨y0, y1, y2, y3⟩ := hX
        by_cases hlt : k < nl
        · have HSU : Hid (fR pb s0.nums (k + 1) = (fR pb s0.nums k && Wi.numOk (s0.nums.getD k 0))) := Lib.hid (fR_succ pb s0.nums k (by have := HNL.out; omega))
          generalize fR pb s0.nums k = bb at *
          cases bb with
          | false =>
            go_wp2
            go_roundw
            case rel => exact ⟨k + 1, by omega, by rw [HSU.out]; rfl, by go_num, HB5.out, HX5.out⟩
            case measure => simp [intOf]; omega
          | true =>
            obtain ⟨b, off, rfl, hc⟩ := N5.out (by omega)
            have hcell := (HB5.out.cell (p := ⟨b, off + k, none⟩) (lt_of_cell (hc k hlt))).trans (hc k hlt)
            have hvb := N4.out (s0.nums.getD k 0) (by have := HNL.out; simp [List.getD, show k < s0.nums.length by omega])
            have CP := Lib.hid (one_num hcell (HT.out.below HB5.out) hvb (c := c1 - k) (by omega) (by unfold maxLen; omega))
            clear hc hcell hvb
            go_wp2_with fail
            refine CP.out.mono ?_
            rintro e w5 ⟨rfl, hb5⟩
            have HB6 : Hid (Below w.heap.size w w5) := Lib.hid (HB5.out.trans (hb5.mono HB5.out.size))
            have HX6 := Lib.hid (HX5.out.call hb5)
            clear hb5 y0 y1 y2 y3
            go_wp2
            go_roundw
            case rel => exact ⟨k + 1, by omega, by rw [HSU.out]; rfl, by go_num, HB6.out, HX6.out⟩
            case measure => simp [intOf]; omega
        · obtain rfl : k = nl := by omega
          have HF0 : Hid (fA pb s0.nums s0.addrs 0 = fR pb s0.nums k) := Lib.hid (by unfold fA fR; rw [← HNL.out, List.take_length]; simp)
          generalize fR pb s0.nums k = bb at *
          go_wp2
          clear y0 y1 y2 y3
          go_loopw [3, 5] (fun r i wr => ∃ j : Nat, j ≤ al ∧ r = .bool (fA pb s0.nums s0.addrs j) ∧ i = .int .i64 (j : Int) ∧ Below w.heap.size w wr ∧ Mx wr w.heap.size kd (.slice A1 k c1) (.slice A2 al c2) (.slice A3 bl c3)) (fun _ i _ => al - (intOf i).toNat)
          case atStart => exact ⟨0, by omega, by rw [HF0.out], rfl, HB5.out, HX5.out⟩
          case round =>
            obtain ⟨j, hj, rfl, rfl, hB, hX⟩ := hrel
            have HB7 := Lib.hid hB; have HX7 := Lib.hid hX; clear hB
            obtain ⟨y0, y1, y2, y3⟩ := hX
            by_cases hlt : j < al
            · have HSU : Hid (fA pb s0.nums s0.addrs (j + 1) = (fA pb s0.nums s0.addrs j && mayA (s0.addrs.getD j (0, 0)).1 (s0.addrs.getD j (0, 0)).2)) := Lib.hid (fA_succ pb s0.nums s0.addrs j (by have := HAL.out; omega))
              generalize fA pb s0.nums s0.addrs j = b2 at *
              cases b2 with
              | false =>
                go_wp2
                go_roundw
                case rel => exact ⟨j + 1, by omega, by rw [HSU.out]; rfl, by go_num, HB7.out, HX7.out⟩
                case measure => simp [intOf]; omega
              | true =>
                obtain ⟨b, off, rfl, hc⟩ := A5.out (by omega)
                have hcell0 := (HB7.out.cell (p := ⟨b, off + j * 2, none⟩) (lt_of_cell (hc j hlt).1)).trans (hc j hlt).1
                have hcell1 := (HB7.out.cell (p := ⟨b, off + j * 2 + 1, none⟩) (lt_of_cell (hc j hlt).2)).trans (hc j hlt).2
                have hvb := A4.out (s0.addrs.getD j (0, 0)) (by have := HAL.out; simp [List.getD, show j < s0.addrs.length by omega])
                have hlM := lt_of_cell y0
                dsimp only at hlM
                obtain ⟨⟨h, p⟩, hvv⟩ : ∃ v, s0.addrs.getD j (0, 0) = v := ⟨_, rfl⟩
                rw [hvv] at hcell0 hcell1 hvb HSU
                have CP : Hid (∀ o, Calls Tryd.prog 12 #[.agg #[.int .i64 5, .slice (some ⟨wr.heap.size, 0, none⟩) 1 1, .slice (some ⟨b, off + j * 2, none⟩) 1 (c2 - j), .slice none 0 0]] (wr.alloc (.cells #[.int .u64 0] o)) fun e w' => e = .returned (.bool (mayA h p)) ∧ Below wr.heap.size wr w') := Lib.hid (fun o => by
                  have hb9 := (Below.refl wr.heap.size wr).alloc (Nat.le_refl _) (.cells #[.int .u64 0] o)
                  refine (one_adr ((hb9.cell (p := ⟨b, off + j * 2, none⟩) (lt_of_cell hcell0)).trans hcell0) ((hb9.cell (p := ⟨b, off + j * 2 + 1, none⟩) (lt_of_cell hcell1)).trans hcell1) (by rw [(cells_of (heap_new wr _) 0).1]; rfl) ((HT.out.below HB7.out).below hb9) hvb (by omega) (by unfold maxLen; omega)).mono ?_
                  rintro e w' ⟨rfl, hb⟩
                  exact ⟨rfl, hb9.trans (hb.mono (by simp))⟩)
                clear hc hcell0 hcell1 hvb hvv
                go_wp2_with fail
                refine (CP.out _).mono ?_
                rintro e w5 ⟨rfl, hb5⟩
                have HB8 : Hid (Below w.heap.size w w5) := Lib.hid (HB7.out.trans (hb5.mono HB7.out.size))
                have HX8 := Lib.hid (HX7.out.call hb5)
                clear hb5 y0 y1 y2 y3 hlM
                go_wp2
                go_roundw
                case rel => exact ⟨j + 1, by omega, by rw [HSU.out]; rfl, by go_num, HB8.out, HX8.out⟩
                case measure => simp [intOf]; omega
            · obtain rfl : j = al := by omega
              have HTF : Hid (T = fA pb s0.nums s0.addrs j) := Lib.hid (by
                rw [← HTT.out, ← hpb]
                unfold fA Wi.may
                rw [← HAL.out, List.take_length, HNL.out, hkd, HQ.out, HBL.out])
              generalize fA pb s0.nums s0.addrs j = b2 at *
              have CM2 := Lib.hid (CM.out _ HB7.out)
              rw [HTF.out] at CM2
              go_wp2_with fail
              refine CM2.out.mono ?_
              rintro e w5 ⟨rfl, hb5⟩
              have HB8 : Hid (Below w.heap.size w w5) := Lib.hid (HB7.out.trans (hb5.mono HB7.out.size))
              clear hb5 y0 y1 y2 y3
              go_wp2
              go_ret
              exact ⟨by simp, HB8.out⟩


/-! ### the row, under what it lists -/
set_option maxRecDepth 100000 in
theorem lifted (os : Os) (started : os.Started) (H : Type) (enc : TypeId × Value → H) :
    ReturnsInHanded {} Tryd.checked os 6 .any (fun w args => (Rows.wireFieldsSpec.pre enc Tryd.prog Tryd.f6 [] false w args ∧ laidMetH Tryd.prog Rows.wireFieldsRow.laid w) ∧ sizedMet enc Tryd.prog Tryd.f6 (OpenSpec.ofChange Rows.wireFieldsSpec) false w args)
      (Rows.wireFieldsSpec.post enc Tryd.prog Tryd.f6 false true false false) := by
  refine returnsInHanded_of_change_and (C := Tryd.checked) (X := fun w _ => laidMetH Tryd.prog Rows.wireFieldsRow.laid w) (fun _ _ _ hh h => h.of_heap hh) own started (by kernel_rfl) Tryd.func6
    (ChangeSpec.witness_shaped (enc := enc) (C := Tryd.checked) (os := os) (X := fun w _ => laidMetH Tryd.prog Rows.wireFieldsRow.laid w) false (World.laidAll Tryd.prog os Rows.wireFieldsRow.laid) #[.agg #[.int .i64 0, .slice none 0 0, .slice none 0 0, .slice none 0 0]] 8 (World.laidAll_os _ _ _)
      (World.shaped_of_ZipB (by kernel_rfl) (by kernel_rfl)) (by kernel_rfl) (by kernel_rfl) (by kernel_rfl)
      (by rw [MakeChecks.laidMetH_plain _ _ _ (by kernel_rfl)]; exact laidMet_laidAll _ (by kernel_rfl) (by kernel_rfl))) ?_
  intro W base args ds gs before hval0 hW _ _ hL _
  have hval : ∀ (j : Nat) t v, Tryd.f6.params[j]? = some t → args[j]? = some v → Value.okWide Tryd.prog W .any base t v := hval0
  have hW' := hW
  obtain ⟨p, q, hA0, hV, rfl, hfz, hnd⟩ := hW
  have hA : DataW.TrodAll enc Tryd.prog W 0 (fun _ => true) true Tryd.f6.params.toList args.toList ds p := hA0
  rw [Tryd.params6] at hA hval
  obtain ⟨v0, vs0, d0, ds0, p0, q0, hargs, rfl, rfl, h0, r0⟩ := trodAll_cons hA
  obtain ⟨rfl, rfl, rfl⟩ := trodAll_nil r0
  obtain rfl : args = #[v0] := by cases args; simp_all
  obtain ⟨rfl, rfl⟩ := trodVars_none hV
  rw [MakeChecks.laidMetH_plain _ _ _ (by kernel_rfl)] at hL
  have k0 := h0
  have lt0 : ∀ x ∈ p0, x.block < W.heap.size := by obtain ⟨m, hm⟩ := k0; exact DataW.trod_lt m _ _ _ hm
  obtain ⟨s0, w0⟩ := open_msg (hval 0 26 v0 rfl rfl) h0
  clear hA0 hval0
  refine (walk v0 s0 W w0 hL).mono fun e W' ⟨he, bel⟩ => ?_
  subst he
  exact ⟨_, rfl, _, _, _, [], _, [], hW', trodAll_mk1 (shut_bool Tryd.underlying4 _), (trodAll_cons_mk (Below.trod laidOut (by kernel_rfl) (of_decide_eq_true (by kernel_rfl)) k0 bel lt0) trodAll_mk0), rfl, bel.frame _, fun h => by cases h⟩

theorem over : Rows.WireFieldsSaid :=
  OpenClaim.holds_of_wide 6 Tryd.f6 rfl rfl rfl rfl rfl rfl rfl ⟨rfl, rfl, rfl, rfl, rfl⟩ rfl rfl rfl rfl rfl (by kernel_rfl) Tryd.func6 (by kernel_rfl)
    (of_decide_eq_true (by kernel_rfl)) (by unfold Func.isWrapper; first | (rw [if_pos (by decide +kernel)]; kernel_rfl) | (rw [if_neg (by decide +kernel)]; exact ⟨rfl, rfl⟩))
    (fun os started H enc _ => lifted os started H enc)

/-- ████ THE STATEMENT ████ -/
theorem proved : Rows.WireFieldsCardSaid :=
  Claim7.holds_tied_plain_at .later [] [.data] true (true, "de450b1929b5a7b2899e5ead515590ee173562021ec0d166f568880e6684e4d0") false
    over (fun _ h => by cases h) (by kernel_rfl) (fun _ h => by cases h) wireFields_row_tie rfl ⟨rfl, rfl⟩ (by kernel_rfl) rfl
    (fun f fn hf hfn => by
      obtain rfl : f = 6 := Option.some.inj ((show Tryd.prog.funcNamed "embrasure/embrasurelaw05.WireFields" = some 6 by kernel_rfl).symm.trans hf) |>.symm
      obtain rfl : fn = Tryd.f6 := (Option.some.inj (Tryd.func6.symm.trans hfn)).symm
      exact ⟨by kernel_rfl, fun j t ht => by
        rw [Tryd.params6] at ht
        have hm : t ∈ [26] := by simpa using Array.mem_of_getElem? ht
        have hall : ([26].all fun u => !Tryd.prog.wantsStandIn u) = true := by kernel_rfl
        exact (show Tryd.prog.wantsStandIn t = false by simpa using List.all_eq_true.1 hall t hm)⟩)
    (by kernel_rfl)
#print axioms proved
end Go.Proofs.YtebgfiibcmnfnaaDoor.wireFields
