/-
  embrasure/wire's Bytes and FromBytes, as the statement WireKinds asks: a message told as one of another kind that has as many numbers is read so; of no other kind is it anything. Conditions: the tables are as the program's text lays them; a message's parts of up to as many as the statement goes through.
-/

import Derived.Test.YtebgfiibcmnfnaaDoorLawIn
import Derived.Test.YtebgfiibcmnfnaaDoorRows
import Derived.Test.YtebgfiibcmnfnaaDoorCards
import Derived.Test.YtebgfiibcmnfnaaDoorTie
import Derived.WalkKit
import Derived.ProofKit
import Derived.OpenShut
import Derived.ShutString
import Derived.ChangeOld
import Derived.Below
import Derived.Lay
import Derived.LaidMore
import Derived.LaidOnce
import Derived.SevenTiedAt
namespace Go.Proofs.YtebgfiibcmnfnaaDoor.wireKinds
open Go.ChangeShapes Go.WideShapes Go.ChangeAt Go.RowKit
open Go.ChangeMaps (open_string shut_string)
set_option linter.unusedVariables false

theorem own : ownKnob Tryd.prog.godebug = none := by kernel_rfl
theorem laidOut : laidOutB Tryd.prog = true := by kernel_rfl

def tl (m : Wi.Msg) : List Int := Uv.flat m.nums ++ (Uv.enc m.addrs.length ++ (Wi.aflat m.addrs ++ Fr.put m.body))
theorem bytes_cons {m : Wi.Msg} (h0 : 1 ≤ m.kind) (h1 : m.kind ≤ 18) : Wi.bytes m = m.kind :: tl m := by
  unfold Wi.bytes tl
  rw [Uv.enc_one _ (by omega), Int.toNat_of_nonneg (by omega)]
  rfl
theorem may_kind {m : Wi.Msg} (h : Wi.may m = true) : 1 ≤ m.kind ∧ m.kind ≤ 18 := by
  have h1 := (Wi.may_iff.1 h).1
  have h2 := Wi.numsOf_bd m.kind
  exact h2.2.2 (by omega)
theorem bts_tail {w : World} {g L c : Nat} {k : Int} {t : List Int} (h : Bts w (some ⟨g, 0, none⟩) L (k :: t)) (hc : L ≤ c) (h2 : 2 ≤ L) : Bts w (some ⟨g, 1, none⟩) (L - 1) t := by
  have := h.from (k := 1) (c := c) (by omega) hc
  rw [if_neg (by omega)] at this
  exact this

set_option maxRecDepth 100000 in
set_option maxHeartbeats 4000000 in
theorem walk (v0 : Value) (s0 : Wi.Msg) (a1 : Int) (w : World) (w0 : IsMsg w v0 s0) (w1 : (Lit.int .i64 a1).wf = true) (hL : laidMet Tryd.prog Rows.wireKindsRow.laid w) :
    Calls Tryd.prog 7 #[v0, .int .i64 a1] w fun e w' => e = .returned (.bool true) ∧ Below w.heap.size w w' := by
  obtain ⟨x1, x2, x3, rfl, hv⟩ := w0
  have ha := bounds_i64 w1
  have hT := tb_laid hL
  have HV := Lib.hid hv
  have HT := Lib.hid hT
  obtain ⟨A1, c1, A2, c2, A3, c3, rfl, rfl, rfl⟩ := hv.forms
  have hv2 := hv.wf
  have HVN : Hid (MsgV w (.slice A1 s0.nums.length c1) (.slice A2 s0.addrs.length c2) (.slice A3 s0.body.length c3) ⟨a1, s0.nums, s0.addrs, s0.body⟩) := Lib.hid ⟨hv.1, hv.2.1, hv.2.2.1, by show _ ≤ a1; omega, by show a1 ≤ _; omega⟩
  have hnl := hv.1
  obtain ⟨kd, hkd⟩ : ∃ n, s0.kind = n := ⟨_, rfl⟩
  have HNL : Hid (s0.nums.length ≤ maxLen) := Lib.hid (by obtain ⟨A, c, _, h1, h2, _⟩ := hnl; omega)
  have hX0 := Mx.new w kd (.slice A1 s0.nums.length c1) (.slice A2 s0.addrs.length c2) (.slice A3 s0.body.length c3)
  have HB0 : Hid (Below w.heap.size w (w.alloc (.cells #[.int .i64 kd, .slice A1 s0.nums.length c1, .slice A2 s0.addrs.length c2, .slice A3 s0.body.length c3] 26))) := Lib.hid ((Below.refl _ _).alloc (Nat.le_refl _) _)
  have HX0 := Lib.hid hX0
  have CS : Hid (∀ W, Below w.heap.size w W → Calls Tryd.prog 10 #[.agg #[.int .i64 kd, .slice A1 s0.nums.length c1, .slice A2 s0.addrs.length c2, .slice A3 s0.body.length c3]] W fun e w' => e = .returned (.bool (small s0)) ∧ Below W.heap.size W w') := Lib.hid (fun W hb => by
    have := small_msg s0 _ _ _ W (HV.out.below hb)
    rw [hkd] at this
    exact this)
  have CM : Hid (∀ W, Below w.heap.size w W → Calls Tryd.prog 13 #[.agg #[.int .i64 kd, .slice A1 s0.nums.length c1, .slice A2 s0.addrs.length c2, .slice A3 s0.body.length c3]] W fun e w' => e = .returned (.bool (Wi.may s0)) ∧ Below W.heap.size W w') := Lib.hid (fun W hb => by
    have := rmay_msg s0 _ _ _ W (HV.out.below hb)
    rw [hkd] at this
    exact this)
  clear hX0 hnl hv hT hL
  rw [hkd]
  generalize hW0 : w.alloc (.cells #[.int .i64 kd, .slice A1 s0.nums.length c1, .slice A2 s0.addrs.length c2, .slice A3 s0.body.length c3] 26) = W0 at *
  go_enter Tryd.func7, Tryd.ntmps7
  go_wp2_with fail
  refine (awake_any _ (HT.out.below HB0.out)).mono ?_
  rintro e w1 ⟨rfl, hb1⟩
  have HB1 : Hid (Below w.heap.size w w1) := Lib.hid (HB0.out.trans (hb1.mono HB0.out.size))
  have hX1 := HX0.out.call hb1
  have HX1 := Lib.hid hX1
  obtain ⟨y0, y1, y2, y3⟩ := hX1
  clear hb1
  go_wp2_with fail
  refine (CS.out _ HB1.out).mono ?_
  rintro e w2 ⟨rfl, hb2⟩
  have HB2 : Hid (Below w.heap.size w w2) := Lib.hid (HB1.out.trans (hb2.mono HB1.out.size))
  have hX2 := HX1.out.call hb2
  have HX2 := Lib.hid hX2
  clear hb2 y0 y1 y2 y3 hW0
  cases hs : small s0 with
  | false =>
    go_wp2
    go_ret
    exact ⟨rfl, HB2.out⟩
  | true =>
    obtain ⟨y0, y1, y2, y3⟩ := hX2
    go_wp2_with fail
    refine (CM.out _ HB2.out).mono ?_
    rintro e w3 ⟨rfl, hb3⟩
    have HB3 : Hid (Below w.heap.size w w3) := Lib.hid (HB2.out.trans (hb3.mono HB2.out.size))
    have hX3 := HX2.out.call hb3
    have HX3 := Lib.hid hX3
    clear hb3 y0 y1 y2 y3
    cases hm : Wi.may s0 with
    | false =>
      go_wp2
      go_ret
      exact ⟨rfl, HB3.out⟩
    | true =>
      obtain ⟨y0, y1, y2, y3⟩ := hX3
      have hlM := lt_of_cell y0
      dsimp only at hlM
      go_wp2
      have HB4 : Hid (Below w.heap.size w (w3.alloc (.cells #[.int .i64 a1, .slice A1 s0.nums.length c1, .slice A2 s0.addrs.length c2, .slice A3 s0.body.length c3] 26))) := Lib.hid (HB3.out.alloc HB3.out.size _)
      have hX4 := HX3.out.call ((Below.refl w3.heap.size w3).alloc (Nat.le_refl _) (.cells #[.int .i64 a1, .slice A1 s0.nums.length c1, .slice A2 s0.addrs.length c2, .slice A3 s0.body.length c3] 26))
      have hY4 := Mx.new w3 a1 (.slice A1 s0.nums.length c1) (.slice A2 s0.addrs.length c2) (.slice A3 s0.body.length c3)
      clear y0 y1 y2 y3
      generalize w3.alloc (.cells #[.int .i64 a1, .slice A1 s0.nums.length c1, .slice A2 s0.addrs.length c2, .slice A3 s0.body.length c3] 26) = w4 at *
      have HX4 := Lib.hid hX4; have HY4 := Lib.hid hY4
      obtain ⟨y0, y1, y2, y3⟩ := hX4
      obtain ⟨z0, z1, z2, z3⟩ := hY4
      obtain ⟨q, hq⟩ : ∃ q, Wi.numsOf a1 = q := ⟨_, rfl⟩
      have CN : Hid (∀ n, Calls Tryd.prog 17 #[.int .i64 a1] (w4.drewN n) fun e w' => e = .returned (.int .i64 q) ∧ w' = w4.drewN n) := Lib.hid (fun n => by rw [← hq]; exact rnums_any a1 _)
      have HQ := Lib.hid hq
      have HM := Lib.hid hm
      have hnm := HNL.out
      clear hq hm hs
      unfold maxLen at hnm
      by_cases hk : q = (s0.nums.length : Int)
      · have t1 : (q != (s0.nums.length : Int)) = false := by simp [hk]
        have HMN : Hid (Wi.may ⟨a1, s0.nums, s0.addrs, s0.body⟩ = true) := Lib.hid (by
          obtain ⟨h1, h2, h3, h4, h5⟩ := Wi.may_iff.1 HM.out
          exact Wi.may_iff.2 ⟨by rw [HQ.out, hk], h2, h3, h4, h5⟩)
        have HK := Lib.hid hk
        clear hk
        go_wp2_with fail
        go_quiet ((go_at_call 17; refine Calls.quiet_of_same (CN.out _)))
        clear y0 y1 y2 y3 z0 z1 z2 z3
        have HB5 : Hid (Below w.heap.size w (w4.drewN nq)) := Lib.hid (below_drewN' HB4.out nq)
        have hX5 := HX4.out.call (below_drewN' (Below.refl w4.heap.size w4) nq)
        have hY5 := HY4.out.call (below_drewN' (Below.refl w4.heap.size w4) nq)
        generalize w4.drewN nq = w5 at *
        obtain ⟨t, ht⟩ : ∃ t, tl s0 = t := ⟨_, rfl⟩
        have HZ1 : Hid (Wi.bytes s0 = kd :: t) := Lib.hid (by rw [bytes_cons (may_kind HM.out).1 (may_kind HM.out).2, hkd, ht])
        have HZ2 : Hid (Wi.bytes ⟨a1, s0.nums, s0.addrs, s0.body⟩ = a1 :: t) := Lib.hid (by rw [bytes_cons (may_kind HMN.out).1 (may_kind HMN.out).2, ← ht]; rfl)
        have hT1 := (Wi.bytes_len HM.out).2
        have hT0 : 1 ≤ t.length := by rw [← ht]; unfold tl; have := Uv.enc_length s0.addrs.length (by have := (Wi.may_iff.1 HM.out).2.1; omega); have := Uv.len_pos s0.addrs.length; simp; omega
        rw [HZ1.out] at hT1
        obtain ⟨T, hTT⟩ : ∃ T, t.length = T := ⟨_, rfl⟩
        simp only [List.length_cons, hTT] at hT1
        rw [hTT] at hT0
        have C1 : Hid (∀ W, Below w.heap.size w W → Calls Tryd.prog 11 #[.agg #[.int .i64 kd, .slice A1 s0.nums.length c1, .slice A2 s0.addrs.length c2, .slice A3 s0.body.length c3]] W fun e w' => ∃ g c, e = .returned (.slice (some ⟨g, 0, none⟩) (T + 1) c) ∧ T + 1 ≤ c ∧ c ≤ maxLen ∧ Hid (Bts w' (some ⟨g, 0, none⟩) (T + 1) (kd :: t)) ∧ Hid (Below W.heap.size W w')) := Lib.hid (fun W hb => by
          have := law_bytes s0 _ _ _ W (HV.out.below hb) (HT.out.below hb) HM.out
          rw [hkd, HZ1.out] at this
          simp only [List.length_cons, hTT] at this
          refine this.mono ?_
          rintro e w' ⟨g, c, rfl, i1, i2, _, _, _, i3, i4⟩
          exact ⟨g, c, rfl, i1, i2, Lib.hid i3, Lib.hid i4⟩)
        have C2 : Hid (∀ W, Below w.heap.size w W → Calls Tryd.prog 11 #[.agg #[.int .i64 a1, .slice A1 s0.nums.length c1, .slice A2 s0.addrs.length c2, .slice A3 s0.body.length c3]] W fun e w' => ∃ g c, e = .returned (.slice (some ⟨g, 0, none⟩) (T + 1) c) ∧ T + 1 ≤ c ∧ c ≤ maxLen ∧ Hid (Bts w' (some ⟨g, 0, none⟩) (T + 1) (a1 :: t)) ∧ Hid (Below W.heap.size W w')) := Lib.hid (fun W hb => by
          have := law_bytes ⟨a1, s0.nums, s0.addrs, s0.body⟩ _ _ _ W (HVN.out.below hb) (HT.out.below hb) HMN.out
          rw [HZ2.out] at this
          simp only [List.length_cons, hTT] at this
          refine this.mono ?_
          rintro e w' ⟨g, c, rfl, i1, i2, _, _, _, i3, i4⟩
          exact ⟨g, c, rfl, i1, i2, Lib.hid i3, Lib.hid i4⟩)
        have HRD : Hid (Wi.read (a1 :: t) = some ⟨a1, s0.nums, s0.addrs, s0.body⟩) := Lib.hid (by rw [← HZ2.out]; exact Wi.read_bytes HVN.out.wf HMN.out)
        have HTL : Hid (t.length = T) := Lib.hid hTT
        clear ht hTT
        have HX5 := Lib.hid hX5; have HY5 := Lib.hid hY5
        obtain ⟨y0, y1, y2, y3⟩ := hX5
        go_wp2_with fail
        refine (C1.out _ HB5.out).mono ?_
        rintro e w6 ⟨g1, d1, rfl, i1, i2, HT1, hb6⟩
        have HB6 : Hid (Below w.heap.size w w6) := Lib.hid (HB5.out.trans (hb6.out.mono HB5.out.size))
        obtain ⟨z0, z1, z2, z3⟩ := HY5.out.call hb6.out
        clear y0 y1 y2 y3
        go_wp2_with fail
        refine (C2.out _ HB6.out).mono ?_
        rintro e w7 ⟨g2, d2, rfl, j1, j2, HT2, hb7⟩
        have HB7 : Hid (Below w.heap.size w w7) := Lib.hid (HB6.out.trans (hb7.out.mono HB6.out.size))
        have HT3 : Hid (Bts w7 (some ⟨g1, 0, none⟩) (T + 1) (kd :: t)) := Lib.hid (HT1.out.below hb7.out)
        clear z0 z1 z2 z3
        go_wp2_with fail
        refine (law_read _ _ _ _ _ _ HT2.out j1 j2 (by simp) (HT.out.below HB7.out) (by have := HTL.out; simp; omega) HRD.out).mono ?_
        rintro e w8 ⟨x1, x2, x3, rfl, hv8, hb8⟩
        obtain ⟨B1, e1, B2, e2, B3, e3, rfl, rfl, rfl⟩ := hv8.forms
        have HB8 : Hid (Below w.heap.size w w8) := Lib.hid (HB7.out.trans (hb8.mono HB7.out.size))
        have HT4 := Lib.hid (HT3.out.below hb8); have HT5 := Lib.hid (HT2.out.below hb8)
        clear hv8 hb8
        unfold maxLen at i2 j2
        have CQ : Hid (∀ o n, Calls Tryd.prog 14 #[.slice (some ⟨g1, 1, none⟩) T (d1 - 1), .slice (some ⟨g2, 1, none⟩) T (d2 - 1)] ((w8.alloc o).drewN n) fun e w' => e = .returned (.bool true) ∧ ∃ q, w' = ((w8.alloc o).drewN n).drewN q) := Lib.hid (fun o n => by
          have hb9 := below_drewN' ((Below.refl w8.heap.size w8).alloc (Nat.le_refl _) o) n
          exact same_self _ _ T _ _ t _ (by unfold maxLen; omega) (by have := bts_tail (HT4.out.below hb9) i1 (by omega); exact this) (by have := bts_tail (HT5.out.below hb9) j1 (by omega); exact this))
        go_wp2_with fail
        go_quiet ((go_at_call 14; refine Calls.quiet_of (CQ.out _ _)))
        go_wp2_with fail
        go_ret
        exact ⟨rfl, below_drewN' (HB8.out.alloc HB8.out.size _) _⟩
      · have t1 : (q != (s0.nums.length : Int)) = true := by simp [hk]
        have HMN : Hid (Wi.may ⟨a1, s0.nums, s0.addrs, s0.body⟩ = false) := Lib.hid (may_no (fun h => hk (by rw [← HQ.out, ← h.1])))
        clear hk
        go_wp2_with fail
        go_quiet ((go_at_call 17; refine Calls.quiet_of_same (CN.out _)))
        clear y0 y1 y2 y3 z0 z1 z2 z3
        have HB5 : Hid (Below w.heap.size w (w4.drewN nq)) := Lib.hid (below_drewN' HB4.out nq)
        obtain ⟨z0, z1, z2, z3⟩ := HY4.out.call (below_drewN' (Below.refl w4.heap.size w4) nq)
        generalize w4.drewN nq = w5 at *
        go_wp2_with fail
        refine (bytes_msg_no ⟨a1, s0.nums, s0.addrs, s0.body⟩ _ _ _ _ (HVN.out.below HB5.out) (HT.out.below HB5.out) HMN.out).mono ?_
        rintro e w6 ⟨rfl, hb6⟩
        have HB6 : Hid (Below w.heap.size w w6) := Lib.hid (HB5.out.trans (hb6.mono HB5.out.size))
        clear hb6 z0 z1 z2 z3
        go_wp2_with fail
        go_ret
        exact ⟨rfl, HB6.out⟩


/-! ### the row, under what it lists -/
set_option maxRecDepth 100000 in
theorem lifted (os : Os) (started : os.Started) (H : Type) (enc : TypeId × Value → H) :
    ReturnsInHanded {} Tryd.checked os 7 .any (fun w args => (Rows.wireKindsSpec.pre enc Tryd.prog Tryd.f7 [] false w args ∧ laidMetH Tryd.prog Rows.wireKindsRow.laid w) ∧ sizedMet enc Tryd.prog Tryd.f7 (OpenSpec.ofChange Rows.wireKindsSpec) false w args)
      (Rows.wireKindsSpec.post enc Tryd.prog Tryd.f7 false true false false) := by
  refine returnsInHanded_of_change_and (C := Tryd.checked) (X := fun w _ => laidMetH Tryd.prog Rows.wireKindsRow.laid w) (fun _ _ _ hh h => h.of_heap hh) own started (by kernel_rfl) Tryd.func7
    (ChangeSpec.witness_shaped (enc := enc) (C := Tryd.checked) (os := os) (X := fun w _ => laidMetH Tryd.prog Rows.wireKindsRow.laid w) false (World.laidAll Tryd.prog os Rows.wireKindsRow.laid) #[.agg #[.int .i64 0, .slice none 0 0, .slice none 0 0, .slice none 0 0], .int .i64 0] 8 (World.laidAll_os _ _ _)
      (World.shaped_of_ZipB (by kernel_rfl) (by kernel_rfl)) (by kernel_rfl) (by kernel_rfl) (by kernel_rfl)
      (by rw [MakeChecks.laidMetH_plain _ _ _ (by kernel_rfl)]; exact laidMet_laidAll _ (by kernel_rfl) (by kernel_rfl))) ?_
  intro W base args ds gs before hval0 hW _ _ hL _
  have hval : ∀ (j : Nat) t v, Tryd.f7.params[j]? = some t → args[j]? = some v → Value.okWide Tryd.prog W .any base t v := hval0
  have hW' := hW
  obtain ⟨p, q, hA0, hV, rfl, hfz, hnd⟩ := hW
  have hA : DataW.TrodAll enc Tryd.prog W 0 (fun _ => true) true Tryd.f7.params.toList args.toList ds p := hA0
  rw [Tryd.params7] at hA hval
  obtain ⟨v0, vs0, d0, ds0, p0, q0, hargs, rfl, rfl, h0, r0⟩ := trodAll_cons hA
  obtain ⟨v1, vs1, d1, ds1, p1, q1, rfl, rfl, rfl, h1, r1⟩ := trodAll_cons r0
  obtain ⟨rfl, rfl, rfl⟩ := trodAll_nil r1
  obtain rfl : args = #[v0, v1] := by cases args; simp_all
  obtain ⟨rfl, rfl⟩ := trodVars_none hV
  rw [MakeChecks.laidMetH_plain _ _ _ (by kernel_rfl)] at hL
  have k0 := h0
  have lt0 : ∀ x ∈ p0, x.block < W.heap.size := by obtain ⟨m, hm⟩ := k0; exact DataW.trod_lt m _ _ _ hm
  obtain ⟨s0, w0⟩ := open_msg (hval 0 26 v0 rfl rfl) h0
  obtain ⟨a1, rfl, rfl, rfl, w1⟩ := open_int Tryd.underlying3 (hval 1 3 v1 rfl rfl) h1
  clear hA0 hval0
  refine (walk v0 s0 a1 W w0 w1 hL).mono fun e W' ⟨he, bel⟩ => ?_
  subst he
  exact ⟨_, rfl, _, _, _, [], _, [], hW', trodAll_mk1 (shut_bool Tryd.underlying4 _), (trodAll_cons_mk (Below.trod laidOut (by kernel_rfl) (of_decide_eq_true (by kernel_rfl)) k0 bel lt0) (trodAll_cons_mk (shut_int Tryd.underlying3 w1) trodAll_mk0)), rfl, bel.frame _, fun h => by cases h⟩

theorem over : Rows.WireKindsSaid :=
  OpenClaim.holds_of_wide 7 Tryd.f7 rfl rfl rfl rfl rfl rfl rfl ⟨rfl, rfl, rfl, rfl, rfl⟩ rfl rfl rfl rfl rfl (by kernel_rfl) Tryd.func7 (by kernel_rfl)
    (of_decide_eq_true (by kernel_rfl)) (by unfold Func.isWrapper; first | (rw [if_pos (by decide +kernel)]; kernel_rfl) | (rw [if_neg (by decide +kernel)]; exact ⟨rfl, rfl⟩))
    (fun os started H enc _ => lifted os started H enc)

/-- ████ THE STATEMENT ████ -/
theorem proved : Rows.WireKindsCardSaid :=
  Claim7.holds_tied_plain_at .later [] [.data] true (true, "de450b1929b5a7b2899e5ead515590ee173562021ec0d166f568880e6684e4d0") false
    over (fun _ h => by cases h) (by kernel_rfl) (fun _ h => by cases h) wireKinds_row_tie rfl ⟨rfl, rfl⟩ (by kernel_rfl) rfl
    (fun f fn hf hfn => by
      obtain rfl : f = 7 := Option.some.inj ((show Tryd.prog.funcNamed "embrasure/embrasurelaw05.WireKinds" = some 7 by kernel_rfl).symm.trans hf) |>.symm
      obtain rfl : fn = Tryd.f7 := (Option.some.inj (Tryd.func7.symm.trans hfn)).symm
      exact ⟨by kernel_rfl, fun j t ht => by
        rw [Tryd.params7] at ht
        have hm : t ∈ [26, 3] := by simpa using Array.mem_of_getElem? ht
        have hall : ([26, 3].all fun u => !Tryd.prog.wantsStandIn u) = true := by kernel_rfl
        exact (show Tryd.prog.wantsStandIn t = false by simpa using List.all_eq_true.1 hall t hm)⟩)
    (by kernel_rfl)
#print axioms proved
end Go.Proofs.YtebgfiibcmnfnaaDoor.wireKinds
