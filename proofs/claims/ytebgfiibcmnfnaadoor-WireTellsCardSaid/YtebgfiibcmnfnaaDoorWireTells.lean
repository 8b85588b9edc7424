/-
  embrasure/wire's Bytes, May, Nums and FromBytes, as the statement WireTells asks: every message as bytes is what the document says, and is read again. Conditions: the tables are as the program's text lays them; a message's parts of up to as many as the statement goes through.
-/

import Derived.Deep.RegionHeld3
import Derived.Test.YtebgfiibcmnfnaaDoorLawBytes
import Derived.Test.YtebgfiibcmnfnaaDoorLawSame
import Derived.Test.YtebgfiibcmnfnaaDoorRows
import Derived.Test.YtebgfiibcmnfnaaDoorCards
import Derived.Test.YtebgfiibcmnfnaaDoorTie
import Derived.WalkKit
import Derived.ProofKit
import Derived.OpenShut
import Derived.ShutString
import Derived.ChangeOld
import Derived.Below
import Derived.Lay
import Derived.LaidMore
import Derived.LaidOnce
import Derived.SevenTiedAt
namespace Go.Proofs.YtebgfiibcmnfnaaDoor.wireTells
open Go.ChangeShapes Go.WideShapes Go.ChangeAt Go.RowKit
open Go.ChangeMaps (open_string shut_string)
set_option linter.unusedVariables false

theorem own : ownKnob Tryd.prog.godebug = none := by kernel_rfl
theorem laidOut : laidOutB Tryd.prog = true := by kernel_rfl

set_option maxRecDepth 100000 in
set_option maxHeartbeats 4000000 in
theorem walk (v0 : Value) (s0 : Wi.Msg) (w : World) (w0 : IsMsg w v0 s0) (hL : laidMet Tryd.prog Rows.wireTellsRow.laid w) :
    Calls Tryd.prog 3 #[v0] w fun e w' => e = .returned (.bool true) ∧ Below w.heap.size w w' := by
  obtain ⟨x1, x2, x3, rfl, hv⟩ := w0
  have hT := tb_laid hL
  have HV := Lib.hid hv
  have HT := Lib.hid hT
  obtain ⟨A1, c1, A2, c2, A3, c3, rfl, rfl, rfl⟩ := hv.forms
  have hnl := hv.1
  obtain ⟨kd, hkd⟩ : ∃ n, s0.kind = n := ⟨_, rfl⟩
  have HNL : Hid (s0.nums.length ≤ maxLen) := Lib.hid (by obtain ⟨A, c, _, h1, h2, _⟩ := hnl; omega)
  have hX0 := Mx.new w kd (.slice A1 s0.nums.length c1) (.slice A2 s0.addrs.length c2) (.slice A3 s0.body.length c3)
  have HB0 : Hid (Below w.heap.size w (w.alloc (.cells #[.int .i64 kd, .slice A1 s0.nums.length c1, .slice A2 s0.addrs.length c2, .slice A3 s0.body.length c3] 26))) := Lib.hid ((Below.refl _ _).alloc (Nat.le_refl _) _)
  have HX0 := Lib.hid hX0
  have CS : Hid (∀ W, Below w.heap.size w W → Calls Tryd.prog 10 #[.agg #[.int .i64 kd, .slice A1 s0.nums.length c1, .slice A2 s0.addrs.length c2, .slice A3 s0.body.length c3]] W fun e w' => e = .returned (.bool (small s0)) ∧ Below W.heap.size W w') := Lib.hid (fun W hb => by
    have := small_msg s0 _ _ _ W (HV.out.below hb)
    rw [hkd] at this
    exact this)
  have CM : Hid (∀ W, Below w.heap.size w W → Calls Tryd.prog 13 #[.agg #[.int .i64 kd, .slice A1 s0.nums.length c1, .slice A2 s0.addrs.length c2, .slice A3 s0.body.length c3]] W fun e w' => e = .returned (.bool (Wi.may s0)) ∧ Below W.heap.size W w') := Lib.hid (fun W hb => by
    have := rmay_msg s0 _ _ _ W (HV.out.below hb)
    rw [hkd] at this
    exact this)
  have CY : Hid (∀ W, Below w.heap.size w W → Calls Tryd.prog 12 #[.agg #[.int .i64 kd, .slice A1 s0.nums.length c1, .slice A2 s0.addrs.length c2, .slice A3 s0.body.length c3]] W fun e w' => e = .returned (.bool (Wi.may s0)) ∧ Below W.heap.size W w') := Lib.hid (fun W hb => by
    have := may_msg s0 _ _ _ W (HV.out.below hb) (HT.out.below hb)
    rw [hkd] at this
    exact this)
  obtain ⟨xs, hxs⟩ : ∃ xs, outB s0 = xs := ⟨_, rfl⟩
  obtain ⟨n, hn⟩ : ∃ n, xs.length = n := ⟨_, rfl⟩
  have CB : Hid (∀ W, Below w.heap.size w W → Calls Tryd.prog 11 #[.agg #[.int .i64 kd, .slice A1 s0.nums.length c1, .slice A2 s0.addrs.length c2, .slice A3 s0.body.length c3]] W fun e w' => ∃ A c, e = .returned (.slice A n c) ∧ n ≤ c ∧ c ≤ maxLen ∧ Hid (A = none → n = 0 ∧ c = 0) ∧ Hid (Bts w' A n xs) ∧ Hid (Below W.heap.size W w')) := Lib.hid (fun W hb => by
    have := any_bytes s0 _ _ _ W (HV.out.below hb) (HT.out.below hb)
    rw [hkd, hxs, hn] at this
    refine this.mono ?_
    rintro e w' ⟨A, c, rfl, i1, i2, i3, i4, i5⟩
    exact ⟨A, c, rfl, i1, i2, Lib.hid i3, Lib.hid i4, Lib.hid i5⟩)
  have CR : Hid (∀ W, Below w.heap.size w W → Calls Tryd.prog 15 #[.agg #[.int .i64 kd, .slice A1 s0.nums.length c1, .slice A2 s0.addrs.length c2, .slice A3 s0.body.length c3]] W fun e w' => ∃ A c, e = .returned (.slice A n c) ∧ Bts w' A n xs ∧ Below W.heap.size W w') := Lib.hid (fun W hb => by
    have := any_rbytes s0 _ _ _ W (HV.out.below hb)
    rw [hkd, hxs, hn] at this
    exact this)
  have hn2 : n ≤ 1200 := by rw [← hn, ← hxs]; exact outB_len s0
  have HXS := Lib.hid hxs; have HXN := Lib.hid hn
  have CN : Hid (∀ W, Below w.heap.size w W → Calls Tryd.prog 16 #[.int .i64 kd] W fun e w' => e = .returned (.int .i64 (Wi.numsOf kd)) ∧ Below W.heap.size W w') := Lib.hid (fun W hb => (nums_any kd W (HT.out.below hb)).mono (by rintro e w' ⟨rfl, rfl⟩; exact ⟨rfl, Below.refl _ _⟩))
  have CO : Hid (∀ W, Calls Tryd.prog 17 #[.int .i64 kd] W fun e w' => e = .returned (.int .i64 (Wi.numsOf kd)) ∧ Below W.heap.size W w') := Lib.hid (fun W => (rnums_any kd W).mono (by rintro e w' ⟨rfl, rfl⟩; exact ⟨rfl, Below.refl _ _⟩))
  have CE : Hid (∀ W A c A' c', Bts W A n xs → Bts W A' n xs → Calls Tryd.prog 14 #[.slice A n c, .slice A' n c'] W fun e w' => e = .returned (.bool true) ∧ Below W.heap.size W w') := Lib.hid (fun W A c A' c' h1 h2 => (same_self A A' n c c' xs W (by unfold maxLen; omega) h1 h2).mono (by rintro e w' ⟨rfl, hq⟩; exact ⟨rfl, drewN_below hq⟩))
  clear hX0 hnl hv hT hL hxs hn
  rw [hkd]
  generalize hW0 : w.alloc (.cells #[.int .i64 kd, .slice A1 s0.nums.length c1, .slice A2 s0.addrs.length c2, .slice A3 s0.body.length c3] 26) = W0 at *
  go_enter Tryd.func3, Tryd.ntmps3
  go_wp2_with fail
  refine (awake_any _ (HT.out.below HB0.out)).mono ?_
  rintro e w1 ⟨rfl, hb1⟩
  have HB1 : Hid (Below w.heap.size w w1) := Lib.hid (HB0.out.trans (hb1.mono HB0.out.size))
  have hX1 := HX0.out.call hb1
  have HX1 := Lib.hid hX1
  obtain ⟨y0, y1, y2, y3⟩ := hX1
  clear hb1
  go_wp2_with fail
  refine (CS.out _ HB1.out).mono ?_
  rintro e w2 ⟨rfl, hb2⟩
  have HB2 : Hid (Below w.heap.size w w2) := Lib.hid (HB1.out.trans (hb2.mono HB1.out.size))
  have hX2 := HX1.out.call hb2
  have HX2 := Lib.hid hX2
  clear hb2 y0 y1 y2 y3 hW0
  cases hs : small s0 with
  | false =>
    go_wp2
    go_ret
    exact ⟨rfl, HB2.out⟩
  | true =>
    obtain ⟨y0, y1, y2, y3⟩ := hX2
    go_wp2_with fail
    refine (CB.out _ HB2.out).mono ?_
    rintro e w3 ⟨AX, cx, rfl, i1, i2, HX0n, HBX, hb3⟩
    have HB3 : Hid (Below w.heap.size w w3) := Lib.hid (HB2.out.trans (hb3.out.mono HB2.out.size))
    have hU : U3 w w3.drew kd (.slice A1 s0.nums.length c1) (.slice A2 s0.addrs.length c2) (.slice A3 s0.body.length c3) AX n xs := U3.call ⟨HX2.out.call hb3.out, HB3.out, HBX.out⟩ ((Below.refl _ _).drew)
    have H5 := hU.five
    clear hb3 y0 y1 y2 y3 hs
    go_wp2_with fail
    go_region_held3 (fun W => W.cell? ⟨w.heap.size, 0, none⟩ = some (.int .i64 kd) ∧ W.cell? ⟨w.heap.size, 1, none⟩ = some (.slice A1 s0.nums.length c1) ∧ W.cell? ⟨w.heap.size, 2, none⟩ = some (.slice A2 s0.addrs.length c2) ∧ W.cell? ⟨w.heap.size, 3, none⟩ = some (.slice A3 s0.body.length c3) ∧ U3 w W kd (.slice A1 s0.nums.length c1) (.slice A2 s0.addrs.length c2) (.slice A3 s0.body.length c3) AX n xs) (first | exact H5 | exact (U3.call (by assumption : _ ∧ _ ∧ _ ∧ _ ∧ U3 w _ kd (.slice A1 s0.nums.length c1) (.slice A2 s0.addrs.length c2) (.slice A3 s0.body.length c3) AX n xs).2.2.2.2 hb4).five | exact (U3.call (by assumption : _ ∧ _ ∧ _ ∧ _ ∧ U3 w _ kd (.slice A1 s0.nums.length c1) (.slice A2 s0.addrs.length c2) (.slice A3 s0.body.length c3) AX n xs).2.2.2.2 hb5).five | exact (U3.call (by assumption : _ ∧ _ ∧ _ ∧ _ ∧ U3 w _ kd (.slice A1 s0.nums.length c1) (.slice A2 s0.addrs.length c2) (.slice A3 s0.body.length c3) AX n xs).2.2.2.2 hb6).five | exact (U3.call (by assumption : _ ∧ _ ∧ _ ∧ _ ∧ U3 w _ kd (.slice A1 s0.nums.length c1) (.slice A2 s0.addrs.length c2) (.slice A3 s0.body.length c3) AX n xs).2.2.2.2 hb7).five | exact (U3.call (by assumption : _ ∧ _ ∧ _ ∧ _ ∧ U3 w _ kd (.slice A1 s0.nums.length c1) (.slice A2 s0.addrs.length c2) (.slice A3 s0.body.length c3) AX n xs).2.2.2.2 hb8).five | exact (U3.call (by assumption : _ ∧ _ ∧ _ ∧ _ ∧ U3 w _ kd (.slice A1 s0.nums.length c1) (.slice A2 s0.addrs.length c2) (.slice A3 s0.body.length c3) AX n xs).2.2.2.2 hb9).five) (first | (go_at_call 12; refine (CY.out _ (by assumption : _ ∧ _ ∧ _ ∧ _ ∧ U3 w _ kd (.slice A1 s0.nums.length c1) (.slice A2 s0.addrs.length c2) (.slice A3 s0.body.length c3) AX n xs).2.2.2.2.bel).mono ?_; rintro e w4 ⟨rfl, hb4⟩) | (go_at_call 13; refine (CM.out _ (by assumption : _ ∧ _ ∧ _ ∧ _ ∧ U3 w _ kd (.slice A1 s0.nums.length c1) (.slice A2 s0.addrs.length c2) (.slice A3 s0.body.length c3) AX n xs).2.2.2.2.bel).mono ?_; rintro e w5 ⟨rfl, hb5⟩) | (go_at_call 15; refine (CR.out _ (by assumption : _ ∧ _ ∧ _ ∧ _ ∧ U3 w _ kd (.slice A1 s0.nums.length c1) (.slice A2 s0.addrs.length c2) (.slice A3 s0.body.length c3) AX n xs).2.2.2.2.bel).mono ?_; rintro e w6 ⟨A6, c6, rfl, hx6, hb6⟩) | (go_at_call 14; refine (CE.out _ _ _ _ _ (by assumption : _ ∧ _ ∧ _ ∧ _ ∧ U3 w _ kd (.slice A1 s0.nums.length c1) (.slice A2 s0.addrs.length c2) (.slice A3 s0.body.length c3) AX n xs).2.2.2.2.row hx6).mono ?_; rintro e w7 ⟨rfl, hb7⟩) | (go_at_call 16; refine (CN.out _ (by assumption : _ ∧ _ ∧ _ ∧ _ ∧ U3 w _ kd (.slice A1 s0.nums.length c1) (.slice A2 s0.addrs.length c2) (.slice A3 s0.body.length c3) AX n xs).2.2.2.2.bel).mono ?_; rintro e w8 ⟨rfl, hb8⟩) | (go_at_call 17; refine (CO.out _).mono ?_; rintro e w9 ⟨rfl, hb9⟩))
    rename_i hX
    have U8 := Lib.hid hX.2.2.2.2
    clear hX H5 hU
    obtain ⟨y0, y1, y2, y3⟩ := U8.out.mx
    have hlM := lt_of_cell y0
    dsimp only at hlM
    go_wp2_with fail
    refine (CM.out _ U8.out.bel).mono ?_
    rintro e w10 ⟨rfl, hb10⟩
    have U10 := Lib.hid (U8.out.call hb10)
    clear hb10 y0 y1 y2 y3 hlM
    cases hm : Wi.may s0 with
    | false =>
      have h0 : n = 0 := by
        have := HXN.out
        rw [← HXS.out] at this
        unfold outB at this
        rw [hm] at this
        simpa using this.symm
      subst h0
      go_wp2
      go_ret
      exact ⟨rfl, U10.out.bel⟩
    | true =>
      have hxb : xs = Wi.bytes s0 := by rw [← HXS.out]; unfold outB; rw [if_pos hm]
      have HRD : Hid (Wi.read xs = some s0) := Lib.hid (by rw [hxb]; exact Wi.read_bytes HV.out.wf hm)
      clear hxb hm
      go_wp2_with fail
      refine (law_read _ _ _ _ _ _ U10.out.row i1 i2 HX0n.out (HT.out.below U10.out.bel) (by have := HXN.out; omega) HRD.out).mono ?_
      rintro e w11 ⟨x1, x2, x3, rfl, hv11, hb11⟩
      have HV11 := Lib.hid hv11
      have U11 := Lib.hid (U10.out.call hb11)
      obtain ⟨B1, e1, B2, e2, B3, e3, rfl, rfl, rfl⟩ := hv11.forms
      have CE2 : Hid (∀ o, Calls Tryd.prog 19 #[.agg #[.int .i64 kd, .slice B1 s0.nums.length e1, .slice B2 s0.addrs.length e2, .slice B3 s0.body.length e3], .agg #[.int .i64 kd, .slice A1 s0.nums.length c1, .slice A2 s0.addrs.length c2, .slice A3 s0.body.length c3]] (w11.alloc o) fun e w' => e = .returned (.bool true) ∧ Below w11.heap.size w11 w') := Lib.hid (fun o => by
        have hb9 := (Below.refl w11.heap.size w11).alloc (Nat.le_refl _) o
        have := rsame_msg s0 s0 _ _ _ _ _ _ (w11.alloc o) (HV11.out.below hb9) (HV.out.below (U11.out.bel.alloc U11.out.bel.size o))
        rw [hkd] at this
        refine this.mono ?_
        rintro e w' ⟨t, rfl, h1, h2⟩
        rw [h1.2 rfl]
        exact ⟨rfl, hb9.trans (h2.mono (by simp))⟩)
      obtain ⟨y0, y1, y2, y3⟩ := U11.out.mx
      have hlM := lt_of_cell y0
      dsimp only at hlM
      clear hv11 hb11
      rw [hkd]
      go_wp2_with fail
      refine (CE2.out _).mono ?_
      rintro e w12 ⟨rfl, hb12⟩
      have U12 := Lib.hid (U11.out.call hb12)
      clear y0 y1 y2 y3 hlM hb12
      go_wp2_with fail
      go_ret
      exact ⟨rfl, U12.out.bel⟩


/-! ### the row, under what it lists -/
set_option maxRecDepth 100000 in
theorem lifted (os : Os) (started : os.Started) (H : Type) (enc : TypeId × Value → H) :
    ReturnsInHanded {} Tryd.checked os 3 .any (fun w args => (Rows.wireTellsSpec.pre enc Tryd.prog Tryd.f3 [] false w args ∧ laidMetH Tryd.prog Rows.wireTellsRow.laid w) ∧ sizedMet enc Tryd.prog Tryd.f3 (OpenSpec.ofChange Rows.wireTellsSpec) false w args)
      (Rows.wireTellsSpec.post enc Tryd.prog Tryd.f3 false true false false) := by
  refine returnsInHanded_of_change_and (C := Tryd.checked) (X := fun w _ => laidMetH Tryd.prog Rows.wireTellsRow.laid w) (fun _ _ _ hh h => h.of_heap hh) own started (by kernel_rfl) Tryd.func3
    (ChangeSpec.witness_shaped (enc := enc) (C := Tryd.checked) (os := os) (X := fun w _ => laidMetH Tryd.prog Rows.wireTellsRow.laid w) false (World.laidAll Tryd.prog os Rows.wireTellsRow.laid) #[.agg #[.int .i64 0, .slice none 0 0, .slice none 0 0, .slice none 0 0]] 8 (World.laidAll_os _ _ _)
      (World.shaped_of_ZipB (by kernel_rfl) (by kernel_rfl)) (by kernel_rfl) (by kernel_rfl) (by kernel_rfl)
      (by rw [MakeChecks.laidMetH_plain _ _ _ (by kernel_rfl)]; exact laidMet_laidAll _ (by kernel_rfl) (by kernel_rfl))) ?_
  intro W base args ds gs before hval0 hW _ _ hL _
  have hval : ∀ (j : Nat) t v, Tryd.f3.params[j]? = some t → args[j]? = some v → Value.okWide Tryd.prog W .any base t v := hval0
  have hW' := hW
  obtain ⟨p, q, hA0, hV, rfl, hfz, hnd⟩ := hW
  have hA : DataW.TrodAll enc Tryd.prog W 0 (fun _ => true) true Tryd.f3.params.toList args.toList ds p := hA0
  rw [Tryd.params3] at hA hval
  obtain ⟨v0, vs0, d0, ds0, p0, q0, hargs, rfl, rfl, h0, r0⟩ := trodAll_cons hA
  obtain ⟨rfl, rfl, rfl⟩ := trodAll_nil r0
  obtain rfl : args = #[v0] := by cases args; simp_all
  obtain ⟨rfl, rfl⟩ := trodVars_none hV
  rw [MakeChecks.laidMetH_plain _ _ _ (by kernel_rfl)] at hL
  have k0 := h0
  have lt0 : ∀ x ∈ p0, x.block < W.heap.size := by obtain ⟨m, hm⟩ := k0; exact DataW.trod_lt m _ _ _ hm
  obtain ⟨s0, w0⟩ := open_msg (hval 0 26 v0 rfl rfl) h0
  clear hA0 hval0
  refine (walk v0 s0 W w0 hL).mono fun e W' ⟨he, bel⟩ => ?_
  subst he
  exact ⟨_, rfl, _, _, _, [], _, [], hW', trodAll_mk1 (shut_bool Tryd.underlying4 _), (trodAll_cons_mk (Below.trod laidOut (by kernel_rfl) (of_decide_eq_true (by kernel_rfl)) k0 bel lt0) trodAll_mk0), rfl, bel.frame _, fun h => by cases h⟩

theorem over : Rows.WireTellsSaid :=
  OpenClaim.holds_of_wide 3 Tryd.f3 rfl rfl rfl rfl rfl rfl rfl ⟨rfl, rfl, rfl, rfl, rfl⟩ rfl rfl rfl rfl rfl (by kernel_rfl) Tryd.func3 (by kernel_rfl)
    (of_decide_eq_true (by kernel_rfl)) (by unfold Func.isWrapper; first | (rw [if_pos (by decide +kernel)]; kernel_rfl) | (rw [if_neg (by decide +kernel)]; exact ⟨rfl, rfl⟩))
    (fun os started H enc _ => lifted os started H enc)

/-- ████ THE STATEMENT ████ -/
theorem proved : Rows.WireTellsCardSaid :=
  Claim7.holds_tied_plain_at .later [] [.data] true (true, "de450b1929b5a7b2899e5ead515590ee173562021ec0d166f568880e6684e4d0") false
    over (fun _ h => by cases h) (by kernel_rfl) (fun _ h => by cases h) wireTells_row_tie rfl ⟨rfl, rfl⟩ (by kernel_rfl) rfl
    (fun f fn hf hfn => by
      obtain rfl : f = 3 := Option.some.inj ((show Tryd.prog.funcNamed "embrasure/embrasurelaw05.WireTells" = some 3 by kernel_rfl).symm.trans hf) |>.symm
      obtain rfl : fn = Tryd.f3 := (Option.some.inj (Tryd.func3.symm.trans hfn)).symm
      exact ⟨by kernel_rfl, fun j t ht => by
        rw [Tryd.params3] at ht
        have hm : t ∈ [26] := by simpa using Array.mem_of_getElem? ht
        have hall : ([26].all fun u => !Tryd.prog.wantsStandIn u) = true := by kernel_rfl
        exact (show Tryd.prog.wantsStandIn t = false by simpa using List.all_eq_true.1 hall t hm)⟩)
    (by kernel_rfl)
#print axioms proved
end Go.Proofs.YtebgfiibcmnfnaaDoor.wireTells
