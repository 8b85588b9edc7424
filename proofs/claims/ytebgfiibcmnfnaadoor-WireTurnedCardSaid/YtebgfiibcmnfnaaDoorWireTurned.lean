/-
  embrasure/wire's Bytes and FromBytes, as the statement WireTurned asks: a message's bytes with any of them turned aren't that message. Conditions: the tables are as the program's text lays them; a message's parts of up to as many as the statement goes through.
-/

import Derived.Test.YtebgfiibcmnfnaaDoorLawTurn
import Derived.Test.YtebgfiibcmnfnaaDoorLawSame
import Derived.Test.YtebgfiibcmnfnaaDoorRows
import Derived.Test.YtebgfiibcmnfnaaDoorCards
import Derived.Test.YtebgfiibcmnfnaaDoorTie
import Derived.WalkKit
import Derived.ProofKit
import Derived.OpenShut
import Derived.ShutString
import Derived.ChangeOld
import Derived.Below
import Derived.Lay
import Derived.LaidMore
import Derived.LaidOnce
import Derived.SevenTiedAt
namespace Go.Proofs.YtebgfiibcmnfnaaDoor.wireTurned
open Go.ChangeShapes Go.WideShapes Go.ChangeAt Go.RowKit
open Go.ChangeMaps (open_string shut_string)
set_option linter.unusedVariables false

theorem own : ownKnob Tryd.prog.godebug = none := by kernel_rfl
theorem laidOut : laidOutB Tryd.prog = true := by kernel_rfl

set_option maxRecDepth 100000 in
set_option maxHeartbeats 4000000 in
theorem walk (v0 : Value) (s0 : Wi.Msg) (a1 : Int) (a2 : Int) (w : World) (w0 : IsMsg w v0 s0) (w1 : (Lit.int .u16 a1).wf = true) (w2 : (Lit.int .u8 a2).wf = true) (hL : laidMet Tryd.prog Rows.wireTurnedRow.laid w) :
    Calls Tryd.prog 8 #[v0, .int .u16 a1, .int .u8 a2] w fun e w' => e = .returned (.bool true) ∧ Below w.heap.size w w' := by
  obtain ⟨x1, x2, x3, rfl, hv⟩ := w0
  have ha := bounds_u16 w1
  have hb := wf_u8 w2
  have hT := tb_laid hL
  have HV := Lib.hid hv
  have HT := Lib.hid hT
  obtain ⟨A1, c1, A2, c2, A3, c3, rfl, rfl, rfl⟩ := hv.forms
  have hnl := hv.1
  obtain ⟨kd, hkd⟩ : ∃ n, s0.kind = n := ⟨_, rfl⟩
  have HNL : Hid (s0.nums.length ≤ maxLen) := Lib.hid (by obtain ⟨A, c, _, h1, h2, _⟩ := hnl; omega)
  have hX0 := Mx.new w kd (.slice A1 s0.nums.length c1) (.slice A2 s0.addrs.length c2) (.slice A3 s0.body.length c3)
  have HB0 : Hid (Below w.heap.size w (w.alloc (.cells #[.int .i64 kd, .slice A1 s0.nums.length c1, .slice A2 s0.addrs.length c2, .slice A3 s0.body.length c3] 26))) := Lib.hid ((Below.refl _ _).alloc (Nat.le_refl _) _)
  have HX0 := Lib.hid hX0
  have CS : Hid (∀ W, Below w.heap.size w W → Calls Tryd.prog 10 #[.agg #[.int .i64 kd, .slice A1 s0.nums.length c1, .slice A2 s0.addrs.length c2, .slice A3 s0.body.length c3]] W fun e w' => e = .returned (.bool (small s0)) ∧ Below W.heap.size W w') := Lib.hid (fun W hb => by
    have := small_msg s0 _ _ _ W (HV.out.below hb)
    rw [hkd] at this
    exact this)
  have CM : Hid (∀ W, Below w.heap.size w W → Calls Tryd.prog 13 #[.agg #[.int .i64 kd, .slice A1 s0.nums.length c1, .slice A2 s0.addrs.length c2, .slice A3 s0.body.length c3]] W fun e w' => e = .returned (.bool (Wi.may s0)) ∧ Below W.heap.size W w') := Lib.hid (fun W hb => by
    have := rmay_msg s0 _ _ _ W (HV.out.below hb)
    rw [hkd] at this
    exact this)
  clear hX0 hnl hv hT hL
  rw [hkd]
  generalize hW0 : w.alloc (.cells #[.int .i64 kd, .slice A1 s0.nums.length c1, .slice A2 s0.addrs.length c2, .slice A3 s0.body.length c3] 26) = W0 at *
  go_enter Tryd.func8, Tryd.ntmps8
  go_wp2_with fail
  refine (awake_any _ (HT.out.below HB0.out)).mono ?_
  rintro e w1 ⟨rfl, hb1⟩
  have HB1 : Hid (Below w.heap.size w w1) := Lib.hid (HB0.out.trans (hb1.mono HB0.out.size))
  have hX1 := HX0.out.call hb1
  have HX1 := Lib.hid hX1
  obtain ⟨y0, y1, y2, y3⟩ := hX1
  clear hb1
  go_wp2_with fail
  refine (CS.out _ HB1.out).mono ?_
  rintro e w2 ⟨rfl, hb2⟩
  have HB2 : Hid (Below w.heap.size w w2) := Lib.hid (HB1.out.trans (hb2.mono HB1.out.size))
  have hX2 := HX1.out.call hb2
  have HX2 := Lib.hid hX2
  clear hb2 y0 y1 y2 y3 hW0
  cases hs : small s0 with
  | false =>
    go_wp2
    go_ret
    exact ⟨rfl, HB2.out⟩
  | true =>
    obtain ⟨y0, y1, y2, y3⟩ := hX2
    go_wp2_with fail
    refine (CM.out _ HB2.out).mono ?_
    rintro e w3 ⟨rfl, hb3⟩
    have HB3 : Hid (Below w.heap.size w w3) := Lib.hid (HB2.out.trans (hb3.mono HB2.out.size))
    have hX3 := HX2.out.call hb3
    have HX3 := Lib.hid hX3
    clear hb3 y0 y1 y2 y3
    cases hm : Wi.may s0 with
    | false =>
      go_wp2
      go_ret
      exact ⟨rfl, HB3.out⟩
    | true =>
      obtain ⟨y0, y1, y2, y3⟩ := hX3
      have HMY := Lib.hid hm
      obtain ⟨zs, hzs⟩ : ∃ zs, Wi.bytes s0 = zs := ⟨_, rfl⟩
      obtain ⟨L, hL⟩ : ∃ L, zs.length = L := ⟨_, rfl⟩
      have hl1 := Wi.bytes_len hm
      rw [hzs, hL] at hl1
      have C1 := law_bytes s0 _ _ _ w3 (HV.out.below HB3.out) (HT.out.below HB3.out) hm
      rw [hkd, hzs, hL] at C1
      have HZB : Hid (∀ z ∈ zs, 0 ≤ z ∧ z ≤ 255) := Lib.hid (by rw [← hzs]; exact Wi.bytes_bd HV.out.wf hm)
      have hrt : ∀ k, k < L → _ := fun k hk => read_turned (t := a2) (k := k) HV.out.wf hm (by rw [hzs, hL]; exact hk) hb
      rw [hzs] at hrt
      have HRT := Lib.hid hrt
      have HLL := Lib.hid hL
      clear hzs hL hrt hm hs
      go_wp2_with fail
      refine C1.mono ?_
      rintro e w4 ⟨g, c, rfl, i1, i2, i3, i4, ho, hbt, hb4⟩
      have HB4 : Hid (Below w.heap.size w w4) := Lib.hid (HB3.out.trans (hb4.mono HB3.out.size))
      have HX4 := Lib.hid (HX3.out.call hb4)
      obtain ⟨u, hu⟩ : ∃ u : Nat, a1 = (u : Int) := ⟨a1.toNat, by omega⟩
      subst hu
      obtain ⟨r, hr⟩ : ∃ r, u % L = r := ⟨_, rfl⟩
      have hrL : r < L := by rw [← hr]; exact Nat.mod_lt _ (by omega)
      have hm1 : (u : Int) % (L : Int) = (r : Int) := by rw [← hr]; simp
      have hm2 : (u : Int).tmod (L : Int) = (r : Int) := by rw [Int.tmod_eq_emod_of_nonneg (by omega)]; exact hm1
      obtain ⟨t1, t2, t3⟩ := bts_turned ho HLL.out HZB.out hb hrL
      have HT3 := Lib.hid t3
      have HI := Lib.hid (And.intro i1 (And.intro i2 i3))
      have hbw : Below w3.heap.size w3 (w4.setCell ⟨g, r, none⟩ (.int .u8 (turned (zs.getD r 0) a2))) := hb4.setCell i3 _
      have HB5 : Hid (Below w.heap.size w (w4.setCell ⟨g, r, none⟩ (.int .u8 (turned (zs.getD r 0) a2)))) := Lib.hid (HB3.out.trans (hbw.mono HB3.out.size))
      have HX5 := Lib.hid (HX3.out.call hbw)
      clear ho hbt hb4 t3 hr y0 y1 y2 y3 C1 hbw
      have hLb : L ≤ 1200 := hl1.2
      have HTL : Hid ((turnRow zs r a2).length ≤ 1000000) := Lib.hid (by unfold turnRow; rw [List.length_set, HLL.out]; omega)
      unfold turned at HT3 HB5 HX5
      generalize zs.getD r 0 = z at *
      go_wp2_with fail
      generalize w4.setCell ⟨g, r, none⟩ (.int .u8 (bits .xor .u8 z a2)) = w5 at *
      clear t1 t2 i4
      cases hrd : Wi.read (turnRow zs r a2) with
      | none =>
        have t4 : (a2 == 0) = false := by
          rw [beq_eq_false_iff_ne]
          intro h0
          have := (HRT.out r hrL).1 h0
          rw [hrd] at this
          cases this
        refine (law_none _ _ _ _ _ HT3.out HI.out.1 HI.out.2.1 (by simp) (HT.out.below HB5.out) HTL.out hrd).mono ?_
        rintro e w6 ⟨x1, x2, x3, rfl, hv6, hb6⟩
        obtain ⟨B1, e1, B2, e2, B3, e3, rfl, rfl, rfl⟩ := hv6.forms
        have HB6 : Hid (Below w.heap.size w w6) := Lib.hid (HB5.out.trans (hb6.mono HB5.out.size))
        clear hv6 hb6 hrd
        go_wp2_with fail
        go_ret
        exact ⟨rfl, HB6.out.alloc HB6.out.size _⟩
      | some n =>
        have HNE : Hid (n = s0 ↔ a2 = 0) := Lib.hid ((HRT.out r hrL).2 n hrd)
        refine (law_read _ _ _ _ n _ HT3.out HI.out.1 HI.out.2.1 (by simp) (HT.out.below HB5.out) HTL.out hrd).mono ?_
        rintro e w6 ⟨x1, x2, x3, rfl, hv6, hb6⟩
        have HB6 : Hid (Below w.heap.size w w6) := Lib.hid (HB5.out.trans (hb6.mono HB5.out.size))
        have hX6 := HX5.out.call hb6
        have HV6 := Lib.hid hv6
        obtain ⟨B1, e1, B2, e2, B3, e3, rfl, rfl, rfl⟩ := hv6.forms
        have CE : Hid (∀ o, Calls Tryd.prog 19 #[.agg #[.int .i64 n.kind, .slice B1 n.nums.length e1, .slice B2 n.addrs.length e2, .slice B3 n.body.length e3], .agg #[.int .i64 kd, .slice A1 s0.nums.length c1, .slice A2 s0.addrs.length c2, .slice A3 s0.body.length c3]] (w6.alloc o) fun e w' => ∃ t, e = .returned (.bool t) ∧ (t = true ↔ n = s0) ∧ Below w6.heap.size w6 w') := Lib.hid (fun o => by
          have hb9 := (Below.refl w6.heap.size w6).alloc (Nat.le_refl _) o
          have := rsame_msg n s0 _ _ _ _ _ _ (w6.alloc o) (HV6.out.below hb9) (HV.out.below (HB6.out.alloc HB6.out.size o))
          rw [hkd] at this
          refine this.mono ?_
          rintro e w' ⟨t, rfl, h1, h2⟩
          exact ⟨t, rfl, h1, hb9.trans (h2.mono (by simp))⟩)
        obtain ⟨y0, y1, y2, y3⟩ := hX6
        have hlM := lt_of_cell y0
        dsimp only at hlM
        generalize n.kind = nk at *
        clear hv6 hb6 hrd
        go_wp2_with fail
        refine (CE.out _).mono ?_
        rintro e w7 ⟨t, rfl, ht, hb7⟩
        have t4 : t = (a2 == 0) := by rw [Bool.eq_iff_iff, ht, HNE.out]; simp
        subst t4
        have HB7 : Hid (Below w.heap.size w w7) := Lib.hid (HB6.out.trans (hb7.mono HB6.out.size))
        clear y0 y1 y2 y3 hlM hb7 ht
        go_wp2_with fail
        go_ret
        exact ⟨by simp, HB7.out⟩


/-! ### the row, under what it lists -/
set_option maxRecDepth 100000 in
theorem lifted (os : Os) (started : os.Started) (H : Type) (enc : TypeId × Value → H) :
    ReturnsInHanded {} Tryd.checked os 8 .any (fun w args => (Rows.wireTurnedSpec.pre enc Tryd.prog Tryd.f8 [] false w args ∧ laidMetH Tryd.prog Rows.wireTurnedRow.laid w) ∧ sizedMet enc Tryd.prog Tryd.f8 (OpenSpec.ofChange Rows.wireTurnedSpec) false w args)
      (Rows.wireTurnedSpec.post enc Tryd.prog Tryd.f8 false true false false) := by
  refine returnsInHanded_of_change_and (C := Tryd.checked) (X := fun w _ => laidMetH Tryd.prog Rows.wireTurnedRow.laid w) (fun _ _ _ hh h => h.of_heap hh) own started (by kernel_rfl) Tryd.func8
    (ChangeSpec.witness_shaped (enc := enc) (C := Tryd.checked) (os := os) (X := fun w _ => laidMetH Tryd.prog Rows.wireTurnedRow.laid w) false (World.laidAll Tryd.prog os Rows.wireTurnedRow.laid) #[.agg #[.int .i64 0, .slice none 0 0, .slice none 0 0, .slice none 0 0], .int .u16 0, .int .u8 0] 8 (World.laidAll_os _ _ _)
      (World.shaped_of_ZipB (by kernel_rfl) (by kernel_rfl)) (by kernel_rfl) (by kernel_rfl) (by kernel_rfl)
      (by rw [MakeChecks.laidMetH_plain _ _ _ (by kernel_rfl)]; exact laidMet_laidAll _ (by kernel_rfl) (by kernel_rfl))) ?_
  intro W base args ds gs before hval0 hW _ _ hL _
  have hval : ∀ (j : Nat) t v, Tryd.f8.params[j]? = some t → args[j]? = some v → Value.okWide Tryd.prog W .any base t v := hval0
  have hW' := hW
  obtain ⟨p, q, hA0, hV, rfl, hfz, hnd⟩ := hW
  have hA : DataW.TrodAll enc Tryd.prog W 0 (fun _ => true) true Tryd.f8.params.toList args.toList ds p := hA0
  rw [Tryd.params8] at hA hval
  obtain ⟨v0, vs0, d0, ds0, p0, q0, hargs, rfl, rfl, h0, r0⟩ := trodAll_cons hA
  obtain ⟨v1, vs1, d1, ds1, p1, q1, rfl, rfl, rfl, h1, r1⟩ := trodAll_cons r0
  obtain ⟨v2, vs2, d2, ds2, p2, q2, rfl, rfl, rfl, h2, r2⟩ := trodAll_cons r1
  obtain ⟨rfl, rfl, rfl⟩ := trodAll_nil r2
  obtain rfl : args = #[v0, v1, v2] := by cases args; simp_all
  obtain ⟨rfl, rfl⟩ := trodVars_none hV
  rw [MakeChecks.laidMetH_plain _ _ _ (by kernel_rfl)] at hL
  have k0 := h0
  have lt0 : ∀ x ∈ p0, x.block < W.heap.size := by obtain ⟨m, hm⟩ := k0; exact DataW.trod_lt m _ _ _ hm
  obtain ⟨s0, w0⟩ := open_msg (hval 0 26 v0 rfl rfl) h0
  obtain ⟨a1, rfl, rfl, rfl, w1⟩ := open_int Tryd.underlying37 (hval 1 37 v1 rfl rfl) h1
  obtain ⟨a2, rfl, rfl, rfl, w2⟩ := open_int Tryd.underlying5 (hval 2 5 v2 rfl rfl) h2
  clear hA0 hval0
  refine (walk v0 s0 a1 a2 W w0 w1 w2 hL).mono fun e W' ⟨he, bel⟩ => ?_
  subst he
  exact ⟨_, rfl, _, _, _, [], _, [], hW', trodAll_mk1 (shut_bool Tryd.underlying4 _), (trodAll_cons_mk (Below.trod laidOut (by kernel_rfl) (of_decide_eq_true (by kernel_rfl)) k0 bel lt0) (trodAll_cons_mk (shut_int Tryd.underlying37 w1) (trodAll_cons_mk (shut_int Tryd.underlying5 w2) trodAll_mk0))), rfl, bel.frame _, fun h => by cases h⟩

theorem over : Rows.WireTurnedSaid :=
  OpenClaim.holds_of_wide 8 Tryd.f8 rfl rfl rfl rfl rfl rfl rfl ⟨rfl, rfl, rfl, rfl, rfl⟩ rfl rfl rfl rfl rfl (by kernel_rfl) Tryd.func8 (by kernel_rfl)
    (of_decide_eq_true (by kernel_rfl)) (by unfold Func.isWrapper; first | (rw [if_pos (by decide +kernel)]; kernel_rfl) | (rw [if_neg (by decide +kernel)]; exact ⟨rfl, rfl⟩))
    (fun os started H enc _ => lifted os started H enc)

/-- ████ THE STATEMENT ████ -/
theorem proved : Rows.WireTurnedCardSaid :=
  Claim7.holds_tied_plain_at .later [] [.data] true (true, "de450b1929b5a7b2899e5ead515590ee173562021ec0d166f568880e6684e4d0") false
    over (fun _ h => by cases h) (by kernel_rfl) (fun _ h => by cases h) wireTurned_row_tie rfl ⟨rfl, rfl⟩ (by kernel_rfl) rfl
    (fun f fn hf hfn => by
      obtain rfl : f = 8 := Option.some.inj ((show Tryd.prog.funcNamed "embrasure/embrasurelaw05.WireTurned" = some 8 by kernel_rfl).symm.trans hf) |>.symm
      obtain rfl : fn = Tryd.f8 := (Option.some.inj (Tryd.func8.symm.trans hfn)).symm
      exact ⟨by kernel_rfl, fun j t ht => by
        rw [Tryd.params8] at ht
        have hm : t ∈ [26, 37, 5] := by simpa using Array.mem_of_getElem? ht
        have hall : ([26, 37, 5].all fun u => !Tryd.prog.wantsStandIn u) = true := by kernel_rfl
        exact (show Tryd.prog.wantsStandIn t = false by simpa using List.all_eq_true.1 hall t hm)⟩)
    (by kernel_rfl)
#print axioms proved
end Go.Proofs.YtebgfiibcmnfnaaDoor.wireTurned
