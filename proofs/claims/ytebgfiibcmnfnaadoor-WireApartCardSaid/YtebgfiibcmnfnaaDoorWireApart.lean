/-
  embrasure/wire's Bytes and FromBytes, as the statement WireApart asks: two messages have one row of bytes just if they are the same; cut off, or with a byte behind, it is none. Conditions: the tables are as the program's text lays them; messages' parts of up to as many as the statement goes through.
-/

import Derived.Deep.RegionHeld3
import Derived.Test.YtebgfiibcmnfnaaDoorLawApart
import Derived.Test.YtebgfiibcmnfnaaDoorLawSame
import Derived.Test.YtebgfiibcmnfnaaDoorRows
import Derived.Test.YtebgfiibcmnfnaaDoorCards
import Derived.Test.YtebgfiibcmnfnaaDoorTie
import Derived.WalkKit
import Derived.ProofKit
import Derived.OpenShut
import Derived.ShutString
import Derived.ChangeOld
import Derived.Below
import Derived.Lay
import Derived.LaidMore
import Derived.LaidOnce
import Derived.SevenTiedAt
namespace Go.Proofs.YtebgfiibcmnfnaaDoor.wireApart
open Go.ChangeShapes Go.WideShapes Go.ChangeAt Go.RowKit
open Go.ChangeMaps (open_string shut_string)
set_option linter.unusedVariables false

theorem own : ownKnob Tryd.prog.godebug = none := by kernel_rfl
theorem laidOut : laidOutB Tryd.prog = true := by kernel_rfl

set_option maxRecDepth 100000 in
set_option maxHeartbeats 4000000 in
theorem walk (v0 : Value) (s0 : Wi.Msg) (v1 : Value) (s1 : Wi.Msg) (a2 : Int) (w : World) (w0 : IsMsg w v0 s0) (w1 : IsMsg w v1 s1) (w2 : (Lit.int .u16 a2).wf = true) (hL : laidMet Tryd.prog Rows.wireApartRow.laid w) :
    Calls Tryd.prog 5 #[v0, v1, .int .u16 a2] w fun e w' => e = .returned (.bool true) ∧ Below w.heap.size w w' := by
  obtain ⟨x1, x2, x3, rfl, hv⟩ := w0
  obtain ⟨y1, y2, y3, rfl, hu⟩ := w1
  have ha := bounds_u16 w2
  have HT := Lib.hid (tb_laid hL)
  have HV := Lib.hid hv; have HU := Lib.hid hu
  have C0 := Lib.hid (MsgC.of hv HT.out)
  have C1 := Lib.hid (MsgC.of hu HT.out)
  have U0 := Lib.hid (U4.start w s0.kind s1.kind x1 x2 x3 y1 y2 y3)
  have CE : Hid (∀ W, Below w.heap.size w W → Calls Tryd.prog 19 #[.agg #[.int .i64 s0.kind, x1, x2, x3], .agg #[.int .i64 s1.kind, y1, y2, y3]] W fun e w' => ∃ t, e = .returned (.bool t) ∧ (t = true ↔ s0 = s1) ∧ Below W.heap.size W w') := Lib.hid (fun W hb => rsame_msg s0 s1 _ _ _ _ _ _ W (HV.out.below hb) (HU.out.below hb))
  obtain ⟨A1, c1, A2, c2, A3, c3, rfl, rfl, rfl⟩ := hv.forms
  obtain ⟨D1, e1, D2, e2, D3, e3, rfl, rfl, rfl⟩ := hu.forms
  have HWF0 := Lib.hid hv.wf; have HWF1 := Lib.hid hu.wf
  clear hv hu hL
  generalize s0.kind = k0 at *
  generalize s1.kind = k1 at *
  generalize hW0 : (w.alloc (.cells #[.int .i64 k0, .slice A1 s0.nums.length c1, .slice A2 s0.addrs.length c2, .slice A3 s0.body.length c3] 26)).alloc (.cells #[.int .i64 k1, .slice D1 s1.nums.length e1, .slice D2 s1.addrs.length e2, .slice D3 s1.body.length e3] 26) = W0 at *
  go_enter Tryd.func5, Tryd.ntmps5
  go_wp2_with fail
  refine (awake_any _ (HT.out.below U0.out.bel)).mono ?_
  rintro e w1 ⟨rfl, hb1⟩
  have U1 := Lib.hid (U0.out.call hb1)
  obtain ⟨⟨p0, p1, p2, p3⟩, ⟨q0, q1, q2, q3⟩, _⟩ := U1.out
  clear hb1 hW0
  go_wp2_with fail
  refine (C0.out.small _ U1.out.bel).mono ?_
  rintro e w2 ⟨rfl, hb2⟩
  have U2 := Lib.hid (U1.out.call hb2)
  clear hb2 p0 p1 p2 p3 q0 q1 q2 q3
  cases hs0 : small s0 with
  | false =>
    go_wp2
    go_ret
    exact ⟨rfl, U2.out.bel⟩
  | true =>
    clear hs0
    obtain ⟨⟨p0, p1, p2, p3⟩, ⟨q0, q1, q2, q3⟩, _⟩ := U2.out
    go_wp2_with fail
    refine (C1.out.small _ U2.out.bel).mono ?_
    rintro e w3 ⟨rfl, hb3⟩
    have U3 := Lib.hid (U2.out.call hb3)
    clear hb3 p0 p1 p2 p3 q0 q1 q2 q3
    cases hs1 : small s1 with
    | false =>
      go_wp2
      go_ret
      exact ⟨rfl, U3.out.bel⟩
    | true =>
      clear hs1
      obtain ⟨⟨p0, p1, p2, p3⟩, ⟨q0, q1, q2, q3⟩, _⟩ := U3.out
      go_wp2_with fail
      refine (C0.out.rmay _ U3.out.bel).mono ?_
      rintro e w4 ⟨rfl, hb4⟩
      have U4' := Lib.hid (U3.out.call hb4)
      clear hb4 p0 p1 p2 p3 q0 q1 q2 q3
      cases hm0 : Wi.may s0 with
      | false =>
        go_wp2
        go_ret
        exact ⟨rfl, U4'.out.bel⟩
      | true =>
        have HM0 := Lib.hid hm0
        clear hm0
        obtain ⟨⟨p0, p1, p2, p3⟩, ⟨q0, q1, q2, q3⟩, _⟩ := U4'.out
        go_wp2_with fail
        refine (C1.out.rmay _ U4'.out.bel).mono ?_
        rintro e w5 ⟨rfl, hb5⟩
        have U5' := Lib.hid (U4'.out.call hb5)
        clear hb5 p0 p1 p2 p3 q0 q1 q2 q3
        cases hm1 : Wi.may s1 with
        | false =>
          go_wp2
          go_ret
          exact ⟨rfl, U5'.out.bel⟩
        | true =>
          have HM1 := Lib.hid hm1
          clear hm1
          have CB0 := Lib.hid (C0.out.bytes HM0.out)
          have CB1 := Lib.hid (C1.out.bytes HM1.out)
          have hl0 := Wi.bytes_len HM0.out
          have hl1 := Wi.bytes_len HM1.out
          have HBD := Lib.hid (Wi.bytes_bd HWF0.out HM0.out)
          have HIJ : Hid (Wi.bytes s0 = Wi.bytes s1 ↔ s0 = s1) := Lib.hid ⟨fun h => Wi.bytes_inj HWF0.out HWF1.out HM0.out HM1.out h, fun h => by rw [h]⟩
          have HCUT : Hid (∀ k, k < (Wi.bytes s0).length → Wi.read ((Wi.bytes s0).take k) = none) := Lib.hid (fun k hk => Wi.read_cut k HWF0.out HM0.out HBD.out hk)
          have HLNG : Hid (∀ z : Int, Wi.read (Wi.bytes s0 ++ [z]) = none) := Lib.hid (fun z => Wi.read_long [z] HWF0.out HM0.out (by simp))
          generalize Wi.bytes s0 = xs at *
          generalize Wi.bytes s1 = ys at *
          have CSM : Hid (∀ W A A' c c', Bts W A xs.length xs → Bts W A' ys.length ys → Calls Tryd.prog 14 #[.slice A xs.length c, .slice A' ys.length c'] W fun e w' => e = .returned (.bool (decide (xs = ys))) ∧ Below W.heap.size W w') := Lib.hid (fun W A A' c c' h1 h2 => (same_any A A' _ _ c c' xs ys W (by unfold maxLen; omega) h1 h2).mono (by rintro e w' ⟨rfl, hq⟩; exact ⟨rfl, drewN_below hq⟩))
          have CEM : Hid (∀ W, Below w.heap.size w W → Calls Tryd.prog 19 #[.agg #[.int .i64 k0, .slice A1 s0.nums.length c1, .slice A2 s0.addrs.length c2, .slice A3 s0.body.length c3], .agg #[.int .i64 k1, .slice D1 s1.nums.length e1, .slice D2 s1.addrs.length e2, .slice D3 s1.body.length e3]] W fun e w' => e = .returned (.bool (decide (xs = ys))) ∧ Below W.heap.size W w') := Lib.hid (fun W hb => (CE.out W hb).mono (by
            rintro e w' ⟨t, rfl, ht, hb'⟩
            refine ⟨?_, hb'⟩
            rw [show t = decide (xs = ys) by rw [Bool.eq_iff_iff, ht]; simp [HIJ.out]]))
          obtain ⟨n, hn⟩ : ∃ n, xs.length = n := ⟨_, rfl⟩
          obtain ⟨l, hl⟩ : ∃ l, ys.length = l := ⟨_, rfl⟩
          rw [hn] at CB0 CSM hl0 HCUT
          rw [hl] at CB1 CSM hl1
          have HXN := Lib.hid hn
          generalize decide (xs = ys) = eb at *
          clear hn hl
          obtain ⟨⟨p0, p1, p2, p3⟩, ⟨q0, q1, q2, q3⟩, _⟩ := U5'.out
          go_wp2_with fail
          refine (CB0.out _ U5'.out.bel).mono ?_
          rintro e w6 ⟨g, c, rfl, i1, i2, hbt, hb6⟩
          have U6 : Hid (U5 w w6.drew k0 (.slice A1 s0.nums.length c1) (.slice A2 s0.addrs.length c2) (.slice A3 s0.body.length c3) k1 (.slice D1 s1.nums.length e1) (.slice D2 s1.addrs.length e2) (.slice D3 s1.body.length e3) (some ⟨g, 0, none⟩) n xs) := Lib.hid (U5.call ⟨U5'.out.call hb6, hbt⟩ ((Below.refl _ _).drew))
          have H9 := U6.out.nine
          clear hb6 hbt p0 p1 p2 p3 q0 q1 q2 q3
          go_wp2_with fail
          go_region_held3 (fun W => W.cell? ⟨w.heap.size, 0, none⟩ = some (.int .i64 k0) ∧ W.cell? ⟨w.heap.size, 1, none⟩ = some (.slice A1 s0.nums.length c1) ∧ W.cell? ⟨w.heap.size, 2, none⟩ = some (.slice A2 s0.addrs.length c2) ∧ W.cell? ⟨w.heap.size, 3, none⟩ = some (.slice A3 s0.body.length c3) ∧ W.cell? ⟨w.heap.size + 1, 0, none⟩ = some (.int .i64 k1) ∧ W.cell? ⟨w.heap.size + 1, 1, none⟩ = some (.slice D1 s1.nums.length e1) ∧ W.cell? ⟨w.heap.size + 1, 2, none⟩ = some (.slice D2 s1.addrs.length e2) ∧ W.cell? ⟨w.heap.size + 1, 3, none⟩ = some (.slice D3 s1.body.length e3) ∧ U5 w W k0 (.slice A1 s0.nums.length c1) (.slice A2 s0.addrs.length c2) (.slice A3 s0.body.length c3) k1 (.slice D1 s1.nums.length e1) (.slice D2 s1.addrs.length e2) (.slice D3 s1.body.length e3) (some ⟨g, 0, none⟩) n xs) (first | exact H9 | exact (U5.call (by assumption : _ ∧ _ ∧ _ ∧ _ ∧ _ ∧ _ ∧ _ ∧ _ ∧ U5 w _ k0 (.slice A1 s0.nums.length c1) (.slice A2 s0.addrs.length c2) (.slice A3 s0.body.length c3) k1 (.slice D1 s1.nums.length e1) (.slice D2 s1.addrs.length e2) (.slice D3 s1.body.length e3) (some ⟨g, 0, none⟩) n xs).2.2.2.2.2.2.2.2 hb7).nine | exact (U5.call (by assumption : _ ∧ _ ∧ _ ∧ _ ∧ _ ∧ _ ∧ _ ∧ _ ∧ U5 w _ k0 (.slice A1 s0.nums.length c1) (.slice A2 s0.addrs.length c2) (.slice A3 s0.body.length c3) k1 (.slice D1 s1.nums.length e1) (.slice D2 s1.addrs.length e2) (.slice D3 s1.body.length e3) (some ⟨g, 0, none⟩) n xs).2.2.2.2.2.2.2.2 hb8).nine | exact (U5.call (by assumption : _ ∧ _ ∧ _ ∧ _ ∧ _ ∧ _ ∧ _ ∧ _ ∧ U5 w _ k0 (.slice A1 s0.nums.length c1) (.slice A2 s0.addrs.length c2) (.slice A3 s0.body.length c3) k1 (.slice D1 s1.nums.length e1) (.slice D2 s1.addrs.length e2) (.slice D3 s1.body.length e3) (some ⟨g, 0, none⟩) n xs).2.2.2.2.2.2.2.2 hb9).nine) (first | (go_at_call 11; refine (CB1.out _ (by assumption : _ ∧ _ ∧ _ ∧ _ ∧ _ ∧ _ ∧ _ ∧ _ ∧ U5 w _ k0 (.slice A1 s0.nums.length c1) (.slice A2 s0.addrs.length c2) (.slice A3 s0.body.length c3) k1 (.slice D1 s1.nums.length e1) (.slice D2 s1.addrs.length e2) (.slice D3 s1.body.length e3) (some ⟨g, 0, none⟩) n xs).2.2.2.2.2.2.2.2.u.bel).mono ?_; rintro e w7 ⟨g7, c7, rfl, j1, j2, hx7, hb7⟩) | (go_at_call 14; refine (CSM.out _ _ _ _ _ (by assumption : _ ∧ _ ∧ _ ∧ _ ∧ _ ∧ _ ∧ _ ∧ _ ∧ U5 w _ k0 (.slice A1 s0.nums.length c1) (.slice A2 s0.addrs.length c2) (.slice A3 s0.body.length c3) k1 (.slice D1 s1.nums.length e1) (.slice D2 s1.addrs.length e2) (.slice D3 s1.body.length e3) (some ⟨g, 0, none⟩) n xs).2.2.2.2.2.2.2.2.row hx7).mono ?_; rintro e w8 ⟨rfl, hb8⟩) | (go_at_call 19; refine (CEM.out _ (by assumption : _ ∧ _ ∧ _ ∧ _ ∧ _ ∧ _ ∧ _ ∧ _ ∧ U5 w _ k0 (.slice A1 s0.nums.length c1) (.slice A2 s0.addrs.length c2) (.slice A3 s0.body.length c3) k1 (.slice D1 s1.nums.length e1) (.slice D2 s1.addrs.length e2) (.slice D3 s1.body.length e3) (some ⟨g, 0, none⟩) n xs).2.2.2.2.2.2.2.2.u.bel).mono ?_; rintro e w9 ⟨rfl, hb9⟩))
          rename_i hX
          have U9 := Lib.hid hX.2.2.2.2.2.2.2.2
          clear hX H9
          obtain ⟨u, hu⟩ : ∃ u : Nat, a2 = (u : Int) := ⟨a2.toNat, by omega⟩
          subst hu
          obtain ⟨r, hr⟩ : ∃ r, u % n = r := ⟨_, rfl⟩
          have hrL : r < n := by rw [← hr]; exact Nat.mod_lt _ (by omega)
          have hm1 : (u : Int) % (n : Int) = (r : Int) := by rw [← hr]; simp
          have hm2 : (u : Int).tmod (n : Int) = (r : Int) := by rw [Int.tmod_eq_emod_of_nonneg (by omega)]; exact hm1
          have HRC : Hid (Wi.read (xs.take r) = none) := Lib.hid (HCUT.out r hrL)
          have HI := Lib.hid i2
          have hc2 : c ≤ 140737488355328 + 140737488355328 * 65536 := by unfold maxLen at i2; omega
          clear hr
          go_wp2_with fail
          refine (law_none _ r c (xs.take r) _ (U9.out.row.cut (by omega)) (by omega) HI.out (by simp) (HT.out.below U9.out.u.bel) (by have := HXN.out; simp; omega) HRC.out).mono ?_
          rintro e w10 ⟨z1, z2, z3, rfl, hv10, hb10⟩
          obtain ⟨B1, b1, B2, b2, B3, b3, rfl, rfl, rfl⟩ := hv10.forms
          have U10 := Lib.hid (U9.out.call hb10)
          clear hv10 hb10
          have U11 : Hid (∀ o, U5 w (w10.alloc o) k0 (.slice A1 s0.nums.length c1) (.slice A2 s0.addrs.length c2) (.slice A3 s0.body.length c3) k1 (.slice D1 s1.nums.length e1) (.slice D2 s1.addrs.length e2) (.slice D3 s1.body.length e3) (some ⟨g, 0, none⟩) n xs) := Lib.hid (fun o => U10.out.call ((Below.refl _ _).alloc (Nat.le_refl _) o))
          have HLO : Hid (∀ o, ((w10.alloc o).alloc (.cells #[] 5)).ownsRow (w10.heap.size + 1) 5 1 (.slice (some ⟨w10.heap.size + 1, 0, none⟩) 0 0) 0 (B [])) := Lib.hid (fun o => by have := lit_own (w10.alloc o); rw [World.size_alloc] at this; exact this)
          have HUB : Hid (0 ≤ (u : Int) % 256 ∧ (u : Int) % 256 ≤ 255) := Lib.hid (by omega)
          have HL0 := Lib.hid hl0
          go_wp2_with (first
            | (at_builtin; refine wpList_append_bts rfl (.tmp 59) (.tmp 60) rfl (w10.heap.size + 1) _ 0 [] rfl (HLO.out _) (some ⟨g, 0, none⟩) n c xs rfl ((U11.out _).row.below ((Below.refl _ _).alloc (Nat.le_refl _) _)) (by intro hh; cases hh) (by have := HL0.out; omega) (by simp) ?_; intro v5 w5 ho5 hg5; rw [List.nil_append, Nat.zero_add] at ho5)
            | (at_builtin; refine wpList_append_bts rfl (.tmp 61) (.tmp 64) rfl (w10.heap.size + 1) _ n xs rfl (ho5.alloc _) (some ⟨w5.heap.size, 0, none⟩) 1 1 [(u : Int) % 256] rfl (lit1 _ _ HUB.out) (by intro hh; cases hh) (by have := HL0.out; omega) (by have := hg5.size; simp at this; simp; omega) ?_; intro v6 w6' ho6 hg6))
          have hwl := U10.out.u.bel.size
          have b5 := own_grown_below (W := w) (HLO.out _) ((U11.out _).u.bel.alloc (U11.out _).u.bel.size _) (by omega) hg5
          have b6 := own_grown_below (W := w) (ho5.alloc _) (b5.alloc b5.size _) (by omega) hg6
          have HB6 := Lib.hid b6
          obtain ⟨g6, c6, rfl, j3, j4, j5⟩ := own_some ho6 (by omega)
          obtain ⟨A6, c6', e6, _, _, hbt6⟩ := own_form ho6 (by
            intro z hz
            rcases List.mem_append.1 hz with hz | hz
            · exact HBD.out z hz
            · simp at hz; subst hz; exact HUB.out)
          cases e6
          refine (law_none _ _ _ _ _ hbt6 j4 j5 (by simp) (HT.out.below HB6.out) (by have := HXN.out; have := HL0.out; simp; omega) (HLNG.out _)).mono ?_
          rintro e w12 ⟨z1, z2, z3, rfl, hv12, hb12⟩
          obtain ⟨F1, f1, F2, f2, F3, f3, rfl, rfl, rfl⟩ := hv12.forms
          have HB12 : Hid (Below w.heap.size w w12) := Lib.hid (HB6.out.trans (hb12.mono HB6.out.size))
          clear hv12 hb12 b5 b6 ho5 ho6 hg5 hg6 hbt6
          go_wp2_with fail
          go_ret
          exact ⟨rfl, HB12.out.alloc HB12.out.size _⟩


/-! ### the row, under what it lists -/
set_option maxRecDepth 100000 in
theorem lifted (os : Os) (started : os.Started) (H : Type) (enc : TypeId × Value → H) :
    ReturnsInHanded {} Tryd.checked os 5 .any (fun w args => (Rows.wireApartSpec.pre enc Tryd.prog Tryd.f5 [] false w args ∧ laidMetH Tryd.prog Rows.wireApartRow.laid w) ∧ sizedMet enc Tryd.prog Tryd.f5 (OpenSpec.ofChange Rows.wireApartSpec) false w args)
      (Rows.wireApartSpec.post enc Tryd.prog Tryd.f5 false true false false) := by
  refine returnsInHanded_of_change_and (C := Tryd.checked) (X := fun w _ => laidMetH Tryd.prog Rows.wireApartRow.laid w) (fun _ _ _ hh h => h.of_heap hh) own started (by kernel_rfl) Tryd.func5
    (ChangeSpec.witness_shaped (enc := enc) (C := Tryd.checked) (os := os) (X := fun w _ => laidMetH Tryd.prog Rows.wireApartRow.laid w) false (World.laidAll Tryd.prog os Rows.wireApartRow.laid) #[.agg #[.int .i64 0, .slice none 0 0, .slice none 0 0, .slice none 0 0], .agg #[.int .i64 0, .slice none 0 0, .slice none 0 0, .slice none 0 0], .int .u16 0] 8 (World.laidAll_os _ _ _)
      (World.shaped_of_ZipB (by kernel_rfl) (by kernel_rfl)) (by kernel_rfl) (by kernel_rfl) (by kernel_rfl)
      (by rw [MakeChecks.laidMetH_plain _ _ _ (by kernel_rfl)]; exact laidMet_laidAll _ (by kernel_rfl) (by kernel_rfl))) ?_
  intro W base args ds gs before hval0 hW _ _ hL _
  have hval : ∀ (j : Nat) t v, Tryd.f5.params[j]? = some t → args[j]? = some v → Value.okWide Tryd.prog W .any base t v := hval0
  have hW' := hW
  obtain ⟨p, q, hA0, hV, rfl, hfz, hnd⟩ := hW
  have hA : DataW.TrodAll enc Tryd.prog W 0 (fun _ => true) true Tryd.f5.params.toList args.toList ds p := hA0
  rw [Tryd.params5] at hA hval
  obtain ⟨v0, vs0, d0, ds0, p0, q0, hargs, rfl, rfl, h0, r0⟩ := trodAll_cons hA
  obtain ⟨v1, vs1, d1, ds1, p1, q1, rfl, rfl, rfl, h1, r1⟩ := trodAll_cons r0
  obtain ⟨v2, vs2, d2, ds2, p2, q2, rfl, rfl, rfl, h2, r2⟩ := trodAll_cons r1
  obtain ⟨rfl, rfl, rfl⟩ := trodAll_nil r2
  obtain rfl : args = #[v0, v1, v2] := by cases args; simp_all
  obtain ⟨rfl, rfl⟩ := trodVars_none hV
  rw [MakeChecks.laidMetH_plain _ _ _ (by kernel_rfl)] at hL
  have k0 := h0
  have lt0 : ∀ x ∈ p0, x.block < W.heap.size := by obtain ⟨m, hm⟩ := k0; exact DataW.trod_lt m _ _ _ hm
  obtain ⟨s0, w0⟩ := open_msg (hval 0 26 v0 rfl rfl) h0
  have k1 := h1
  have lt1 : ∀ x ∈ p1, x.block < W.heap.size := by obtain ⟨m, hm⟩ := k1; exact DataW.trod_lt m _ _ _ hm
  obtain ⟨s1, w1⟩ := open_msg (hval 1 26 v1 rfl rfl) h1
  obtain ⟨a2, rfl, rfl, rfl, w2⟩ := open_int Tryd.underlying37 (hval 2 37 v2 rfl rfl) h2
  clear hA0 hval0
  refine (walk v0 s0 v1 s1 a2 W w0 w1 w2 hL).mono fun e W' ⟨he, bel⟩ => ?_
  subst he
  exact ⟨_, rfl, _, _, _, [], _, [], hW', trodAll_mk1 (shut_bool Tryd.underlying4 _), (trodAll_cons_mk (Below.trod laidOut (by kernel_rfl) (of_decide_eq_true (by kernel_rfl)) k0 bel lt0) (trodAll_cons_mk (Below.trod laidOut (by kernel_rfl) (of_decide_eq_true (by kernel_rfl)) k1 bel lt1) (trodAll_cons_mk (shut_int Tryd.underlying37 w2) trodAll_mk0))), rfl, bel.frame _, fun h => by cases h⟩

theorem over : Rows.WireApartSaid :=
  OpenClaim.holds_of_wide 5 Tryd.f5 rfl rfl rfl rfl rfl rfl rfl ⟨rfl, rfl, rfl, rfl, rfl⟩ rfl rfl rfl rfl rfl (by kernel_rfl) Tryd.func5 (by kernel_rfl)
    (of_decide_eq_true (by kernel_rfl)) (by unfold Func.isWrapper; first | (rw [if_pos (by decide +kernel)]; kernel_rfl) | (rw [if_neg (by decide +kernel)]; exact ⟨rfl, rfl⟩))
    (fun os started H enc _ => lifted os started H enc)

/-- ████ THE STATEMENT ████ -/
theorem proved : Rows.WireApartCardSaid :=
  Claim7.holds_tied_plain_at .later [] [.data] true (true, "de450b1929b5a7b2899e5ead515590ee173562021ec0d166f568880e6684e4d0") false
    over (fun _ h => by cases h) (by kernel_rfl) (fun _ h => by cases h) wireApart_row_tie rfl ⟨rfl, rfl⟩ (by kernel_rfl) rfl
    (fun f fn hf hfn => by
      obtain rfl : f = 5 := Option.some.inj ((show Tryd.prog.funcNamed "embrasure/embrasurelaw05.WireApart" = some 5 by kernel_rfl).symm.trans hf) |>.symm
      obtain rfl : fn = Tryd.f5 := (Option.some.inj (Tryd.func5.symm.trans hfn)).symm
      exact ⟨by kernel_rfl, fun j t ht => by
        rw [Tryd.params5] at ht
        have hm : t ∈ [26, 26, 37] := by simpa using Array.mem_of_getElem? ht
        have hall : ([26, 26, 37].all fun u => !Tryd.prog.wantsStandIn u) = true := by kernel_rfl
        exact (show Tryd.prog.wantsStandIn t = false by simpa using List.all_eq_true.1 hall t hm)⟩)
    (by kernel_rfl)
#print axioms proved
end Go.Proofs.YtebgfiibcmnfnaaDoor.wireApart
