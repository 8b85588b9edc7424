/-
  embrasure/wire's FromBytes, as the statement WireReads asks: every row of bytes is the message that the document says, or refused; what is read has just those bytes. Conditions: the tables are as the program's text lays them; as many bytes as the statement goes through.
-/

import Derived.Test.YtebgfiibcmnfnaaDoorLawReads
import Derived.Test.YtebgfiibcmnfnaaDoorRows
import Derived.Test.YtebgfiibcmnfnaaDoorCards
import Derived.Test.YtebgfiibcmnfnaaDoorTie
import Derived.WalkKit
import Derived.ProofKit
import Derived.OpenShut
import Derived.ShutString
import Derived.ChangeOld
import Derived.Below
import Derived.Lay
import Derived.LaidMore
import Derived.LaidOnce
import Derived.SevenTiedAt
namespace Go.Proofs.YtebgfiibcmnfnaaDoor.wireReads
open Go.ChangeShapes Go.WideShapes Go.ChangeAt Go.RowKit
open Go.ChangeMaps (open_string shut_string)
set_option linter.unusedVariables false

theorem own : ownKnob Tryd.prog.godebug = none := by kernel_rfl
theorem laidOut : laidOutB Tryd.prog = true := by kernel_rfl

set_option maxRecDepth 100000 in
set_option maxHeartbeats 4000000 in
theorem walk (v0 : Value) (s0 : List Int) (w : World) (w0 : IsTxt w v0 s0) (hL : laidMet Tryd.prog Rows.wireReadsRow.laid w) :
    Calls Tryd.prog 4 #[v0] w fun e w' => e = .returned (.bool true) ∧ Below w.heap.size w w' := by
  obtain ⟨A, n, c, rfl, hb, h1, h2, h3⟩ := w0
  have HT := Lib.hid (tb_laid hL)
  have HB := Lib.hid hb
  have HN := Lib.hid h3
  have hl := hb.len
  have HM := Lib.hid h2
  have hmx : c ≤ 140737488355328 + 140737488355328 * 65536 := by unfold maxLen at h2; omega
  clear hb h3 h2 hL
  go_enter Tryd.func4, Tryd.ntmps4
  go_wp2_with fail
  refine (awake_any _ HT.out).mono ?_
  rintro e w1 ⟨rfl, hb1⟩
  have HB1 := Lib.hid hb1
  clear hb1
  by_cases hn : 3000 < n
  · have t1 : decide ((3000 : Int) < (n : Int)) = true := by simp; omega
    go_wp2_with fail
    go_ret
    exact ⟨rfl, HB1.out⟩
  · have t1 : decide ((3000 : Int) < (n : Int)) = false := by simp; omega
    go_wp2_with (at_builtin; refine wpList_append_bts rfl (.tmp 13) (.tmp 14) rfl w1.heap.size _ 0 [] rfl (lit_own w1) A n c s0 rfl ((HB.out.below HB1.out).below ((Below.refl _ _).alloc (Nat.le_refl _) _)) HN.out (by omega) (by simp) ?_; intro v5 w5 ho5 hg5; rw [List.nil_append, Nat.zero_add] at ho5)
    have hbe := own_grown_below (lit_own w1) ((Below.refl w1.heap.size w1).alloc (Nat.le_refl _) _) (Nat.le_refl _) hg5
    have HB5 : Hid (Below w.heap.size w w5) := Lib.hid (HB1.out.trans (hbe.mono HB1.out.size))
    obtain ⟨A5, c5, rfl, i1, i2, hbt5⟩ := own_form ho5 HB.out.bd
    have HN5 := Lib.hid (own_nil ho5)
    have HT5 := Lib.hid hbt5
    have HI := Lib.hid (And.intro i1 i2)
    clear hbe hg5 ho5 hbt5 i1 i2
    cases hrd : Wi.read s0 with
    | none =>
      refine (from_any _ _ _ _ _ HT5.out HI.out.1 HI.out.2 HN5.out (HT.out.below HB5.out) (by omega)).mono ?_
      intro e w6 ha
      obtain ⟨x1, x2, x3, rfl, hv6, hb6⟩ := ans_none ha hrd
      have HV6 := Lib.hid hv6
      obtain ⟨X1, k1, X2, k2, X3, k3, rfl, rfl, rfl⟩ := hv6.forms
      have HB6 : Hid (Below w.heap.size w w6) := Lib.hid (HB5.out.trans (hb6.mono HB5.out.size))
      have HT6 := Lib.hid (HT5.out.below hb6)
      clear ha hv6 hb6
      go_wp2_with fail
      refine (rread_any _ _ _ _ _ (HB.out.below (HB6.out.alloc HB6.out.size _)) h1 HM.out (by omega)).mono ?_
      intro e w7 ha
      obtain ⟨y1, y2, y3, rfl, hv7, hb7⟩ := ans_none ha hrd
      have HV7 := Lib.hid hv7
      obtain ⟨Y1, l1, Y2, l2, Y3, l3, rfl, rfl, rfl⟩ := hv7.forms
      have HB7 : Hid (Below w.heap.size w w7) := Lib.hid ((HB6.out.alloc HB6.out.size _).trans (hb7.mono (by have := HB6.out.size; simp; omega)))
      have HT7 := Lib.hid ((HT6.out.below ((Below.refl w6.heap.size w6).alloc (Nat.le_refl _) _)).below hb7)
      have HW6 := Lib.hid ((HV6.out.below ((Below.refl w6.heap.size w6).alloc (Nat.le_refl _) _)).below hb7)
      have hX7 := (Mx.new w6 noMsg.kind (.slice X1 noMsg.nums.length k1) (.slice X2 noMsg.addrs.length k2) (.slice X3 noMsg.body.length k3)).call hb7
      have CE : Hid (∀ o, Calls Tryd.prog 19 #[.agg #[.int .i64 noMsg.kind, .slice X1 noMsg.nums.length k1, .slice X2 noMsg.addrs.length k2, .slice X3 noMsg.body.length k3], .agg #[.int .i64 noMsg.kind, .slice Y1 noMsg.nums.length l1, .slice Y2 noMsg.addrs.length l2, .slice Y3 noMsg.body.length l3]] (w7.alloc o) fun e w' => e = .returned (.bool true) ∧ Below w7.heap.size w7 w') := Lib.hid (fun o => by
        have hb9 := (Below.refl w7.heap.size w7).alloc (Nat.le_refl _) o
        have := rsame_msg noMsg noMsg _ _ _ _ _ _ (w7.alloc o) (HW6.out.below hb9) (HV7.out.below hb9)
        refine this.mono ?_
        rintro e w' ⟨t, rfl, h1, h2⟩
        rw [h1.2 rfl]
        exact ⟨rfl, hb9.trans (h2.mono (by simp))⟩)
      have HX7 := Lib.hid hX7
      obtain ⟨y0, y1, y2, y3⟩ := hX7
      have hlM := lt_of_cell y0
      dsimp only at hlM
      clear ha hv7 hb7
      go_wp2_with fail
      refine (CE.out _).mono ?_
      rintro e w8 ⟨rfl, hb8⟩
      have HB8 : Hid (Below w.heap.size w w8) := Lib.hid (HB7.out.trans (hb8.mono HB7.out.size))
      have HT8 := Lib.hid (HT7.out.below hb8)
      have HX8 := Lib.hid (HX7.out.call hb8)
      have HW8 := Lib.hid (HW6.out.below hb8)
      clear hb8 y0 y1 y2 y3 hlM
      go_wp2_with fail
      refine (same_self _ _ _ _ _ _ _ (by unfold maxLen; omega) HT8.out (HB.out.below HB8.out)).mono ?_
      rintro e w9 ⟨rfl, hq⟩
      have hd := drewN_below hq
      have HB9 : Hid (Below w.heap.size w w9) := Lib.hid (HB8.out.trans (hd.mono HB8.out.size))
      have HW9 := Lib.hid (HW8.out.below hd)
      have HX9 := Lib.hid (HX8.out.call hd)
      clear hd hq
      go_wp2_with fail
      go_ret
      exact ⟨rfl, HB9.out⟩
    | some m =>
      refine (from_any _ _ _ _ _ HT5.out HI.out.1 HI.out.2 HN5.out (HT.out.below HB5.out) (by omega)).mono ?_
      intro e w6 ha
      obtain ⟨x1, x2, x3, rfl, hv6, hb6⟩ := ans_some ha hrd
      have HV6 := Lib.hid hv6
      obtain ⟨X1, k1, X2, k2, X3, k3, rfl, rfl, rfl⟩ := hv6.forms
      have HB6 : Hid (Below w.heap.size w w6) := Lib.hid (HB5.out.trans (hb6.mono HB5.out.size))
      have HT6 := Lib.hid (HT5.out.below hb6)
      clear ha hv6 hb6
      go_wp2_with fail
      refine (rread_any _ _ _ _ _ (HB.out.below (HB6.out.alloc HB6.out.size _)) h1 HM.out (by omega)).mono ?_
      intro e w7 ha
      obtain ⟨y1, y2, y3, rfl, hv7, hb7⟩ := ans_some ha hrd
      have HV7 := Lib.hid hv7
      obtain ⟨Y1, l1, Y2, l2, Y3, l3, rfl, rfl, rfl⟩ := hv7.forms
      have HB7 : Hid (Below w.heap.size w w7) := Lib.hid ((HB6.out.alloc HB6.out.size _).trans (hb7.mono (by have := HB6.out.size; simp; omega)))
      have HT7 := Lib.hid ((HT6.out.below ((Below.refl w6.heap.size w6).alloc (Nat.le_refl _) _)).below hb7)
      have HW6 := Lib.hid ((HV6.out.below ((Below.refl w6.heap.size w6).alloc (Nat.le_refl _) _)).below hb7)
      have hX7 := (Mx.new w6 m.kind (.slice X1 m.nums.length k1) (.slice X2 m.addrs.length k2) (.slice X3 m.body.length k3)).call hb7
      have CE : Hid (∀ o, Calls Tryd.prog 19 #[.agg #[.int .i64 m.kind, .slice X1 m.nums.length k1, .slice X2 m.addrs.length k2, .slice X3 m.body.length k3], .agg #[.int .i64 m.kind, .slice Y1 m.nums.length l1, .slice Y2 m.addrs.length l2, .slice Y3 m.body.length l3]] (w7.alloc o) fun e w' => e = .returned (.bool true) ∧ Below w7.heap.size w7 w') := Lib.hid (fun o => by
        have hb9 := (Below.refl w7.heap.size w7).alloc (Nat.le_refl _) o
        have := rsame_msg m m _ _ _ _ _ _ (w7.alloc o) (HW6.out.below hb9) (HV7.out.below hb9)
        refine this.mono ?_
        rintro e w' ⟨t, rfl, h1, h2⟩
        rw [h1.2 rfl]
        exact ⟨rfl, hb9.trans (h2.mono (by simp))⟩)
      have HX7 := Lib.hid hX7
      obtain ⟨y0, y1, y2, y3⟩ := hX7
      have hlM := lt_of_cell y0
      dsimp only at hlM
      clear ha hv7 hb7
      go_wp2_with fail
      refine (CE.out _).mono ?_
      rintro e w8 ⟨rfl, hb8⟩
      have HB8 : Hid (Below w.heap.size w w8) := Lib.hid (HB7.out.trans (hb8.mono HB7.out.size))
      have HT8 := Lib.hid (HT7.out.below hb8)
      have HX8 := Lib.hid (HX7.out.call hb8)
      have HW8 := Lib.hid (HW6.out.below hb8)
      clear hb8 y0 y1 y2 y3 hlM
      go_wp2_with fail
      refine (same_self _ _ _ _ _ _ _ (by unfold maxLen; omega) HT8.out (HB.out.below HB8.out)).mono ?_
      rintro e w9 ⟨rfl, hq⟩
      have hd := drewN_below hq
      have HB9 : Hid (Below w.heap.size w w9) := Lib.hid (HB8.out.trans (hd.mono HB8.out.size))
      have HW9 := Lib.hid (HW8.out.below hd)
      have HX9 := Lib.hid (HX8.out.call hd)
      clear hd hq
      obtain ⟨z0, z1, z2, z3⟩ := HX9.out
      obtain ⟨hm1, hm2, hm3⟩ := Wi.read_ok HB.out.bd hrd
      have CB := Lib.hid (law_bytes m _ _ _ w9 HW9.out (HT.out.below HB9.out) hm1)
      rw [hm2, hl] at CB
      clear hm1 hm2 hm3
      go_wp2_with fail
      refine CB.out.mono ?_
      rintro e w10 ⟨g, cg, rfl, i1, i2, _, _, _, hbt10, hb10⟩
      have HB10 : Hid (Below w.heap.size w w10) := Lib.hid (HB9.out.trans (hb10.mono HB9.out.size))
      clear hb10 z0 z1 z2 z3
      go_wp2_with fail
      refine (same_self _ _ _ _ _ _ _ (by unfold maxLen; omega) hbt10 (HB.out.below HB10.out)).mono ?_
      rintro e w11 ⟨rfl, hq⟩
      have HB11 : Hid (Below w.heap.size w w11) := Lib.hid (HB10.out.trans ((drewN_below hq).mono HB10.out.size))
      clear hq hbt10
      go_wp2_with fail
      go_ret
      exact ⟨rfl, HB11.out⟩


/-! ### the row, under what it lists -/
set_option maxRecDepth 100000 in
theorem lifted (os : Os) (started : os.Started) (H : Type) (enc : TypeId × Value → H) :
    ReturnsInHanded {} Tryd.checked os 4 .any (fun w args => (Rows.wireReadsSpec.pre enc Tryd.prog Tryd.f4 [] false w args ∧ laidMetH Tryd.prog Rows.wireReadsRow.laid w) ∧ sizedMet enc Tryd.prog Tryd.f4 (OpenSpec.ofChange Rows.wireReadsSpec) false w args)
      (Rows.wireReadsSpec.post enc Tryd.prog Tryd.f4 false true false false) := by
  refine returnsInHanded_of_change_and (C := Tryd.checked) (X := fun w _ => laidMetH Tryd.prog Rows.wireReadsRow.laid w) (fun _ _ _ hh h => h.of_heap hh) own started (by kernel_rfl) Tryd.func4
    (ChangeSpec.witness_shaped (enc := enc) (C := Tryd.checked) (os := os) (X := fun w _ => laidMetH Tryd.prog Rows.wireReadsRow.laid w) false (World.laidAll Tryd.prog os Rows.wireReadsRow.laid) #[.slice none 0 0] 8 (World.laidAll_os _ _ _)
      (World.shaped_of_ZipB (by kernel_rfl) (by kernel_rfl)) (by kernel_rfl) (by kernel_rfl) (by kernel_rfl)
      (by rw [MakeChecks.laidMetH_plain _ _ _ (by kernel_rfl)]; exact laidMet_laidAll _ (by kernel_rfl) (by kernel_rfl))) ?_
  intro W base args ds gs before hval0 hW _ _ hL _
  have hval : ∀ (j : Nat) t v, Tryd.f4.params[j]? = some t → args[j]? = some v → Value.okWide Tryd.prog W .any base t v := hval0
  have hW' := hW
  obtain ⟨p, q, hA0, hV, rfl, hfz, hnd⟩ := hW
  have hA : DataW.TrodAll enc Tryd.prog W 0 (fun _ => true) true Tryd.f4.params.toList args.toList ds p := hA0
  rw [Tryd.params4] at hA hval
  obtain ⟨v0, vs0, d0, ds0, p0, q0, hargs, rfl, rfl, h0, r0⟩ := trodAll_cons hA
  obtain ⟨rfl, rfl, rfl⟩ := trodAll_nil r0
  obtain rfl : args = #[v0] := by cases args; simp_all
  obtain ⟨rfl, rfl⟩ := trodVars_none hV
  rw [MakeChecks.laidMetH_plain _ _ _ (by kernel_rfl)] at hL
  have k0 := h0
  have lt0 : ∀ x ∈ p0, x.block < W.heap.size := by obtain ⟨m, hm⟩ := k0; exact DataW.trod_lt m _ _ _ hm
  obtain ⟨s0, w0⟩ := open_txt (hval 0 24 v0 rfl rfl) h0
  clear hA0 hval0
  refine (walk v0 s0 W w0 hL).mono fun e W' ⟨he, bel⟩ => ?_
  subst he
  exact ⟨_, rfl, _, _, _, [], _, [], hW', trodAll_mk1 (shut_bool Tryd.underlying4 _), (trodAll_cons_mk (Below.trod laidOut (by kernel_rfl) (of_decide_eq_true (by kernel_rfl)) k0 bel lt0) trodAll_mk0), rfl, bel.frame _, fun h => by cases h⟩

theorem over : Rows.WireReadsSaid :=
  OpenClaim.holds_of_wide 4 Tryd.f4 rfl rfl rfl rfl rfl rfl rfl ⟨rfl, rfl, rfl, rfl, rfl⟩ rfl rfl rfl rfl rfl (by kernel_rfl) Tryd.func4 (by kernel_rfl)
    (of_decide_eq_true (by kernel_rfl)) (by unfold Func.isWrapper; first | (rw [if_pos (by decide +kernel)]; kernel_rfl) | (rw [if_neg (by decide +kernel)]; exact ⟨rfl, rfl⟩))
    (fun os started H enc _ => lifted os started H enc)

/-- ████ THE STATEMENT ████ -/
theorem proved : Rows.WireReadsCardSaid :=
  Claim7.holds_tied_plain_at .later [] [.data] true (true, "de450b1929b5a7b2899e5ead515590ee173562021ec0d166f568880e6684e4d0") false
    over (fun _ h => by cases h) (by kernel_rfl) (fun _ h => by cases h) wireReads_row_tie rfl ⟨rfl, rfl⟩ (by kernel_rfl) rfl
    (fun f fn hf hfn => by
      obtain rfl : f = 4 := Option.some.inj ((show Tryd.prog.funcNamed "embrasure/embrasurelaw05.WireReads" = some 4 by kernel_rfl).symm.trans hf) |>.symm
      obtain rfl : fn = Tryd.f4 := (Option.some.inj (Tryd.func4.symm.trans hfn)).symm
      exact ⟨by kernel_rfl, fun j t ht => by
        rw [Tryd.params4] at ht
        have hm : t ∈ [24] := by simpa using Array.mem_of_getElem? ht
        have hall : ([24].all fun u => !Tryd.prog.wantsStandIn u) = true := by kernel_rfl
        exact (show Tryd.prog.wantsStandIn t = false by simpa using List.all_eq_true.1 hall t hm)⟩)
    (by kernel_rfl)
#print axioms proved
end Go.Proofs.YtebgfiibcmnfnaaDoor.wireReads
