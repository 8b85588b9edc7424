/-
  The statement FrameJoins holds: rows that are joined are split again as they were, one that is too long is refused, and cut off anywhere the last frame is too short. Conditions: none beyond the row's own.
-/
import Derived.Test.YtadbidgikgffhaaSplit
import Derived.Test.YtadbidgikgffhaaAwake
import Derived.Test.YtadbidgikgffhaaRowsIn
import Derived.Test.YtadbidgikgffhaaRows
import Derived.WalkKit
import Derived.ProofKit
import Derived.OpenShut
import Derived.ShutString
import Derived.ChangeOld
import Derived.Below
namespace Go.Proofs.Ytadbidgikgffhaa.frameJoins
open Go.ChangeShapes Go.WideShapes Go.ChangeAt Go.RowKit
open Go.ChangeMaps (open_string shut_string)
set_option linter.unusedVariables false

theorem own : ownKnob Try.prog.godebug = none := by kernel_rfl
theorem laidOut : laidOutB Try.prog = true := by kernel_rfl

theorem split_ok (A : Option Addr) (m c : Nat) (zs : List Int) (rss : List (List Int)) (w : World) (h : Bts w A m zs) (hmc : m ≤ c) (hc : c ≤ maxLen) (hm : m ≤ 1000000) (hs : Fr.stop zs = 0) (hr : Fr.rows zs = rss) :
    Calls Try.prog 14 #[.slice A m c] w fun e w' => ∃ A' c', e = .returned (.tuple #[.slice A' rss.length c', .int .i64 0]) ∧ Rs w' A' rss.length rss ∧ Below w.heap.size w w' := by
  refine (split_any A m c zs w h hmc hc hm).mono ?_
  rintro e w' ⟨v, rfl, ho, hb⟩
  rw [if_pos hs, hr] at ho
  obtain ⟨A', c', rfl, _, _, h3⟩ := ho.rs
  exact ⟨A', c', by rw [hs], h3, hb⟩
theorem split_code (A : Option Addr) (m c : Nat) (zs : List Int) (w : World) (h : Bts w A m zs) (hmc : m ≤ c) (hc : c ≤ maxLen) (hm : m ≤ 1000000) (k : Int) (hs : Fr.stop zs = k) :
    Calls Try.prog 14 #[.slice A m c] w fun e w' => ∃ A' n' c', e = .returned (.tuple #[.slice A' n' c', .int .i64 k]) ∧ Below w.heap.size w w' := by
  refine (split_any A m c zs w h hmc hc hm).mono ?_
  rintro e w' ⟨v, rfl, ho, hb⟩
  obtain ⟨A', c', rfl, _, _, h3⟩ := ho.rs
  exact ⟨A', _, c', by rw [hs], hb⟩
theorem all_code (A : Option Addr) (m c : Nat) (zs : List Int) (w : World) (h : Bts w A m zs) (hmc : m ≤ c) (hc : c ≤ maxLen) (hm : m ≤ 1000000) (k : Int) (hs : Fr.stop zs = k) :
    Calls Try.prog 15 #[.slice A m c] w fun e w' => ∃ A' c', e = .returned (.tuple #[.slice A' (Fr.rows zs).length c', .int .i64 k]) ∧ Below w.heap.size w w' := by
  refine (ref_all A m c zs w h hmc hc hm).mono ?_
  rintro e w' ⟨v, rfl, ho, hb⟩
  obtain ⟨A', c', rfl, _, _, h3⟩ := ho.rs
  exact ⟨A', c', by rw [hs], hb⟩
theorem rows_yes_same (A1 A2 : Option Addr) (n c1 c2 : Nat) (rss : List (List Int)) (w : World) (hn : n ≤ 1000000) (h1 : Rs w A1 n rss) (h2 : Rs w A2 n rss) :
    Calls Try.prog 16 #[.slice A1 n c1, .slice A2 n c2] w fun e w' => e = .returned (.bool true) ∧ ∃ q, w' = w.drewN q :=
  (rows_any A1 A2 n n c1 c2 rss rss w (by unfold maxLen; omega) h1 h2).mono fun e w' h => ⟨by rw [h.1]; simp, h.2⟩

/-- is a row too long among these? -/
def longB (rss : List (List Int)) : Bool := rss.any (fun r => decide (1200 < r.length))
theorem longB_snoc (rss : List (List Int)) (r : List Int) : longB (rss ++ [r]) = (longB rss || decide (1200 < r.length)) := by simp [longB]
theorem longB_iff (rss : List (List Int)) : longB rss = false ↔ Shorts rss := by
  simp [longB, Shorts]

set_option maxRecDepth 100000 in
set_option maxHeartbeats 4000000 in
theorem walk (a0 : Option Addr) (len0 cap0 : Nat) (z0 : List (List Int)) (a1 : Int) (w : World) (w0 : IsRows w a0 len0 cap0 z0) (w1 : (Lit.int .u16 a1).wf = true) :
    Calls Try.prog 4 #[.slice a0 len0 cap0, .int .u16 a1] w fun e w' => e = .returned (.bool true) ∧ Below w.heap.size w w' := by
  obtain ⟨hr0, hc0, hm0, hn0⟩ := w0
  have hu := bounds_u16 w1
  obtain ⟨u, rfl⟩ := Int.eq_ofNat_of_zero_le hu.1
  have hu2 : u ≤ 65535 := by omega
  unfold maxLen at hm0
  clear w1 hu
  by_cases hs0 : len0 ≤ 60
  · have HR0 := Lib.hid hr0; have HN0 := Lib.hid hn0
    have HL0 := Lib.hid hr0.1
    have HJB0 := Lib.hid (join_bd' hr0)
    clear hr0 hn0
    go_enter Try.func4, Try.ntmps4
    go_wp2_with fail
    refine (awake_any _).mono ?_
    rintro e w2 ⟨rfl, hb2⟩
    have HB2 := Lib.hid hb2; clear hb2
    have HR2 := Lib.hid (HR0.out.below HB2.out)
    go_wp2
    go_loop [5, 6] (fun l i => ∃ k : Nat, k ≤ len0 ∧ i = .int .i64 (k : Int) ∧ l = .bool (longB (z0.take k))) (fun _ i => len0 - (intOf i).toNat)
    case atStart => exact ⟨0, by omega, rfl, by simp [longB]⟩
    case round =>
      obtain ⟨k, hk, rfl, rfl⟩ := hrel
      by_cases hkn : k < len0
      · obtain ⟨b, off, rfl, _⟩ := HR2.out.some_of (by omega)
        obtain ⟨A1, m1, d1, hc1, hb1, hmd, hd1, hnil⟩ := HR2.out.cell hkn
        have HT : Hid (longB (z0.take (k + 1)) = (longB (z0.take k) || decide (1200 < m1))) := Lib.hid (by
          rw [take_succ_getD z0 k (by have := HL0.out; omega), longB_snoc, hb1.len])
        clear hb1 hnil
        unfold maxLen at hd1
        generalize longB (z0.take k) = bb at *
        by_cases h1 : m1 ≤ 1300
        · by_cases h2 : 1200 < m1
          · cases bb
            all_goals
              go_wp2
              go_round
              case rel => exact ⟨k + 1, by omega, by go_num, by rw [HT.out]; first | (simp [h2]; done) | (simp [h2]; omega)⟩
              case measure => simp [intOf]; omega
          · cases bb
            all_goals
              go_wp2
              go_round
              case rel => exact ⟨k + 1, by omega, by go_num, by rw [HT.out]; first | (simp [h2]; done) | (simp [h2]; omega)⟩
              case measure => simp [intOf]; omega
        · go_wp2
          go_ret
          exact ⟨rfl, HB2.out⟩
      · have hf : z0.take k = z0 := List.take_of_length_le (by have := HL0.out; omega)
        rw [hf]
        obtain rfl : k = len0 := by omega
        have HLB := Lib.hid (longB_iff z0)
        clear hf
        generalize longB z0 = bb at *
        cases bb
        · have HSH : Hid (Shorts z0) := Lib.hid (HLB.out.1 rfl)
          have hjl := Fr.join_len z0 HSH.out
          have hjl' : (Fr.join z0).length ≤ 72120 := by have := HL0.out; omega
          have HJL : Hid (k ≤ (Fr.join z0).length) := Lib.hid (by have := HL0.out; omega)
          clear hjl
          go_wp2_with fail
          refine (join_ok _ _ _ z0 w2 HR2.out (by omega) HSH.out).mono ?_
          rintro e w3 ⟨v3, rfl, ho3, hb3⟩
          obtain ⟨A3, c3, rfl, hnc3, hc3, hbt3⟩ := own_form ho3 HJB0.out
          have HBT3 := Lib.hid hbt3; have HC3 := Lib.hid hc3; have HO3 := Lib.hid ho3
          have HW3 : Hid (Below w.heap.size w w3) := Lib.hid (HB2.out.trans (hb3.mono HB2.out.size))
          have HR3 := Lib.hid (HR2.out.below hb3)
          clear hbt3 hb3 ho3
          have HRJ := Lib.hid (rows_join z0 HSH.out)
          go_wp2_with fail
          refine (split_ok _ _ _ _ z0 w3 HBT3.out hnc3 HC3.out (by omega) HRJ.out.2 HRJ.out.1).mono ?_
          rintro e w4 ⟨A4, c4, rfl, hrs4, hb4⟩
          have hl4 := HL0.out
          rw [hl4] at hrs4
          have HR4 := Lib.hid hrs4; have HR4' := Lib.hid (HR3.out.below hb4)
          have HBT4 := Lib.hid (HBT3.out.below hb4)
          have HW4 : Hid (Below w.heap.size w w4) := Lib.hid (HW3.out.trans (hb4.mono HW3.out.size))
          rw [hl4]
          clear hrs4 hb4 hl4
          by_cases hz : (Fr.join z0).length = 0
          · obtain rfl : k = 0 := by have := HJL.out; omega
            have HZ := Lib.hid hz; clear hz
            rw [HZ.out] at *
            go_wp2_with (go_at_call 16; refine (rows_yes_same _ _ _ _ _ _ _ (by omega) HR4.out HR4'.out).mono ?_; rintro e w5 ⟨rfl, q5, rfl⟩)
            go_ret
            exact ⟨rfl, below_drewN' HW4.out _⟩
          · have hjp : 0 < (Fr.join z0).length := by omega
            clear hz
            obtain ⟨r, hr⟩ : ∃ r, u % (Fr.join z0).length = r := ⟨_, rfl⟩
            have hrl : r < (Fr.join z0).length := by rw [← hr]; exact Nat.mod_lt _ hjp
            have hm1 : (u : Int) % ((Fr.join z0).length : Int) = (r : Int) := by rw [← hr]; exact (Int.natCast_emod _ _).symm
            have hm2 : (u : Int).tmod ((Fr.join z0).length : Int) = (r : Int) := by rw [Int.tmod_eq_emod_of_nonneg (by omega)]; exact hm1
            have HCUT := Lib.hid (Fr.join_cut z0 r HSH.out hrl)
            obtain ⟨g3, c3', e3, _⟩ := own_some HO3.out hjp
            obtain ⟨rfl, rfl⟩ : A3 = some ⟨g3, 0, none⟩ ∧ c3 = c3' := by simpa using e3
            clear e3 hr
            generalize hLL : (Fr.join z0).length = LL at *
            clear hLL
            go_wp2_with (go_at_call 16; refine (rows_yes_same _ _ _ _ _ _ _ (by omega) HR4.out HR4'.out).mono ?_; rintro e w5 ⟨rfl, q5, rfl⟩)
            have HBC := Lib.hid ((HBT4.out.cut (r := r) (by omega)).drewN q5)
            have HWC : Hid (Below w.heap.size w (w4.drewN q5)) := Lib.hid (below_drewN' HW4.out _)
            generalize (Fr.join z0).take r = zc at *
            rcases HCUT.out with hs | ⟨hs, hlt⟩
            · have HS := Lib.hid hs; clear hs
              refine (split_code _ _ _ _ _ HBC.out (by omega) HC3.out (by omega) 2 HS.out).mono ?_
              rintro e w6 ⟨A6, n6, c6, rfl, hb6⟩
              have HBC6 := Lib.hid (HBC.out.below hb6)
              have HW6 : Hid (Below w.heap.size w w6) := Lib.hid (HWC.out.trans (hb6.mono HWC.out.size)); clear hb6
              go_wp2_with fail
              refine (all_code _ _ _ _ _ HBC6.out (by omega) HC3.out (by omega) 2 HS.out).mono ?_
              rintro e w7 ⟨A7, c7, rfl, hb7⟩
              have HW7 : Hid (Below w.heap.size w w7) := Lib.hid (HW6.out.trans (hb7.mono HW6.out.size)); clear hb7
              go_wp2
              go_ret
              exact ⟨rfl, HW7.out⟩
            · have HS := Lib.hid hs; clear hs
              have hlt2 : (Fr.rows zc).length < k := by have := HL0.out; omega
              clear hlt
              refine (split_code _ _ _ _ _ HBC.out (by omega) HC3.out (by omega) 0 HS.out).mono ?_
              rintro e w6 ⟨A6, n6, c6, rfl, hb6⟩
              have HBC6 := Lib.hid (HBC.out.below hb6)
              have HW6 : Hid (Below w.heap.size w w6) := Lib.hid (HWC.out.trans (hb6.mono HWC.out.size)); clear hb6
              go_wp2_with fail
              refine (all_code _ _ _ _ _ HBC6.out (by omega) HC3.out (by omega) 0 HS.out).mono ?_
              rintro e w7 ⟨A7, c7, rfl, hb7⟩
              have HW7 : Hid (Below w.heap.size w w7) := Lib.hid (HW6.out.trans (hb7.mono HW6.out.size)); clear hb7
              generalize (Fr.rows zc).length = rl at *
              go_wp2
              go_ret
              exact ⟨rfl, HW7.out⟩
        · have HSH : Hid (¬ Shorts z0) := Lib.hid (fun h => by have := HLB.out.2 h; cases this)
          go_wp2_with fail
          refine (join_no _ _ _ z0 w2 HR2.out (by omega) HSH.out).mono ?_
          rintro e w3 ⟨rfl, hb3⟩
          have HW3 : Hid (Below w.heap.size w w3) := Lib.hid (HB2.out.trans (hb3.mono HB2.out.size)); clear hb3
          go_wp2
          go_ret
          exact ⟨rfl, HW3.out⟩
  · go_enter Try.func4, Try.ntmps4
    go_wp2_with (go_at_call 8; refine (awake_any _).mono ?_; rintro e w2 ⟨rfl, hb2⟩; have HB2 := Lib.hid hb2; clear hb2)
    go_ret
    exact ⟨rfl, HB2.out⟩

/-! ### THE ROW's STEP: WRITTEN OUT: LEAVE IT -/
set_option maxRecDepth 100000 in
theorem lifted (os : Os) (started : os.Started) (H : Type) (enc : TypeId × Value → H) :
    ReturnsInHanded {} Try.checked os 4 .any (Rows.frameJoinsSpec.pre6 enc Try.prog Try.f4 Rows.frameJoinsRow.domain false) (Rows.frameJoinsSpec.post enc Try.prog Try.f4 false true false false) := by
  refine returnsInHanded_of_change (C := Try.checked) own started (by kernel_rfl) Try.func4
    (ChangeSpec.witness6 (enc := enc) (C := Try.checked) false ⟨#[], #[.slice none 0 0, .int .u16 0], []⟩ 8 (by kernel_rfl) (by kernel_rfl) (by kernel_rfl) (by kernel_rfl)) ?_
  intro W base args ds gs before hval0 hW hcnd _
  have hval : ∀ (j : Nat) t v, Try.f4.params[j]? = some t → args[j]? = some v → Value.okWide Try.prog W .any base t v := hval0
  have hW' := hW
  obtain ⟨p, q, hA0, hV, rfl, hfz, hnd⟩ := hW
  have hA : DataW.TrodAll enc Try.prog W 0 (fun _ => true) true Try.f4.params.toList args.toList ds p := hA0
  rw [Try.params4] at hA hval
  obtain ⟨v0, vs0, d0, ds0, p0, q0, hargs, rfl, rfl, h0, r0⟩ := trodAll_cons hA
  obtain ⟨v1, vs1, d1, ds1, p1, q1, rfl, rfl, rfl, h1, r1⟩ := trodAll_cons r0
  obtain ⟨rfl, rfl, rfl⟩ := trodAll_nil r1
  obtain rfl : args = #[v0, v1] := by cases args; simp_all
  obtain ⟨rfl, rfl⟩ := trodVars_none hV
  obtain ⟨a0, len0, cap0, rfl⟩ := okWide_slice Try.underlying30 (hval 0 30 v0 rfl rfl)
  have k0 := h0
  have lt0 : ∀ x ∈ p0, x.block < W.heap.size := by obtain ⟨m, hm⟩ := k0; exact DataW.trod_lt m _ _ _ hm
  obtain ⟨z0, w0⟩ : ∃ rss, IsRows W a0 len0 cap0 rss := isRows_open h0
  obtain ⟨a1, rfl, rfl, rfl, w1⟩ := open_int Try.underlying38 (hval 1 38 v1 rfl rfl) h1
  clear hA0 hval0
  refine (walk a0 len0 cap0 z0 a1 W w0 w1).mono fun e W' ⟨he, bel⟩ => ?_
  subst he
  exact ⟨_, rfl, _, _, _, [], _, [], hW', trodAll_mk1 (shut_bool Try.underlying4 _), (trodAll_cons_mk (Below.trod laidOut (by kernel_rfl) (of_decide_eq_true (by kernel_rfl)) k0 bel lt0) (trodAll_cons_mk (shut_int Try.underlying38 w1) trodAll_mk0)), rfl, bel.frame _, fun h => by cases h⟩

theorem over : Rows.frameJoinsRow.holds Try.pinned (OpenSpec.ofChange Rows.frameJoinsSpec) :=
  OpenClaim.holds_of_wide 4 Try.f4 rfl rfl rfl rfl rfl rfl rfl ⟨rfl, rfl, rfl, rfl, rfl⟩ rfl rfl rfl rfl rfl (by kernel_rfl) Try.func4 (by kernel_rfl)
    (of_decide_eq_true (by kernel_rfl)) (by unfold Func.isWrapper; first | (rw [if_pos (by decide +kernel)]; kernel_rfl) | (rw [if_neg (by decide +kernel)]; exact ⟨rfl, rfl⟩))
    (fun os started H enc _ => lifted os started H enc)

/-- ████ THE STATEMENT ████ -/
theorem proved : Rows.FrameJoinsSaid := over
#print axioms proved
end Go.Proofs.Ytadbidgikgffhaa.frameJoins
