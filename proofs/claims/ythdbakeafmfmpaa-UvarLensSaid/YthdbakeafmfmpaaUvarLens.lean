/-
  The statement UvarLens holds: a number has as many bytes as its bits by seven, each byte but the last one is 128 at least, and a number that is less has no more bytes. Conditions: none beyond the row's own.
-/
import Derived.Test.YthdbakeafmfmpaaWords
import Derived.WalkKit
import Derived.ProofKit
import Derived.OpenShut
import Derived.ShutString
import Derived.ChangeOld
import Derived.Below
namespace Go.Proofs.Ythdbakeafmfmpaa.uvarLens
open Go.ChangeShapes Go.WideShapes Go.ChangeAt Go.RowKit
open Go.ChangeMaps (open_string shut_string)
set_option linter.unusedVariables false      -- a walk need not use every 'w<i>' (that an integer argument fits its kind)

theorem own : ownKnob Try.prog.godebug = none := by kernel_rfl

theorem len_zero (x : Int) (w : World) (h1 : 9223372036854775808 ≤ x) (h2 : x ≤ 18446744073709551615) :
    Calls Try.prog 13 #[.int .u64 x] w fun e w' => e = .returned (.int .i64 0) ∧ w = w' := by
  obtain ⟨v, rfl⟩ := Int.eq_ofNat_of_zero_le (show 0 ≤ x by omega)
  refine (len_any v w (by omega)).mono fun e w' h => ⟨?_, h.2⟩
  rw [h.1, lenOf, if_neg (by omega)]
  rfl
theorem len_le (v : Nat) (w : World) (h : v < 9223372036854775808) :
    Calls Try.prog 13 #[.int .u64 (v : Int)] w fun e w' => e = .returned (.int .i64 (Uv.len v : Nat)) ∧ w = w' := by
  refine (len_any v w (by omega)).mono fun e w' h' => ⟨?_, h'.2⟩
  rw [h'.1, lenOf, if_pos h]

set_option maxHeartbeats 1000000 in
theorem walk (a0 : Int) (a1 : Int) (w0 : (Lit.int .u64 a0).wf = true) (w1 : (Lit.int .u64 a1).wf = true) (w : World) :
    Calls Try.prog 6 #[.int .u64 a0, .int .u64 a1] w fun e w' => e = .returned (.bool true) ∧ Below w.heap.size w w' := by
  obtain ⟨p0, p1⟩ := bounds_u64 w0
  obtain ⟨q0, q1⟩ := bounds_u64 w1
  obtain ⟨a, rfl⟩ := Int.eq_ofNat_of_zero_le p0
  obtain ⟨b, rfl⟩ := Int.eq_ofNat_of_zero_le q0
  clear w0 w1 p0 q0
  by_cases hbig : a < 9223372036854775808 ∧ b < 9223372036854775808
  · obtain ⟨ha, hb⟩ := hbig
    have t1 : decide ((9223372036854775807 : Int) < (a : Int)) = false := by simp; omega
    have t2 : decide ((9223372036854775807 : Int) < (b : Int)) = false := by simp; omega
    go_enter Try.func6, Try.ntmps6
    go_wp2_with fail
    refine (awake_any _).mono ?_
    rintro e w1 ⟨rfl, hb1⟩
    have HB1 := Lib.hid hb1; clear hb1
    go_wp2_with fail
    refine (put_any a _ (by omega)).mono ?_
    rintro e w2 ⟨r2, rfl, ho2, hb2⟩
    obtain ⟨A2, c2, rfl, hnc2, hc2, ht2⟩ := own_form ho2 (Uv.enc_mem a)
    have hl1 := Uv.len_pos a
    have hl9 := Uv.len_small a ha
    have HHI := Lib.hid (fun i h => Uv.enc_hi a i ha h)
    have HLO := Lib.hid (Uv.enc_lo a ha)
    have HBD := Lib.hid (getD_bd (Uv.enc_mem a))
    have HLU := Lib.hid (fun k (h : High a k) X hX hx => High.len h ha (X := X) hX hx)
    have HMO := Lib.hid (fun h => Uv.len_mono a b h (by omega))
    rw [Uv.enc_length a ha] at *
    generalize Uv.enc a = es at *
    generalize hn : Uv.len a = n at *
    clear hn
    obtain ⟨b2, o2, rfl, _, hcell⟩ := ht2.2.2 (by omega)
    have HCELL := Lib.hid hcell
    have HBW := Lib.hid (HB1.out.trans (hb2.mono HB1.out.size))
    clear ho2 hb2 ht2 hcell
    go_wp2
    go_loop [6, 7] (fun i x => ∃ (k X : Nat), k ≤ 8 ∧ i = .int .i64 ((k : Int) + 1) ∧ x = .int .u64 (X : Int) ∧ X = a / 128 ^ k ∧ High a k) (fun _ x => (intOf x).toNat)
    case atStart => exact ⟨0, a, by omega, rfl, rfl, by simp, High.zero a⟩
    case round =>
      obtain ⟨k, X, hk8, rfl, rfl, hX, hH⟩ := hrel
      have hXa : X ≤ a := by rw [hX]; exact Nat.div_le_self _ _
      have HX := Lib.hid hX; clear hX
      have HH := Lib.hid hH; clear hH
      by_cases hx : 127 < X
      · go_wp2
        go_round
        case rel =>
          have h' := HH.out.succ HX.out hx
          exact ⟨k + 1, X / 128, h'.le ha, by go_num, by go_num, by rw [Uv.div_pow', ← HX.out], h'⟩
        case measure => simp [intOf]; omega
      · have hnk := HLU.out k HH.out X HX.out (by omega)
        have t3 : ((n : Int) != (k : Int) + 1) = false := by simp; omega
        have hc1 := HCELL.out k (by omega)
        have hz1 : es.getD k 0 ≤ 127 := by have := HLO.out; rw [hnk] at this; simpa using this
        have hz2 := HBD.out k
        generalize es.getD k 0 = z at hc1 hz1 hz2
        obtain ⟨hz2, hz3⟩ := hz2
        have hkn : k < n := by omega
        have HNK := Lib.hid hnk; clear hnk
        clear HLO HLU HH HX
        by_cases hba : a < b
        all_goals
          go_wp2
          go_loop [8] (fun i => ∃ j : Nat, j ≤ k ∧ i = .int .i64 (j : Int)) (fun i => k - (intOf i).toNat)
          case atStart => exact ⟨0, by omega, rfl⟩
          case round =>
            obtain ⟨j, hj, rfl⟩ := hrel
            by_cases hjk : j < k
            · have hc3 := HCELL.out j (by omega)
              have hy1 := HHI.out j (by have := HNK.out; omega)
              have hy2 := HBD.out j
              generalize es.getD j 0 = y at hc3 hy1 hy2
              obtain ⟨hy2, hy3⟩ := hy2
              go_wp2
              go_round
              case rel => exact ⟨j + 1, by omega, by go_num⟩
              case measure => simp [intOf]; omega
            · have hlb : Uv.len b ≤ k + 1 ∨ a < b := by
                by_cases h : a < b
                · exact .inr h
                · have := HMO.out (by omega); have := HNK.out; omega
              first
                | (have hlb' : Uv.len b ≤ k + 1 := by omega
                   clear hlb
                   go_wp2_with (go_at_call 13; refine (len_le b _ hb).mono ?_; rintro e w' ⟨rfl, rfl⟩)
                   go_ret
                   exact ⟨ret_bool (by simp; omega), HBW.out⟩)
                | (clear hlb
                   go_wp2_with (go_at_call 13; refine (len_le b _ hb).mono ?_; rintro e w' ⟨rfl, rfl⟩)
                   go_ret
                   exact ⟨rfl, HBW.out⟩)
  · have hmax : 9223372036854775808 ≤ max (a : Int) (b : Int) := by omega
    have hmax2 : max (a : Int) (b : Int) ≤ 18446744073709551615 := by omega
    have H1 := Lib.hid hmax; have H2 := Lib.hid hmax2
    clear hmax hmax2
    by_cases ha : a < 9223372036854775808
    · have t1 : decide ((9223372036854775807 : Int) < (a : Int)) = false := by simp; omega
      have t2 : decide ((9223372036854775807 : Int) < (b : Int)) = true := by simp; omega
      go_enter Try.func6, Try.ntmps6
      go_wp2_with fail
      refine (awake_any _).mono ?_
      rintro e w1 ⟨rfl, hb1⟩
      have HB1 := Lib.hid hb1; clear hb1
      go_wp2_with fail
      refine (len_zero _ _ H1.out H2.out).mono ?_
      rintro e w2 ⟨rfl, rfl⟩
      go_wp2
      go_ret
      exact ⟨rfl, HB1.out⟩
    · have t1 : decide ((9223372036854775807 : Int) < (a : Int)) = true := by simp; omega
      go_enter Try.func6, Try.ntmps6
      go_wp2_with fail
      refine (awake_any _).mono ?_
      rintro e w1 ⟨rfl, hb1⟩
      have HB1 := Lib.hid hb1; clear hb1
      go_wp2_with fail
      refine (len_zero _ _ H1.out H2.out).mono ?_
      rintro e w2 ⟨rfl, rfl⟩
      go_wp2
      go_ret
      exact ⟨rfl, HB1.out⟩


/-! ### THE ROW's STEP: WRITTEN OUT: LEAVE IT -/
set_option maxRecDepth 100000 in
theorem lifted (os : Os) (started : os.Started) (H : Type) (enc : TypeId × Value → H) :
    ReturnsInHanded {} Try.checked os 6 .any (Rows.uvarLensSpec.pre6 enc Try.prog Try.f6 Rows.uvarLensRow.domain false) (Rows.uvarLensSpec.post enc Try.prog Try.f6 false true false false) := by
  refine returnsInHanded_of_change (C := Try.checked) own started (by kernel_rfl) Try.func6
    (ChangeSpec.witness6 (enc := enc) (C := Try.checked) false ⟨#[], #[.int .u64 0, .int .u64 0], []⟩ 8 (by kernel_rfl) (by kernel_rfl) (by kernel_rfl) (by kernel_rfl)) ?_
  intro W base args ds gs before hval0 hW hcnd _
  have hval : ∀ (j : Nat) t v, Try.f6.params[j]? = some t → args[j]? = some v → Value.okWide Try.prog W .any base t v := hval0
  have hW' := hW
  obtain ⟨p, q, hA0, hV, rfl, hfz, hnd⟩ := hW
  have hA : DataW.TrodAll enc Try.prog W 0 (fun _ => true) true Try.f6.params.toList args.toList ds p := hA0
  rw [Try.params6] at hA hval
  obtain ⟨v0, vs0, d0, ds0, p0, q0, hargs, rfl, rfl, h0, r0⟩ := trodAll_cons hA
  obtain ⟨v1, vs1, d1, ds1, p1, q1, rfl, rfl, rfl, h1, r1⟩ := trodAll_cons r0
  obtain ⟨rfl, rfl, rfl⟩ := trodAll_nil r1
  obtain rfl : args = #[v0, v1] := by cases args; simp_all
  obtain ⟨rfl, rfl⟩ := trodVars_none hV
  obtain ⟨a0, rfl, rfl, rfl, w0⟩ := open_int Try.underlying22 (hval 0 22 v0 rfl rfl) h0
  obtain ⟨a1, rfl, rfl, rfl, w1⟩ := open_int Try.underlying22 (hval 1 22 v1 rfl rfl) h1
  clear hA0 hval0
  refine (walk a0 a1 w0 w1 W).mono fun e W' ⟨he, bel⟩ => ?_
  subst he
  exact ⟨_, rfl, _, _, _, [], _, [], hW', trodAll_mk1 (shut_bool Try.underlying4 _), (trodAll_cons_mk (shut_int Try.underlying22 w0) (trodAll_cons_mk (shut_int Try.underlying22 w1) trodAll_mk0)), rfl, bel.frame _, fun h => by cases h⟩

theorem over : Rows.uvarLensRow.holds Try.pinned (OpenSpec.ofChange Rows.uvarLensSpec) :=
  OpenClaim.holds_of_wide 6 Try.f6 rfl rfl rfl rfl rfl rfl rfl ⟨rfl, rfl, rfl, rfl, rfl⟩ rfl rfl rfl rfl rfl (by kernel_rfl) Try.func6 (by kernel_rfl)
    (of_decide_eq_true (by kernel_rfl)) (by unfold Func.isWrapper; first | (rw [if_pos (by decide +kernel)]; kernel_rfl) | (rw [if_neg (by decide +kernel)]; exact ⟨rfl, rfl⟩))
    (fun os started H enc _ => lifted os started H enc)

/-- ████ THE STATEMENT ████ -/
theorem proved : Rows.UvarLensSaid :=
  over
#print axioms proved
end Go.Proofs.Ythdbakeafmfmpaa.uvarLens
