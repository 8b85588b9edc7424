/-
  The statement BackDoubles holds: as long as it is below most a wait is twice the one ahead, or most; from there on it is most. Conditions: none beyond the row's own.
-/
import Derived.Test.YtcamihbcfeengaaSm
import Derived.Test.YtcamihbcfeengaaRows
import Derived.WalkKit
import Derived.ProofKit
import Derived.OpenShut
import Derived.ShutString
import Derived.ChangeOld
import Derived.Below
namespace Go.Proofs.Ytcamihbcfeengaa.backDoubles
open Go.ChangeShapes Go.WideShapes Go.ChangeAt Go.RowKit
open Go.ChangeMaps (open_string shut_string)
set_option linter.unusedVariables false      -- a walk need not use every 'w<i>' (that an integer argument fits its kind)

theorem own : ownKnob Try.prog.godebug = none := by kernel_rfl

theorem double_cases (f m : Int) (k : Nat) (hk : k ≤ 59) : (Bk.wc f m k = 1 ∧ Bk.wc f m ((k : Int) + 1) = 1 ∧ Bk.wc f m 1099511627776 = 1) ∨
    ((Bk.wc f m k = 0 ∧ Bk.wc f m ((k : Int) + 1) = 0 ∧ Bk.wc f m 1099511627776 = 0) ∧ Bk.wv f m ((k : Int) + 1) = min (2 * Bk.wv f m k) m ∧ Bk.wv f m 1099511627776 = m ∧ 0 ≤ Bk.wv f m k ∧ Bk.wv f m k ≤ m ∧ m ≤ 1099511627776) := by
  by_cases hp : Bk.plan f m = true
  · obtain ⟨h1, h2, h3⟩ := (Bk.plan_iff f m).1 hp
    right
    refine ⟨⟨?_, ?_, ?_⟩, ?_⟩
    · unfold Bk.wc; rw [if_pos ⟨hp, by omega⟩]
    · unfold Bk.wc; rw [if_pos ⟨hp, by omega⟩]
    · unfold Bk.wc; rw [if_pos ⟨hp, by omega⟩]
    · obtain ⟨f, rfl⟩ := Int.eq_ofNat_of_zero_le (show 0 ≤ f by omega)
      obtain ⟨m, rfl⟩ := Int.eq_ofNat_of_zero_le (show 0 ≤ m by omega)
      have e9 := wv_plan (k := 1099511627776) hp
      rw [Bk.W_far (f := f) (m := m) (n := 1099511627776) (by omega) (by omega) (by omega)] at e9
      have e8 : Bk.wv f m 1099511627776 = (m : Int) := e9
      rw [e8, show (k : Int) + 1 = ((k + 1 : Nat) : Int) by omega, wv_plan hp, wv_plan hp, Bk.W_succ]
      have g4 := Bk.W_le f m k
      omega
  · left
    refine ⟨?_, ?_, ?_⟩
    · unfold Bk.wc; rw [if_neg (fun h => hp h.1)]
    · unfold Bk.wc; rw [if_neg (fun h => hp h.1)]
    · unfold Bk.wc; rw [if_neg (fun h => hp h.1)]

set_option maxHeartbeats 1000000 in
theorem walk (a0 : Int) (a1 : Int) (a2 : Int) (w0 : (Lit.int .i64 a0).wf = true) (w1 : (Lit.int .i64 a1).wf = true) (w2 : (Lit.int .u8 a2).wf = true) (w : World) :
    Calls Try.prog 7 #[.int .i64 a0, .int .i64 a1, .int .u8 a2] w fun e w' => e = .returned (.bool true) ∧ Below w.heap.size w w' := by
  obtain ⟨q0, q1⟩ := bounds_u8 w2
  clear w0 w1 w2
  obtain ⟨n, hn, hn2⟩ : ∃ n : Nat, a2 % 60 = (n : Int) ∧ n ≤ 59 := ⟨(a2 % 60).toNat, by omega, by omega⟩
  have HV := Lib.hid (double_cases a0 a1 n hn2)
  go_enter Try.func7, Try.ntmps7
  go_wp2_with fail
  refine (awake_any _).mono ?_; rintro e w' ⟨rfl, rfl⟩
  go_wp2_with fail
  refine (Wait_any a0 a1 n _ (by omega)).mono ?_; rintro e w' ⟨rfl, rfl⟩
  go_wp2_with fail
  refine (Wait_any a0 a1 ((n : Int) + 1) _ (by omega)).mono ?_; rintro e w' ⟨rfl, rfl⟩
  go_wp2_with fail
  refine (Wait_any a0 a1 1099511627776 _ (by omega)).mono ?_; rintro e w' ⟨rfl, rfl⟩
  have hv := HV.out
  clear HV
  generalize Bk.wv a0 a1 n = x at *
  generalize Bk.wc a0 a1 n = c at *
  generalize Bk.wv a0 a1 ((n : Int) + 1) = x2 at *
  generalize Bk.wc a0 a1 ((n : Int) + 1) = c2 at *
  generalize Bk.wv a0 a1 1099511627776 = y at *
  generalize Bk.wc a0 a1 1099511627776 = c3 at *
  rcases hv with ⟨h1, h2, h3⟩ | ⟨⟨h1, h2, h3⟩, h4, h5, h6, h7, h8⟩
  · rw [h1, h2, h3]
    clear h1 h2 h3
    go_wp2
    go_ret
    exact ⟨rfl, Below.refl _ _⟩
  · rw [h1, h2, h3, h4, h5]
    clear h1 h2 h3 h4 h5
    have t1 : (a1 == a1) = true := by simp
    have t2 : (min (2 * x) a1 == min (2 * x) a1) = true := by simp
    go_wp2
    all_goals
      go_ret
      exact ⟨rfl, Below.refl _ _⟩

/-! ### THE ROW's STEP: WRITTEN OUT: LEAVE IT -/
set_option maxRecDepth 100000 in
theorem lifted (os : Os) (started : os.Started) (H : Type) (enc : TypeId × Value → H) :
    ReturnsInHanded {} Try.checked os 7 .any (Rows.backDoublesSpec.pre6 enc Try.prog Try.f7 Rows.backDoublesRow.domain false) (Rows.backDoublesSpec.post enc Try.prog Try.f7 false true false false) := by
  refine returnsInHanded_of_change (C := Try.checked) own started (by kernel_rfl) Try.func7
    (ChangeSpec.witness6 (enc := enc) (C := Try.checked) false ⟨#[], #[.int .i64 0, .int .i64 0, .int .u8 0], []⟩ 8 (by kernel_rfl) (by kernel_rfl) (by kernel_rfl) (by kernel_rfl)) ?_
  intro W base args ds gs before hval0 hW hcnd _
  have hval : ∀ (j : Nat) t v, Try.f7.params[j]? = some t → args[j]? = some v → Value.okWide Try.prog W .any base t v := hval0
  have hW' := hW
  obtain ⟨p, q, hA0, hV, rfl, hfz, hnd⟩ := hW
  have hA : DataW.TrodAll enc Try.prog W 0 (fun _ => true) true Try.f7.params.toList args.toList ds p := hA0
  rw [Try.params7] at hA hval
  obtain ⟨v0, vs0, d0, ds0, p0, q0, hargs, rfl, rfl, h0, r0⟩ := trodAll_cons hA
  obtain ⟨v1, vs1, d1, ds1, p1, q1, rfl, rfl, rfl, h1, r1⟩ := trodAll_cons r0
  obtain ⟨v2, vs2, d2, ds2, p2, q2, rfl, rfl, rfl, h2, r2⟩ := trodAll_cons r1
  obtain ⟨rfl, rfl, rfl⟩ := trodAll_nil r2
  obtain rfl : args = #[v0, v1, v2] := by cases args; simp_all
  obtain ⟨rfl, rfl⟩ := trodVars_none hV
  obtain ⟨a0, rfl, rfl, rfl, w0⟩ := open_int Try.underlying3 (hval 0 3 v0 rfl rfl) h0
  obtain ⟨a1, rfl, rfl, rfl, w1⟩ := open_int Try.underlying3 (hval 1 3 v1 rfl rfl) h1
  obtain ⟨a2, rfl, rfl, rfl, w2⟩ := open_int Try.underlying5 (hval 2 5 v2 rfl rfl) h2
  clear hA0 hval0
  refine (walk a0 a1 a2 w0 w1 w2 W).mono fun e W' ⟨he, bel⟩ => ?_
  subst he
  exact ⟨_, rfl, _, _, _, [], _, [], hW', trodAll_mk1 (shut_bool Try.underlying4 _), (trodAll_cons_mk (shut_int Try.underlying3 w0) (trodAll_cons_mk (shut_int Try.underlying3 w1) (trodAll_cons_mk (shut_int Try.underlying5 w2) trodAll_mk0))), rfl, bel.frame _, fun h => by cases h⟩

theorem over : Rows.backDoublesRow.holds Try.pinned (OpenSpec.ofChange Rows.backDoublesSpec) :=
  OpenClaim.holds_of_wide 7 Try.f7 rfl rfl rfl rfl rfl rfl rfl ⟨rfl, rfl, rfl, rfl, rfl⟩ rfl rfl rfl rfl rfl (by kernel_rfl) Try.func7 (by kernel_rfl)
    (of_decide_eq_true (by kernel_rfl)) (by unfold Func.isWrapper; first | (rw [if_pos (by decide +kernel)]; kernel_rfl) | (rw [if_neg (by decide +kernel)]; exact ⟨rfl, rfl⟩))
    (fun os started H enc _ => lifted os started H enc)

/-- ████ THE STATEMENT ████ -/
theorem proved : Rows.BackDoublesSaid :=
  over
#print axioms proved
end Go.Proofs.Ytcamihbcfeengaa.backDoubles
