/-
  The statement NotaryPlays holds: whatever is minted and checked, each answer is what the document says. Conditions: none beyond the row's own.
-/
import Derived.Test.YtcinjfmmmmaelaaPair
import Derived.Test.YtcinjfmmmmaelaaRows
import Derived.WalkKit
import Derived.ProofKit
import Derived.OpenShut
import Derived.ShutString
import Derived.ChangeOld
import Derived.Below
namespace Go.Proofs.Ytcinjfmmmmaelaa.notaryPlays
open Go.ChangeShapes Go.WideShapes Go.ChangeAt Go.RowKit
open Go.ChangeMaps (open_string shut_string)
set_option linter.unusedVariables false

theorem own : ownKnob Try.prog.godebug = none := by kernel_rfl
theorem laidOut : laidOutB Try.prog = true := by kernel_rfl

set_option maxRecDepth 100000 in
set_option maxHeartbeats 4000000 in
theorem none_ (A2 : Option Addr) (c2 : Nat) (w : World) (hD : IsDos w (.slice A2 0 c2) []) :
    Calls Try.prog 3 #[.slice A2 0 c2] w fun e w' => e = .returned (.bool true) ∧ Below w.heap.size w w' := by
  have HD := Lib.hid hD; clear hD
  go_enter Try.func3, Try.ntmps3
  go_wp2_with fail
  refine (awake_any _).mono ?_
  rintro e v1 ⟨rfl, hb⟩
  have HV1 := Lib.hid hb; clear hb
  go_wp2_with fail
  refine (small_any _ [] _ (HD.out.below HV1.out) true rfl).mono ?_
  rintro e v2 ⟨rfl, rfl⟩
  go_wp2_with fail
  refine (new_any _).mono ?_
  rintro e v2 ⟨nb, rfl, hN2, hb2⟩
  have HV2 : Hid (Below w.heap.size w v2) := Lib.hid (HV1.out.trans (hb2.mono HV1.out.size)); clear hb2 hN2
  go_wp2
  refine wp_loop_rounds 1 ?_
  rw [rounds_succ]
  go_wp2
  go_ret
  exact ⟨rfl, HV2.out.alloc HV2.out.size _⟩

set_option maxRecDepth 100000 in
set_option maxHeartbeats 8000000 in
theorem some_ (b off c2 : Nat) (s2 : List Step) (w : World) (hD : IsDos w (.slice (some ⟨b, off, none⟩) s2.length c2) s2) (hNil : NilOk w (.slice (some ⟨b, off, none⟩) s2.length c2)) (hm2 : s2.length ≤ 9223372036854775807) (hb : b < w.heap.size)
    (hd : ∀ j, j < s2.length → DoAt w b (off + j * 4) (s2.getD j default)) (hsm : smallL s2 = true) :
    Calls Try.prog 3 #[.slice (some ⟨b, off, none⟩) s2.length c2] w fun e w' => e = .returned (.bool true) ∧ Below w.heap.size w w' := by
  have HD := Lib.hid hD; have HNIL := Lib.hid hNil; have HDD := Lib.hid hd; have HSM := Lib.hid hsm; clear hD hNil hd hsm
  go_enter Try.func3, Try.ntmps3
  go_wp2_with fail
  refine (awake_any _).mono ?_
  rintro e v1 ⟨rfl, hb⟩
  have HV1 := Lib.hid hb; clear hb
  go_wp2_with fail
  refine (small_any _ s2 _ (HD.out.below HV1.out) true HSM.out).mono ?_
  rintro e v2 ⟨rfl, rfl⟩
  go_wp2_with fail
  refine (new_any _).mono ?_
  rintro e v2 ⟨nb, rfl, hN2, hb2⟩
  have HN2 : Hid (Nota v2 (w.heap.size ≤ ·) nb []) := Lib.hid (hN2.mono (fun k hk => Nat.le_trans HV1.out.size hk))
  have HV2 : Hid (Below w.heap.size w v2) := Lib.hid (HV1.out.trans (hb2.mono HV1.out.size)); clear hb2 hN2
  go_wp2
  have HP3 := Lib.hid (Pair.start HN2.out HV2.out.size)
  have HV3 := Lib.hid (HV2.out.alloc HV2.out.size (.cells #[.slice none 0 0] 30))
  obtain ⟨rb, hrb⟩ : ∃ rb, v2.heap.size = rb := ⟨_, rfl⟩
  rw [hrb] at HP3 ⊢
  clear hrb
  go_loopw [5] (fun i wr => ∃ (k : Nat) (L : List Item), k ≤ s2.length ∧ k ≤ 100 ∧ i = .int .i64 k ∧ Pair wr w.heap.size nb rb L L ∧ L.length ≤ k ∧ Below w.heap.size w wr) (fun i _ => s2.length - (intOf i).toNat)
  case atStart => exact ⟨0, _, by omega, by omega, rfl, HP3.out, by simp, HV3.out⟩
  case round =>
    rename_i wr
    obtain ⟨k, L, hk, hk2, rfl, hP, hL, hB⟩ := hrel
    have HP := Lib.hid hP; have HB := Lib.hid hB; clear hP hB
    by_cases h1 : k < s2.length
    · by_cases h2 : k < 100
      · have hsz := small_at HSM.out h1 h2
        obtain ⟨Ak, nk, ck, d0, d1, d2, d3, hbt, hnck, hck, hwf, htg, hbl⟩ := ((HDD.out k h1).below HB.out).parts
        have hnil := HNIL.out.at_ (Nat.lt_of_lt_of_le (lt_of_cell ((HDD.out k h1).choose_spec.choose_spec.choose_spec.choose_spec.1)) (Nat.le_refl _)) HB.out h1 d2
        have HTKa : ∀ W, Below w.heap.size w W → Bts W Ak nk (s2.getD k default).text := fun W hW => by
          obtain ⟨A', n', c', _, _, f2, _, hbt', _⟩ := (HDD.out k h1).parts
          have f2' := (HB.out.cell (p := ⟨b, off + k * 4 + 2, none⟩) (lt_of_cell f2)).trans f2
          rw [d2] at f2'
          simp only [Option.some.injEq, Value.slice.injEq] at f2'
          obtain ⟨rfl, rfl, rfl⟩ := f2'
          exact hbt'.below hW
        obtain ⟨dk, hdk⟩ : ∃ d, s2.getD k default = d := ⟨_, rfl⟩
        rw [hdk] at d0 d1 d3 hbt hwf hsz htg HTKa
        clear hdk
        obtain ⟨kk, pk, zk, tk⟩ := dk
        simp only at d0 d1 d3 hbt hwf hsz htg HTKa
        have HNK := Lib.hid hnil; have HBT := Lib.hid hbt; clear hbt hwf hnil
        have hnk : nk ≤ 200 := by have := HBT.out.len; omega
        clear hsz
        cases kk with
        | true =>
          obtain ⟨cr, hcr⟩ : ∃ cr, checkL L (pk, zk) tk = cr := ⟨_, rfl⟩
          have HCR := Lib.hid hcr; clear hcr
          have HP1 : Hid (∀ q, Pair ((wr.alloc (.cells #[.bool true, .int .i64 pk, .slice Ak nk ck, .int .u64 (tk : Int)] 34)).drewN q) w.heap.size nb rb L L) := Lib.hid (fun q => (HP.out.alloc _).drewN q)
          have HT1 : Hid (∀ q, Bts ((wr.alloc (.cells #[.bool true, .int .i64 pk, .slice Ak nk ck, .int .u64 (tk : Int)] 34)).drewN q) Ak nk zk) := Lib.hid (fun q => (HBT.out.alloc _).drewN q)
          go_wp2
          go_quiet (first
            | (go_at_call 10; exact Calls.quiet_of (pair_check w.heap.size nb rb L L pk Ak nk ck tk zk cr _ (HP1.out _) (by omega) (HT1.out _) htg HCR.out))
            | (go_at_call 11; exact Calls.quiet_of (pair_rcheck w.heap.size nb rb L L pk Ak nk ck tk zk cr _ (HP1.out _) (by omega) (HT1.out _) htg HCR.out)))
          go_wp2
          go_roundw
          case rel => exact ⟨k + 1, L, by omega, by omega, by go_num, HP1.out _, by omega, below_drewN' (HB.out.alloc HB.out.size _) _⟩
          case measure => simp [intOf]; omega
        | false =>
          obtain ⟨t, r, L', hm⟩ : ∃ t r L', mres L (pk, zk) = (t, r, L') := ⟨_, _, _, rfl⟩
          have hL' : L'.length ≤ k + 1 := by have := mres_len L (pk, zk); rw [hm] at this; simp only at this; omega
          have HM := Lib.hid hm; clear hm
          have HP1 : Hid (PairX (wr.alloc (.cells #[.bool false, .int .i64 pk, .slice Ak nk ck, .int .u64 (tk : Int)] 34)) w.heap.size wr.heap.size nb rb L L) := Lib.hid (HP.out.box _)
          have HB1 : Hid (Below w.heap.size w (wr.alloc (.cells #[.bool false, .int .i64 pk, .slice Ak nk ck, .int .u64 (tk : Int)] 34))) := Lib.hid (HB.out.alloc HB.out.size _)
          have HTX : Hid (∀ W, Below w.heap.size w W → Bts W Ak nk zk) := Lib.hid HTKa
          have HBX : Hid ((wr.alloc (.cells #[.bool false, .int .i64 pk, .slice Ak nk ck, .int .u64 (tk : Int)] 34)).heap[wr.heap.size]? = some (.cells #[.bool false, .int .i64 pk, .slice Ak nk ck, .int .u64 (tk : Int)] 34 (0, 0))) := Lib.hid (MapKept.heap_alloc wr _).1
          clear HTKa
          go_wp2_with fail
          refine (pair_mint w.heap.size wr.heap.size nb rb L L pk Ak nk ck zk _ HP1.out HB1.out.size hnck hck (HTX.out _ HB1.out) (by omega) t r L' HM.out).mono ?_
          rintro e v4 ⟨rfl, hp4, hb4, hx4⟩
          have HP4 := Lib.hid hp4; have HV4 : Hid (Below w.heap.size w v4) := Lib.hid (HB1.out.trans hb4)
          have HX4 : Hid (v4.heap[wr.heap.size]? = some (.cells #[.bool false, .int .i64 pk, .slice Ak nk ck, .int .u64 (tk : Int)] 34 (0, 0))) := Lib.hid (hx4.trans HBX.out)
          clear hp4 hb4 hx4 d0 d1 d2 d3
          have e1 := (cells_of HX4.out 1).1
          have e2 := (cells_of HX4.out 2).1
          simp at e1 e2
          go_wp2_with fail
          refine (pair_rmint w.heap.size wr.heap.size nb rb L' L pk Ak nk ck zk _ HP4.out HV4.out.size hnck hck (HTX.out _ HV4.out) HNK.out (by omega) (by omega) t r L' HM.out).mono ?_
          rintro e v5 ⟨rfl, hp5, hb5, _⟩
          have HP5 := Lib.hid hp5; have HV5 : Hid (Below w.heap.size w v5) := Lib.hid (HV4.out.trans hb5)
          clear hp5 hb5 e1 e2
          obtain ⟨hrb5, A5, c5, d5⟩ := HP5.out.pair.form
          have HC5 : Hid (∀ q, Calls Try.prog 14 #[.pointer (some ⟨nb, 0, none⟩)] (v5.drewN q) fun e w' => e = .returned (.int .i64 (L'.length : Nat)) ∧ w' = v5.drewN q) := Lib.hid (fun q => pair_count w.heap.size nb rb L' L' _ (HP5.out.pair.drewN q) (by omega))
          go_wp2
          go_quiet ((go_at_call 14; exact Calls.quiet_of_same (HC5.out _)))
          go_wp2
          go_roundw
          case rel => exact ⟨k + 1, L', by omega, by omega, by go_num, HP5.out.pair.drewN _, hL', below_drewN' HV5.out _⟩
          case measure => simp [intOf]; omega
      · go_wp2
        go_ret
        exact ⟨rfl, HB.out⟩
    · go_wp2
      go_ret
      exact ⟨rfl, HB.out⟩

set_option maxHeartbeats 4000000 in
theorem big_ (v : Value) (s2 : List Step) (w : World) (hD : IsDos w v s2) (hsm : smallL s2 = false) :
    Calls Try.prog 3 #[v] w fun e w' => e = .returned (.bool true) ∧ Below w.heap.size w w' := by
  have HD := Lib.hid hD; have HSM := Lib.hid hsm; clear hsm
  obtain ⟨A2, c2, rfl, _⟩ := hD
  go_enter Try.func3, Try.ntmps3
  go_wp2_with fail
  refine (awake_any _).mono ?_
  rintro e v1 ⟨rfl, hb⟩
  have HV1 := Lib.hid hb; clear hb
  go_wp2_with fail
  refine (small_any _ s2 _ (HD.out.below HV1.out) false HSM.out).mono ?_
  rintro e v2 ⟨rfl, rfl⟩
  go_wp2
  go_ret
  exact ⟨rfl, HV1.out⟩

theorem walk (v0 : Value) (s0 : List Step) (w : World) (w0 : IsNdos w v0 s0) :
    Calls Try.prog 3 #[v0] w fun e w' => e = .returned (.bool true) ∧ Below w.heap.size w w' := by
  obtain ⟨hD, hNil⟩ := w0
  cases hsm : smallL s0 with
  | false => exact big_ v0 s0 w hD hsm
  | true =>
    have hD' := hD
    obtain ⟨A2, c2, rfl, hl2, hm2, hd2⟩ := hD'
    unfold maxLen at hm2
    rcases Nat.eq_zero_or_pos s0.length with hz | hz
    · obtain rfl : s0 = [] := List.eq_nil_of_length_eq_zero hz
      exact none_ A2 c2 w hD
    · obtain ⟨b, off, rfl, hb, hdd⟩ := hd2 hz
      exact some_ b off c2 s0 w hD hNil (by omega) hb hdd hsm

/-! ### THE ROW's STEP: WRITTEN OUT: LEAVE IT -/
set_option maxRecDepth 100000 in
theorem lifted (os : Os) (started : os.Started) (H : Type) (enc : TypeId × Value → H) :
    ReturnsInHanded {} Try.checked os 3 .any (Rows.notaryPlaysSpec.pre6 enc Try.prog Try.f3 Rows.notaryPlaysRow.domain false) (Rows.notaryPlaysSpec.post enc Try.prog Try.f3 false true false false) := by
  refine returnsInHanded_of_change (C := Try.checked) own started (by kernel_rfl) Try.func3
    (ChangeSpec.witness6 (enc := enc) (C := Try.checked) false ⟨#[], #[.slice none 0 0], []⟩ 8 (by kernel_rfl) (by kernel_rfl) (by kernel_rfl) (by kernel_rfl)) ?_
  intro W base args ds gs before hval0 hW hcnd _
  have hval : ∀ (j : Nat) t v, Try.f3.params[j]? = some t → args[j]? = some v → Value.okWide Try.prog W .any base t v := hval0
  have hW' := hW
  obtain ⟨p, q, hA0, hV, rfl, hfz, hnd⟩ := hW
  have hA : DataW.TrodAll enc Try.prog W 0 (fun _ => true) true Try.f3.params.toList args.toList ds p := hA0
  rw [Try.params3] at hA hval
  obtain ⟨v0, vs0, d0, ds0, p0, q0, hargs, rfl, rfl, h0, r0⟩ := trodAll_cons hA
  obtain ⟨rfl, rfl, rfl⟩ := trodAll_nil r0
  obtain rfl : args = #[v0] := by cases args; simp_all
  obtain ⟨rfl, rfl⟩ := trodVars_none hV
  have k0 := h0
  have lt0 : ∀ x ∈ p0, x.block < W.heap.size := by obtain ⟨m, hm⟩ := k0; exact DataW.trod_lt m _ _ _ hm
  obtain ⟨s0, w0⟩ := open_ndos (hval 0 22 v0 rfl rfl) h0
  clear hA0 hval0
  refine (walk v0 s0 W w0).mono fun e W' ⟨he, bel⟩ => ?_
  subst he
  exact ⟨_, rfl, _, _, _, [], _, [], hW', trodAll_mk1 (shut_bool Try.underlying4 _), (trodAll_cons_mk (Below.trod laidOut (by kernel_rfl) (of_decide_eq_true (by kernel_rfl)) k0 bel lt0) trodAll_mk0), rfl, bel.frame _, fun h => by cases h⟩

theorem over : Rows.notaryPlaysRow.holds Try.pinned (OpenSpec.ofChange Rows.notaryPlaysSpec) :=
  OpenClaim.holds_of_wide 3 Try.f3 rfl rfl rfl rfl rfl rfl rfl ⟨rfl, rfl, rfl, rfl, rfl⟩ rfl rfl rfl rfl rfl (by kernel_rfl) Try.func3 (by kernel_rfl)
    (of_decide_eq_true (by kernel_rfl)) (by unfold Func.isWrapper; first | (rw [if_pos (by decide +kernel)]; kernel_rfl) | (rw [if_neg (by decide +kernel)]; exact ⟨rfl, rfl⟩))
    (fun os started H enc _ => lifted os started H enc)

/-- ████ THE STATEMENT ████ -/
theorem proved : Rows.NotaryPlaysSaid := over
#print axioms proved
end Go.Proofs.Ytcinjfmmmmaelaa.notaryPlays
