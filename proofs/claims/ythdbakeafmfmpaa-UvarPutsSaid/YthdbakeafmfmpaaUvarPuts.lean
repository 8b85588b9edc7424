/-
  The statement UvarPuts holds: every number as bytes is what the document says, and is got again, whatever stands behind. Conditions: none beyond the row's own.
-/
import Derived.Test.YthdbakeafmfmpaaWords
import Derived.WalkKit
import Derived.ProofKit
import Derived.OpenShut
import Derived.ShutString
import Derived.ChangeOld
import Derived.Below
namespace Go.Proofs.Ythdbakeafmfmpaa.uvarPuts
open Go.ChangeShapes Go.WideShapes Go.ChangeAt Go.RowKit
open Go.ChangeMaps (open_string shut_string)
set_option linter.unusedVariables false

theorem own : ownKnob Try.prog.godebug = none := by kernel_rfl
theorem laidOut : laidOutB Try.prog = true := by kernel_rfl

set_option maxHeartbeats 1000000 in
theorem walk (a0 : Int) (a1 : Option Addr) (len1 cap1 : Nat) (z1 : List Int) (w : World) (w0 : (Lit.int .u64 a0).wf = true) (w1 : IsRow .u8 w a1 len1 cap1 z1) :
    Calls Try.prog 3 #[.int .u64 a0, .slice a1 len1 cap1] w fun e w' => e = .returned (.bool true) ∧ Below w.heap.size w w' := by
  obtain ⟨hb, hlc, hcm⟩ := bts_of_row w1
  have HNIL := Lib.hid (nil_of_row w1)
  clear w1
  generalize z1.take len1 = zs at *
  obtain ⟨h0, h1⟩ := bounds_u64 w0
  obtain ⟨v, rfl⟩ := Int.eq_ofNat_of_zero_le h0
  clear w0 h0
  have hv : v < 18446744073709551616 := by omega
  clear h1
  have HZ := Lib.hid hb; clear hb
  have HC := Lib.hid hcm; clear hcm
  by_cases h4 : len1 ≤ 64
  · go_enter Try.func3, Try.ntmps3
    go_wp2_with fail
    refine (awake_any _).mono ?_
    rintro e w1 ⟨rfl, hb1⟩
    have HB1 := Lib.hid hb1; clear hb1
    go_wp2_with fail
    refine (put_any v _ hv).mono ?_
    rintro e w2 ⟨r2, rfl, ho2, hb2⟩
    obtain ⟨A2, c2, rfl, hnc2, hc2, ht2⟩ := own_form ho2 (Uv.enc_mem v)
    go_wp2_with fail
    refine (ref_put_any v _).mono ?_
    rintro e w3 ⟨r3, rfl, ho3, hb3⟩
    obtain ⟨A3, c3, rfl, hnc3, hc3, ht3⟩ := own_form ho3 (Uv.enc_mem v)
    go_wp2_with fail
    refine (same_self _ _ _ _ _ (Uv.enc v) _ (Nat.le_trans hnc2 hc2) (ht2.below hb3) ht3).mono ?_
    rintro e w4 ⟨rfl, q, rfl⟩
    have HBW := Lib.hid (below_drewN' (HB1.out.trans ((hb2.mono HB1.out.size).trans (hb3.mono (Nat.le_trans HB1.out.size hb2.size)))) q)
    have HT2 := Lib.hid ((ht2.below hb3).drewN q)
    have HNIL2 : Hid (A2 = none → (Uv.enc v).length = 0 ∧ c2 = 0) := Lib.hid (own_nil ho2)
    clear ho2 ho3 ht3 ht2 hnc3 hc3 hb2 hb3
    obtain ⟨W, hW⟩ : ∃ W, w3.drewN q = W := ⟨_, rfl⟩
    rw [hW] at HBW HT2 ⊢
    clear hW
    have HLEN := Lib.hid (fun w => len_enc v w hv)
    by_cases hs : v < 9223372036854775808
    · have t1 : decide ((9223372036854775807 : Int) < (v : Int)) = false := by simp; omega
      have hn1 : 1 ≤ (Uv.enc v).length := by rw [Uv.enc_length v hs]; exact Uv.len_pos v
      have hn9 : (Uv.enc v).length ≤ 9 := by rw [Uv.enc_length v hs]; exact Uv.len_small v hs
      have HGOT := Lib.hid (Uv.got_enc v zs hs)
      rw [← Uv.enc_length v hs] at HGOT
      have hem := Uv.enc_mem v
      generalize Uv.enc v = es at *
      have HEM := Lib.hid hem; clear hem
      generalize hn : es.length = n at *
      clear hn
      go_wp2_with (first
        | (go_at_call 13; refine (HLEN.out _).mono ?_; rintro e w' ⟨rfl, rfl⟩)
        | (at_builtin; refine wpList_append_bts rfl (.tmp 34) (.tmp 35) rfl W.heap.size _ 0 [] rfl (lit_own W) A2 n c2 es rfl (HT2.out.alloc _) HNIL2.out (by omega) (by simp) ?_; intro v5 w5 ho5 hg5; rw [List.nil_append, Nat.zero_add] at ho5; have HB5 := Lib.hid (own_grown_below (lit_own W) ((Below.refl W.heap.size W).alloc (Nat.le_refl _) _) (Nat.le_refl _) hg5); clear hg5)
        | (at_builtin; refine wpList_append_bts rfl (.tmp 36) (.tmp 37) rfl W.heap.size _ n es rfl ho5 a1 len1 cap1 zs rfl ((HZ.out.below HBW.out).below HB5.out) HNIL.out (by omega) HB5.out.size ?_; intro v6 w6 ho6 hg6; have HB6 := Lib.hid (own_grown_below ho5 HB5.out (Nat.le_refl _) hg6); clear hg6; obtain ⟨A6, c6, rfl, hnc6, hc6, ht6⟩ := own_form ho6 (mem_append_bd HEM.out HZ.out.bd); clear ho6; have HT6 := Lib.hid ht6; clear ht6; have HC6 := Lib.hid hc6; clear hc6)
        | (go_at_call 14; refine (get_at _ _ _ (es ++ zs) _ _ _ _ HGOT.out hnc6 HC6.out HT6.out).mono ?_; rintro e w' ⟨rfl, rfl⟩))
      go_ret
      exact ⟨rfl, HBW.out.trans (HB6.out.mono HBW.out.size)⟩
    · have t1 : decide ((9223372036854775807 : Int) < (v : Int)) = true := by simp; omega
      have e0 : (Uv.enc v).length = 0 := by rw [Uv.enc_big v hs]; rfl
      have HE := Lib.hid e0; clear e0
      go_wp2_with (go_at_call 13; refine (HLEN.out _).mono ?_; rintro e w' ⟨rfl, rfl⟩)
      go_ret
      exact ⟨by rw [HE.out]; rfl, HBW.out⟩
  · go_enter Try.func3, Try.ntmps3
    go_wp2_with fail
    refine (awake_any _).mono ?_
    rintro e w1 ⟨rfl, hb1⟩
    have HB1 := Lib.hid hb1; clear hb1
    go_wp2
    go_ret
    exact ⟨rfl, HB1.out⟩


/-! ### THE ROW's STEP: WRITTEN OUT: LEAVE IT -/
set_option maxRecDepth 100000 in
theorem lifted (os : Os) (started : os.Started) (H : Type) (enc : TypeId × Value → H) :
    ReturnsInHanded {} Try.checked os 3 .any (Rows.uvarPutsSpec.pre6 enc Try.prog Try.f3 Rows.uvarPutsRow.domain false) (Rows.uvarPutsSpec.post enc Try.prog Try.f3 false true false false) := by
  refine returnsInHanded_of_change (C := Try.checked) own started (by kernel_rfl) Try.func3
    (ChangeSpec.witness6 (enc := enc) (C := Try.checked) false ⟨#[], #[.int .u64 0, .slice none 0 0], []⟩ 8 (by kernel_rfl) (by kernel_rfl) (by kernel_rfl) (by kernel_rfl)) ?_
  intro W base args ds gs before hval0 hW hcnd _
  have hval : ∀ (j : Nat) t v, Try.f3.params[j]? = some t → args[j]? = some v → Value.okWide Try.prog W .any base t v := hval0
  have hW' := hW
  obtain ⟨p, q, hA0, hV, rfl, hfz, hnd⟩ := hW
  have hA : DataW.TrodAll enc Try.prog W 0 (fun _ => true) true Try.f3.params.toList args.toList ds p := hA0
  rw [Try.params3] at hA hval
  obtain ⟨v0, vs0, d0, ds0, p0, q0, hargs, rfl, rfl, h0, r0⟩ := trodAll_cons hA
  obtain ⟨v1, vs1, d1, ds1, p1, q1, rfl, rfl, rfl, h1, r1⟩ := trodAll_cons r0
  obtain ⟨rfl, rfl, rfl⟩ := trodAll_nil r1
  obtain rfl : args = #[v0, v1] := by cases args; simp_all
  obtain ⟨rfl, rfl⟩ := trodVars_none hV
  obtain ⟨a0, rfl, rfl, rfl, w0⟩ := open_int Try.underlying22 (hval 0 22 v0 rfl rfl) h0
  obtain ⟨a1, len1, cap1, rfl⟩ := okWide_slice Try.underlying23 (hval 1 23 v1 rfl rfl)
  have k1 := h1
  have lt1 : ∀ x ∈ p1, x.block < W.heap.size := by obtain ⟨m, hm⟩ := k1; exact DataW.trod_lt m _ _ _ hm
  obtain ⟨z1, w1⟩ : ∃ zs, IsRow .u8 W a1 len1 cap1 zs := by
    obtain ⟨fuel, hf⟩ := h1
    rcases open_ints Try.underlying23 Try.underlying5 (by kernel_rfl) hf with ⟨hcs, _⟩ | ⟨x, l, c, zs, hcs, _, hl, hm, hz, _, hcell, hwz⟩
    · simp [Value.cells] at hcs
      obtain ⟨rfl, rfl, rfl⟩ := hcs
      exact ⟨[], .inl ⟨rfl, rfl, rfl, rfl⟩⟩
    · simp [Value.cells] at hcs
      obtain ⟨rfl, rfl, rfl⟩ := hcs
      exact ⟨zs, .inr ⟨_, rfl, hl, hm, by simpa using hz, hcell, hwz⟩⟩
  clear hA0 hval0
  refine (walk a0 a1 len1 cap1 z1 W w0 w1).mono fun e W' ⟨he, bel⟩ => ?_
  subst he
  exact ⟨_, rfl, _, _, _, [], _, [], hW', trodAll_mk1 (shut_bool Try.underlying4 _), (trodAll_cons_mk (shut_int Try.underlying22 w0) (trodAll_cons_mk (Below.trod laidOut (by kernel_rfl) (of_decide_eq_true (by kernel_rfl)) k1 bel lt1) trodAll_mk0)), rfl, bel.frame _, fun h => by cases h⟩

theorem over : Rows.uvarPutsRow.holds Try.pinned (OpenSpec.ofChange Rows.uvarPutsSpec) :=
  OpenClaim.holds_of_wide 3 Try.f3 rfl rfl rfl rfl rfl rfl rfl ⟨rfl, rfl, rfl, rfl, rfl⟩ rfl rfl rfl rfl rfl (by kernel_rfl) Try.func3 (by kernel_rfl)
    (of_decide_eq_true (by kernel_rfl)) (by unfold Func.isWrapper; first | (rw [if_pos (by decide +kernel)]; kernel_rfl) | (rw [if_neg (by decide +kernel)]; exact ⟨rfl, rfl⟩))
    (fun os started H enc _ => lifted os started H enc)

/-- ████ THE STATEMENT ████ -/
theorem proved : Rows.UvarPutsSaid := over
#print axioms proved
end Go.Proofs.Ythdbakeafmfmpaa.uvarPuts
