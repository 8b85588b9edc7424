/-
  The statement UvarCut holds: a number cut off is too short, whatever its bytes; with a needless byte behind it isn't one. Conditions: none beyond the row's own.
-/
import Derived.Test.YthdbakeafmfmpaaWords
import Derived.WalkKit
import Derived.ProofKit
import Derived.OpenShut
import Derived.ShutString
import Derived.ChangeOld
import Derived.Below
namespace Go.Proofs.Ythdbakeafmfmpaa.uvarCut
open Go.ChangeShapes Go.WideShapes Go.ChangeAt Go.RowKit
open Go.ChangeMaps (open_string shut_string)
set_option linter.unusedVariables false      -- a walk need not use every 'w<i>' (that an integer argument fits its kind)

theorem own : ownKnob Try.prog.godebug = none := by kernel_rfl

theorem cut_short {v r : Nat} (hv : v < 9223372036854775808) (hr : r < Uv.len v) : Uv.got ((Uv.enc v).take r) = (0, 0, 2) := by
  have h9 := Uv.len_small v hv
  have hl := Uv.enc_length v hv
  have hlen : ((Uv.enc v).take r).length = r := by simp; omega
  refine Uv.got_short _ (by omega) fun i hi => ?_
  have := Uv.enc_hi v i hv (by omega)
  have e : ((Uv.enc v).take r).getD i 0 = (Uv.enc v).getD i 0 := by simp [List.getD, show i < r by omega]
  omega
/-- the bytes with the last one turned, and a needless one behind -/
def long (v : Nat) : List Int := (Uv.enc v).set (Uv.len v - 1) ((Uv.enc v).getD (Uv.len v - 1) 0 % 128 + 128) ++ [0]
theorem long_hi {v i : Nat} (hv : v < 9223372036854775808) (hi : i < Uv.len v) : 127 < (long v).getD i 0 := by
  have hl := Uv.enc_length v hv
  unfold long
  have e : ((Uv.enc v).set (Uv.len v - 1) ((Uv.enc v).getD (Uv.len v - 1) 0 % 128 + 128) ++ [0]).getD i 0 = ((Uv.enc v).set (Uv.len v - 1) ((Uv.enc v).getD (Uv.len v - 1) 0 % 128 + 128)).getD i 0 := by
    simp [List.getD, List.getElem?_append_left (show i < ((Uv.enc v).set (Uv.len v - 1) ((Uv.enc v)[Uv.len v - 1]?.getD 0 % 128 + 128)).length by simp; omega)]
  rw [e]
  generalize (Uv.enc v).getD (Uv.len v - 1) 0 = z
  by_cases h : i = Uv.len v - 1
  · subst h
    have : ((Uv.enc v).set (Uv.len v - 1) (z % 128 + 128)).getD (Uv.len v - 1) 0 = z % 128 + 128 := by
      simp [List.getD, show Uv.len v - 1 < (Uv.enc v).length by omega]
    omega
  · have h2 := Uv.enc_hi v i hv (by omega)
    have : ((Uv.enc v).set (Uv.len v - 1) (z % 128 + 128)).getD i 0 = (Uv.enc v).getD i 0 := by
      simp [List.getD, List.getElem?_set_ne (show Uv.len v - 1 ≠ i by omega)]
    omega
theorem long_length {v : Nat} (hv : v < 9223372036854775808) : (long v).length = Uv.len v + 1 := by
  simp [long, Uv.enc_length v hv]
theorem long_last {v : Nat} (hv : v < 9223372036854775808) : (long v).getD (Uv.len v) 0 = 0 := by
  have hl := Uv.enc_length v hv
  simp [long, List.getD, ← hl]
theorem long_got {v : Nat} (hv : v < 9223372036854775808) : Uv.got (long v) = (0, 0, if Uv.len v = 9 then 4 else 3) := by
  have p := Uv.len_pos v
  have q := Uv.len_small v hv
  have hl := long_length hv
  by_cases h : Uv.len v = 9
  · rw [if_pos h]
    exact Uv.got_limit _ (by omega) fun i hi => long_hi hv (by omega)
  · rw [if_neg h]
    exact Uv.got_bad _ (Uv.len v) (by omega) (by omega) (fun i hi => long_hi hv hi) (long_last hv) (by omega)
theorem long_mem (v : Nat) : ∀ z ∈ long v, 0 ≤ z ∧ z ≤ 255 := by
  intro z hz
  unfold long at hz
  rcases List.mem_append.1 hz with h | h
  · rcases List.mem_or_eq_of_mem_set h with h | h
    · exact Uv.enc_mem v z h
    · omega
  · simp at h; omega
set_option maxHeartbeats 2000000 in
theorem walk (a0 : Int) (a1 : Int) (w0 : (Lit.int .u64 a0).wf = true) (w1 : (Lit.int .u8 a1).wf = true) (w : World) :
    Calls Try.prog 7 #[.int .u64 a0, .int .u8 a1] w fun e w' => e = .returned (.bool true) ∧ Below w.heap.size w w' := by
  obtain ⟨p0, p1⟩ := bounds_u64 w0
  obtain ⟨q0, q1⟩ := bounds_u8 w1
  obtain ⟨v, rfl⟩ := Int.eq_ofNat_of_zero_le p0
  obtain ⟨t, rfl⟩ := Int.eq_ofNat_of_zero_le q0
  clear w0 w1 p0 q0
  by_cases hv : v < 9223372036854775808
  · have t1 : decide ((9223372036854775807 : Int) < (v : Int)) = false := by simp; omega
    go_enter Try.func7, Try.ntmps7
    go_wp2_with fail
    refine (awake_any _).mono ?_
    rintro e w1 ⟨rfl, hb1⟩
    have HB1 := Lib.hid hb1; clear hb1
    go_wp2_with fail
    refine (put_any v _ (by omega)).mono ?_
    rintro e W ⟨r2, rfl, ho2, hb2⟩
    obtain ⟨A2, c2, rfl, hnc2, hc2, ht2⟩ := own_form ho2 (Uv.enc_mem v)
    have hl1 := Uv.len_pos v
    have hl9 := Uv.len_small v hv
    have HSH := Lib.hid (fun r h => cut_short (r := r) hv h)
    have HLO := Lib.hid (long_got hv)
    have HGO := Lib.hid (Uv.got_enc v [] hv)
    rw [List.append_nil] at HGO
    have HBW := Lib.hid (HB1.out.trans (hb2.mono HB1.out.size))
    have HNIL := Lib.hid (own_nil ho2)
    have HT := Lib.hid ht2
    have hlen := Uv.enc_length v hv
    rw [hlen] at hnc2 HNIL HT ⊢
    have HLL := Lib.hid (show long v = (Uv.enc v).set (Uv.len v - 1) ((Uv.enc v).getD (Uv.len v - 1) 0 % 128 + 128) ++ [0] from rfl)
    clear ho2 hb2 ht2 hlen
    generalize hn : Uv.len v = n at *
    have HN := Lib.hid hn; clear hn
    obtain ⟨r, hr, hrn⟩ : ∃ r, t % n = r ∧ r < n := ⟨_, rfl, Nat.mod_lt _ (by omega)⟩
    have e1 : ((t : Int) % (n : Int)) = (r : Int) := by rw [← hr]; simp
    have HR := Lib.hid hr; clear hr
    go_wp2_with fail
    refine (get_at A2 r c2 ((Uv.enc v).take r) W 0 0 2 (HSH.out r hrn) (by omega) hc2 (HT.out.cut (by omega))).mono ?_
    rintro e w' ⟨rfl, rfl⟩
    obtain ⟨m, hm⟩ : ∃ m, n - 1 = m := ⟨_, rfl⟩
    have hmn : m < n := by omega
    rw [hm] at HLL
    have hem := Uv.enc_mem v
    have HPUT := Lib.hid (fun w => ref_put_any v w)
    have hel := Uv.enc_length v hv
    rw [HN.out] at hel
    rw [hel] at HPUT
    generalize Uv.enc v = es at *
    have HEL := Lib.hid hel; clear hel
    have HEM := Lib.hid hem; clear hem
    obtain ⟨hz0, hz1⟩ := getD_bd HEM.out m
    obtain ⟨z, hz⟩ : ∃ z, es.getD m 0 = z := ⟨_, rfl⟩
    rw [hz] at hz0 hz1 HLL
    have HZ := Lib.hid hz; clear hz
    have e2 := Uv.or128 z hz0 hz1
    have HC2 := Lib.hid hc2; clear hc2
    obtain ⟨k9, hk9⟩ : ∃ k : Int, k = if n = 9 then 4 else 3 := ⟨_, rfl⟩
    rw [← hk9] at HLO
    have hor : (k9 == 3) = true ∨ (((n : Int) == 9) = true ∧ (k9 == 3) = false ∧ (k9 == 4) = true) := by
      by_cases h : n = 9
      · rw [if_pos h] at hk9; right; subst hk9; simp [h]
      · rw [if_neg h] at hk9; left; subst hk9; simp
    clear hk9
    rcases hor with h3 | ⟨h9, h3, h4⟩
    all_goals
      go_wp2_with (first
        | (at_builtin; refine wpList_append_bts rfl (.tmp 36) (.tmp 37) rfl W.heap.size _ 0 [] rfl (lit_own W) A2 n c2 es rfl (HT.out.alloc _) HNIL.out (by omega) (by simp) ?_; intro v5 w5 ho5 hg5; rw [List.nil_append, Nat.zero_add] at ho5; have HB5 := Lib.hid (own_grown_below (lit_own W) ((Below.refl W.heap.size W).alloc (Nat.le_refl _) _) (Nat.le_refl _) hg5); clear hg5; obtain ⟨g5, c5, rfl, hg5, hnc5, hc5⟩ := own_some ho5 (by omega); have hcell := ho5.cellAt m (by omega); rw [B_at es m (by have := HEL.out; omega), HZ.out] at hcell; have hfr := ho5.frozenAt m; have HST := Lib.hid (stored_own ho5 m (z % 128 + 128)); clear ho5; have HC5 := Lib.hid hc5; clear hc5)
        | (at_builtin; refine wpList_append_bts rfl (.tmp 51) (.tmp 52) rfl W.heap.size _ n (es.set m (z % 128 + 128)) rfl (HST.out.alloc _) (some ⟨_, 0, none⟩) 1 1 [0] rfl (lit1' _ 0 (by omega) _ (by simp)) (by intro h; cases h) (by omega) (by have := HB5.out.size; simp; omega) ?_; intro v7 w7 ho7 hg7; rw [← HLL.out] at ho7; have HB7 := Lib.hid (own_grown_below (HST.out.alloc _) ((HB5.out.setCell (p := ⟨g5, m, none⟩) hg5 _).alloc (by have := HB5.out.size; simp; omega) _) (Nat.le_refl _) hg7); clear hg7 hcell hfr HST; obtain ⟨A7, c7, rfl, hnc7, hc7, ht7⟩ := own_form ho7 (long_mem v); clear ho7; have HT7 := Lib.hid ht7; clear ht7; have HC7 := Lib.hid hc7; clear hc7)
        | (go_at_call 14; refine (get_at A7 _ c7 (long v) _ 0 0 k9 HLO.out hnc7 HC7.out HT7.out).mono ?_; clear HLO HT7; rintro e w' ⟨rfl, rfl⟩)
        | (go_at_call 14; refine (get_at A2 n c2 es _ _ _ _ HGO.out hnc2 HC2.out (HT.out.below HB7.out)).mono ?_; rintro e w' ⟨rfl, rfl⟩)
        | (go_at_call 12; refine (HPUT.out _).mono ?_; rintro e w8 ⟨r8, rfl, ho8, hb8⟩; obtain ⟨A8, c8, rfl, hnc8, hc8, ht8⟩ := own_form ho8 HEM.out; clear ho8 hnc8 hc8; have HT8 := Lib.hid ht8; have HB8 := Lib.hid hb8; clear ht8 hb8)
        | (go_at_call 11; refine (same_self _ _ _ _ _ es _ (by unfold maxLen; omega) ((HT.out.below HB7.out).below HB8.out) HT8.out).mono ?_; rintro e w' ⟨rfl, q, rfl⟩))
      go_ret
      exact ⟨rfl, below_drewN' (HBW.out.trans ((HB7.out.mono HBW.out.size).trans (HB8.out.mono (Nat.le_trans HBW.out.size HB7.out.size)))) q⟩
  · have t1 : decide ((9223372036854775807 : Int) < (v : Int)) = true := by simp; omega
    go_enter Try.func7, Try.ntmps7
    go_wp2_with fail
    refine (awake_any _).mono ?_
    rintro e w1 ⟨rfl, hb1⟩
    have HB1 := Lib.hid hb1; clear hb1
    go_wp2
    go_ret
    exact ⟨rfl, HB1.out⟩


/-! ### THE ROW's STEP: WRITTEN OUT: LEAVE IT -/
set_option maxRecDepth 100000 in
theorem lifted (os : Os) (started : os.Started) (H : Type) (enc : TypeId × Value → H) :
    ReturnsInHanded {} Try.checked os 7 .any (Rows.uvarCutSpec.pre6 enc Try.prog Try.f7 Rows.uvarCutRow.domain false) (Rows.uvarCutSpec.post enc Try.prog Try.f7 false true false false) := by
  refine returnsInHanded_of_change (C := Try.checked) own started (by kernel_rfl) Try.func7
    (ChangeSpec.witness6 (enc := enc) (C := Try.checked) false ⟨#[], #[.int .u64 0, .int .u8 0], []⟩ 8 (by kernel_rfl) (by kernel_rfl) (by kernel_rfl) (by kernel_rfl)) ?_
  intro W base args ds gs before hval0 hW hcnd _
  have hval : ∀ (j : Nat) t v, Try.f7.params[j]? = some t → args[j]? = some v → Value.okWide Try.prog W .any base t v := hval0
  have hW' := hW
  obtain ⟨p, q, hA0, hV, rfl, hfz, hnd⟩ := hW
  have hA : DataW.TrodAll enc Try.prog W 0 (fun _ => true) true Try.f7.params.toList args.toList ds p := hA0
  rw [Try.params7] at hA hval
  obtain ⟨v0, vs0, d0, ds0, p0, q0, hargs, rfl, rfl, h0, r0⟩ := trodAll_cons hA
  obtain ⟨v1, vs1, d1, ds1, p1, q1, rfl, rfl, rfl, h1, r1⟩ := trodAll_cons r0
  obtain ⟨rfl, rfl, rfl⟩ := trodAll_nil r1
  obtain rfl : args = #[v0, v1] := by cases args; simp_all
  obtain ⟨rfl, rfl⟩ := trodVars_none hV
  obtain ⟨a0, rfl, rfl, rfl, w0⟩ := open_int Try.underlying22 (hval 0 22 v0 rfl rfl) h0
  obtain ⟨a1, rfl, rfl, rfl, w1⟩ := open_int Try.underlying5 (hval 1 5 v1 rfl rfl) h1
  clear hA0 hval0
  refine (walk a0 a1 w0 w1 W).mono fun e W' ⟨he, bel⟩ => ?_
  subst he
  exact ⟨_, rfl, _, _, _, [], _, [], hW', trodAll_mk1 (shut_bool Try.underlying4 _), (trodAll_cons_mk (shut_int Try.underlying22 w0) (trodAll_cons_mk (shut_int Try.underlying5 w1) trodAll_mk0)), rfl, bel.frame _, fun h => by cases h⟩

theorem over : Rows.uvarCutRow.holds Try.pinned (OpenSpec.ofChange Rows.uvarCutSpec) :=
  OpenClaim.holds_of_wide 7 Try.f7 rfl rfl rfl rfl rfl rfl rfl ⟨rfl, rfl, rfl, rfl, rfl⟩ rfl rfl rfl rfl rfl (by kernel_rfl) Try.func7 (by kernel_rfl)
    (of_decide_eq_true (by kernel_rfl)) (by unfold Func.isWrapper; first | (rw [if_pos (by decide +kernel)]; kernel_rfl) | (rw [if_neg (by decide +kernel)]; exact ⟨rfl, rfl⟩))
    (fun os started H enc _ => lifted os started H enc)

/-- ████ THE STATEMENT ████ -/
theorem proved : Rows.UvarCutSaid :=
  over
#print axioms proved
end Go.Proofs.Ythdbakeafmfmpaa.uvarCut
