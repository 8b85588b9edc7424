/-
  The statement FrameOne holds: a frame has as many bytes as its row and one or two more, it is got whatever stands behind it, and the row that is got may be written over. Conditions: none beyond the row's own.
-/
import Derived.Test.YtadbidgikgffhaaAwake
import Derived.Test.YtadbidgikgffhaaRowsIn
import Derived.Test.YtadbidgikgffhaaRows
import Derived.WalkKit
import Derived.ProofKit
import Derived.OpenShut
import Derived.ShutString
import Derived.ChangeOld
import Derived.Below
namespace Go.Proofs.Ytadbidgikgffhaa.frameOne
open Go.ChangeShapes Go.WideShapes Go.ChangeAt Go.RowKit
open Go.ChangeMaps (open_string shut_string)
set_option linter.unusedVariables false

theorem own : ownKnob Try.prog.godebug = none := by kernel_rfl
theorem laidOut : laidOutB Try.prog = true := by kernel_rfl

theorem set_bd {xs : List Int} {k : Nat} {z : Int} (h : ∀ z ∈ xs, 0 ≤ z ∧ z ≤ 255) (hz : 0 ≤ z ∧ z ≤ 255) : ∀ y ∈ xs.set k z, 0 ≤ y ∧ y ≤ 255 := by
  intro y hy
  rcases List.mem_or_eq_of_mem_set hy with h' | rfl
  · exact h y h'
  · exact hz
theorem fget_put (A : Option Addr) (n c : Nat) (r m : List Int) (w : World) (h : Bts w A n (Fr.put r ++ m)) (hr : r.length ≤ 1200) (hnc : n ≤ c) (hc : c ≤ maxLen) :
    Calls Try.prog 9 #[.slice A n c] w fun e w' => ∃ v, e = .returned (.tuple #[v, .int .i64 ((Fr.put r).length : Nat), .int .i64 0]) ∧ w'.ownsRow w.heap.size 5 1 v r.length (B r) ∧ Below w.heap.size w w' := by
  refine (fget_any A n c _ w h hnc hc).mono ?_
  rintro e w' ⟨v, rfl, ho, hb⟩
  rw [Fr.put_row r m hr] at ho
  exact ⟨v, by unfold ftup; rw [Fr.put_size r m hr, Fr.put_code r m hr], ho, hb⟩

set_option maxRecDepth 100000 in
set_option maxHeartbeats 4000000 in
theorem walk (a0 : Option Addr) (len0 cap0 : Nat) (z0 : List Int) (a1 : Option Addr) (len1 cap1 : Nat) (z1 : List Int) (w : World) (w0 : IsRow .u8 w a0 len0 cap0 z0) (w1 : IsRow .u8 w a1 len1 cap1 z1) :
    Calls Try.prog 5 #[.slice a0 len0 cap0, .slice a1 len1 cap1] w fun e w' => e = .returned (.bool true) ∧ Below w.heap.size w w' := by
  obtain ⟨hb0, hc0, hm0⟩ := bts_of_row w0
  obtain ⟨hb1, hc1, hm1⟩ := bts_of_row w1
  have HN0 := Lib.hid (nil_of_row w0)
  have HN1 := Lib.hid (nil_of_row w1)
  have HC0 := Lib.hid hm0
  unfold maxLen at hm0 hm1
  clear w0 w1
  generalize z0.take len0 = r at *
  generalize z1.take len1 = m at *
  by_cases hbig : len0 ≤ 1200 ∧ len1 ≤ 1200
  · obtain ⟨hs0, hs1⟩ := hbig
    have HR := Lib.hid hb0; have HM := Lib.hid hb1
    have hrl := hb0.len
    have HPL := Lib.hid (Fr.put_le r (by omega))
    have HBD := Lib.hid (put_bd hb0.bd)
    have HRB := Lib.hid hb0.bd
    have HPN : Hid (len0 ≤ 127 → (Fr.put r).length = len0 + 1) := Lib.hid (fun h => by rw [Fr.put_len r (by omega), Fr.len_one _ (by omega)]; omega)
    have HPN2 : Hid (127 < len0 → (Fr.put r).length = len0 + 2) := Lib.hid (fun h => by rw [Fr.put_len r (by omega), Fr.len_two _ (by omega) (by omega)]; omega)
    have HGP := Lib.hid (fun A n c m w h hnc hc => fget_put A n c r m w h (by omega) hnc hc)
    have HRL := Lib.hid hrl
    obtain ⟨q, hq⟩ : ∃ q, (Fr.put r).length = q := ⟨_, rfl⟩
    rw [hq] at HPL HPN HPN2 HGP
    have hq1 := HPL.out.1
    have HQ := Lib.hid hq
    have HFP := Lib.hid (fput_ok a0 len0 cap0 r)
    rw [hq] at HFP
    clear hb0 hb1 hrl HPL hq
    generalize Fr.put r = pr at *
    by_cases hl : len0 ≤ 127
    · have hq2 := HPN.out hl
      subst hq2
      clear HPN HPN2
      go_enter Try.func5, Try.ntmps5
      go_wp2_with fail
      refine (awake_any _).mono ?_
      rintro e w2 ⟨rfl, hb2⟩
      have HB2 := Lib.hid hb2; clear hb2
      go_wp2_with fail
      refine (HFP.out w2 (HR.out.below HB2.out) HN0.out hs0).mono ?_
      rintro e w3 ⟨v3, rfl, ho3, hb3⟩
      obtain ⟨A3, c3, rfl, hnc3, hc3, hbt3⟩ := own_form ho3 HBD.out
      have HN3 := Lib.hid (own_nil ho3); have HBT3 := Lib.hid hbt3; have HB3 := Lib.hid hb3; clear hb3 hbt3 ho3
      have HC3 := Lib.hid hc3
      have HM3 := Lib.hid ((HM.out.below HB2.out).below HB3.out)
      go_wp2_with (first
        | (at_builtin; refine wpList_append_bts rfl (.tmp 39) (.tmp 40) rfl w3.heap.size _ 0 [] rfl (lit_own w3) A3 (len0 + 1) c3 pr rfl (HBT3.out.alloc _) HN3.out (by omega) (by simp) ?_; intro v5 w5 ho5 hg5; rw [List.nil_append, Nat.zero_add] at ho5; have HB5 := Lib.hid (own_grown_below (lit_own w3) ((Below.refl w3.heap.size w3).alloc (Nat.le_refl _) _) (Nat.le_refl _) hg5); have HO5 := Lib.hid ho5; clear hg5 ho5)
        | (at_builtin; refine wpList_append_bts rfl (.tmp 41) (.tmp 42) rfl w3.heap.size _ (len0 + 1) pr rfl HO5.out a1 len1 cap1 m rfl (HM3.out.below HB5.out) HN1.out (by omega) HB5.out.size ?_; intro v6 w6 ho6 hg6; have HB6 := Lib.hid (own_grown_below HO5.out HB5.out (Nat.le_refl _) hg6); obtain ⟨A6, c6, rfl, hnc6, hc6, hbt6⟩ := own_form ho6 (mem_append_bd HBD.out HM.out.bd); have HBT6 := Lib.hid hbt6; have HC6 := Lib.hid hc6; clear hg6 ho6 hbt6)
        | (go_at_call 9; refine (HGP.out _ _ _ _ _ HBT6.out hnc6 HC6.out).mono ?_; rintro e w7 ⟨v7, rfl, ho7, hb7⟩; have hl7 := HRL.out; rw [hl7] at ho7; obtain ⟨A7, c7, rfl, hnc7, hc7, hbt7⟩ := own_form ho7 HRB.out; have HB7 := Lib.hid hb7; have HBT7 := Lib.hid hbt7; have HO7 := Lib.hid ho7; have HR7 := Lib.hid ((((HR.out.below HB2.out).below HB3.out).below HB6.out).below hb7); clear hb7 hbt7 ho7 hl7)
        | (go_at_call 13; refine (same_self _ _ _ _ _ _ _ (Nat.le_trans hc0 HC0.out) HBT7.out HR7.out).mono ?_; rintro e w8 ⟨rfl, q8, rfl⟩))
      have hsz7 := HB7.out.size
      go_loopw [11] (fun p wr => ∃ (k : Nat) (ys : List Int), p = .int .i64 (k : Int) ∧ k ≤ len0 ∧ ys.length = len0 ∧ (∀ z ∈ ys, 0 ≤ z ∧ z ≤ 255) ∧ wr.ownsRow w6.heap.size 5 1 (.slice A7 len0 c7) len0 (B ys) ∧ Below w6.heap.size w6 wr) (fun p _ => len0 - (intOf p).toNat)
      case atStart => exact ⟨0, r, rfl, by omega, HRL.out, HRB.out, HO7.out, below_drewN' HB7.out _⟩
      case round =>
        obtain ⟨k, ys, rfl, hk, hyl, hyb, hown, hbel⟩ := hrel
        have HYL := Lib.hid hyl; have HYB := Lib.hid hyb; have HOW := Lib.hid hown; have HBE := Lib.hid hbel
        clear hyl hyb hown hbel
        by_cases hkn : k < len0
        · obtain ⟨g, c', e7, _, _, _⟩ := own_some HOW.out (by omega)
          obtain ⟨rfl, rfl⟩ : A7 = some ⟨g, 0, none⟩ ∧ c7 = c' := by simpa using e7
          clear e7
          have hcell := HOW.out.cellAt k (by omega)
          have hfr := HOW.out.frozenAt k
          have HST := Lib.hid (stored_own HOW.out k)
          rw [B_at ys k (by have := HYL.out; omega)] at hcell
          have hz := getD_bd HYB.out k
          have HY : Hid (∀ x, ys.getD k 0 = x → True) := Lib.hid (fun _ _ => trivial)
          generalize ys.getD k 0 = z at *
          obtain ⟨hz0, hz1⟩ := hz
          go_wp2
          have HBK := Lib.hid (HBE.out.setCell (p := ⟨g, k, none⟩) (HOW.out.lt g rfl).1 (.int .u8 ((z + 1) % 256)))
          go_roundw
          case rel => exact ⟨k + 1, ys.set k ((z + 1) % 256), by go_num, by omega, by simpa using HYL.out, set_bd HYB.out (by omega), HST.out _, HBK.out⟩
          case measure => simp [intOf]; omega
        · have HBT8 := Lib.hid ((HBT3.out.below HB6.out).below HBE.out)
          have HR8 := Lib.hid ((((HR.out.below HB2.out).below HB3.out).below HB6.out).below HBE.out)
          have HF2 := Lib.hid (HGP.out A3 (len0 + 1) c3 [] wr (by rw [List.append_nil]; exact HBT8.out) hnc3 HC3.out)
          have HBW : Hid (Below w.heap.size w wr) := Lib.hid (by
            have h2 := HB2.out.trans (HB3.out.mono HB2.out.size)
            have h3 := h2.trans (HB6.out.mono h2.size)
            exact h3.trans (HBE.out.mono h3.size))
          go_wp2_with (first
            | (go_at_call 9; refine HF2.out.mono ?_; rintro e w9 ⟨v9, rfl, ho9, hb9⟩; have hl9 := HRL.out; rw [hl9] at ho9; obtain ⟨A9, c9, rfl, hnc9, hc9, hbt9⟩ := own_form ho9 HRB.out; have HB9 := Lib.hid hb9; have HBT9 := Lib.hid hbt9; have HR9 := Lib.hid (HR8.out.below hb9); clear hb9 hbt9 ho9 hl9)
            | (go_at_call 13; refine (same_self _ _ _ _ _ _ _ (Nat.le_trans hc0 HC0.out) HBT9.out HR9.out).mono ?_; rintro e w10 ⟨rfl, q10, rfl⟩))
          go_ret
          exact ⟨rfl, below_drewN' (HBW.out.trans (HB9.out.mono HBW.out.size)) _⟩
    · have hq2 := HPN2.out (by omega)
      subst hq2
      have hl2 : 127 < len0 := by omega
      clear HPN HPN2 hl
      go_enter Try.func5, Try.ntmps5
      go_wp2_with fail
      refine (awake_any _).mono ?_
      rintro e w2 ⟨rfl, hb2⟩
      have HB2 := Lib.hid hb2; clear hb2
      go_wp2_with fail
      refine (HFP.out w2 (HR.out.below HB2.out) HN0.out hs0).mono ?_
      rintro e w3 ⟨v3, rfl, ho3, hb3⟩
      obtain ⟨A3, c3, rfl, hnc3, hc3, hbt3⟩ := own_form ho3 HBD.out
      have HN3 := Lib.hid (own_nil ho3); have HBT3 := Lib.hid hbt3; have HB3 := Lib.hid hb3; clear hb3 hbt3 ho3
      have HC3 := Lib.hid hc3
      have HM3 := Lib.hid ((HM.out.below HB2.out).below HB3.out)
      go_wp2_with (first
        | (at_builtin; refine wpList_append_bts rfl (.tmp 39) (.tmp 40) rfl w3.heap.size _ 0 [] rfl (lit_own w3) A3 (len0 + 2) c3 pr rfl (HBT3.out.alloc _) HN3.out (by omega) (by simp) ?_; intro v5 w5 ho5 hg5; rw [List.nil_append, Nat.zero_add] at ho5; have HB5 := Lib.hid (own_grown_below (lit_own w3) ((Below.refl w3.heap.size w3).alloc (Nat.le_refl _) _) (Nat.le_refl _) hg5); have HO5 := Lib.hid ho5; clear hg5 ho5)
        | (at_builtin; refine wpList_append_bts rfl (.tmp 41) (.tmp 42) rfl w3.heap.size _ (len0 + 2) pr rfl HO5.out a1 len1 cap1 m rfl (HM3.out.below HB5.out) HN1.out (by omega) HB5.out.size ?_; intro v6 w6 ho6 hg6; have HB6 := Lib.hid (own_grown_below HO5.out HB5.out (Nat.le_refl _) hg6); obtain ⟨A6, c6, rfl, hnc6, hc6, hbt6⟩ := own_form ho6 (mem_append_bd HBD.out HM.out.bd); have HBT6 := Lib.hid hbt6; have HC6 := Lib.hid hc6; clear hg6 ho6 hbt6)
        | (go_at_call 9; refine (HGP.out _ _ _ _ _ HBT6.out hnc6 HC6.out).mono ?_; rintro e w7 ⟨v7, rfl, ho7, hb7⟩; have hl7 := HRL.out; rw [hl7] at ho7; obtain ⟨A7, c7, rfl, hnc7, hc7, hbt7⟩ := own_form ho7 HRB.out; have HB7 := Lib.hid hb7; have HBT7 := Lib.hid hbt7; have HO7 := Lib.hid ho7; have HR7 := Lib.hid ((((HR.out.below HB2.out).below HB3.out).below HB6.out).below hb7); clear hb7 hbt7 ho7 hl7)
        | (go_at_call 13; refine (same_self _ _ _ _ _ _ _ (Nat.le_trans hc0 HC0.out) HBT7.out HR7.out).mono ?_; rintro e w8 ⟨rfl, q8, rfl⟩))
      have hsz7 := HB7.out.size
      go_loopw [11] (fun p wr => ∃ (k : Nat) (ys : List Int), p = .int .i64 (k : Int) ∧ k ≤ len0 ∧ ys.length = len0 ∧ (∀ z ∈ ys, 0 ≤ z ∧ z ≤ 255) ∧ wr.ownsRow w6.heap.size 5 1 (.slice A7 len0 c7) len0 (B ys) ∧ Below w6.heap.size w6 wr) (fun p _ => len0 - (intOf p).toNat)
      case atStart => exact ⟨0, r, rfl, by omega, HRL.out, HRB.out, HO7.out, below_drewN' HB7.out _⟩
      case round =>
        obtain ⟨k, ys, rfl, hk, hyl, hyb, hown, hbel⟩ := hrel
        have HYL := Lib.hid hyl; have HYB := Lib.hid hyb; have HOW := Lib.hid hown; have HBE := Lib.hid hbel
        clear hyl hyb hown hbel
        by_cases hkn : k < len0
        · obtain ⟨g, c', e7, _, _, _⟩ := own_some HOW.out (by omega)
          obtain ⟨rfl, rfl⟩ : A7 = some ⟨g, 0, none⟩ ∧ c7 = c' := by simpa using e7
          clear e7
          have hcell := HOW.out.cellAt k (by omega)
          have hfr := HOW.out.frozenAt k
          have HST := Lib.hid (stored_own HOW.out k)
          rw [B_at ys k (by have := HYL.out; omega)] at hcell
          have hz := getD_bd HYB.out k
          have HY : Hid (∀ x, ys.getD k 0 = x → True) := Lib.hid (fun _ _ => trivial)
          generalize ys.getD k 0 = z at *
          obtain ⟨hz0, hz1⟩ := hz
          go_wp2
          have HBK := Lib.hid (HBE.out.setCell (p := ⟨g, k, none⟩) (HOW.out.lt g rfl).1 (.int .u8 ((z + 1) % 256)))
          go_roundw
          case rel => exact ⟨k + 1, ys.set k ((z + 1) % 256), by go_num, by omega, by simpa using HYL.out, set_bd HYB.out (by omega), HST.out _, HBK.out⟩
          case measure => simp [intOf]; omega
        · have HBT8 := Lib.hid ((HBT3.out.below HB6.out).below HBE.out)
          have HR8 := Lib.hid ((((HR.out.below HB2.out).below HB3.out).below HB6.out).below HBE.out)
          have HF2 := Lib.hid (HGP.out A3 (len0 + 2) c3 [] wr (by rw [List.append_nil]; exact HBT8.out) hnc3 HC3.out)
          have HBW : Hid (Below w.heap.size w wr) := Lib.hid (by
            have h2 := HB2.out.trans (HB3.out.mono HB2.out.size)
            have h3 := h2.trans (HB6.out.mono h2.size)
            exact h3.trans (HBE.out.mono h3.size))
          go_wp2_with (first
            | (go_at_call 9; refine HF2.out.mono ?_; rintro e w9 ⟨v9, rfl, ho9, hb9⟩; have hl9 := HRL.out; rw [hl9] at ho9; obtain ⟨A9, c9, rfl, hnc9, hc9, hbt9⟩ := own_form ho9 HRB.out; have HB9 := Lib.hid hb9; have HBT9 := Lib.hid hbt9; have HR9 := Lib.hid (HR8.out.below hb9); clear hb9 hbt9 ho9 hl9)
            | (go_at_call 13; refine (same_self _ _ _ _ _ _ _ (Nat.le_trans hc0 HC0.out) HBT9.out HR9.out).mono ?_; rintro e w10 ⟨rfl, q10, rfl⟩))
          go_ret
          exact ⟨rfl, below_drewN' (HBW.out.trans (HB9.out.mono HBW.out.size)) _⟩
  · by_cases hs0 : len0 ≤ 1200
    · have hs1 : 1200 < len1 := by omega
      clear hbig
      go_enter Try.func5, Try.ntmps5
      go_wp2_with (go_at_call 8; refine (awake_any _).mono ?_; rintro e w2 ⟨rfl, hb2⟩; have HB2 := Lib.hid hb2; clear hb2)
      go_ret
      exact ⟨rfl, HB2.out⟩
    · have hs1 : 1200 < len0 := by omega
      clear hbig hs0
      go_enter Try.func5, Try.ntmps5
      go_wp2_with (go_at_call 8; refine (awake_any _).mono ?_; rintro e w2 ⟨rfl, hb2⟩; have HB2 := Lib.hid hb2; clear hb2)
      go_ret
      exact ⟨rfl, HB2.out⟩

/-! ### THE ROW's STEP: WRITTEN OUT: LEAVE IT -/
set_option maxRecDepth 100000 in
theorem lifted (os : Os) (started : os.Started) (H : Type) (enc : TypeId × Value → H) :
    ReturnsInHanded {} Try.checked os 5 .any (Rows.frameOneSpec.pre6 enc Try.prog Try.f5 Rows.frameOneRow.domain false) (Rows.frameOneSpec.post enc Try.prog Try.f5 false true false false) := by
  refine returnsInHanded_of_change (C := Try.checked) own started (by kernel_rfl) Try.func5
    (ChangeSpec.witness6 (enc := enc) (C := Try.checked) false ⟨#[], #[.slice none 0 0, .slice none 0 0], []⟩ 8 (by kernel_rfl) (by kernel_rfl) (by kernel_rfl) (by kernel_rfl)) ?_
  intro W base args ds gs before hval0 hW hcnd _
  have hval : ∀ (j : Nat) t v, Try.f5.params[j]? = some t → args[j]? = some v → Value.okWide Try.prog W .any base t v := hval0
  have hW' := hW
  obtain ⟨p, q, hA0, hV, rfl, hfz, hnd⟩ := hW
  have hA : DataW.TrodAll enc Try.prog W 0 (fun _ => true) true Try.f5.params.toList args.toList ds p := hA0
  rw [Try.params5] at hA hval
  obtain ⟨v0, vs0, d0, ds0, p0, q0, hargs, rfl, rfl, h0, r0⟩ := trodAll_cons hA
  obtain ⟨v1, vs1, d1, ds1, p1, q1, rfl, rfl, rfl, h1, r1⟩ := trodAll_cons r0
  obtain ⟨rfl, rfl, rfl⟩ := trodAll_nil r1
  obtain rfl : args = #[v0, v1] := by cases args; simp_all
  obtain ⟨rfl, rfl⟩ := trodVars_none hV
  obtain ⟨a0, len0, cap0, rfl⟩ := okWide_slice Try.underlying22 (hval 0 22 v0 rfl rfl)
  have k0 := h0
  have lt0 : ∀ x ∈ p0, x.block < W.heap.size := by obtain ⟨m, hm⟩ := k0; exact DataW.trod_lt m _ _ _ hm
  obtain ⟨z0, w0⟩ : ∃ zs, IsRow .u8 W a0 len0 cap0 zs := by
    obtain ⟨fuel, hf⟩ := h0
    rcases open_ints Try.underlying22 Try.underlying5 (by kernel_rfl) hf with ⟨hcs, _⟩ | ⟨x, l, c, zs, hcs, _, hl, hm, hz, _, hcell, hwz⟩
    · simp [Value.cells] at hcs
      obtain ⟨rfl, rfl, rfl⟩ := hcs
      exact ⟨[], .inl ⟨rfl, rfl, rfl, rfl⟩⟩
    · simp [Value.cells] at hcs
      obtain ⟨rfl, rfl, rfl⟩ := hcs
      exact ⟨zs, .inr ⟨_, rfl, hl, hm, by simpa using hz, hcell, hwz⟩⟩
  obtain ⟨a1, len1, cap1, rfl⟩ := okWide_slice Try.underlying22 (hval 1 22 v1 rfl rfl)
  have k1 := h1
  have lt1 : ∀ x ∈ p1, x.block < W.heap.size := by obtain ⟨m, hm⟩ := k1; exact DataW.trod_lt m _ _ _ hm
  obtain ⟨z1, w1⟩ : ∃ zs, IsRow .u8 W a1 len1 cap1 zs := by
    obtain ⟨fuel, hf⟩ := h1
    rcases open_ints Try.underlying22 Try.underlying5 (by kernel_rfl) hf with ⟨hcs, _⟩ | ⟨x, l, c, zs, hcs, _, hl, hm, hz, _, hcell, hwz⟩
    · simp [Value.cells] at hcs
      obtain ⟨rfl, rfl, rfl⟩ := hcs
      exact ⟨[], .inl ⟨rfl, rfl, rfl, rfl⟩⟩
    · simp [Value.cells] at hcs
      obtain ⟨rfl, rfl, rfl⟩ := hcs
      exact ⟨zs, .inr ⟨_, rfl, hl, hm, by simpa using hz, hcell, hwz⟩⟩
  clear hA0 hval0
  refine (walk a0 len0 cap0 z0 a1 len1 cap1 z1 W w0 w1).mono fun e W' ⟨he, bel⟩ => ?_
  subst he
  exact ⟨_, rfl, _, _, _, [], _, [], hW', trodAll_mk1 (shut_bool Try.underlying4 _), (trodAll_cons_mk (Below.trod laidOut (by kernel_rfl) (of_decide_eq_true (by kernel_rfl)) k0 bel lt0) (trodAll_cons_mk (Below.trod laidOut (by kernel_rfl) (of_decide_eq_true (by kernel_rfl)) k1 bel lt1) trodAll_mk0)), rfl, bel.frame _, fun h => by cases h⟩

theorem over : Rows.frameOneRow.holds Try.pinned (OpenSpec.ofChange Rows.frameOneSpec) :=
  OpenClaim.holds_of_wide 5 Try.f5 rfl rfl rfl rfl rfl rfl rfl ⟨rfl, rfl, rfl, rfl, rfl⟩ rfl rfl rfl rfl rfl (by kernel_rfl) Try.func5 (by kernel_rfl)
    (of_decide_eq_true (by kernel_rfl)) (by unfold Func.isWrapper; first | (rw [if_pos (by decide +kernel)]; kernel_rfl) | (rw [if_neg (by decide +kernel)]; exact ⟨rfl, rfl⟩))
    (fun os started H enc _ => lifted os started H enc)

/-- ████ THE STATEMENT ████ -/
theorem proved : Rows.FrameOneSaid := over
#print axioms proved
end Go.Proofs.Ytadbidgikgffhaa.frameOne
