/-
  The statement FrameStops holds: as many rows are told as are asked for, and those behind a place where no frame is are not told. Conditions: none beyond the row's own.
-/
import Derived.Test.YtadbidgikgffhaaAll
import Derived.Test.YtadbidgikgffhaaAwake
import Derived.Test.YtadbidgikgffhaaRowsIn
import Derived.Test.YtadbidgikgffhaaRows
import Derived.WalkKit
import Derived.ProofKit
import Derived.OpenShut
import Derived.ShutString
import Derived.ChangeOld
import Derived.Below
namespace Go.Proofs.Ytadbidgikgffhaa.frameStops
open Go.ChangeShapes Go.WideShapes Go.ChangeAt Go.RowKit
open Go.ChangeMaps (open_string shut_string)
set_option linter.unusedVariables false

theorem own : ownKnob Try.prog.godebug = none := by kernel_rfl
theorem laidOut : laidOutB Try.prog = true := by kernel_rfl

open Go.Shelf
attribute [local go_sem] Oper.semAt_some

theorem Bts.but {A W : World} {b n : Nat} {Av : Option Addr} {zs : List Int} (h : Bts A Av n zs) (hg : A.grownBy W (some b)) (hb : 0 < n → ∀ ad, Av = some ad → ad.block ≠ b) : Bts W Av n zs := by
  obtain ⟨h1, h2, h3⟩ := h
  refine ⟨h1, h2, fun hn => ?_⟩
  obtain ⟨g, off, rfl, hlt, hc⟩ := h3 hn
  exact ⟨g, off, rfl, Nat.lt_of_lt_of_le hlt hg.size, fun j hj => (World.cell?_of_block (w := A) (a := ⟨g, off + j, none⟩) (hg.block g hlt (fun e => by injection e with e; exact hb hn _ rfl e))).trans (hc j hj)⟩
theorem grown_box {A W : World} {b g t : Nat} {v : Value} (h : A.grownBy W (some b)) (hc : Boxed A g t v) (hb : g ≠ b) : Boxed W g t v := hc.kept h (fun e => hb (by injection e))
theorem count_at (A : Option Addr) (m c : Nat) (zs : List Int) (w : World) (h : Bts w A m zs) (hmc : m ≤ c) (hc : c ≤ maxLen) (hm : m ≤ 1000000) {q : Nat} (hq : (Fr.rows zs).length = q) :
    Calls Try.prog 17 #[.slice A m c] w fun e w' => e = .returned (.int .i64 (q : Nat)) ∧ Below w.heap.size w w' :=
  (count_any A m c zs w h hmc hc hm).mono fun e w' h => ⟨by rw [h.1, hq], h.2⟩
theorem split_ok (A : Option Addr) (m c : Nat) (zs : List Int) (rss : List (List Int)) (w : World) (h : Bts w A m zs) (hmc : m ≤ c) (hc : c ≤ maxLen) (hm : m ≤ 1000000) (hs : Fr.stop zs = 0) (hr : Fr.rows zs = rss) :
    Calls Try.prog 14 #[.slice A m c] w fun e w' => ∃ A' c', e = .returned (.tuple #[.slice A' rss.length c', .int .i64 0]) ∧ Rs w' A' rss.length rss ∧ Below w.heap.size w w' := by
  refine (split_any A m c zs w h hmc hc hm).mono ?_
  rintro e w' ⟨v, rfl, ho, hb⟩
  rw [if_pos hs, hr] at ho
  obtain ⟨A', c', rfl, _, _, h3⟩ := ho.rs
  exact ⟨A', c', by rw [hs], h3, hb⟩
theorem split_code (A : Option Addr) (m c : Nat) (zs : List Int) (w : World) (h : Bts w A m zs) (hmc : m ≤ c) (hc : c ≤ maxLen) (hm : m ≤ 1000000) (k : Int) (hs : Fr.stop zs = k) :
    Calls Try.prog 14 #[.slice A m c] w fun e w' => ∃ A' n' c', e = .returned (.tuple #[.slice A' n' c', .int .i64 k]) ∧ Below w.heap.size w w' := by
  refine (split_any A m c zs w h hmc hc hm).mono ?_
  rintro e w' ⟨v, rfl, ho, hb⟩
  obtain ⟨A', c', rfl, _, _, h3⟩ := ho.rs
  exact ⟨A', _, c', by rw [hs], hb⟩
theorem all_code (A : Option Addr) (m c : Nat) (zs : List Int) (w : World) (h : Bts w A m zs) (hmc : m ≤ c) (hc : c ≤ maxLen) (hm : m ≤ 1000000) (k : Int) (hs : Fr.stop zs = k) :
    Calls Try.prog 15 #[.slice A m c] w fun e w' => ∃ A' c', e = .returned (.tuple #[.slice A' (Fr.rows zs).length c', .int .i64 k]) ∧ Below w.heap.size w w' := by
  refine (ref_all A m c zs w h hmc hc hm).mono ?_
  rintro e w' ⟨v, rfl, ho, hb⟩
  obtain ⟨A', c', rfl, _, _, h3⟩ := ho.rs
  exact ⟨A', c', by rw [hs], hb⟩

set_option maxRecDepth 100000 in
set_option maxHeartbeats 4000000 in
theorem walk (a0 : Option Addr) (len0 cap0 : Nat) (z0 : List (List Int)) (a1 : Int) (a2 : Option Addr) (len2 cap2 : Nat) (z2 : List Int) (w : World) (w0 : IsRows w a0 len0 cap0 z0) (w1 : (Lit.int .u8 a1).wf = true) (w2 : IsRow .u8 w a2 len2 cap2 z2) :
    Calls Try.prog 6 #[.slice a0 len0 cap0, .int .u8 a1, .slice a2 len2 cap2] w fun e w' => e = .returned (.bool true) ∧ Below w.heap.size w w' := by
  obtain ⟨hr0, hc0, hm0, hn0⟩ := w0
  have hu := bounds_u8 w1
  obtain ⟨t, rfl⟩ := Int.eq_ofNat_of_zero_le hu.1
  have ht : t ≤ 255 := by omega
  obtain ⟨hb2, hc2, hm2⟩ := bts_of_row w2
  have HN2 := Lib.hid (nil_of_row w2)
  have HC2 := Lib.hid hm2
  unfold maxLen at hm0 hm2
  clear w1 hu w2
  generalize z2.take len2 = jk at *
  have HR := Lib.hid hr0; have HJK := Lib.hid hb2; have HL0 := Lib.hid hr0.1
  have HJB0 := Lib.hid (join_bd' hr0)
  clear hr0 hn0 hb2
  refine (callsIn_wide (n := 6)).1 ?_
  refine callsIn_of_wp_marks Try.func6 rfl trivial ?_ rfl
  refine wpIn_wide.2 ?_
  simp only [Try.ntmps6, List.size_toArray, List.length_cons, List.length_nil, Nat.reduceAdd, Nat.reduceSub, Array.replicate_succ, Array.replicate_zero, List.push_toArray, List.append_toArray, List.nil_append, List.cons_append]
  go_wp2_with fail
  refine (awake_any _).mono ?_
  rintro e W1 ⟨rfl, hb1⟩
  have HS1 := Lib.hid (Boxed.below (Boxed.new w 5 (.int .u8 (t : Int))) hb1 (by simp))
  have HW1 : Hid (Below w.heap.size w W1) := Lib.hid (((Below.refl _ w).alloc (Nat.le_refl _) _).trans (hb1.mono (by simp)))
  have hsz1 : w.heap.size < W1.heap.size := HS1.out.lt
  have HR1 := Lib.hid (HR.out.below HW1.out)
  clear hb1
  by_cases hlen : len0 ≤ 60 ∧ len2 ≤ 40
  · obtain ⟨hl0, hl2⟩ := hlen
    go_wp2
    go_loop [7] (fun i => ∃ k : Nat, k ≤ len0 ∧ i = .int .i64 (k : Int) ∧ Shorts (z0.take k)) (fun i => len0 - (intOf i).toNat)
    case atStart => exact ⟨0, by omega, rfl, by simp [Shorts]⟩
    case round =>
      obtain ⟨k, hk, rfl, hsh⟩ := hrel
      have HSH := Lib.hid hsh; clear hsh
      by_cases hkn : k < len0
      · obtain ⟨b, off, rfl, _⟩ := HR1.out.some_of (by omega)
        obtain ⟨A1, m1, d1, hc1, hb1, hmd, hd1, hnil⟩ := HR1.out.cell hkn
        have HT : Hid (m1 ≤ 1200 → Shorts (z0.take (k + 1))) := Lib.hid (fun h => by
          rw [take_succ_getD z0 k (by have := HL0.out; omega)]
          exact Shorts.append.2 ⟨HSH.out, by intro r hr; rw [List.mem_singleton.1 hr, hb1.len]; exact h⟩)
        clear hb1 hnil
        unfold maxLen at hd1
        by_cases h1 : m1 ≤ 1200
        · go_wp2
          go_round
          case rel => exact ⟨k + 1, by omega, by go_num, HT.out h1⟩
          case measure => simp [intOf]; omega
        · go_wp2
          exact ⟨.bool true, by simp [results, Try.results6, go_sem], rfl, HW1.out⟩
      · have hf : z0.take k = z0 := List.take_of_length_le (by have := HL0.out; omega)
        obtain rfl : k = len0 := by omega
        have HSZ : Hid (Shorts z0) := Lib.hid (by have := HSH.out; rwa [hf] at this)
        clear hf HSH
        have hjl := Fr.join_len z0 HSZ.out
        have hjl' : (Fr.join z0).length ≤ 72120 := by have := HL0.out; omega
        clear hjl
        have HJR := Lib.hid (Fr.join_rows z0 jk HSZ.out)
        have HRS := Lib.hid (rows_join z0 HSZ.out)
        have HCNT : Hid ((Fr.rows (Fr.join z0)).length = k) := Lib.hid (by rw [HRS.out.1]; exact HL0.out)
        obtain ⟨kk, hkk⟩ : ∃ kk, Fr.stop jk = kk := ⟨_, rfl⟩
        obtain ⟨rl, hrl⟩ : ∃ rl, (Fr.rows jk).length = rl := ⟨_, rfl⟩
        have hrl2 : rl ≤ 40 := by have := Fr.rows_len jk; have := HJK.out.len; omega
        have HSTOP := Lib.hid hkk; have HRL := Lib.hid hrl
        have HSJ : Hid (Fr.stop (Fr.join z0 ++ jk) = kk) := Lib.hid (by rw [HJR.out.2]; exact hkk)
        have HRJ : Hid (Fr.rows (Fr.join z0 ++ jk) = z0 ++ Fr.rows jk) := Lib.hid HJR.out.1
        have HLEN : Hid ((z0 ++ Fr.rows jk).length = k + rl) := Lib.hid (by have := HL0.out; simp; omega)
        have HCJ : Hid ((Fr.rows (Fr.join z0 ++ jk)).length = k + rl) := Lib.hid (by rw [HRJ.out]; exact HLEN.out)
        clear hkk hrl
        go_wp2_with fail
        refine (join_ok _ _ _ z0 W1 HR1.out (by omega) HSZ.out).mono ?_
        rintro e w3 ⟨v3, rfl, ho3, hb3⟩
        obtain ⟨A3, c3, rfl, hnc3, hc3, hbt3⟩ := own_form ho3 HJB0.out
        have HBT3 := Lib.hid hbt3; have HC3 := Lib.hid hc3; have HN3 := Lib.hid (own_nil ho3)
        have HW3 : Hid (Below w.heap.size w w3) := Lib.hid (HW1.out.trans (hb3.mono HW1.out.size))
        have HS3 := Lib.hid (Boxed.below HS1.out hb3 HS1.out.lt)
        clear hbt3 ho3
        have hsz3 : w.heap.size < w3.heap.size := HS3.out.lt
        clear hb3
        go_wp2_with (go_at_call 18; refine (all_any A3 _ c3 (Fr.join z0) _ (HBT3.out.alloc _) HN3.out (by omega)).mono ?_; rintro e W7 ⟨Ar, cr, Bk, rfl, hbox7, hBk, hbt7, hnr, hcr, har, hb7⟩)
        have bxn := Boxed.below (Boxed.new w3 3 (.int .i64 0)) hb7 (by simp)
        have HBX7 := Lib.hid hbox7; have HBTR := Lib.hid hbt7; have HCR := Lib.hid hcr; have HAR := Lib.hid har
        have hlt7 : ∀ x ∈ blk Bk Ar (Fr.join z0).length, x < W7.heap.size := blk_all (lt_of_cell hbox7) (fun h ad e => hbt7.lt h ad e)
        have hne : w3.heap.size ∉ blk Bk Ar (Fr.join z0).length := fun hm => blk_all (p := fun x => x ≠ w3.heap.size) (by simp at hBk; omega) (fun h ad e => by have := har ad e; simp at this; omega) _ hm rfl
        have hst := all_tells 5 Bk (blk Bk Ar (Fr.join z0).length) Ar (Fr.join z0).length cr (Fr.join z0) W7 hlt7 hbox7 (blk_self _ _ _) (blk_addr _ _ _) hbt7 hnr hcr (by omega)
        have HB37 : Hid (Below w3.heap.size w3 W7) := Lib.hid (((Below.refl _ w3).alloc (Nat.le_refl _) _).trans (hb7.mono (by simp)))
        have HW7 : Hid (Below w.heap.size w W7) := Lib.hid (HW3.out.trans (HB37.out.mono HW3.out.size))
        have HS7 := Lib.hid (Boxed.below HS3.out HB37.out HS3.out.lt)
        have HBT7 := Lib.hid (HBT3.out.below HB37.out)
        have HJ7 := Lib.hid (HJK.out.below HW7.out)
        have hszn : w3.heap.size < W7.heap.size := bxn.lt
        have HBN7 := Lib.hid bxn
        clear hbox7 hbt7 hcr har hb7 bxn
        refine (wpIn_wide (n := 6)).1 ?_
        apply range_told (F := Fence.wide) (n := 6) (f := 26) (own := #[.pointer (some ⟨Bk, 0, none⟩)]) ⟨rfl, by omega, trivial, enters_of Try.func26 (by kernel_rfl) rfl, hst⟩ rfl (Below.refl _ _) hlt7 (fun _ => rfl)
          (fun (pre : List ItemA) W => Boxed W w3.heap.size 3 (.int .i64 (pre.length : Int)) ∧ W7.grownBy W (some w3.heap.size))
          (fun c (pre : List ItemA) W => c = .exit 2 ∧ pre.length = t ∧ Boxed W w3.heap.size 3 (.int .i64 (pre.length : Int)) ∧ W7.grownBy W (some w3.heap.size))
          ⟨(fun s X Y row hs hg hr => ⟨hs.1.kept hg (fun e => by have := (hr _ e.symm).1; omega), grown_then hs.2 hg (fun r e => (hr r e).1)⟩),
          (fun c s X Y row hs hg hr => ⟨hs.1, hs.2.1, hs.2.2.1.kept hg (fun e => by have := (hr _ e.symm).1; omega), grown_then hs.2.2.2 hg (fun r e => (hr r e).1)⟩),
          (fun pre x => okA_own _ _ pre x)⟩
          ⟨HBN7.out, World.grownBy.refl _ _⟩
        case hassign =>
          intro l x W K hK
          simp only [encA]
          gi_wp2
          exact hK
        case hbody =>
          rintro l pre ⟨v, r⟩ W hWs ⟨bx, hg⟩ ⟨hsl, hpre⟩
          have hcl := bx.cell
          have hfr := bx.frozen
          have hcs := (grown_box hg HS7.out (by omega)).cell
          have hpl : pre.length ≤ 72121 := by
            have h1 := hpre.length_le
            have h2 := Fr.rows_len (Fr.join z0)
            simp at h1; omega
          have BX := Lib.hid bx; have HG := Lib.hid hg
          have HPL : Hid ((pre ++ [(v, r)]).length = pre.length + 1) := Lib.hid (by simp)
          clear bx hg hsl hpre
          generalize pre.length = q at *
          by_cases hqt : q + 1 = t
          · have b5 : ((q : Int) + 1 == (t : Int)) = true := by simp; omega
            have HQT := Lib.hid hqt; clear hqt
            gi_wp2
            exact ⟨Kept.set (by omega) hne _, rfl, HPL.out.trans HQT.out, by rw [HPL.out]; exact BX.out.set (.int .i64 ((q : Int) + 1)), grown_set HG.out _⟩
          · have b5 : ((q : Int) + 1 == (t : Int)) = false := by simp; omega
            clear hqt
            gi_wp2
            exact ⟨Kept.set (by omega) hne _, by rw [HPL.out]; exact BX.out.set (.int .i64 ((q : Int) + 1)), grown_set HG.out _⟩
        case hdone =>
          rintro D xs W hD hxs ⟨bx, hg⟩ hK
          have hxl : xs.length = k := by have := congrArg List.length hxs; rw [List.length_map] at this; rw [this]; exact HCNT.out
          rw [hxl] at bx
          clear hxs hxl
          have HKD := Lib.hid hK; clear hK
          have HBN := Lib.hid bx; clear bx
          have hcn := HBN.out.cell
          have hcs := (grown_box hg HS7.out (by omega)).cell
          have HW8 : Hid (Below w.heap.size w W) := Lib.hid (HW7.out.grown hg HW7.out.size (fun g e => by injection e; have := HW3.out.size; omega))
          have HBT8 := Lib.hid (Bts.but HBT7.out hg (fun h ad e => by have := HBT3.out.lt h ad e; omega))
          have HJ8 := Lib.hid (Bts.but HJ7.out hg (fun h ad e => by have := HJK.out.lt h ad e; have := HW3.out.size; omega))
          have hDW : D < W.heap.size := (Array.getElem?_eq_some_iff.1 HKD.out).1
          have HG := Lib.hid hg; clear hg
          have b6 : ((k : Int) != (k : Int)) = false := by simp
          obtain ⟨k2, hk2⟩ : ∃ k2, kk = k2 := ⟨_, rfl⟩
          have HKT := Lib.hid (True.intro)
          go_wp2_with (go_at_call 17; refine (count_at _ _ _ _ _ HBT8.out hnc3 HC3.out (by omega) HCNT.out).mono ?_; rintro e w9 ⟨rfl, hb9⟩; have HB9 := Lib.hid hb9; clear hb9)
          have HBT9 := Lib.hid (HBT8.out.below HB9.out)
          have HJ9 := Lib.hid (HJ8.out.below HB9.out)
          have HW9 : Hid (Below w.heap.size w w9) := Lib.hid (HW8.out.trans (HB9.out.mono HW8.out.size))
          have HK9 : Hid (w9.heap[D]? = some (.deferred (some []))) := Lib.hid ((HB9.out.block D hDW).trans HKD.out)
          have hD9 : D < w9.heap.size := by have := HB9.out.size; omega
          by_cases hk0 : kk = 0
          · subst hk0
            go_wp2_with fail
            refine (all_code _ _ _ _ _ HJ9.out hc2 HC2.out (by omega) 0 HSTOP.out).mono ?_
            rintro e w10 ⟨A10, c10, rfl, hb10⟩
            have HBT10 := Lib.hid (HBT9.out.below hb10)
            have HJ10 := Lib.hid (HJ9.out.below hb10)
            have HW10 : Hid (Below w.heap.size w w10) := Lib.hid (HW9.out.trans (hb10.mono HW9.out.size))
            have HK10 : Hid (w10.heap[D]? = some (.deferred (some []))) := Lib.hid ((hb10.block D hD9).trans HK9.out)
            have hD10 : D < w10.heap.size := by have := hb10.size; omega
            clear hb10
            rw [HRL.out]
            go_wp2_with (first
              | (at_builtin; refine wpList_append_bts rfl (.tmp 76) (.tmp 77) rfl w10.heap.size _ 0 [] rfl (lit_own w10) A3 (Fr.join z0).length c3 (Fr.join z0) rfl (HBT10.out.alloc _) HN3.out (by omega) (by simp) ?_; intro v11 w11 ho11 hg11; rw [List.nil_append, Nat.zero_add] at ho11; have HB11 := Lib.hid (own_grown_below (lit_own w10) ((Below.refl w10.heap.size w10).alloc (Nat.le_refl _) _) (Nat.le_refl _) hg11); have HO11 := Lib.hid ho11; clear hg11 ho11)
              | (at_builtin; refine wpList_append_bts rfl (.tmp 78) (.tmp 79) rfl w10.heap.size _ (Fr.join z0).length (Fr.join z0) rfl HO11.out a2 len2 cap2 jk rfl (HJ10.out.below HB11.out) HN2.out (by omega) HB11.out.size ?_; intro v12 w12 ho12 hg12; have HB12 := Lib.hid (own_grown_below HO11.out HB11.out (Nat.le_refl _) hg12); obtain ⟨A12, c12, rfl, hnc12, hc12, hbt12⟩ := own_form ho12 (mem_append_bd HJB0.out HJK.out.bd); have HBT12 := Lib.hid hbt12; have HC12 := Lib.hid hc12; clear hg12 ho12 hbt12)
              | (go_at_call 14; refine (split_ok _ _ _ _ (z0 ++ Fr.rows jk) _ HBT12.out hnc12 HC12.out (by omega) HSJ.out HRJ.out).mono ?_; rintro e w13 ⟨A13, c13, rfl, hrs13, hb13⟩; have HB13 := Lib.hid hb13; clear hb13 hrs13; rw [HLEN.out])
              | (at_builtin; refine wpList_append_bts_w (by kernel_rfl) (.tmp 88) (.tmp 89) rfl w13.heap.size _ 0 [] rfl (lit_own w13) A3 (Fr.join z0).length c3 (Fr.join z0) rfl (((HBT10.out.below HB12.out).below HB13.out).alloc _) HN3.out (by omega) (by simp) ?_; intro v14 w14 ho14 hg14; rw [List.nil_append, Nat.zero_add] at ho14; have HB14 := Lib.hid (own_grown_below (lit_own w13) ((Below.refl w13.heap.size w13).alloc (Nat.le_refl _) _) (Nat.le_refl _) hg14); have HO14 := Lib.hid ho14; clear hg14 ho14)
              | (at_builtin; refine wpList_append_bts_w (by kernel_rfl) (.tmp 90) (.tmp 91) rfl w13.heap.size _ (Fr.join z0).length (Fr.join z0) rfl HO14.out a2 len2 cap2 jk rfl (((HJ10.out.below HB12.out).below HB13.out).below HB14.out) HN2.out (by omega) HB14.out.size ?_; intro v15 w15 ho15 hg15; have HB15 := Lib.hid (own_grown_below HO14.out HB14.out (Nat.le_refl _) hg15); obtain ⟨A15, c15, rfl, hnc15, hc15, hbt15⟩ := own_form ho15 (mem_append_bd HJB0.out HJK.out.bd); have HBT15 := Lib.hid hbt15; have HC15 := Lib.hid hc15; clear hg15 ho15 hbt15)
              | (go_at_call 17; refine (count_at _ _ _ _ _ HBT15.out hnc15 HC15.out (by omega) HCJ.out).mono ?_; rintro e w16 ⟨rfl, hb16⟩; have HB16 := Lib.hid hb16; clear hb16))
            have hx1 : w10.heap.size ≤ w12.heap.size := HB12.out.size
            have hx2 : w12.heap.size ≤ w13.heap.size := HB13.out.size
            have hx3 : w13.heap.size ≤ w15.heap.size := HB15.out.size
            have HW16 : Hid (Below w.heap.size w w16) := Lib.hid (by
              have hh := HW10.out.size
              have h1 := HW10.out.trans (HB12.out.mono hh)
              have h2 := h1.trans (HB13.out.mono (Nat.le_trans hh hx1))
              have h3 := h2.trans (HB15.out.mono (by omega))
              exact h3.trans (HB16.out.mono (by omega)))
            have HK16 : Hid (w16.heap[D]? = some (.deferred (some []))) := Lib.hid ((HB16.out.block D (by omega)).trans ((HB15.out.block D (by omega)).trans ((HB13.out.block D (by omega)).trans ((HB12.out.block D hD10).trans HK10.out))))
            refine ⟨by simp, .inl ⟨_, _, rfl, run_takeDeferred HK16.out, ?_⟩⟩
            exact ⟨.bool true, by simp [results, Try.results6, go_sem], rfl, HW16.out.trans (belowK_b (w := w) (Nat.le_refl _) _ D _ _ (by omega) HK16.out rfl rfl)⟩
          · have t9 : (kk != 0) = true := by rw [bne_iff_ne]; exact hk0
            have HK0 := Lib.hid hk0
            go_wp2_with fail
            refine (all_code _ _ _ _ _ HJ9.out hc2 HC2.out (by omega) kk HSTOP.out).mono ?_
            rintro e w10 ⟨A10, c10, rfl, hb10⟩
            have HBT10 := Lib.hid (HBT9.out.below hb10)
            have HJ10 := Lib.hid (HJ9.out.below hb10)
            have HW10 : Hid (Below w.heap.size w w10) := Lib.hid (HW9.out.trans (hb10.mono HW9.out.size))
            have HK10 : Hid (w10.heap[D]? = some (.deferred (some []))) := Lib.hid ((hb10.block D hD9).trans HK9.out)
            have hD10 : D < w10.heap.size := by have := hb10.size; omega
            clear hb10
            rw [HRL.out]
            go_wp2_with (first
              | (at_builtin; refine wpList_append_bts rfl (.tmp 76) (.tmp 77) rfl w10.heap.size _ 0 [] rfl (lit_own w10) A3 (Fr.join z0).length c3 (Fr.join z0) rfl (HBT10.out.alloc _) HN3.out (by omega) (by simp) ?_; intro v11 w11 ho11 hg11; rw [List.nil_append, Nat.zero_add] at ho11; have HB11 := Lib.hid (own_grown_below (lit_own w10) ((Below.refl w10.heap.size w10).alloc (Nat.le_refl _) _) (Nat.le_refl _) hg11); have HO11 := Lib.hid ho11; clear hg11 ho11)
              | (at_builtin; refine wpList_append_bts rfl (.tmp 78) (.tmp 79) rfl w10.heap.size _ (Fr.join z0).length (Fr.join z0) rfl HO11.out a2 len2 cap2 jk rfl (HJ10.out.below HB11.out) HN2.out (by omega) HB11.out.size ?_; intro v12 w12 ho12 hg12; have HB12 := Lib.hid (own_grown_below HO11.out HB11.out (Nat.le_refl _) hg12); obtain ⟨A12, c12, rfl, hnc12, hc12, hbt12⟩ := own_form ho12 (mem_append_bd HJB0.out HJK.out.bd); have HBT12 := Lib.hid hbt12; have HC12 := Lib.hid hc12; clear hg12 ho12 hbt12)
              | (go_at_call 14; refine (split_code _ _ _ _ _ HBT12.out hnc12 HC12.out (by omega) kk HSJ.out).mono ?_; rintro e w13 ⟨A13, n13, c13, rfl, hb13⟩; have HB13 := Lib.hid hb13; clear hb13)
              | (at_builtin; refine wpList_append_bts_w (by kernel_rfl) (.tmp 88) (.tmp 89) rfl w13.heap.size _ 0 [] rfl (lit_own w13) A3 (Fr.join z0).length c3 (Fr.join z0) rfl (((HBT10.out.below HB12.out).below HB13.out).alloc _) HN3.out (by omega) (by simp) ?_; intro v14 w14 ho14 hg14; rw [List.nil_append, Nat.zero_add] at ho14; have HB14 := Lib.hid (own_grown_below (lit_own w13) ((Below.refl w13.heap.size w13).alloc (Nat.le_refl _) _) (Nat.le_refl _) hg14); have HO14 := Lib.hid ho14; clear hg14 ho14)
              | (at_builtin; refine wpList_append_bts_w (by kernel_rfl) (.tmp 90) (.tmp 91) rfl w13.heap.size _ (Fr.join z0).length (Fr.join z0) rfl HO14.out a2 len2 cap2 jk rfl (((HJ10.out.below HB12.out).below HB13.out).below HB14.out) HN2.out (by omega) HB14.out.size ?_; intro v15 w15 ho15 hg15; have HB15 := Lib.hid (own_grown_below HO14.out HB14.out (Nat.le_refl _) hg15); obtain ⟨A15, c15, rfl, hnc15, hc15, hbt15⟩ := own_form ho15 (mem_append_bd HJB0.out HJK.out.bd); have HBT15 := Lib.hid hbt15; have HC15 := Lib.hid hc15; clear hg15 ho15 hbt15)
              | (go_at_call 17; refine (count_at _ _ _ _ _ HBT15.out hnc15 HC15.out (by omega) HCJ.out).mono ?_; rintro e w16 ⟨rfl, hb16⟩; have HB16 := Lib.hid hb16; clear hb16))
            have hx1 : w10.heap.size ≤ w12.heap.size := HB12.out.size
            have hx2 : w12.heap.size ≤ w13.heap.size := HB13.out.size
            have hx3 : w13.heap.size ≤ w15.heap.size := HB15.out.size
            have HW16 : Hid (Below w.heap.size w w16) := Lib.hid (by
              have hh := HW10.out.size
              have h1 := HW10.out.trans (HB12.out.mono hh)
              have h2 := h1.trans (HB13.out.mono (Nat.le_trans hh hx1))
              have h3 := h2.trans (HB15.out.mono (by omega))
              exact h3.trans (HB16.out.mono (by omega)))
            have HK16 : Hid (w16.heap[D]? = some (.deferred (some []))) := Lib.hid ((HB16.out.block D (by omega)).trans ((HB15.out.block D (by omega)).trans ((HB13.out.block D (by omega)).trans ((HB12.out.block D hD10).trans HK10.out))))
            refine ⟨by simp, .inl ⟨_, _, rfl, run_takeDeferred HK16.out, ?_⟩⟩
            exact ⟨.bool true, by simp [results, Try.results6, go_sem], rfl, HW16.out.trans (belowK_b (w := w) (Nat.le_refl _) _ D _ _ (by omega) HK16.out rfl rfl)⟩
        case hstop =>
          rintro D c pre W hD hpre ⟨rfl, hpt, bx, hg⟩ hK
          rw [hpt] at bx
          clear hpt hpre
          refine wpIn_wide.2 ?_
          have b7 : ((t : Int) != (t : Int)) = false := by simp
          by_cases htk : t = k
          · subst htk
            have HKD := Lib.hid hK; clear hK
            have HBN := Lib.hid bx; clear bx
            have hcn := HBN.out.cell
            have hcs := (grown_box hg HS7.out (by omega)).cell
            have HW8 : Hid (Below w.heap.size w W) := Lib.hid (HW7.out.grown hg HW7.out.size (fun g e => by injection e; have := HW3.out.size; omega))
            have HBT8 := Lib.hid (Bts.but HBT7.out hg (fun h ad e => by have := HBT3.out.lt h ad e; omega))
            have HJ8 := Lib.hid (Bts.but HJ7.out hg (fun h ad e => by have := HJK.out.lt h ad e; have := HW3.out.size; omega))
            have hDW : D < W.heap.size := (Array.getElem?_eq_some_iff.1 HKD.out).1
            have HG := Lib.hid hg; clear hg
            have HKT := Lib.hid (True.intro)
            go_wp2_with (go_at_call 17; refine (count_at _ _ _ _ _ HBT8.out hnc3 HC3.out (by omega) HCNT.out).mono ?_; rintro e w9 ⟨rfl, hb9⟩; have HB9 := Lib.hid hb9; clear hb9)
            have HBT9 := Lib.hid (HBT8.out.below HB9.out)
            have HJ9 := Lib.hid (HJ8.out.below HB9.out)
            have HW9 : Hid (Below w.heap.size w w9) := Lib.hid (HW8.out.trans (HB9.out.mono HW8.out.size))
            have HK9 : Hid (w9.heap[D]? = some (.deferred (some []))) := Lib.hid ((HB9.out.block D hDW).trans HKD.out)
            have hD9 : D < w9.heap.size := by have := HB9.out.size; omega
            by_cases hk0 : kk = 0
            · subst hk0
              go_wp2_with fail
              refine (all_code _ _ _ _ _ HJ9.out hc2 HC2.out (by omega) 0 HSTOP.out).mono ?_
              rintro e w10 ⟨A10, c10, rfl, hb10⟩
              have HBT10 := Lib.hid (HBT9.out.below hb10)
              have HJ10 := Lib.hid (HJ9.out.below hb10)
              have HW10 : Hid (Below w.heap.size w w10) := Lib.hid (HW9.out.trans (hb10.mono HW9.out.size))
              have HK10 : Hid (w10.heap[D]? = some (.deferred (some []))) := Lib.hid ((hb10.block D hD9).trans HK9.out)
              have hD10 : D < w10.heap.size := by have := hb10.size; omega
              clear hb10
              rw [HRL.out]
              go_wp2_with (first
                | (at_builtin; refine wpList_append_bts rfl (.tmp 76) (.tmp 77) rfl w10.heap.size _ 0 [] rfl (lit_own w10) A3 (Fr.join z0).length c3 (Fr.join z0) rfl (HBT10.out.alloc _) HN3.out (by omega) (by simp) ?_; intro v11 w11 ho11 hg11; rw [List.nil_append, Nat.zero_add] at ho11; have HB11 := Lib.hid (own_grown_below (lit_own w10) ((Below.refl w10.heap.size w10).alloc (Nat.le_refl _) _) (Nat.le_refl _) hg11); have HO11 := Lib.hid ho11; clear hg11 ho11)
                | (at_builtin; refine wpList_append_bts rfl (.tmp 78) (.tmp 79) rfl w10.heap.size _ (Fr.join z0).length (Fr.join z0) rfl HO11.out a2 len2 cap2 jk rfl (HJ10.out.below HB11.out) HN2.out (by omega) HB11.out.size ?_; intro v12 w12 ho12 hg12; have HB12 := Lib.hid (own_grown_below HO11.out HB11.out (Nat.le_refl _) hg12); obtain ⟨A12, c12, rfl, hnc12, hc12, hbt12⟩ := own_form ho12 (mem_append_bd HJB0.out HJK.out.bd); have HBT12 := Lib.hid hbt12; have HC12 := Lib.hid hc12; clear hg12 ho12 hbt12)
                | (go_at_call 14; refine (split_ok _ _ _ _ (z0 ++ Fr.rows jk) _ HBT12.out hnc12 HC12.out (by omega) HSJ.out HRJ.out).mono ?_; rintro e w13 ⟨A13, c13, rfl, hrs13, hb13⟩; have HB13 := Lib.hid hb13; clear hb13 hrs13; rw [HLEN.out])
                | (at_builtin; refine wpList_append_bts_w (by kernel_rfl) (.tmp 88) (.tmp 89) rfl w13.heap.size _ 0 [] rfl (lit_own w13) A3 (Fr.join z0).length c3 (Fr.join z0) rfl (((HBT10.out.below HB12.out).below HB13.out).alloc _) HN3.out (by omega) (by simp) ?_; intro v14 w14 ho14 hg14; rw [List.nil_append, Nat.zero_add] at ho14; have HB14 := Lib.hid (own_grown_below (lit_own w13) ((Below.refl w13.heap.size w13).alloc (Nat.le_refl _) _) (Nat.le_refl _) hg14); have HO14 := Lib.hid ho14; clear hg14 ho14)
                | (at_builtin; refine wpList_append_bts_w (by kernel_rfl) (.tmp 90) (.tmp 91) rfl w13.heap.size _ (Fr.join z0).length (Fr.join z0) rfl HO14.out a2 len2 cap2 jk rfl (((HJ10.out.below HB12.out).below HB13.out).below HB14.out) HN2.out (by omega) HB14.out.size ?_; intro v15 w15 ho15 hg15; have HB15 := Lib.hid (own_grown_below HO14.out HB14.out (Nat.le_refl _) hg15); obtain ⟨A15, c15, rfl, hnc15, hc15, hbt15⟩ := own_form ho15 (mem_append_bd HJB0.out HJK.out.bd); have HBT15 := Lib.hid hbt15; have HC15 := Lib.hid hc15; clear hg15 ho15 hbt15)
                | (go_at_call 17; refine (count_at _ _ _ _ _ HBT15.out hnc15 HC15.out (by omega) HCJ.out).mono ?_; rintro e w16 ⟨rfl, hb16⟩; have HB16 := Lib.hid hb16; clear hb16))
              have hx1 : w10.heap.size ≤ w12.heap.size := HB12.out.size
              have hx2 : w12.heap.size ≤ w13.heap.size := HB13.out.size
              have hx3 : w13.heap.size ≤ w15.heap.size := HB15.out.size
              have HW16 : Hid (Below w.heap.size w w16) := Lib.hid (by
                have hh := HW10.out.size
                have h1 := HW10.out.trans (HB12.out.mono hh)
                have h2 := h1.trans (HB13.out.mono (Nat.le_trans hh hx1))
                have h3 := h2.trans (HB15.out.mono (by omega))
                exact h3.trans (HB16.out.mono (by omega)))
              have HK16 : Hid (w16.heap[D]? = some (.deferred (some []))) := Lib.hid ((HB16.out.block D (by omega)).trans ((HB15.out.block D (by omega)).trans ((HB13.out.block D (by omega)).trans ((HB12.out.block D hD10).trans HK10.out))))
              refine ⟨by simp, .inl ⟨_, _, rfl, run_takeDeferred HK16.out, ?_⟩⟩
              exact ⟨.bool true, by simp [results, Try.results6, go_sem], rfl, HW16.out.trans (belowK_b (w := w) (Nat.le_refl _) _ D _ _ (by omega) HK16.out rfl rfl)⟩
            · have t9 : (kk != 0) = true := by rw [bne_iff_ne]; exact hk0
              have HK0 := Lib.hid hk0
              go_wp2_with fail
              refine (all_code _ _ _ _ _ HJ9.out hc2 HC2.out (by omega) kk HSTOP.out).mono ?_
              rintro e w10 ⟨A10, c10, rfl, hb10⟩
              have HBT10 := Lib.hid (HBT9.out.below hb10)
              have HJ10 := Lib.hid (HJ9.out.below hb10)
              have HW10 : Hid (Below w.heap.size w w10) := Lib.hid (HW9.out.trans (hb10.mono HW9.out.size))
              have HK10 : Hid (w10.heap[D]? = some (.deferred (some []))) := Lib.hid ((hb10.block D hD9).trans HK9.out)
              have hD10 : D < w10.heap.size := by have := hb10.size; omega
              clear hb10
              rw [HRL.out]
              go_wp2_with (first
                | (at_builtin; refine wpList_append_bts rfl (.tmp 76) (.tmp 77) rfl w10.heap.size _ 0 [] rfl (lit_own w10) A3 (Fr.join z0).length c3 (Fr.join z0) rfl (HBT10.out.alloc _) HN3.out (by omega) (by simp) ?_; intro v11 w11 ho11 hg11; rw [List.nil_append, Nat.zero_add] at ho11; have HB11 := Lib.hid (own_grown_below (lit_own w10) ((Below.refl w10.heap.size w10).alloc (Nat.le_refl _) _) (Nat.le_refl _) hg11); have HO11 := Lib.hid ho11; clear hg11 ho11)
                | (at_builtin; refine wpList_append_bts rfl (.tmp 78) (.tmp 79) rfl w10.heap.size _ (Fr.join z0).length (Fr.join z0) rfl HO11.out a2 len2 cap2 jk rfl (HJ10.out.below HB11.out) HN2.out (by omega) HB11.out.size ?_; intro v12 w12 ho12 hg12; have HB12 := Lib.hid (own_grown_below HO11.out HB11.out (Nat.le_refl _) hg12); obtain ⟨A12, c12, rfl, hnc12, hc12, hbt12⟩ := own_form ho12 (mem_append_bd HJB0.out HJK.out.bd); have HBT12 := Lib.hid hbt12; have HC12 := Lib.hid hc12; clear hg12 ho12 hbt12)
                | (go_at_call 14; refine (split_code _ _ _ _ _ HBT12.out hnc12 HC12.out (by omega) kk HSJ.out).mono ?_; rintro e w13 ⟨A13, n13, c13, rfl, hb13⟩; have HB13 := Lib.hid hb13; clear hb13)
                | (at_builtin; refine wpList_append_bts_w (by kernel_rfl) (.tmp 88) (.tmp 89) rfl w13.heap.size _ 0 [] rfl (lit_own w13) A3 (Fr.join z0).length c3 (Fr.join z0) rfl (((HBT10.out.below HB12.out).below HB13.out).alloc _) HN3.out (by omega) (by simp) ?_; intro v14 w14 ho14 hg14; rw [List.nil_append, Nat.zero_add] at ho14; have HB14 := Lib.hid (own_grown_below (lit_own w13) ((Below.refl w13.heap.size w13).alloc (Nat.le_refl _) _) (Nat.le_refl _) hg14); have HO14 := Lib.hid ho14; clear hg14 ho14)
                | (at_builtin; refine wpList_append_bts_w (by kernel_rfl) (.tmp 90) (.tmp 91) rfl w13.heap.size _ (Fr.join z0).length (Fr.join z0) rfl HO14.out a2 len2 cap2 jk rfl (((HJ10.out.below HB12.out).below HB13.out).below HB14.out) HN2.out (by omega) HB14.out.size ?_; intro v15 w15 ho15 hg15; have HB15 := Lib.hid (own_grown_below HO14.out HB14.out (Nat.le_refl _) hg15); obtain ⟨A15, c15, rfl, hnc15, hc15, hbt15⟩ := own_form ho15 (mem_append_bd HJB0.out HJK.out.bd); have HBT15 := Lib.hid hbt15; have HC15 := Lib.hid hc15; clear hg15 ho15 hbt15)
                | (go_at_call 17; refine (count_at _ _ _ _ _ HBT15.out hnc15 HC15.out (by omega) HCJ.out).mono ?_; rintro e w16 ⟨rfl, hb16⟩; have HB16 := Lib.hid hb16; clear hb16))
              have hx1 : w10.heap.size ≤ w12.heap.size := HB12.out.size
              have hx2 : w12.heap.size ≤ w13.heap.size := HB13.out.size
              have hx3 : w13.heap.size ≤ w15.heap.size := HB15.out.size
              have HW16 : Hid (Below w.heap.size w w16) := Lib.hid (by
                have hh := HW10.out.size
                have h1 := HW10.out.trans (HB12.out.mono hh)
                have h2 := h1.trans (HB13.out.mono (Nat.le_trans hh hx1))
                have h3 := h2.trans (HB15.out.mono (by omega))
                exact h3.trans (HB16.out.mono (by omega)))
              have HK16 : Hid (w16.heap[D]? = some (.deferred (some []))) := Lib.hid ((HB16.out.block D (by omega)).trans ((HB15.out.block D (by omega)).trans ((HB13.out.block D (by omega)).trans ((HB12.out.block D hD10).trans HK10.out))))
              refine ⟨by simp, .inl ⟨_, _, rfl, run_takeDeferred HK16.out, ?_⟩⟩
              exact ⟨.bool true, by simp [results, Try.results6, go_sem], rfl, HW16.out.trans (belowK_b (w := w) (Nat.le_refl _) _ D _ _ (by omega) HK16.out rfl rfl)⟩
          · have b6 : ((t : Int) != (k : Int)) = true := by rw [bne_iff_ne]; omega
            have HTK := Lib.hid htk; clear htk
            have HKD := Lib.hid hK; clear hK
            have HBN := Lib.hid bx; clear bx
            have hcn := HBN.out.cell
            have hcs := (grown_box hg HS7.out (by omega)).cell
            have HW8 : Hid (Below w.heap.size w W) := Lib.hid (HW7.out.grown hg HW7.out.size (fun g e => by injection e; have := HW3.out.size; omega))
            have HBT8 := Lib.hid (Bts.but HBT7.out hg (fun h ad e => by have := HBT3.out.lt h ad e; omega))
            have HJ8 := Lib.hid (Bts.but HJ7.out hg (fun h ad e => by have := HJK.out.lt h ad e; have := HW3.out.size; omega))
            have hDW : D < W.heap.size := (Array.getElem?_eq_some_iff.1 HKD.out).1
            have HG := Lib.hid hg; clear hg
            have HKT := Lib.hid (True.intro)
            go_wp2_with (go_at_call 17; refine (count_at _ _ _ _ _ HBT8.out hnc3 HC3.out (by omega) HCNT.out).mono ?_; rintro e w9 ⟨rfl, hb9⟩; have HB9 := Lib.hid hb9; clear hb9)
            have HBT9 := Lib.hid (HBT8.out.below HB9.out)
            have HJ9 := Lib.hid (HJ8.out.below HB9.out)
            have HW9 : Hid (Below w.heap.size w w9) := Lib.hid (HW8.out.trans (HB9.out.mono HW8.out.size))
            have HK9 : Hid (w9.heap[D]? = some (.deferred (some []))) := Lib.hid ((HB9.out.block D hDW).trans HKD.out)
            have hD9 : D < w9.heap.size := by have := HB9.out.size; omega
            by_cases hk0 : kk = 0
            · subst hk0
              go_wp2_with fail
              refine (all_code _ _ _ _ _ HJ9.out hc2 HC2.out (by omega) 0 HSTOP.out).mono ?_
              rintro e w10 ⟨A10, c10, rfl, hb10⟩
              have HBT10 := Lib.hid (HBT9.out.below hb10)
              have HJ10 := Lib.hid (HJ9.out.below hb10)
              have HW10 : Hid (Below w.heap.size w w10) := Lib.hid (HW9.out.trans (hb10.mono HW9.out.size))
              have HK10 : Hid (w10.heap[D]? = some (.deferred (some []))) := Lib.hid ((hb10.block D hD9).trans HK9.out)
              have hD10 : D < w10.heap.size := by have := hb10.size; omega
              clear hb10
              rw [HRL.out]
              go_wp2_with (first
                | (at_builtin; refine wpList_append_bts rfl (.tmp 76) (.tmp 77) rfl w10.heap.size _ 0 [] rfl (lit_own w10) A3 (Fr.join z0).length c3 (Fr.join z0) rfl (HBT10.out.alloc _) HN3.out (by omega) (by simp) ?_; intro v11 w11 ho11 hg11; rw [List.nil_append, Nat.zero_add] at ho11; have HB11 := Lib.hid (own_grown_below (lit_own w10) ((Below.refl w10.heap.size w10).alloc (Nat.le_refl _) _) (Nat.le_refl _) hg11); have HO11 := Lib.hid ho11; clear hg11 ho11)
                | (at_builtin; refine wpList_append_bts rfl (.tmp 78) (.tmp 79) rfl w10.heap.size _ (Fr.join z0).length (Fr.join z0) rfl HO11.out a2 len2 cap2 jk rfl (HJ10.out.below HB11.out) HN2.out (by omega) HB11.out.size ?_; intro v12 w12 ho12 hg12; have HB12 := Lib.hid (own_grown_below HO11.out HB11.out (Nat.le_refl _) hg12); obtain ⟨A12, c12, rfl, hnc12, hc12, hbt12⟩ := own_form ho12 (mem_append_bd HJB0.out HJK.out.bd); have HBT12 := Lib.hid hbt12; have HC12 := Lib.hid hc12; clear hg12 ho12 hbt12)
                | (go_at_call 14; refine (split_ok _ _ _ _ (z0 ++ Fr.rows jk) _ HBT12.out hnc12 HC12.out (by omega) HSJ.out HRJ.out).mono ?_; rintro e w13 ⟨A13, c13, rfl, hrs13, hb13⟩; have HB13 := Lib.hid hb13; clear hb13 hrs13; rw [HLEN.out])
                | (at_builtin; refine wpList_append_bts_w (by kernel_rfl) (.tmp 88) (.tmp 89) rfl w13.heap.size _ 0 [] rfl (lit_own w13) A3 (Fr.join z0).length c3 (Fr.join z0) rfl (((HBT10.out.below HB12.out).below HB13.out).alloc _) HN3.out (by omega) (by simp) ?_; intro v14 w14 ho14 hg14; rw [List.nil_append, Nat.zero_add] at ho14; have HB14 := Lib.hid (own_grown_below (lit_own w13) ((Below.refl w13.heap.size w13).alloc (Nat.le_refl _) _) (Nat.le_refl _) hg14); have HO14 := Lib.hid ho14; clear hg14 ho14)
                | (at_builtin; refine wpList_append_bts_w (by kernel_rfl) (.tmp 90) (.tmp 91) rfl w13.heap.size _ (Fr.join z0).length (Fr.join z0) rfl HO14.out a2 len2 cap2 jk rfl (((HJ10.out.below HB12.out).below HB13.out).below HB14.out) HN2.out (by omega) HB14.out.size ?_; intro v15 w15 ho15 hg15; have HB15 := Lib.hid (own_grown_below HO14.out HB14.out (Nat.le_refl _) hg15); obtain ⟨A15, c15, rfl, hnc15, hc15, hbt15⟩ := own_form ho15 (mem_append_bd HJB0.out HJK.out.bd); have HBT15 := Lib.hid hbt15; have HC15 := Lib.hid hc15; clear hg15 ho15 hbt15)
                | (go_at_call 17; refine (count_at _ _ _ _ _ HBT15.out hnc15 HC15.out (by omega) HCJ.out).mono ?_; rintro e w16 ⟨rfl, hb16⟩; have HB16 := Lib.hid hb16; clear hb16))
              have hx1 : w10.heap.size ≤ w12.heap.size := HB12.out.size
              have hx2 : w12.heap.size ≤ w13.heap.size := HB13.out.size
              have hx3 : w13.heap.size ≤ w15.heap.size := HB15.out.size
              have HW16 : Hid (Below w.heap.size w w16) := Lib.hid (by
                have hh := HW10.out.size
                have h1 := HW10.out.trans (HB12.out.mono hh)
                have h2 := h1.trans (HB13.out.mono (Nat.le_trans hh hx1))
                have h3 := h2.trans (HB15.out.mono (by omega))
                exact h3.trans (HB16.out.mono (by omega)))
              have HK16 : Hid (w16.heap[D]? = some (.deferred (some []))) := Lib.hid ((HB16.out.block D (by omega)).trans ((HB15.out.block D (by omega)).trans ((HB13.out.block D (by omega)).trans ((HB12.out.block D hD10).trans HK10.out))))
              refine ⟨by simp, .inl ⟨_, _, rfl, run_takeDeferred HK16.out, ?_⟩⟩
              exact ⟨.bool true, by simp [results, Try.results6, go_sem], rfl, HW16.out.trans (belowK_b (w := w) (Nat.le_refl _) _ D _ _ (by omega) HK16.out rfl rfl)⟩
            · have t9 : (kk != 0) = true := by rw [bne_iff_ne]; exact hk0
              have HK0 := Lib.hid hk0
              go_wp2_with fail
              refine (all_code _ _ _ _ _ HJ9.out hc2 HC2.out (by omega) kk HSTOP.out).mono ?_
              rintro e w10 ⟨A10, c10, rfl, hb10⟩
              have HBT10 := Lib.hid (HBT9.out.below hb10)
              have HJ10 := Lib.hid (HJ9.out.below hb10)
              have HW10 : Hid (Below w.heap.size w w10) := Lib.hid (HW9.out.trans (hb10.mono HW9.out.size))
              have HK10 : Hid (w10.heap[D]? = some (.deferred (some []))) := Lib.hid ((hb10.block D hD9).trans HK9.out)
              have hD10 : D < w10.heap.size := by have := hb10.size; omega
              clear hb10
              rw [HRL.out]
              go_wp2_with (first
                | (at_builtin; refine wpList_append_bts rfl (.tmp 76) (.tmp 77) rfl w10.heap.size _ 0 [] rfl (lit_own w10) A3 (Fr.join z0).length c3 (Fr.join z0) rfl (HBT10.out.alloc _) HN3.out (by omega) (by simp) ?_; intro v11 w11 ho11 hg11; rw [List.nil_append, Nat.zero_add] at ho11; have HB11 := Lib.hid (own_grown_below (lit_own w10) ((Below.refl w10.heap.size w10).alloc (Nat.le_refl _) _) (Nat.le_refl _) hg11); have HO11 := Lib.hid ho11; clear hg11 ho11)
                | (at_builtin; refine wpList_append_bts rfl (.tmp 78) (.tmp 79) rfl w10.heap.size _ (Fr.join z0).length (Fr.join z0) rfl HO11.out a2 len2 cap2 jk rfl (HJ10.out.below HB11.out) HN2.out (by omega) HB11.out.size ?_; intro v12 w12 ho12 hg12; have HB12 := Lib.hid (own_grown_below HO11.out HB11.out (Nat.le_refl _) hg12); obtain ⟨A12, c12, rfl, hnc12, hc12, hbt12⟩ := own_form ho12 (mem_append_bd HJB0.out HJK.out.bd); have HBT12 := Lib.hid hbt12; have HC12 := Lib.hid hc12; clear hg12 ho12 hbt12)
                | (go_at_call 14; refine (split_code _ _ _ _ _ HBT12.out hnc12 HC12.out (by omega) kk HSJ.out).mono ?_; rintro e w13 ⟨A13, n13, c13, rfl, hb13⟩; have HB13 := Lib.hid hb13; clear hb13)
                | (at_builtin; refine wpList_append_bts_w (by kernel_rfl) (.tmp 88) (.tmp 89) rfl w13.heap.size _ 0 [] rfl (lit_own w13) A3 (Fr.join z0).length c3 (Fr.join z0) rfl (((HBT10.out.below HB12.out).below HB13.out).alloc _) HN3.out (by omega) (by simp) ?_; intro v14 w14 ho14 hg14; rw [List.nil_append, Nat.zero_add] at ho14; have HB14 := Lib.hid (own_grown_below (lit_own w13) ((Below.refl w13.heap.size w13).alloc (Nat.le_refl _) _) (Nat.le_refl _) hg14); have HO14 := Lib.hid ho14; clear hg14 ho14)
                | (at_builtin; refine wpList_append_bts_w (by kernel_rfl) (.tmp 90) (.tmp 91) rfl w13.heap.size _ (Fr.join z0).length (Fr.join z0) rfl HO14.out a2 len2 cap2 jk rfl (((HJ10.out.below HB12.out).below HB13.out).below HB14.out) HN2.out (by omega) HB14.out.size ?_; intro v15 w15 ho15 hg15; have HB15 := Lib.hid (own_grown_below HO14.out HB14.out (Nat.le_refl _) hg15); obtain ⟨A15, c15, rfl, hnc15, hc15, hbt15⟩ := own_form ho15 (mem_append_bd HJB0.out HJK.out.bd); have HBT15 := Lib.hid hbt15; have HC15 := Lib.hid hc15; clear hg15 ho15 hbt15)
                | (go_at_call 17; refine (count_at _ _ _ _ _ HBT15.out hnc15 HC15.out (by omega) HCJ.out).mono ?_; rintro e w16 ⟨rfl, hb16⟩; have HB16 := Lib.hid hb16; clear hb16))
              have hx1 : w10.heap.size ≤ w12.heap.size := HB12.out.size
              have hx2 : w12.heap.size ≤ w13.heap.size := HB13.out.size
              have hx3 : w13.heap.size ≤ w15.heap.size := HB15.out.size
              have HW16 : Hid (Below w.heap.size w w16) := Lib.hid (by
                have hh := HW10.out.size
                have h1 := HW10.out.trans (HB12.out.mono hh)
                have h2 := h1.trans (HB13.out.mono (Nat.le_trans hh hx1))
                have h3 := h2.trans (HB15.out.mono (by omega))
                exact h3.trans (HB16.out.mono (by omega)))
              have HK16 : Hid (w16.heap[D]? = some (.deferred (some []))) := Lib.hid ((HB16.out.block D (by omega)).trans ((HB15.out.block D (by omega)).trans ((HB13.out.block D (by omega)).trans ((HB12.out.block D hD10).trans HK10.out))))
              refine ⟨by simp, .inl ⟨_, _, rfl, run_takeDeferred HK16.out, ?_⟩⟩
              exact ⟨.bool true, by simp [results, Try.results6, go_sem], rfl, HW16.out.trans (belowK_b (w := w) (Nat.le_refl _) _ D _ _ (by omega) HK16.out rfl rfl)⟩
  · by_cases hl0 : len0 ≤ 60
    · have hl2 : 40 < len2 := by omega
      clear hlen
      go_wp2
      exact ⟨.bool true, by simp [results, Try.results6, go_sem], rfl, HW1.out⟩
    · have hl2 : 60 < len0 := by omega
      clear hlen hl0
      go_wp2
      exact ⟨.bool true, by simp [results, Try.results6, go_sem], rfl, HW1.out⟩

/-! ### THE ROW's STEP: WRITTEN OUT: LEAVE IT -/
set_option maxRecDepth 100000 in
theorem lifted (os : Os) (started : os.Started) (H : Type) (enc : TypeId × Value → H) :
    ReturnsInHanded {} Try.checked os 6 .any (Rows.frameStopsSpec.pre6 enc Try.prog Try.f6 Rows.frameStopsRow.domain false) (Rows.frameStopsSpec.post enc Try.prog Try.f6 false true false false) := by
  refine returnsInHanded_of_change (C := Try.checked) own started (by kernel_rfl) Try.func6
    (ChangeSpec.witness6 (enc := enc) (C := Try.checked) false ⟨#[], #[.slice none 0 0, .int .u8 0, .slice none 0 0], []⟩ 8 (by kernel_rfl) (by kernel_rfl) (by kernel_rfl) (by kernel_rfl)) ?_
  intro W base args ds gs before hval0 hW hcnd _
  have hval : ∀ (j : Nat) t v, Try.f6.params[j]? = some t → args[j]? = some v → Value.okWide Try.prog W .any base t v := hval0
  have hW' := hW
  obtain ⟨p, q, hA0, hV, rfl, hfz, hnd⟩ := hW
  have hA : DataW.TrodAll enc Try.prog W 0 (fun _ => true) true Try.f6.params.toList args.toList ds p := hA0
  rw [Try.params6] at hA hval
  obtain ⟨v0, vs0, d0, ds0, p0, q0, hargs, rfl, rfl, h0, r0⟩ := trodAll_cons hA
  obtain ⟨v1, vs1, d1, ds1, p1, q1, rfl, rfl, rfl, h1, r1⟩ := trodAll_cons r0
  obtain ⟨v2, vs2, d2, ds2, p2, q2, rfl, rfl, rfl, h2, r2⟩ := trodAll_cons r1
  obtain ⟨rfl, rfl, rfl⟩ := trodAll_nil r2
  obtain rfl : args = #[v0, v1, v2] := by cases args; simp_all
  obtain ⟨rfl, rfl⟩ := trodVars_none hV
  obtain ⟨a0, len0, cap0, rfl⟩ := okWide_slice Try.underlying30 (hval 0 30 v0 rfl rfl)
  have k0 := h0
  have lt0 : ∀ x ∈ p0, x.block < W.heap.size := by obtain ⟨m, hm⟩ := k0; exact DataW.trod_lt m _ _ _ hm
  obtain ⟨z0, w0⟩ : ∃ rss, IsRows W a0 len0 cap0 rss := isRows_open h0
  obtain ⟨a1, rfl, rfl, rfl, w1⟩ := open_int Try.underlying5 (hval 1 5 v1 rfl rfl) h1
  obtain ⟨a2, len2, cap2, rfl⟩ := okWide_slice Try.underlying22 (hval 2 22 v2 rfl rfl)
  have k2 := h2
  have lt2 : ∀ x ∈ p2, x.block < W.heap.size := by obtain ⟨m, hm⟩ := k2; exact DataW.trod_lt m _ _ _ hm
  obtain ⟨z2, w2⟩ : ∃ zs, IsRow .u8 W a2 len2 cap2 zs := by
    obtain ⟨fuel, hf⟩ := h2
    rcases open_ints Try.underlying22 Try.underlying5 (by kernel_rfl) hf with ⟨hcs, _⟩ | ⟨x, l, c, zs, hcs, _, hl, hm, hz, _, hcell, hwz⟩
    · simp [Value.cells] at hcs
      obtain ⟨rfl, rfl, rfl⟩ := hcs
      exact ⟨[], .inl ⟨rfl, rfl, rfl, rfl⟩⟩
    · simp [Value.cells] at hcs
      obtain ⟨rfl, rfl, rfl⟩ := hcs
      exact ⟨zs, .inr ⟨_, rfl, hl, hm, by simpa using hz, hcell, hwz⟩⟩
  clear hA0 hval0
  refine (walk a0 len0 cap0 z0 a1 a2 len2 cap2 z2 W w0 w1 w2).mono fun e W' ⟨he, bel⟩ => ?_
  subst he
  exact ⟨_, rfl, _, _, _, [], _, [], hW', trodAll_mk1 (shut_bool Try.underlying4 _), (trodAll_cons_mk (Below.trod laidOut (by kernel_rfl) (of_decide_eq_true (by kernel_rfl)) k0 bel lt0) (trodAll_cons_mk (shut_int Try.underlying5 w1) (trodAll_cons_mk (Below.trod laidOut (by kernel_rfl) (of_decide_eq_true (by kernel_rfl)) k2 bel lt2) trodAll_mk0))), rfl, bel.frame _, fun h => by cases h⟩

theorem over : Rows.frameStopsRow.holds Try.pinned (OpenSpec.ofChange Rows.frameStopsSpec) :=
  OpenClaim.holds_of_wide 6 Try.f6 rfl rfl rfl rfl rfl rfl rfl ⟨rfl, rfl, rfl, rfl, rfl⟩ rfl rfl rfl rfl rfl (by kernel_rfl) Try.func6 (by kernel_rfl)
    (of_decide_eq_true (by kernel_rfl)) (by unfold Func.isWrapper; first | (rw [if_pos (by decide +kernel)]; kernel_rfl) | (rw [if_neg (by decide +kernel)]; exact ⟨rfl, rfl⟩))
    (fun os started H enc _ => lifted os started H enc)

/-- ████ THE STATEMENT ████ -/
theorem proved : Rows.FrameStopsSaid := over
#print axioms proved
end Go.Proofs.Ytadbidgikgffhaa.frameStops
