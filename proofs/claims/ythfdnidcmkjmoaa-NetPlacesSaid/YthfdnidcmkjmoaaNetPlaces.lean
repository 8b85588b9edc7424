/-
  In a net of up to 59 datagrams each place, going round, has the one that stands there by rising numbers; taken from any places, in any order, all are taken once. Condition: none beyond the statement's own.
-/
import Derived.Deep.Cut
import Derived.Test.YthfdnidcmkjmoaaNp
import Derived.Test.YthfdnidcmkjmoaaRows
import Derived.WalkKit
import Derived.ProofKit
import Derived.OpenShut
import Derived.ShutString
import Derived.ChangeOld
import Derived.Below
namespace Go.Proofs.Ythfdnidcmkjmoaa.netPlaces
open Go.ChangeShapes Go.WideShapes Go.ChangeAt Go.RowKit
open Go.ChangeMaps (open_string shut_string)
set_option linter.unusedVariables false

theorem own : ownKnob Try.prog.godebug = none := by kernel_rfl
theorem laidOut : laidOutB Try.prog = true := by kernel_rfl

theorem bmk (k : Nat) (hk : k ≤ 1000) (W : World) : (Instr.makeSlice 53 (.int .i64 ((k : Int) + 1)) (.int .i64 ((k : Int) + 1))).run Try.prog W = .ok (.slice (some ⟨W.heap.size, 0, none⟩) (k + 1) (k + 1)) (W.alloc (.cells (madeCells #[.bool false] (k + 1)) 4)) := by
  obtain ⟨i0, hi0, hz0, hz1, hz2⟩ := info_parts (show (Try.prog.info? 4).map (fun i => (i.zero, i.size, i.bytes)) = some (some (.bool false), 1, 1) by kernel_rfl)
  have := run_make (P := Try.prog) W 53 4 i0 (.bool false) Try.underlying53 hi0 hz0 .i64 .i64 ((k : Int) + 1) ((k : Int) + 1) (by omega) (Int.le_refl _) (by rw [hz2]; omega) (by omega)
  rw [hz1, show ((k : Int) + 1).toNat = k + 1 by omega, Nat.mul_one] at this
  exact this
theorem made_at (k j : Nat) (hj : j < k + 1) : (madeCells #[Value.bool false] (k + 1))[j]? = some (.bool false) := by
  simp [madeCells, hj, Nat.mod_one]
set_option maxRecDepth 100000 in
set_option maxHeartbeats 8000000 in
theorem walk (a0 : Int) (v1 : Value) (s1 : List Int) (w : World) (w0 : (Lit.int .u8 a0).wf = true) (w1 : IsNums w v1 s1) :
    Calls Try.prog 5 #[.int .u8 a0, v1] w fun e w' => e = .returned (.bool true) ∧ Below w.heap.size w w' := by
  obtain ⟨q0, q1⟩ := bounds_u8 w0
  obtain ⟨m, rfl⟩ := Int.eq_ofNat_of_zero_le q0
  obtain ⟨A1, c1, rfl, hlc, hcm, hat, h64⟩ := w1
  have HAT := Lib.hid hat; have H64 := Lib.hid h64
  clear w0 hat h64
  obtain ⟨k, hk⟩ : ∃ k : Nat, m % 60 = k := ⟨_, rfl⟩
  have hk60 : k < 60 := by rw [← hk]; exact Nat.mod_lt _ (by omega)
  have hkz : (m : Int) % 60 = (k : Int) := by omega
  have hkt : Int.tmod (m : Int) 60 = (k : Int) := by rw [Int.tmod_eq_emod_of_nonneg (by omega)]; exact hkz
  clear hk
  unfold maxLen at hcm
  have hmk := bmk k (by omega)
  go_enter Try.func5, Try.ntmps5
  go_wp2_with fail
  refine (awake_any _).mono ?_
  rintro e w1 ⟨rfl, hb1⟩
  have hN := new_p (w0 := w) (V := w1) [] hb1 (by simp)
  clear hb1
  go_wp2_with fail
  refine hN.mono ?_
  rintro e V1 ⟨rfl, hp1⟩
  have hp2 := hp1.box (k := V1.heap.size) #[.int .u32 1, .int .i64 1] 33 rfl
  have HP2 := Lib.hid hp2
  clear hN hp1 hp2
  obtain ⟨ab, hab⟩ : ∃ ab, V1.heap.size = ab := ⟨_, rfl⟩
  obtain ⟨nb, hnb⟩ : ∃ nb, w1.heap.size = nb := ⟨_, rfl⟩
  rw [hab, hnb] at HP2
  try rw [hnb]
  clear hnb
  go_upto_region 6 with (fail)
  generalize V1.alloc (.cells #[.int .u32 1, .int .i64 1] 33) = Va at *
  have ha11 : Hid (isA a11) := Lib.hid a11_is
  go_wp2
  go_loopw [8] (fun i wr => ∃ j : Nat, j ≤ k ∧ i = .int .i64 j ∧ Hid (Pn w nb j (mkM j) [(ab, .cells #[.int .u32 1, .int .i64 1] 33 (0, 0))] wr)) (fun i _ => k - (intOf i).toNat)
  case atStart => exact ⟨0, Nat.zero_le _, rfl, HP2⟩
  case round =>
    obtain ⟨j, hj, rfl, HP⟩ := hrel
    by_cases hjk : j < k
    · have hz : (j : Int) < (k : Int) := by omega
      obtain ⟨x0, x1, xl⟩ := HP.out.c2 (k := ab) (u := .int .u32 1) (v := .int .i64 1) (t := 33) (by simp)
      have hw8 : IntKind.u8.wrap (j : Int) = (j : Int) := by simp [IntKind.wrap, IntKind.signed, IntKind.bits] <;> omega
      have hC := send_p (HP.out.alloc (.cells #[.int .u8 (j : Int)] 5)) (mkM_ok (by omega)) a11 a11 ha11.out ha11.out (some ⟨wr.heap.size, 0, none⟩) 1 1 [(j : Int)] (lit1 wr j (by omega)) (fun e => by cases e) (by omega)
      rw [mkM_send (by omega)] at hC
      unfold twoV adr a11 at hC
      dsimp only at hC
      have HC := Lib.hid hC
      clear hC
      go_wp2_with fail
      refine HC.out.mono ?_
      rintro e W2 ⟨rfl, hp⟩
      have HP' := Lib.hid hp
      clear hp HC
      go_wp2
      go_roundw
      case rel => exact ⟨j + 1, by omega, by go_num, by have := HP'.out; rw [show ((j : Int) + 1) = ((j + 1 : Nat) : Int) by omega] at this; exact Lib.hid this⟩
      case measure => simp [intOf]; omega
    · have hz : ¬ (j : Int) < (k : Int) := by omega
      obtain rfl : j = k := by omega
      have HM := Lib.hid (HP.out.box (k := wr.heap.size) (madeCells #[.bool false] (j + 1)) 4 rfl)
      obtain ⟨tb, htb⟩ : ∃ tb, wr.heap.size = tb := ⟨_, rfl⟩
      have HTB : Hid (w.heap.size ≤ tb) := Lib.hid (by rw [← htb]; exact HP.out.low.size)
      have HTN : Hid (ab ≠ tb) := Lib.hid (fun e => by have := HP.out.lt (p := (ab, .cells #[.int .u32 1, .int .i64 1] 33 (0, 0))) (by simp); simp only at this; omega)
      rw [htb] at HM
      go_upto_region 13 with (fail)
      try rw [htb]
      generalize wr.alloc (.cells (madeCells #[.bool false] (j + 1)) 4) = Wc at *
      have HS0 : Hid ((madeCells #[.bool false] (j + 1)).size = j + 1 ∧ ∀ x, x < j + 1 → (madeCells #[.bool false] (j + 1))[x]? = some (.bool false)) := Lib.hid ⟨by simp [madeCells], fun x hx => made_at j x hx⟩
      clear HP HP2 htb hz hmk
      go_wp2
      go_loopw [12] (fun s wr => ∃ (i : Nat) (M : List Dg) (tk : Nat → Bool) (C : Array Value), i ≤ j ∧ s = .int .i64 i ∧ Hid (M.length + i = j) ∧ Hid (Lft j M tk) ∧ Hid (C.size = j + 1 ∧ ∀ x, x < j + 1 → C[x]? = some (.bool (tk x))) ∧ Hid (Pn w nb j M [(tb, .cells C 4 (0, 0)), (ab, .cells #[.int .u32 1, .int .i64 1] 33 (0, 0))] wr)) (fun s _ => j - (intOf s).toNat)
      case atStart => exact ⟨0, _, _, _, Nat.zero_le _, rfl, Lib.hid (by rw [mkM_len]; rfl), Lib.hid (Lft.start j), HS0, HM⟩
      case round =>
        obtain ⟨i, M, tk, C, hi, rfl, HI, HL, HCC, HP⟩ := hrel
        have hMl := HI.out
        clear HS0 HM
        by_cases hij : i < j
        · have hz : (i : Int) < (j : Int) := by omega
          by_cases hil : i < s1.length
          · have hzl : (i : Int) < (s1.length : Int) := by omega
            obtain ⟨b1, o1, rfl, hb1, hc1⟩ := HAT.out (by omega)
            obtain ⟨p, hp⟩ : ∃ p, s1.getD i 0 = p := ⟨_, rfl⟩
            have hci := (HP.out.low.cell (p := ⟨b1, o1 + i, none⟩) hb1).trans (hc1 i hil)
            rw [hp] at hci
            have HPW : Hid (-9223372036854775808 ≤ p ∧ p ≤ 9223372036854775807) := Lib.hid (by rw [← hp]; exact H64.out i)
            clear hp hc1
            have hat' := at_p HP.out p HPW.out
            obtain ⟨q, hq, hqa, hqt, hq1, hq2, hqL⟩ := HL.out.take (by omega) p
            rw [hqa] at hat'
            have hC := take_p HP.out (HL.out.ok (by omega) (by omega)) ((q : Int) + 1)
            rw [hq1] at hC
            unfold takeV sentC mkD a11 at hC
            dsimp only at hC
            have HAT' := Lib.hid hat'; have HC := Lib.hid hC; have HQT := Lib.hid hqt; have HQL := Lib.hid hqL; have HQ2 := Lib.hid hq2
            clear hat' hC hqa hq1 hqt hqL hq2
            go_wp2_with fail
            refine HAT'.out.mono ?_
            rintro e W2 ⟨rfl, rfl⟩
            go_wp2_with fail
            refine HC.out.mono ?_
            rintro e W3 ⟨v, rfl, hp3, hr3, -⟩
            obtain ⟨A3, c3, hv3, h31, h32, hbt, -⟩ := hr3.parts
            have hv4 : v = .slice A3 1 c3 := hv3
            subst hv4
            obtain ⟨b3, o3, rfl, hb3, hc3⟩ := hbt.2.2 (by simp)
            have k3 : W3.cell? ⟨b3, o3, none⟩ = some (.int .u8 (q : Int)) := by
              have := hc3 0 (by simp)
              simpa using this
            have hp4 := (hp3.box (k := W3.heap.size) (sentC ((q : Int) + 1) (1, 1) (1, 1) (.slice (some ⟨b3, o3, none⟩) 1 c3)) 43 rfl)
            obtain ⟨⟨y0, y1, y2, y3, y4, y5⟩, yl⟩ := hp4.c6 (k := W3.heap.size) (no := (q : Int) + 1) (f := (1, 1)) (t := (1, 1)) (v := .slice (some ⟨b3, o3, none⟩) 1 c3) (ty := 43) (by simp)
            have hcn := count_p hp4
            have hp5 := hp4.sub (os' := (tb, .cells C 4 (0, 0)) :: [(ab, .cells #[.int .u32 1, .int .i64 1] 33 (0, 0))]) (by intro p hp; exact List.mem_cons_of_mem _ hp)
            have hst := (hp3.store (j := q + 1) (v := .bool true) (by intro p hp; simp at hp; subst hp; exact HTN.out) HTB.out).alloc (.cells (sentC ((q : Int) + 1) (1, 1) (1, 1) (.slice (some ⟨b3, o3, none⟩) 1 c3)) 43)
            have tq : (W3.alloc (.cells (sentC ((q : Int) + 1) (1, 1) (1, 1) (.slice (some ⟨b3, o3, none⟩) 1 c3)) 43)).cell? ⟨tb, q + 1, none⟩ = some (.bool false) := by
              rw [(hp5.cells (b := tb) (C := C) (t := 4) (by simp) _).1, HCC.out.2 (q + 1) (by omega), HQT.out]
            have tf := (hp5.cells (b := tb) (C := C) (t := 4) (by simp) (q + 1)).2
            have tl : tb < W3.heap.size := by have := hp3.lt (p := (tb, .cells C 4 (0, 0))) (by simp); exact this
            have k4 : (W3.alloc (.cells (sentC ((q : Int) + 1) (1, 1) (1, 1) (.slice (some ⟨b3, o3, none⟩) 1 c3)) 43)).cell? ⟨b3, o3, none⟩ = some (.int .u8 (q : Int)) := (((Below.refl _ W3).alloc (Nat.le_refl _) _).cell (p := ⟨b3, o3, none⟩) hb3).trans k3
            have hml : Hid ((takeN M ((q : Int) + 1)).2.length + (i + 1) = j) := Lib.hid (by have := HQ2.out; omega)
            have hmz : ((takeN M ((q : Int) + 1)).2.length : Int) = (j : Int) - 1 - (i : Int) := by have := hml.out; omega
            rw [hmz] at hcn
            have HCN := Lib.hid hcn
            have HST := Lib.hid hst
            have HN2 : Hid ((C.setIfInBounds (q + 1) (.bool true)).size = j + 1 ∧ ∀ x, x < j + 1 → (C.setIfInBounds (q + 1) (.bool true))[x]? = some (.bool (if x = q + 1 then true else tk x))) := Lib.hid ⟨by simpa using HCC.out.1, fun x hx => by
              by_cases e : x = q + 1
              · subst e
                rw [if_pos rfl, Array.getElem?_setIfInBounds_self_of_lt (by rw [HCC.out.1]; omega)]
              · rw [if_neg e, Array.getElem?_setIfInBounds_ne (Ne.symm e)]
                exact HCC.out.2 x hx⟩
            unfold sentC at tq tf k4 y0 y1 y2 y3 y4 y5 yl HCN HST
            dsimp only at tq tf k4 y0 y1 y2 y3 y4 y5 yl HCN HST
            have n1 : ¬ ((q : Int) + 1 < 1) := by omega
            have n2 : (q : Int) + 1 ≤ (j : Int) := by omega
            have n3 : ((q : Int) + 1).toNat = q + 1 := by omega
            have n4 : (0 : Int) ≤ (q : Int) + 1 := by omega
            have n5 : (q : Int) + 1 < (j : Int) + 1 := by omega
            have n6 : (q : Int) < (j : Int) := by omega
            have n7 : ((q : Int) != (q : Int)) = false := by simp
            have n8 : IntKind.i64.wrap (q : Int) = (q : Int) := by rw [IntKind.wrap_i64]; omega
            have n9 : (((j : Int) - 1 - (i : Int)) != ((j : Int) - 1 - (i : Int))) = false := by simp
            clear hp3 hr3 hbt hc3 hp4 hcn hp5 hst hmz
            go_wp2_with fail
            refine HCN.out.mono ?_
            rintro e W4 ⟨rfl, rfl⟩
            go_wp2
            go_roundw
            case rel => exact ⟨i + 1, _, _, _, by omega, by go_num, hml, HQL, HN2, HST⟩
            case measure => simp [intOf]; omega
          · have hzl : ¬ (i : Int) < (s1.length : Int) := by omega
            have HPW : Hid (-9223372036854775808 ≤ (i : Int) ∧ (i : Int) ≤ 9223372036854775807) := Lib.hid (by omega)
            have hat' := at_p HP.out (i : Int) HPW.out
            obtain ⟨q, hq, hqa, hqt, hq1, hq2, hqL⟩ := HL.out.take (by omega) (i : Int)
            rw [hqa] at hat'
            have hC := take_p HP.out (HL.out.ok (by omega) (by omega)) ((q : Int) + 1)
            rw [hq1] at hC
            unfold takeV sentC mkD a11 at hC
            dsimp only at hC
            have HAT' := Lib.hid hat'; have HC := Lib.hid hC; have HQT := Lib.hid hqt; have HQL := Lib.hid hqL; have HQ2 := Lib.hid hq2
            clear hat' hC hqa hq1 hqt hqL hq2
            go_wp2_with fail
            refine HAT'.out.mono ?_
            rintro e W2 ⟨rfl, rfl⟩
            go_wp2_with fail
            refine HC.out.mono ?_
            rintro e W3 ⟨v, rfl, hp3, hr3, -⟩
            obtain ⟨A3, c3, hv3, h31, h32, hbt, -⟩ := hr3.parts
            have hv4 : v = .slice A3 1 c3 := hv3
            subst hv4
            obtain ⟨b3, o3, rfl, hb3, hc3⟩ := hbt.2.2 (by simp)
            have k3 : W3.cell? ⟨b3, o3, none⟩ = some (.int .u8 (q : Int)) := by
              have := hc3 0 (by simp)
              simpa using this
            have hp4 := (hp3.box (k := W3.heap.size) (sentC ((q : Int) + 1) (1, 1) (1, 1) (.slice (some ⟨b3, o3, none⟩) 1 c3)) 43 rfl)
            obtain ⟨⟨y0, y1, y2, y3, y4, y5⟩, yl⟩ := hp4.c6 (k := W3.heap.size) (no := (q : Int) + 1) (f := (1, 1)) (t := (1, 1)) (v := .slice (some ⟨b3, o3, none⟩) 1 c3) (ty := 43) (by simp)
            have hcn := count_p hp4
            have hp5 := hp4.sub (os' := (tb, .cells C 4 (0, 0)) :: [(ab, .cells #[.int .u32 1, .int .i64 1] 33 (0, 0))]) (by intro p hp; exact List.mem_cons_of_mem _ hp)
            have hst := (hp3.store (j := q + 1) (v := .bool true) (by intro p hp; simp at hp; subst hp; exact HTN.out) HTB.out).alloc (.cells (sentC ((q : Int) + 1) (1, 1) (1, 1) (.slice (some ⟨b3, o3, none⟩) 1 c3)) 43)
            have tq : (W3.alloc (.cells (sentC ((q : Int) + 1) (1, 1) (1, 1) (.slice (some ⟨b3, o3, none⟩) 1 c3)) 43)).cell? ⟨tb, q + 1, none⟩ = some (.bool false) := by
              rw [(hp5.cells (b := tb) (C := C) (t := 4) (by simp) _).1, HCC.out.2 (q + 1) (by omega), HQT.out]
            have tf := (hp5.cells (b := tb) (C := C) (t := 4) (by simp) (q + 1)).2
            have tl : tb < W3.heap.size := by have := hp3.lt (p := (tb, .cells C 4 (0, 0))) (by simp); exact this
            have k4 : (W3.alloc (.cells (sentC ((q : Int) + 1) (1, 1) (1, 1) (.slice (some ⟨b3, o3, none⟩) 1 c3)) 43)).cell? ⟨b3, o3, none⟩ = some (.int .u8 (q : Int)) := (((Below.refl _ W3).alloc (Nat.le_refl _) _).cell (p := ⟨b3, o3, none⟩) hb3).trans k3
            have hml : Hid ((takeN M ((q : Int) + 1)).2.length + (i + 1) = j) := Lib.hid (by have := HQ2.out; omega)
            have hmz : ((takeN M ((q : Int) + 1)).2.length : Int) = (j : Int) - 1 - (i : Int) := by have := hml.out; omega
            rw [hmz] at hcn
            have HCN := Lib.hid hcn
            have HST := Lib.hid hst
            have HN2 : Hid ((C.setIfInBounds (q + 1) (.bool true)).size = j + 1 ∧ ∀ x, x < j + 1 → (C.setIfInBounds (q + 1) (.bool true))[x]? = some (.bool (if x = q + 1 then true else tk x))) := Lib.hid ⟨by simpa using HCC.out.1, fun x hx => by
              by_cases e : x = q + 1
              · subst e
                rw [if_pos rfl, Array.getElem?_setIfInBounds_self_of_lt (by rw [HCC.out.1]; omega)]
              · rw [if_neg e, Array.getElem?_setIfInBounds_ne (Ne.symm e)]
                exact HCC.out.2 x hx⟩
            unfold sentC at tq tf k4 y0 y1 y2 y3 y4 y5 yl HCN HST
            dsimp only at tq tf k4 y0 y1 y2 y3 y4 y5 yl HCN HST
            have n1 : ¬ ((q : Int) + 1 < 1) := by omega
            have n2 : (q : Int) + 1 ≤ (j : Int) := by omega
            have n3 : ((q : Int) + 1).toNat = q + 1 := by omega
            have n4 : (0 : Int) ≤ (q : Int) + 1 := by omega
            have n5 : (q : Int) + 1 < (j : Int) + 1 := by omega
            have n6 : (q : Int) < (j : Int) := by omega
            have n7 : ((q : Int) != (q : Int)) = false := by simp
            have n8 : IntKind.i64.wrap (q : Int) = (q : Int) := by rw [IntKind.wrap_i64]; omega
            have n9 : (((j : Int) - 1 - (i : Int)) != ((j : Int) - 1 - (i : Int))) = false := by simp
            clear hp3 hr3 hbt hc3 hp4 hcn hp5 hst hmz
            go_wp2_with fail
            refine HCN.out.mono ?_
            rintro e W4 ⟨rfl, rfl⟩
            go_wp2
            go_roundw
            case rel => exact ⟨i + 1, _, _, _, by omega, by go_num, hml, HQL, HN2, HST⟩
            case measure => simp [intOf]; omega
        · have hz : ¬ (i : Int) < (j : Int) := by omega
          have hM0 : M = [] := List.eq_nil_of_length_eq_zero (by omega)
          have hA := at_p HP.out 0 (by omega)
          rw [hM0] at hA
          have e0 : atN [] 0 = 0 := rfl
          rw [e0] at hA
          have HLOW := Lib.hid HP.out.low
          go_wp2_with fail
          refine hA.mono ?_
          rintro e W2 ⟨rfl, rfl⟩
          go_wp2
          go_ret
          exact ⟨rfl, HLOW.out⟩

/-! ### THE ROW's STEP: WRITTEN OUT: LEAVE IT -/
set_option maxRecDepth 100000 in
theorem lifted (os : Os) (started : os.Started) (H : Type) (enc : TypeId × Value → H) :
    ReturnsInHanded {} Try.checked os 5 .any (Rows.netPlacesSpec.pre6 enc Try.prog Try.f5 Rows.netPlacesRow.domain false) (Rows.netPlacesSpec.post enc Try.prog Try.f5 false true false false) := by
  refine returnsInHanded_of_change (C := Try.checked) own started (by kernel_rfl) Try.func5
    (ChangeSpec.witness6 (enc := enc) (C := Try.checked) false ⟨#[], #[.int .u8 0, .slice none 0 0], []⟩ 8 (by kernel_rfl) (by kernel_rfl) (by kernel_rfl) (by kernel_rfl)) ?_
  intro W base args ds gs before hval0 hW hcnd _
  have hval : ∀ (j : Nat) t v, Try.f5.params[j]? = some t → args[j]? = some v → Value.okWide Try.prog W .any base t v := hval0
  have hW' := hW
  obtain ⟨p, q, hA0, hV, rfl, hfz, hnd⟩ := hW
  have hA : DataW.TrodAll enc Try.prog W 0 (fun _ => true) true Try.f5.params.toList args.toList ds p := hA0
  rw [Try.params5] at hA hval
  obtain ⟨v0, vs0, d0, ds0, p0, q0, hargs, rfl, rfl, h0, r0⟩ := trodAll_cons hA
  obtain ⟨v1, vs1, d1, ds1, p1, q1, rfl, rfl, rfl, h1, r1⟩ := trodAll_cons r0
  obtain ⟨rfl, rfl, rfl⟩ := trodAll_nil r1
  obtain rfl : args = #[v0, v1] := by cases args; simp_all
  obtain ⟨rfl, rfl⟩ := trodVars_none hV
  obtain ⟨a0, rfl, rfl, rfl, w0⟩ := open_int Try.underlying5 (hval 0 5 v0 rfl rfl) h0
  have k1 := h1
  have lt1 : ∀ x ∈ p1, x.block < W.heap.size := by obtain ⟨m, hm⟩ := k1; exact DataW.trod_lt m _ _ _ hm
  obtain ⟨s1, w1⟩ := open_nums (hval 1 51 v1 rfl rfl) h1
  clear hA0 hval0
  refine (walk a0 v1 s1 W w0 w1).mono fun e W' ⟨he, bel⟩ => ?_
  subst he
  exact ⟨_, rfl, _, _, _, [], _, [], hW', trodAll_mk1 (shut_bool Try.underlying4 _), (trodAll_cons_mk (shut_int Try.underlying5 w0) (trodAll_cons_mk (Below.trod laidOut (by kernel_rfl) (of_decide_eq_true (by kernel_rfl)) k1 bel lt1) trodAll_mk0)), rfl, bel.frame _, fun h => by cases h⟩

theorem over : Rows.netPlacesRow.holds Try.pinned (OpenSpec.ofChange Rows.netPlacesSpec) :=
  OpenClaim.holds_of_wide 5 Try.f5 rfl rfl rfl rfl rfl rfl rfl ⟨rfl, rfl, rfl, rfl, rfl⟩ rfl rfl rfl rfl rfl (by kernel_rfl) Try.func5 (by kernel_rfl)
    (of_decide_eq_true (by kernel_rfl)) (by unfold Func.isWrapper; first | (rw [if_pos (by decide +kernel)]; kernel_rfl) | (rw [if_neg (by decide +kernel)]; exact ⟨rfl, rfl⟩))
    (fun os started H enc _ => lifted os started H enc)

/-- ████ THE STATEMENT ████ -/
theorem proved : Rows.NetPlacesSaid := over
#print axioms proved
end Go.Proofs.Ythfdnidcmkjmoaa.netPlaces
