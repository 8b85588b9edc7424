/-
  What is proved: bytes that are no request of a version that a gateway speaks are answered by nothing, but for those of the other version, and no binding comes of them (GateDeaf answers true for every input). Conditions: none beside the statement's own.
-/
import Derived.Test.YtemlnkcokeckmaaMh23
import Derived.Test.YtemlnkcokeckmaaGw
import Derived.Test.YtemlnkcokeckmaaRows
import Derived.WalkKit
import Derived.ProofKit
import Derived.OpenShut
import Derived.ShutString
import Derived.ChangeOld
import Derived.Below
namespace Go.Proofs.Ytemlnkcokeckmaa.gateDeaf
open Go.ChangeShapes Go.WideShapes Go.ChangeAt Go.RowKit
open Go.ChangeMaps (open_string shut_string)
set_option linter.unusedVariables false

theorem own : ownKnob Try.prog.godebug = none := by kernel_rfl
theorem laidOut : laidOutB Try.prog = true := by kernel_rfl

theorem read_txt {w : World} {v : Value} {zs : List Int} (h : Pp.Row w v zs) (hz : 0 < zs.length) : ∃ bb off c, v = .slice (some ⟨bb, off, none⟩) zs.length c ∧ bb < w.heap.size ∧ w.cell? ⟨bb, off, none⟩ = some (.int .u8 (zs.getD 0 0)) := by
  obtain ⟨A, c, rfl, h1, h2, h3, h4⟩ := h
  obtain ⟨b, off, rfl, hlt, hc⟩ := h1.2.2 hz
  exact ⟨b, off, c, rfl, hlt, hc 0 hz⟩
theorem isBs_len0 {w : World} {v : Value} (h : IsBs w v []) : ∃ A c, v = .slice A 0 c := by obtain ⟨A, c, e, _⟩ := h; exact ⟨A, c, e⟩
theorem isBs_none (w : World) : IsBs w (.slice none 0 0) [] := ⟨none, 0, rfl, Nat.le_refl _, Nat.zero_le _, fun h => absurd h (by simp)⟩
set_option maxRecDepth 100000 in
set_option maxHeartbeats 16000000 in
theorem walk (v0 : Value) (s0 : List Int) (v1 : Value) (s1 : A2) (v2 : Value) (s2 : Bool) (w : World) (w0 : IsTxt w v0 s0) (w1 : IsAdr w v1 s1) (w2 : IsFlag w v2 s2) :
    Calls Try.prog 12 #[v0, v1, v2] w fun e w' => e = .returned (.bool true) ∧ Below w.heap.size w w' := by
  obtain ⟨rfl, ha⟩ := w1
  obtain rfl := w2
  have HA := Lib.hid ha
  have HBD := Lib.hid (show Pp.Bd s0 from Pp.Row.bd w0)
  have HT := Lib.hid (show Pp.Row w v0 s0 from w0)
  obtain ⟨A, cap, rfl⟩ := row_form w0
  have HRA : Hid (∃ l' h' cd, (cd = 0 ∨ (cd = 3 ∧ ∀ l hh, ¬ Pp.AskOf s0 l hh)) ∧ ∀ V, Below w.heap.size w V → Calls Try.prog 38 #[.slice A s0.length cap] V fun e V' => e = .returned (.tuple #[Pp.leV l', .bool h', .int .i64 cd]) ∧ Below V.heap.size V V') := Lib.hid (by
    by_cases hz : ∃ l hh, Pp.AskOf s0 l hh
    · obtain ⟨l, hh, hz⟩ := hz
      exact ⟨l, hh, 0, .inl rfl, fun V hV => Pp.read_ask_yes (HT.out.below hV) hz⟩
    · exact ⟨Pp.zeroL, false, 3, .inr ⟨rfl, fun l hh h => hz ⟨l, hh, h⟩⟩, fun V hV => Pp.read_ask_not (HT.out.below hV) (fun l hh h => hz ⟨l, hh, h⟩)⟩)
  obtain ⟨l', h', cd, hcd, hra⟩ := HRA.out
  have HCD := Lib.hid hcd
  have HRD := Lib.hid hra
  clear hcd hra HRA ha w0
  unfold Pp.leV Pp.leA at HRD
  unfold adr
  have hs0 := (Hs.nil w).box #[.int .u32 s1.1, .int .i64 s1.2] 38 rfl
  go_enter Try.func12, Try.ntmps12
  go_wp2_with fail
  refine (gawake_any _).mono ?_
  rintro e w1 ⟨rfl, hb1⟩
  have hs1 := hs0.below hb1
  have HS1 := Lib.hid hs1
  clear hs0 hs1 hb1
  by_cases hlen : s0.length ≤ 200
  · have hlz : ¬ (200 : Int) < (s0.length : Int) := by omega
    go_wp2_with fail
    have h25 := box25 0 (by omega) w1
    refine h25.mono ?_
    rintro e w2 ⟨rfl, hb2⟩
    have hs3 := (HS1.out.below hb2)
    have HNEW := Lib.hid (new_hs (bxC 0) (bxC_is 0) (bxC_2 0) hs3)
    clear hs3 hb2 h25
    go_wp2_with fail
    refine HNEW.out.mono ?_
    rintro e V1 ⟨g, rfl, hp1⟩
    have HGN := Lib.hid (gnew_pl hp1 true s2 60 0 ⟨by omega, by omega⟩ ⟨by omega, by omega⟩)
    clear hp1 HNEW
    go_wp2_with fail
    refine HGN.out.mono ?_
    rintro e V2 ⟨gb, nm, av, os', rfl, hg2, han⟩
    have HAN := Lib.hid han
    have HG2 := Lib.hid hg2
    have HRE := Lib.hid (HRD.out V2 hg2.low)
    clear hg2 han HGN
    go_wp2_with fail
    refine HRE.out.mono ?_
    rintro e V3 ⟨rfl, hb3⟩
    have hg4 := (HG2.out.below hb3).box (k := V3.heap.size) (Pp.leA l') 64 rfl
    have HRW := Lib.hid (fun f' n' M' W (hW : Gm w gb g nm (bxC 0) 60 0 av f' 0 n' M' ((V3.heap.size, .cells (Pp.leA l') 64 (0, 0)) :: (os' ++ [(w.heap.size, .cells #[.int .u32 s1.1, .int .i64 s1.2] 38 (0, 0))])) W) => HT.out.below hW.low)
    have hh := hear_weak hg4 (bxC_ok 0) (Okb.nil (by decide)) ok_nil 1 s1 HA.out _ s0 (an_more HAN.out (fun r hr => by simp [hr])) HBD.out HRW.out (by omega) (by omega) (by omega) (by omega) (by decide) (by decide)
    unfold adr Pp.leA at hh
    have HH := Lib.hid hh
    have hcl := fun j => hg4.cellsOf (b := w.heap.size) (C := #[.int .u32 s1.1, .int .i64 s1.2]) (t := 38) (by simp) j
    have c0 := (hcl 0).1
    have c1 := (hcl 1).1
    have cl := hg4.lt (p := (w.heap.size, .cells #[.int .u32 s1.1, .int .i64 s1.2] 38 (0, 0))) (by simp)
    unfold Pp.leA at c0 c1 cl
    simp only [List.getElem?_toArray, List.getElem?_cons_zero, List.getElem?_cons_succ] at c0 c1
    dsimp only at cl
    clear hg4 hh hb3 HRE hcl
    go_wp2_with fail
    refine HH.out.mono ?_
    rintro e V4 ⟨u, rfl, r, f', c', n', M', hrow, hg5, hdf⟩
    have HROW := Lib.hid hrow
    have HG5 := Lib.hid hg5
    have HDF := Lib.hid hdf
    obtain ⟨A4, c4, rfl⟩ := row_form hrow
    clear hrow hg5 hdf HH c0 c1 cl
    by_cases hc0 : cd = 0
    · subst hc0
      have HLOW := Lib.hid HG5.out.low
      go_wp2
      go_ret
      exact ⟨rfl, HLOW.out⟩
    · obtain ⟨hcd3, hno⟩ : cd = 3 ∧ ∀ l hh, ¬ Pp.AskOf s0 l hh := by
        rcases HCD.out with h | h
        · exact absurd h hc0
        · exact h
      subst hcd3
      have HNO := Lib.hid hno
      have HLOW := Lib.hid HG5.out.low
      clear hno hc0
      by_cases h60 : s0.length = 60
      · have z1 : ((s0.length : Int) == 60) = true := by simp [h60]
        have HZ := Lib.hid h60
        clear h60
        go_wp2
        go_ret
        exact ⟨rfl, HLOW.out⟩
      · have z1 : ((s0.length : Int) == 60) = false := by simp; omega
        have hd := HDF.out HNO.out (fun l k h => h60 h.len)
        have hst : n' = 1 ∧ M' = [] := by
          rcases hd with ⟨hg, _, e1, e2⟩ | ⟨_, _, _, e1, e2⟩ | ⟨_, _, _, _, e1, e2⟩
          · rw [e1, e2, (in0_st _ _ _ _ _ (by decide)).1, (in0_st _ _ _ _ _ (by decide)).2]; exact ⟨rfl, rfl⟩
          · exact ⟨e1, e2⟩
          · exact ⟨e1, e2⟩
        obtain ⟨e1, e2⟩ := hst
        have HZ := Lib.hid h60
        have HD := Lib.hid hd
        clear h60 hd
        subst e1 e2
        have HALL := Lib.hid (all_gm HG5.out ok_nil 1 (by decide))
        have hcl := fun j => HG5.out.cellsOf (b := w.heap.size) (C := #[.int .u32 s1.1, .int .i64 s1.2]) (t := 38) (by simp) j
        have c0 := (hcl 0).1
        have c1 := (hcl 1).1
        have cl := HG5.out.lt (p := (w.heap.size, .cells #[.int .u32 s1.1, .int .i64 s1.2] 38 (0, 0))) (by simp)
        simp only [List.getElem?_toArray, List.getElem?_cons_zero, List.getElem?_cons_succ] at c0 c1
        dsimp only at cl
        clear hcl
        by_cases hcond : 0 < s0.length ∧ s0.getD 0 0 = 2 ∧ s2 = false ∧ s1.1 ≠ 0 ∧ 1 ≤ s1.2 ∧ s1.2 ≤ 65535
        · obtain ⟨q0, q1, q2, q3, q4, q5⟩ := hcond
          have hr : r = Pp.ansR ⟨0, 0, 0, 0, 0, 1, 1, 0⟩ true := by
            rcases HD.out with ⟨hg, _⟩ | ⟨_, hh, _⟩ | ⟨_, _, _, e, _⟩
            · simp [mayA, q3, q4, q5] at hg
              exact absurd hg (by decide)
            · refine absurd ⟨q2, ?_⟩ hh
              unfold verL
              rw [if_neg (by omega)]; exact q1
            · exact e
          subst hr
          obtain ⟨bb, off, c, e, hbb, hcell⟩ := read_txt HT.out q0
          simp only [Value.slice.injEq] at e
          obtain ⟨rfl, _, rfl⟩ := e
          have d0 := (HG5.out.low.cell (p := ⟨bb, off, none⟩) hbb).trans hcell
          have dl : bb < V4.heap.size := Nat.lt_of_lt_of_le hbb HG5.out.low.size
          rw [q1] at d0
          have z2 : (0 : Int) < (s0.length : Int) := by omega
          have z3 : (s1.1 != (0 : Int)) = true := by simpa using q3
          have HRA := Lib.hid (Pp.read_ans_yes HROW.out (l := ⟨0, 0, 0, 0, 0, 1, 1, 0⟩) (h := true) ⟨by constructor <;> simp [Pp.W64], by decide, rfl⟩)
          unfold Pp.okV Pp.leV Pp.leA at HRA
          dsimp only at HRA
          have HQ3 := Lib.hid q3
          subst q2
          clear q0 q1 hcell hbb q3
          generalize (Pp.ansR ⟨0, 0, 0, 0, 0, 1, 1, 0⟩ true).length = n4 at HRA ⊢
          go_wp2_with fail
          refine HRA.out.mono ?_
          rintro e V6 ⟨rfl, hb6⟩
          have hg7 := (HG5.out.below hb6).alloc (.cells #[.int .i64 0, .int .i64 0, .int .i64 0, .int .i64 0, .int .u64 0, .int .i64 1, .int .i64 1, .int .u32 0] 64)
          have HAL2 := Lib.hid (all_gm hg7 ok_nil 1 (by decide))
          clear hb6 hg7 c0 c1 cl d0 dl z2 z3 q4 q5
          go_wp2_with fail
          refine HAL2.out.mono ?_
          rintro e V8 ⟨⟨v, l8, rfl, hp8, hbs8⟩, hg8⟩
          have e8 : l8 = [] := hp8.eq_nil
          subst e8
          obtain ⟨A8, c8, rfl⟩ := isBs_len0 hbs8
          have HL8 := Lib.hid hg8.low
          clear hp8 hbs8 hg8
          go_wp2
          go_ret
          exact ⟨rfl, HL8.out⟩
        · have hr : r = [] := by
            rcases HD.out with ⟨_, e, _⟩ | ⟨_, _, e, _⟩ | ⟨hg, hq, hv, _⟩
            · exact e
            · exact e
            · exfalso
              apply hcond
              have hl : s0.length ≠ 0 := by intro h; unfold verL at hv; rw [if_pos h] at hv; omega
              have hv2 : s0.getD 0 0 = 2 := by unfold verL at hv; rw [if_neg hl] at hv; exact hv
              simp [mayA] at hg
              exact ⟨by omega, hv2, hq, hg.2.1.1, hg.2.1.2, hg.2.2⟩
          subst hr
          have HC := Lib.hid hcond
          clear hcond
          obtain ⟨n4, hn4⟩ : ∃ n4, n4 = ([] : List Int).length := ⟨_, rfl⟩
          have hn5 : n4 = 0 := hn4
          rw [← hn4]
          clear hn4
          subst hn5
          by_cases q0 : 0 < s0.length
          · obtain ⟨bb, off, c, e, hbb, hcell⟩ := read_txt HT.out q0
            simp only [Value.slice.injEq] at e
            obtain ⟨rfl, _, rfl⟩ := e
            have d0 := (HG5.out.low.cell (p := ⟨bb, off, none⟩) hbb).trans hcell
            have dl : bb < V4.heap.size := Nat.lt_of_lt_of_le hbb HG5.out.low.size
            have hzb := Pp.getD_bd HBD.out 0
            obtain ⟨z0, hz0⟩ : ∃ z0, z0 = s0.getD 0 0 := ⟨_, rfl⟩
            have HZ0 := Lib.hid hz0
            rw [← hz0] at d0 hzb
            have z2 : (0 : Int) < (s0.length : Int) := by omega
            clear hcell hbb hz0
            by_cases q1 : z0 = 2
            · have HQ1 := Lib.hid q1
              subst q1
              cases s2 with
              | true =>
                  go_wp2_with fail
                  refine HALL.out.mono ?_
                  rintro e V8 ⟨⟨v, l8, rfl, hp8, hbs8⟩, hg8⟩
                  have e8 : l8 = [] := hp8.eq_nil
                  subst e8
                  obtain ⟨A8, c8, hv8⟩ := isBs_len0 hbs8
                  have HS := Lib.hid (rsame_any hbs8 (isBs_none V8) rfl (fun k b c h1 h2 => absurd h1 (by simp)))
                  have HG8 := Lib.hid hg8
                  subst hv8
                  clear hp8 hbs8 hg8
                  go_wp2_with fail
                  refine HS.out.mono ?_
                  rintro e V9 ⟨rfl, hb9⟩
                  have HL9 := Lib.hid (HG8.out.below hb9).low
                  clear hb9
                  go_wp2
                  go_ret
                  exact ⟨rfl, HL9.out⟩
              | false =>
                by_cases q3 : s1.1 = 0
                · have z3 : (s1.1 != (0 : Int)) = false := by simp [q3]
                  clear q3
                  go_wp2_with fail
                  refine HALL.out.mono ?_
                  rintro e V8 ⟨⟨v, l8, rfl, hp8, hbs8⟩, hg8⟩
                  have e8 : l8 = [] := hp8.eq_nil
                  subst e8
                  obtain ⟨A8, c8, hv8⟩ := isBs_len0 hbs8
                  have HS := Lib.hid (rsame_any hbs8 (isBs_none V8) rfl (fun k b c h1 h2 => absurd h1 (by simp)))
                  have HG8 := Lib.hid hg8
                  subst hv8
                  clear hp8 hbs8 hg8
                  go_wp2_with fail
                  refine HS.out.mono ?_
                  rintro e V9 ⟨rfl, hb9⟩
                  have HL9 := Lib.hid (HG8.out.below hb9).low
                  clear hb9
                  go_wp2
                  go_ret
                  exact ⟨rfl, HL9.out⟩
                · have z3 : (s1.1 != (0 : Int)) = true := by simpa using q3
                  have HQ3 := Lib.hid q3
                  clear q3
                  by_cases q4 : 1 ≤ s1.2
                  · by_cases q5 : s1.2 ≤ 65535
                    · exact absurd ⟨q0, HZ0.out.symm, rfl, HQ3.out, q4, q5⟩ HC.out
                    · have q6 : (65535 : Int) < s1.2 := by omega
                      go_wp2_with fail
                      refine HALL.out.mono ?_
                      rintro e V8 ⟨⟨v, l8, rfl, hp8, hbs8⟩, hg8⟩
                      have e8 : l8 = [] := hp8.eq_nil
                      subst e8
                      obtain ⟨A8, c8, hv8⟩ := isBs_len0 hbs8
                      have HS := Lib.hid (rsame_any hbs8 (isBs_none V8) rfl (fun k b c h1 h2 => absurd h1 (by simp)))
                      have HG8 := Lib.hid hg8
                      subst hv8
                      clear hp8 hbs8 hg8
                      go_wp2_with fail
                      refine HS.out.mono ?_
                      rintro e V9 ⟨rfl, hb9⟩
                      have HL9 := Lib.hid (HG8.out.below hb9).low
                      clear hb9
                      go_wp2
                      go_ret
                      exact ⟨rfl, HL9.out⟩
                  · have q6 : s1.2 < 1 := by omega
                    go_wp2_with fail
                    refine HALL.out.mono ?_
                    rintro e V8 ⟨⟨v, l8, rfl, hp8, hbs8⟩, hg8⟩
                    have e8 : l8 = [] := hp8.eq_nil
                    subst e8
                    obtain ⟨A8, c8, hv8⟩ := isBs_len0 hbs8
                    have HS := Lib.hid (rsame_any hbs8 (isBs_none V8) rfl (fun k b c h1 h2 => absurd h1 (by simp)))
                    have HG8 := Lib.hid hg8
                    subst hv8
                    clear hp8 hbs8 hg8
                    go_wp2_with fail
                    refine HS.out.mono ?_
                    rintro e V9 ⟨rfl, hb9⟩
                    have HL9 := Lib.hid (HG8.out.below hb9).low
                    clear hb9
                    go_wp2
                    go_ret
                    exact ⟨rfl, HL9.out⟩
            · have z3 : (z0 == (2 : Int)) = false := by simpa using q1
              have HQ1 := Lib.hid q1
              clear q1
              go_wp2_with fail
              refine HALL.out.mono ?_
              rintro e V8 ⟨⟨v, l8, rfl, hp8, hbs8⟩, hg8⟩
              have e8 : l8 = [] := hp8.eq_nil
              subst e8
              obtain ⟨A8, c8, hv8⟩ := isBs_len0 hbs8
              have HS := Lib.hid (rsame_any hbs8 (isBs_none V8) rfl (fun k b c h1 h2 => absurd h1 (by simp)))
              have HG8 := Lib.hid hg8
              subst hv8
              clear hp8 hbs8 hg8
              go_wp2_with fail
              refine HS.out.mono ?_
              rintro e V9 ⟨rfl, hb9⟩
              have HL9 := Lib.hid (HG8.out.below hb9).low
              clear hb9
              go_wp2
              go_ret
              exact ⟨rfl, HL9.out⟩
          · have z2 : ¬ (0 : Int) < (s0.length : Int) := by omega
            go_wp2_with fail
            refine HALL.out.mono ?_
            rintro e V8 ⟨⟨v, l8, rfl, hp8, hbs8⟩, hg8⟩
            have e8 : l8 = [] := hp8.eq_nil
            subst e8
            obtain ⟨A8, c8, hv8⟩ := isBs_len0 hbs8
            have HS := Lib.hid (rsame_any hbs8 (isBs_none V8) rfl (fun k b c h1 h2 => absurd h1 (by simp)))
            have HG8 := Lib.hid hg8
            subst hv8
            clear hp8 hbs8 hg8
            go_wp2_with fail
            refine HS.out.mono ?_
            rintro e V9 ⟨rfl, hb9⟩
            have HL9 := Lib.hid (HG8.out.below hb9).low
            clear hb9
            go_wp2
            go_ret
            exact ⟨rfl, HL9.out⟩
  · have hlz : (200 : Int) < (s0.length : Int) := by omega
    have HLOW := Lib.hid HS1.out.low
    go_wp2
    go_ret
    exact ⟨rfl, HLOW.out⟩

/-! ### THE ROW's STEP: WRITTEN OUT: LEAVE IT -/
set_option maxRecDepth 100000 in
theorem lifted (os : Os) (started : os.Started) (H : Type) (enc : TypeId × Value → H) :
    ReturnsInHanded {} Try.checked os 12 .any (Rows.gateDeafSpec.pre6 enc Try.prog Try.f12 Rows.gateDeafRow.domain false) (Rows.gateDeafSpec.post enc Try.prog Try.f12 false true false false) := by
  refine returnsInHanded_of_change (C := Try.checked) own started (by kernel_rfl) Try.func12
    (ChangeSpec.witness6 (enc := enc) (C := Try.checked) false ⟨#[], #[.slice none 0 0, .agg #[.int .u32 0, .int .i64 0], .bool false], []⟩ 8 (by kernel_rfl) (by kernel_rfl) (by kernel_rfl) (by kernel_rfl)) ?_
  intro W base args ds gs before hval0 hW hcnd _
  have hval : ∀ (j : Nat) t v, Try.f12.params[j]? = some t → args[j]? = some v → Value.okWide Try.prog W .any base t v := hval0
  have hW' := hW
  obtain ⟨p, q, hA0, hV, rfl, hfz, hnd⟩ := hW
  have hA : DataW.TrodAll enc Try.prog W 0 (fun _ => true) true Try.f12.params.toList args.toList ds p := hA0
  rw [Try.params12] at hA hval
  obtain ⟨v0, vs0, d0, ds0, p0, q0, hargs, rfl, rfl, h0, r0⟩ := trodAll_cons hA
  obtain ⟨v1, vs1, d1, ds1, p1, q1, rfl, rfl, rfl, h1, r1⟩ := trodAll_cons r0
  obtain ⟨v2, vs2, d2, ds2, p2, q2, rfl, rfl, rfl, h2, r2⟩ := trodAll_cons r1
  obtain ⟨rfl, rfl, rfl⟩ := trodAll_nil r2
  obtain rfl : args = #[v0, v1, v2] := by cases args; simp_all
  obtain ⟨rfl, rfl⟩ := trodVars_none hV
  have k0 := h0
  have lt0 : ∀ x ∈ p0, x.block < W.heap.size := by obtain ⟨m, hm⟩ := k0; exact DataW.trod_lt m _ _ _ hm
  obtain ⟨s0, w0⟩ := open_txt (hval 0 60 v0 rfl rfl) h0
  have k1 := h1
  have lt1 : ∀ x ∈ p1, x.block < W.heap.size := by obtain ⟨m, hm⟩ := k1; exact DataW.trod_lt m _ _ _ hm
  obtain ⟨s1, w1⟩ := open_adr (hval 1 38 v1 rfl rfl) h1
  have k2 := h2
  have lt2 : ∀ x ∈ p2, x.block < W.heap.size := by obtain ⟨m, hm⟩ := k2; exact DataW.trod_lt m _ _ _ hm
  obtain ⟨s2, w2⟩ := open_flag (hval 2 4 v2 rfl rfl) h2
  clear hA0 hval0
  refine (walk v0 s0 v1 s1 v2 s2 W w0 w1 w2).mono fun e W' ⟨he, bel⟩ => ?_
  subst he
  exact ⟨_, rfl, _, _, _, [], _, [], hW', trodAll_mk1 (shut_bool Try.underlying4 _), (trodAll_cons_mk (Below.trod laidOut (by kernel_rfl) (of_decide_eq_true (by kernel_rfl)) k0 bel lt0) (trodAll_cons_mk (Below.trod laidOut (by kernel_rfl) (of_decide_eq_true (by kernel_rfl)) k1 bel lt1) (trodAll_cons_mk (Below.trod laidOut (by kernel_rfl) (of_decide_eq_true (by kernel_rfl)) k2 bel lt2) trodAll_mk0))), rfl, bel.frame _, fun h => by cases h⟩

theorem over : Rows.gateDeafRow.holds Try.pinned (OpenSpec.ofChange Rows.gateDeafSpec) :=
  OpenClaim.holds_of_wide 12 Try.f12 rfl rfl rfl rfl rfl rfl rfl ⟨rfl, rfl, rfl, rfl, rfl⟩ rfl rfl rfl rfl rfl (by kernel_rfl) Try.func12 (by kernel_rfl)
    (of_decide_eq_true (by kernel_rfl)) (by unfold Func.isWrapper; first | (rw [if_pos (by decide +kernel)]; kernel_rfl) | (rw [if_neg (by decide +kernel)]; exact ⟨rfl, rfl⟩))
    (fun os started H enc _ => lifted os started H enc)

/-- ████ THE STATEMENT ████ -/
theorem proved : Rows.GateDeafSaid := over
#print axioms proved
end Go.Proofs.Ytemlnkcokeckmaa.gateDeaf
