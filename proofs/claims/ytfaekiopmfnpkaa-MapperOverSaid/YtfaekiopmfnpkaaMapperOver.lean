/-
  What is proved: what a client was granted it has till just its end, then it asks anew, and what is granted with another number is nothing (MapperOver answers true for every input). Conditions: none beside the statement's own.
-/
import Derived.Test.YtfaekiopmfnpkaaMh
import Derived.Test.YtfaekiopmfnpkaaRows
import Derived.WalkKit
import Derived.ProofKit
import Derived.OpenShut
import Derived.ShutString
import Derived.ChangeOld
import Derived.Below
namespace Go.Proofs.Ytfaekiopmfnpkaa.mapperOver
open Go.ChangeShapes Go.WideShapes Go.ChangeAt Go.RowKit
open Go.ChangeMaps (open_string shut_string)
set_option linter.unusedVariables false

theorem own : ownKnob Try.prog.godebug = none := by kernel_rfl
theorem laidOut : laidOutB Try.prog = true := by kernel_rfl

open Mp in
set_option linter.unusedSimpArgs false
open Mp in
set_option maxRecDepth 100000 in
set_option maxHeartbeats 80000000 in
theorem walk (v0 : Value) (s0 : Cl) (a1 : Int) (a2 : Int) (w : World) (w0 : IsCli w v0 s0) (w1 : (Lit.int .u16 a1).wf = true) (w2 : (Lit.int .u16 a2).wf = true) :
    Calls Try.prog 3 #[v0, .int .u16 a1, .int .u16 a2] w fun e w' => e = .returned (.bool true) ∧ Below w.heap.size w w' := by
  obtain ⟨rfl, ⟨hh0, hh1⟩, hi, hs, hn⟩ := w0
  obtain ⟨p0, p1⟩ := bounds_u16 w1
  obtain ⟨r0, r1⟩ := bounds_u16 w2
  unfold Pp.W64 at hi hs
  obtain ⟨i0, i1⟩ := hi
  obtain ⟨g0, g1⟩ := hs
  obtain ⟨n0, n1⟩ := hn
  obtain ⟨hst, ins, sec, non⟩ := s0
  dsimp only at hh0 hh1 i0 i1 g0 g1 n0 n1 ⊢
  clear w1 w2
  have hb0 : Below w.heap.size w (w.alloc (.cells #[.int .u32 hst, .int .i64 ins, .int .i64 sec, .int .u64 non] 25)) := (Below.refl _ w).alloc (Nat.le_refl _) _
  have ho0 : (w.alloc (.cells #[.int .u32 hst, .int .i64 ins, .int .i64 sec, .int .u64 non] 25)).heap[w.heap.size]? = some (.cells #[.int .u32 hst, .int .i64 ins, .int .i64 sec, .int .u64 non] 25 (0, 0)) := by show (w.heap.push _)[w.heap.size]? = _; simp
  have HB0 := Lib.hid hb0
  have HO0 := Lib.hid ho0
  clear hb0 ho0
  go_enter Try.func3, Try.ntmps3
  go_wp2_with fail
  refine (awake_any _).mono ?_
  rintro e W1 ⟨rfl, hb1⟩
  have ho1 := (hb1.block _ (Array.getElem?_eq_some_iff.1 HO0.out).1).trans HO0.out
  have HO1 := Lib.hid ho1
  have HB1 := Lib.hid (HB0.out.trans (hb1.mono HB0.out.size))
  have hc := fun j => (Mp.cells_of ho1 j).1
  have c0 := hc 0
  have c1 := hc 1
  have c2 := hc 2
  have c3 := hc 3
  have cl := (Array.getElem?_eq_some_iff.1 ho1).1
  simp only [List.getElem?_toArray, List.getElem?_cons_zero, List.getElem?_cons_succ] at c0 c1 c2 c3
  clear hb1 ho1 hc HO0 HB0
  cases hmay : mayC hst ins sec with
  | false =>
    have hbad : hst = 0 ∨ ins < 1 ∨ 65535 < ins ∨ sec < 1 ∨ 4294967295 < sec := by
      have h : ¬ (hst ≠ 0 ∧ 1 ≤ ins ∧ ins ≤ 65535 ∧ 1 ≤ sec ∧ sec ≤ 4294967295) := by rw [← mayC_iff, hmay]; simp
      by_cases e0 : hst = 0
      · exact .inl e0
      · by_cases e1 : 1 ≤ ins
        · by_cases e2 : ins ≤ 65535
          · by_cases e3 : 1 ≤ sec
            · exact .inr (.inr (.inr (.inr (by
                by_cases e4 : sec ≤ 4294967295
                · exact absurd ⟨e0, e1, e2, e3, e4⟩ h
                · omega))))
            · exact .inr (.inr (.inr (.inl (by omega))))
          · exact .inr (.inr (.inl (by omega)))
        · exact .inr (.inl (by omega))
    have HN := Lib.hid (new_bad W1 hst ins sec non hbad)
    have HM := Lib.hid (may_no hst ins sec W1 hmay)
    clear hbad hmay
    go_wp2_with fail
    refine HN.out.mono ?_
    rintro e W2 ⟨rfl, rfl⟩
    go_wp2_with fail
    refine HM.out.mono ?_
    rintro e W3 ⟨rfl, rfl⟩
    go_wp2
    go_ret
    exact ⟨rfl, HB1.out⟩
  | true =>
    obtain ⟨h0, h1, h2, h3, h4⟩ := (mayC_iff hst ins sec).1 hmay
    have HN := Lib.hid (new_ok W1 hst ins sec non h0 ⟨h1, h2⟩ ⟨h3, h4⟩)
    have HM := Lib.hid (fun W => may_yes hst ins sec W hmay)
    have HIS := Lib.hid (newM_is (host := hst) (ins := ins) (secs := sec) (non := non) ⟨hh0, hh1⟩ ⟨h1, h2⟩ ⟨h3, h4⟩ ⟨n0, n1⟩)
    clear hmay h0
    go_wp2_with fail
    refine HN.out.mono ?_
    rintro e W2 ⟨mb, am, rfl, hm2, hst2, hne, hmb, ham, hb2⟩
    have ho2 := (hb2.block _ cl).trans HO1.out
    have HO2 := Lib.hid ho2
    have HM2 := Lib.hid hm2
    have HST2 := Lib.hid hst2
    have HNE := Lib.hid hne
    have HMB : Hid (W1.heap.size ≤ mb) := Lib.hid hmb
    have HWM : Hid (w.heap.size ≤ mb ∧ w.heap.size ≠ mb) := Lib.hid ⟨by have := HB1.out.size; omega, by omega⟩
    have HB2 := Lib.hid (HB1.out.trans (hb2.mono HB1.out.size))
    clear c0 c1 c2 c3
    have hc := fun j => (Mp.cells_of ho2 j).1
    have c0 := hc 0
    have c1 := hc 1
    have c2 := hc 2
    have c3 := hc 3
    have cl2 := (Array.getElem?_eq_some_iff.1 ho2).1
    simp only [List.getElem?_toArray, List.getElem?_cons_zero, List.getElem?_cons_succ] at c0 c1 c2 c3
    have HMW := Lib.hid (HM.out W2)
    clear hm2 hst2 hne hmb ham hb2 ho2 hc cl
    unfold pt
    go_wp2_with fail
    refine HMW.out.mono ?_
    rintro e W2' ⟨rfl, rfl⟩
    by_cases hp : a2 = 0
    · subst hp
      go_wp2
      go_ret
      exact ⟨rfl, HB2.out⟩
    · have hpb : (a2 == (0 : Int)) = false := by simpa using hp
      have HP := Lib.hid hp
      have hs := start_any HM2.out HIS.out 0 (by simp [goesB, newM]) (by simp [restsB, newM])
      obtain ⟨m1, hm1⟩ : ∃ m1 : Mpr, m1 = asked (bare { newM hst ins sec non with now := 0 } 2) 0 := ⟨_, rfl⟩
      have em1 : m1 = ⟨hst, sec, non, 1, 2, ins, 0, 0, 0, 1, 1, 0, 0, 0, 0, 0, 0⟩ := by rw [hm1]; rfl
      rw [← hm1] at hs
      have HS := Lib.hid hs
      have HE1 := Lib.hid em1
      clear hs hm1 em1 hp
      unfold pt at HS
      go_wp2_with fail
      refine HS.out.mono ?_
      rintro e V1 ⟨v, OB, rfl, hheld, hold, hout, hv1, k1⟩
      obtain ⟨A, cc, rfl, _, _, _⟩ := hout _ hheld
      obtain rfl := HE1.out
      have hst1 := HST2.out.kp k1 HNE.out
      have HST1 := Lib.hid hst1
      have HB1' := Lib.hid (HB2.out.trans (k1.low HWM.out.1 HB2.out.size))
      obtain ⟨S, hS⟩ : ∃ S, S = 2 + a1 := ⟨_, rfl⟩
      have hS0 : 2 ≤ S := by omega
      have hS1 : S ≤ 65537 := by omega
      have HSE : Hid (2 + a1 = S) := Lib.hid hS.symm
      obtain ⟨N1, hN1⟩ : ∃ N1, N1 = IntKind.u64.wrap (non + 1) := ⟨_, rfl⟩
      have hN1b : 0 ≤ N1 ∧ N1 ≤ 18446744073709551615 ∧ N1 ≠ non := by
        have e : N1 = (non + 1) % 18446744073709551616 := hN1
        omega
      have hwn : IntKind.u64.wrap (non + 1) = N1 := hN1.symm
      have HNB := Lib.hid hN1b
      have ho1 := (k1.block _ cl2 HWM.out.2).trans HO2.out
      have HO1' := Lib.hid ho1
      clear c0 c1 c2 c3
      have hc := fun j => (Mp.cells_of ho1 j).1
      have c1 := hc 1
      have c3 := hc 3
      have cl1 := (Array.getElem?_eq_some_iff.1 ho1).1
      simp only [List.getElem?_toArray, List.getElem?_cons_zero, List.getElem?_cons_succ] at c1 c3
      have hisL1 : Pp.isL ⟨2, ins, a2, S, N1, 0, 0, 9⟩ := by constructor <;> simp only [Pp.W64] <;> omega
      have hpan1 : Pp.Pan ⟨2, ins, a2, S, N1, 0, 0, 9⟩ := by unfold Pp.Pan; dsimp only; omega
      have hisL2 : Pp.isL ⟨2, ins, a2, S, non, 0, 0, 9⟩ := by constructor <;> simp only [Pp.W64] <;> omega
      have hpan2 : Pp.Pan ⟨2, ins, a2, S, non, 0, 0, 9⟩ := by unfold Pp.Pan; dsimp only; omega
      have HA1 := Lib.hid (fun W => Pp.panswer_any ⟨2, ins, a2, S, N1, 0, 0, 9⟩ W hisL1)
      have HA2 := Lib.hid (fun W => Pp.panswer_any ⟨2, ins, a2, S, non, 0, 0, 9⟩ W hisL2)
      have HZ1 : Hid (Pp.PAnsOf (Pp.pansR ⟨2, ins, a2, S, N1, 0, 0, 9⟩) ⟨2, ins, a2, S, N1, 0, 0, 9⟩) := Lib.hid ⟨hisL1, hpan1, rfl⟩
      have HZ2 : Hid (Pp.PAnsOf (Pp.pansR ⟨2, ins, a2, S, non, 0, 0, 9⟩) ⟨2, ins, a2, S, non, 0, 0, 9⟩) := Lib.hid ⟨hisL2, hpan2, rfl⟩
      have HBD1 := Lib.hid (Pp.pansR_bd ⟨2, ins, a2, S, N1, 0, 0, 9⟩ hisL1)
      have HBD2 := Lib.hid (Pp.pansR_bd ⟨2, ins, a2, S, non, 0, 0, 9⟩ hisL2)
      unfold Pp.leV Pp.leA at HA1 HA2
      dsimp only at HA1 HA2
      obtain ⟨qb, hqb⟩ : ∃ qb, qb = V1.heap.size := ⟨_, rfl⟩
      have HQB := Lib.hid hqb
      have hmv := hv1.lt
      have hvl : Pp.LeAt (V1.alloc (.cells (Pp.leA ⟨2, ins, a2, S, N1, 0, 0, 9⟩) 36)) V1.heap.size ⟨2, ins, a2, S, N1, 0, 0, 9⟩ := by show (V1.heap.push _)[V1.heap.size]? = _; simp
      have hHD : Held [(w.heap.size, .cells #[.int .u32 hst, .int .i64 ins, .int .i64 sec, .int .u64 non] 25 (0, 0)), (V1.heap.size, .cells (Pp.leA ⟨2, ins, a2, S, N1, 0, 0, 9⟩) 36 (0, 0))] (V1.alloc (.cells (Pp.leA ⟨2, ins, a2, S, N1, 0, 0, 9⟩) 36)) := by
        intro r hr
        simp only [List.mem_cons, List.not_mem_nil, or_false] at hr
        rcases hr with rfl | rfl
        · exact (((Below.refl _ V1).alloc (Nat.le_refl _) (.cells (Pp.leA ⟨2, ins, a2, S, N1, 0, 0, 9⟩) 36)).block _ cl1).trans ho1
        · exact hvl
      have HHD := Lib.hid hHD
      have HNM : Hid (∀ r ∈ ([(w.heap.size, .cells #[.int .u32 hst, .int .i64 ins, .int .i64 sec, .int .u64 non] 25 (0, 0)), (V1.heap.size, .cells (Pp.leA ⟨2, ins, a2, S, N1, 0, 0, 9⟩) 36 (0, 0))] : List (Nat × Obj)), r.1 ≠ mb) := Lib.hid (fun r hr => by
        simp only [List.mem_cons, List.not_mem_nil, or_false] at hr
        rcases hr with rfl | rfl
        · exact HWM.out.2
        · show V1.heap.size ≠ mb; omega)
      have HV1 := Lib.hid hv1
      clear hS hheld hold hout hst1 ho1 hc hisL1 hpan1 hisL2 hpan2 hN1b hN1 hqb hvl hHD hv1 k1
      go_wp2_with fail
      rw [HSE.out]
      refine (HA1.out _).mono ?_
      rintro e V3 ⟨u, rfl, hown, hb3⟩
      obtain ⟨OB3, hh3, ho3, hr3⟩ := hold_row hown HBD1.out
      have hhd3 := HHD.out.below hb3
      have hm3 := (HV1.out.alloc (.cells (Pp.leA ⟨2, ins, a2, S, N1, 0, 0, 9⟩) 36)).below hb3
      have hst3 := (HST1.out.kp (.below ((Below.refl _ V1).alloc (Nat.le_refl _) (.cells (Pp.leA ⟨2, ins, a2, S, N1, 0, 0, 9⟩) 36))) HNE.out).kp (.below hb3) HNE.out
      have hlow3 := (HB1'.out.trans (((Below.refl _ V1).alloc (Nat.le_refl _) (.cells (Pp.leA ⟨2, ins, a2, S, N1, 0, 0, 9⟩) 36)).mono HB1'.out.size)).trans (hb3.mono (by have := HB1'.out.size; simp; omega))
      have hno := hear_no hm3 0 (by simp [goesB]) (by simp [restsB]) (fun W hW => hr3 W (hh3.kp hW (fun r hr => by have := ho3 r hr; simp at this; omega))) HZ1.out rfl rfl HNB.out.2.2 (by show (0 : Int) ≠ 1; decide)
      have HNO := Lib.hid hno
      have HST3 := Lib.hid hst3
      have HLW3 := Lib.hid hlow3
      have HHD3 := Lib.hid hhd3
      obtain ⟨A3, cc3, rfl⟩ := row_form (hr3 _ hh3)
      clear hown hb3 hh3 ho3 hr3 hhd3 hm3 hst3 hlow3 hno c1 c3
      unfold pt at HNO
      generalize (Pp.pansR ⟨2, ins, a2, S, N1, 0, 0, 9⟩).length = nn1 at HNO ⊢
      go_wp2_with fail
      refine HNO.out.mono ?_
      rintro e V4 ⟨rfl, hm4, k4⟩
      have HM4 := Lib.hid (show MpAt V4 mb ⟨hst, sec, non, 1, 2, ins, 0, 0, 0, 1, 1, 0, 0, 0, 0, 0, 0⟩ (.map (some am)) from hm4)
      have HSTT := Lib.hid (state_any HM4.out)
      have HHD4 := Lib.hid (HHD3.out.kp k4 HNM.out)
      have HST4 := Lib.hid (HST3.out.kp k4 HNE.out)
      have HLW4 := Lib.hid (HLW3.out.trans (k4.low HWM.out.1 HLW3.out.size))
      clear hm4 k4 HNO
      unfold pt at HSTT
      go_wp2_with fail
      refine HSTT.out.mono ?_
      rintro e V5 ⟨rfl, hb5⟩
      have hfo := fun W => st_of 1 2 ins 0 0 0 1 1 W
      have hhd5 := HHD4.out.below hb5
      have h50 := hhd5 (w.heap.size, .cells #[.int .u32 hst, .int .i64 ins, .int .i64 sec, .int .u64 non] 25 (0, 0)) (by simp)
      have h51 : Pp.LeAt V5 V1.heap.size ⟨2, ins, a2, S, N1, 0, 0, 9⟩ := hhd5 (V1.heap.size, .cells (Pp.leA ⟨2, ins, a2, S, N1, 0, 0, 9⟩) 36 (0, 0)) (by simp)
      have hm5 := HM4.out.below hb5
      have hst5 := HST4.out.kp (.below hb5) HNE.out
      have hlow5 := HLW4.out.trans (hb5.mono HLW4.out.size)
      have hc5 := fun j => (Mp.cells_of h50 j).1
      have c3 := hc5 3
      have cl5 := (Array.getElem?_eq_some_iff.1 h50).1
      simp only [List.getElem?_toArray, List.getElem?_cons_zero, List.getElem?_cons_succ] at c3
      obtain ⟨x0, x1, x2, x3, x4, x5, x6, x7⟩ := h51.cells
      have xf : ∀ j, V5.frozen? ⟨V1.heap.size, j, none⟩ = false := fun j => (Mp.cells_of h51 j).2
      have xl := h51.lt
      dsimp only at x0 x1 x2 x3 x4 x5 x6 x7 cl5
      have h61 : Pp.LeAt (V5.setCell ⟨V1.heap.size, 4, none⟩ (.int .u64 non)) V1.heap.size ⟨2, ins, a2, S, non, 0, 0, 9⟩ := heap_setCell_same V5 V1.heap.size 4 (Pp.leA ⟨2, ins, a2, S, N1, 0, 0, 9⟩) 36 (.int .u64 non) h51
      have hm6 : MpAt (V5.setCell ⟨V1.heap.size, 4, none⟩ (.int .u64 non)) mb ⟨hst, sec, non, 1, 2, ins, 0, 0, 0, 1, 1, 0, 0, 0, 0, 0, 0⟩ (.map (some am)) := (heap_setCell_other V5 ⟨V1.heap.size, 4, none⟩ mb _ (by show mb ≠ V1.heap.size; omega)).trans hm5
      have hst6 : StAt (V5.setCell ⟨V1.heap.size, 4, none⟩ (.int .u64 non)) mb am := hst5.kept (heap_setCell_other V5 ⟨V1.heap.size, 4, none⟩ am _ (by have := HST1.out.lt; show am ≠ V1.heap.size; omega))
      have hlow6 := hlow5.setCell (p := ⟨V1.heap.size, 4, none⟩) (by have := HB1'.out.size; exact this) (.int .u64 non)
      have HL61 := Lib.hid h61
      have HM6 := Lib.hid hm6
      have HST6 := Lib.hid hst6
      have HLW6 := Lib.hid hlow6
      clear hhd5 h50 h51 hm5 hst5 hlow5 hc5 h61 hm6 hst6 hlow6 hb5 HSTT
      go_wp2_with fail
      refine (HA2.out _).mono ?_
      rintro e V7 ⟨u7, rfl, hown, hb7⟩
      obtain ⟨OB7, hh7, ho7, hr7⟩ := hold_row hown HBD2.out
      have hm7 := HM6.out.below hb7
      have hml7 := HM6.out.lt
      have h71 := HL61.out.below hb7 HL61.out.lt
      have hst7 := HST6.out.kp (.below hb7) HNE.out
      have hlow7 := HLW6.out.trans (hb7.mono HLW6.out.size)
      have hho := hear_hold hm7 0 (by simp [goesB]) (by simp [restsB]) (fun W hW => hr7 W (hh7.kp hW (fun r hr => by have := ho7 r hr; omega))) HZ2.out rfl rfl rfl rfl (by show (1 : Int) ≠ 2; decide) (by decide) (by dsimp only; omega) (by dsimp only; have := HP.out; omega) (by dsimp only; omega) (by dsimp only; omega) (by dsimp only; omega)
      obtain ⟨Q, hQ⟩ : ∃ Q, Q = S / 2 := ⟨_, rfl⟩
      have hQ0 : 1 ≤ Q := by omega
      have hQ1 : Q ≤ S - 1 := by omega
      have em : heldM (toldM { (⟨hst, sec, non, 1, 2, ins, 0, 0, 0, 1, 1, 0, 0, 0, 0, 0, 0⟩ : Mpr) with now := 0 } 0 (⟨2, ins, a2, S, non, 0, 0, 9⟩ : Pp.Le).epo) 0 ⟨2, ins, a2, S, non, 0, 0, 9⟩ = ⟨hst, sec, non, 2, 2, ins, 9, a2, S, 0, Q, 9, a2, 0, 0, 0, 0⟩ := by
        unfold heldM toldM
        simp only [Mpr.mk.injEq, true_and, and_true]
        omega
      rw [em] at hho
      have HHO := Lib.hid hho
      have HL71 := Lib.hid h71
      have HST7 := Lib.hid hst7
      have HLW7 := Lib.hid hlow7
      have hq2 : S / 2 = Q := hQ.symm
      have hq3 : S.tdiv 2 = Q := by rw [Int.tdiv_eq_ediv_of_nonneg (by omega)]; exact hQ.symm
      have HLM : Hid (V1.heap.size ≠ mb) := Lib.hid (by omega)
      obtain ⟨A7, cc7, rfl⟩ := row_form (hr7 _ hh7)
      clear hown hb7 hh7 ho7 hr7 hm7 h71 hst7 hlow7 hho em hQ c3 cl5 x0 x1 x2 x3 x4 x5 x6 x7 xf xl
      unfold pt at HHO
      generalize (Pp.pansR ⟨2, ins, a2, S, non, 0, 0, 9⟩).length = nn2 at HHO ⊢
      go_wp2_with fail
      refine HHO.out.mono ?_
      rintro e V8 ⟨rfl, hm8, k8⟩
      have HM8 := Lib.hid hm8
      have HS8 := Lib.hid (state_any hm8)
      have HL81 := Lib.hid (show Pp.LeAt V8 V1.heap.size ⟨2, ins, a2, S, non, 0, 0, 9⟩ from (k8.block _ HL71.out.lt HLM.out).trans HL71.out)
      have HST8 := Lib.hid (HST7.out.kp k8 HNE.out)
      have HLW8 := Lib.hid (HLW7.out.trans (k8.low HWM.out.1 HLW7.out.size))
      clear hm8 k8 HHO
      unfold pt at HS8
      go_wp2_with fail
      refine HS8.out.mono ?_
      rintro e V9 ⟨rfl, hb9⟩
      have h91 := HL81.out.below hb9 HL81.out.lt
      have hm9 := HM8.out.below hb9
      have hst9 := HST8.out.kp (.below hb9) HNE.out
      have hlow9 := HLW8.out.trans (hb9.mono HLW8.out.size)
      obtain ⟨T, hT⟩ : ∃ T, T = S - 1 := ⟨_, rfl⟩
      have HTE : Hid (S - 1 = T) := Lib.hid hT.symm
      have hT0 : 1 ≤ T ∧ T ≤ 65536 := by omega
      have hTQ : Q ≤ T := by omega
      have hTS : T < S := by omega
      have hA := Below.alloc (Below.refl V9.heap.size V9) (Nat.le_refl _) (.cells #[.int .i64 2, .int .i64 2, .int .i64 ins, .int .u32 9, .int .i64 a2, .int .i64 S, .int .i64 0, .int .i64 Q] 43)
      have ha1 : Pp.LeAt (V9.alloc (.cells #[.int .i64 2, .int .i64 2, .int .i64 ins, .int .u32 9, .int .i64 a2, .int .i64 S, .int .i64 0, .int .i64 Q] 43)) V1.heap.size ⟨2, ins, a2, S, non, 0, 0, 9⟩ := h91.below hA h91.lt
      have hsc : (V9.alloc (.cells #[.int .i64 2, .int .i64 2, .int .i64 ins, .int .u32 9, .int .i64 a2, .int .i64 S, .int .i64 0, .int .i64 Q] 43)).heap[V9.heap.size]? = some (.cells #[.int .i64 2, .int .i64 2, .int .i64 ins, .int .u32 9, .int .i64 a2, .int .i64 S, .int .i64 0, .int .i64 Q] 43 (0, 0)) := by show (V9.heap.push _)[V9.heap.size]? = _; simp
      have hma := hm9.below hA
      have hsta := hst9.kp (.below hA) HNE.out
      have hlowa := hlow9.alloc hlow9.size (.cells #[.int .i64 2, .int .i64 2, .int .i64 ins, .int .u32 9, .int .i64 a2, .int .i64 S, .int .i64 0, .int .i64 Q] 43)
      have hmt : mb < V9.heap.size := hm9.lt
      have ht := tick_do hma hsta HNE.out (by unfold Pp.W64; dsimp only; omega) T (by simp [goesB]; omega) (by simp [hasB]; omega) hTQ (k := 13) (by rfl) (fun W hW => renew_two hW (by
        obtain ⟨z1, z2, z3, z4, z5, z6, z7, z8, z9⟩ := HIS.out
        constructor <;> (try unfold Pp.W64) <;> dsimp only [newM] at * <;> omega) T (by omega) (by show (2 : Int) ≠ 0; decide))
      obtain ⟨m3, hm3⟩ : ∃ m3 : Mpr, m3 = ⟨hst, sec, non, 3, 2, ins, 9, a2, S, 1, T + 1, 9, a2, 0, 0, 0, T⟩ := ⟨_, rfl⟩
      have em3 : asked { { (⟨hst, sec, non, 2, 2, ins, 9, a2, S, 0, Q, 9, a2, 0, 0, 0, 0⟩ : Mpr) with now := T } with st := 3, tries := 0 } T = m3 := by rw [hm3]; rfl
      rw [em3] at ht
      have HT3 := Lib.hid ht
      have HEM3 := Lib.hid hm3
      have HLA := Lib.hid ha1
      have HSC := Lib.hid hsc
      have HSTA := Lib.hid hsta
      have HLWA := Lib.hid hlowa
      have HVM : Hid (V9.heap.size ≠ mb) := Lib.hid (by omega)
      have hg43 := noGuard43
      have hg41 := noGuard41
      obtain ⟨x0, x1, x2, x3, x4, x5, x6, x7⟩ := ha1.cells
      have xl := ha1.lt
      dsimp only at x0 x1 x2 x3 x4 x5 x6 x7
      clear h91 hm9 hst9 hlow9 hT hA ha1 hsc hma hsta hlowa ht hm3 em3 HS8 hb9 hfo
      unfold pt at HT3
      go_wp2_with fail
      rw [HTE.out]
      refine HT3.out.mono ?_
      rintro e V10 ⟨v3, OB3, rfl, hheld3, hold3, hout3, hm10, k10⟩
      obtain rfl := HEM3.out
      obtain ⟨A10, cc10, rfl, _, _, _⟩ := hout3 _ hheld3
      have HM10 := Lib.hid hm10
      have HS10 := Lib.hid (state_any hm10)
      have HL10 := Lib.hid (show Pp.LeAt V10 V1.heap.size ⟨2, ins, a2, S, non, 0, 0, 9⟩ from (k10.block _ HLA.out.lt HLM.out).trans HLA.out)
      have HSC10 := Lib.hid ((k10.block _ (Array.getElem?_eq_some_iff.1 HSC.out).1 HVM.out).trans HSC.out)
      have HST10 := Lib.hid (HSTA.out.kp k10 HNE.out)
      have HLW10 := Lib.hid (HLWA.out.trans (k10.low HWM.out.1 HLWA.out.size))
      clear hheld3 hold3 hout3 hm10 k10 HT3 x0 x1 x2 x3 x4 x5 x6 x7 xl
      unfold pt at HS10
      go_wp2_with fail
      refine HS10.out.mono ?_
      rintro e V11 ⟨rfl, hb11⟩
      have hlow11 := HLW10.out.trans (hb11.mono HLW10.out.size)
      have hA := Below.alloc (Below.refl V11.heap.size V11) (Nat.le_refl _) (.cells #[.int .i64 3, .int .i64 2, .int .i64 ins, .int .u32 9, .int .i64 a2, .int .i64 S, .int .i64 1, .int .i64 (T + 1)] 43)
      have hl12 : Pp.LeAt (V11.alloc (.cells #[.int .i64 3, .int .i64 2, .int .i64 ins, .int .u32 9, .int .i64 a2, .int .i64 S, .int .i64 1, .int .i64 (T + 1)] 43)) V1.heap.size ⟨2, ins, a2, S, non, 0, 0, 9⟩ := (HL10.out.below hb11 HL10.out.lt).below hA (HL10.out.below hb11 HL10.out.lt).lt
      have hsc12 : (V11.alloc (.cells #[.int .i64 3, .int .i64 2, .int .i64 ins, .int .u32 9, .int .i64 a2, .int .i64 S, .int .i64 1, .int .i64 (T + 1)] 43)).heap[V9.heap.size]? = some (.cells #[.int .i64 2, .int .i64 2, .int .i64 ins, .int .u32 9, .int .i64 a2, .int .i64 S, .int .i64 0, .int .i64 Q] 43 (0, 0)) := by
        have e1 := (hb11.block _ (Array.getElem?_eq_some_iff.1 HSC10.out).1).trans HSC10.out
        exact (hA.block _ (Array.getElem?_eq_some_iff.1 e1).1).trans e1
      have hsd12 : (V11.alloc (.cells #[.int .i64 3, .int .i64 2, .int .i64 ins, .int .u32 9, .int .i64 a2, .int .i64 S, .int .i64 1, .int .i64 (T + 1)] 43)).heap[V11.heap.size]? = some (.cells #[.int .i64 3, .int .i64 2, .int .i64 ins, .int .u32 9, .int .i64 a2, .int .i64 S, .int .i64 1, .int .i64 (T + 1)] 43 (0, 0)) := by show (V11.heap.push _)[V11.heap.size]? = _; simp
      have hm11 := HM10.out.below hb11
      have hm12 := hm11.below hA
      have hst12 := (HST10.out.kp (.below hb11) HNE.out).kp (.below hA) HNE.out
      have hlow12 := hlow11.alloc hlow11.size (.cells #[.int .i64 3, .int .i64 2, .int .i64 ins, .int .u32 9, .int .i64 a2, .int .i64 S, .int .i64 1, .int .i64 (T + 1)] 43)
      have ht := tick_over hm12 (by
        obtain ⟨z1, z2, z3, z4, z5, z6, z7, z8, z9⟩ := HIS.out
        constructor <;> (try unfold Pp.W64) <;> dsimp only [newM] at * <;> omega) S (by simp [goesB]; omega) (by simp [hasB]) (by dsimp only; omega)
      obtain ⟨m4, hm4⟩ : ∃ m4 : Mpr, m4 = ⟨hst, sec, non, 1, 2, ins, 0, 0, 0, 1, S + 1, 9, a2, 0, 0, 0, S⟩ := ⟨_, rfl⟩
      have em4 : asked (bare { (⟨hst, sec, non, 3, 2, ins, 9, a2, S, 1, T + 1, 9, a2, 0, 0, 0, T⟩ : Mpr) with now := S } 2) S = m4 := by rw [hm4]; rfl
      rw [em4] at ht
      have HT4 := Lib.hid ht
      have HEM4 := Lib.hid hm4
      have HSC12 := Lib.hid hsc12
      have HSD12 := Lib.hid hsd12
      have HLW12 := Lib.hid hlow12
      have HVM12 : Hid (V11.heap.size ≠ mb) := Lib.hid (by have := hm11.lt; omega)
      obtain ⟨x0, x1, x2, x3, x4, x5, x6, x7⟩ := hl12.cells
      have xl := hl12.lt
      dsimp only at x0 x1 x2 x3 x4 x5 x6 x7
      clear hlow11 hA hl12 hsc12 hsd12 hm11 hm12 hst12 hlow12 ht hm4 em4 HS10 hb11
      unfold pt at HT4
      go_wp2_with fail
      refine HT4.out.mono ?_
      rintro e V13 ⟨v4, OB4, rfl, hheld4, hold4, hout4, hm13, k13⟩
      obtain rfl := HEM4.out
      obtain ⟨A13, cc13, rfl, _, _, _⟩ := hout4 _ hheld4
      have HS13 := Lib.hid (state_any hm13)
      have HSC13 := Lib.hid ((k13.block _ (Array.getElem?_eq_some_iff.1 HSC12.out).1 HVM.out).trans HSC12.out)
      have HSD13 := Lib.hid ((k13.block _ (Array.getElem?_eq_some_iff.1 HSD12.out).1 HVM12.out).trans HSD12.out)
      have HLW13 := Lib.hid (HLW12.out.trans (k13.low HWM.out.1 HLW12.out.size))
      clear hheld4 hold4 hout4 hm13 k13 HT4 x0 x1 x2 x3 x4 x5 x6 x7 xl
      unfold pt at HS13
      go_wp2_with fail
      refine HS13.out.mono ?_
      rintro e V14 ⟨rfl, hb14⟩
      have e1 := (hb14.block _ (Array.getElem?_eq_some_iff.1 HSC13.out).1).trans HSC13.out
      have e2 := (hb14.block _ (Array.getElem?_eq_some_iff.1 HSD13.out).1).trans HSD13.out
      have l1 := (Array.getElem?_eq_some_iff.1 e1).1
      have l2 := (Array.getElem?_eq_some_iff.1 e2).1
      have hcA := fun j => (Mp.cells_of e1 j).1
      have hcB := fun j => (Mp.cells_of e2 j).1
      have u3 := hcA 3
      have u4 := hcA 4
      have t0 := hcB 0
      have t3 := hcB 3
      have t4 := hcB 4
      simp only [List.getElem?_toArray, List.getElem?_cons_zero, List.getElem?_cons_succ] at u3 u4 t0 t3 t4
      have HLW14 := Lib.hid ((HLW13.out.trans (hb14.mono HLW13.out.size)).alloc (HLW13.out.trans (hb14.mono HLW13.out.size)).size (.cells #[.int .i64 1, .int .i64 2, .int .i64 ins, .int .u32 0, .int .i64 0, .int .i64 0, .int .i64 1, .int .i64 (S + 1)] 43))
      clear e1 e2 hcA hcB hb14 HS13
      go_wp2
      go_ret
      exact ⟨rfl, HLW14.out⟩

/-! ### THE ROW's STEP: WRITTEN OUT: LEAVE IT -/
set_option maxRecDepth 100000 in
theorem lifted (os : Os) (started : os.Started) (H : Type) (enc : TypeId × Value → H) :
    ReturnsInHanded {} Try.checked os 3 .any (Rows.mapperOverSpec.pre6 enc Try.prog Try.f3 Rows.mapperOverRow.domain false) (Rows.mapperOverSpec.post enc Try.prog Try.f3 false true false false) := by
  refine returnsInHanded_of_change (C := Try.checked) own started (by kernel_rfl) Try.func3
    (ChangeSpec.witness6 (enc := enc) (C := Try.checked) false ⟨#[], #[.agg #[.int .u32 0, .int .i64 0, .int .i64 0, .int .u64 0], .int .u16 0, .int .u16 0], []⟩ 8 (by kernel_rfl) (by kernel_rfl) (by kernel_rfl) (by kernel_rfl)) ?_
  intro W base args ds gs before hval0 hW hcnd _
  have hval : ∀ (j : Nat) t v, Try.f3.params[j]? = some t → args[j]? = some v → Value.okWide Try.prog W .any base t v := hval0
  have hW' := hW
  obtain ⟨p, q, hA0, hV, rfl, hfz, hnd⟩ := hW
  have hA : DataW.TrodAll enc Try.prog W 0 (fun _ => true) true Try.f3.params.toList args.toList ds p := hA0
  rw [Try.params3] at hA hval
  obtain ⟨v0, vs0, d0, ds0, p0, q0, hargs, rfl, rfl, h0, r0⟩ := trodAll_cons hA
  obtain ⟨v1, vs1, d1, ds1, p1, q1, rfl, rfl, rfl, h1, r1⟩ := trodAll_cons r0
  obtain ⟨v2, vs2, d2, ds2, p2, q2, rfl, rfl, rfl, h2, r2⟩ := trodAll_cons r1
  obtain ⟨rfl, rfl, rfl⟩ := trodAll_nil r2
  obtain rfl : args = #[v0, v1, v2] := by cases args; simp_all
  obtain ⟨rfl, rfl⟩ := trodVars_none hV
  have k0 := h0
  have lt0 : ∀ x ∈ p0, x.block < W.heap.size := by obtain ⟨m, hm⟩ := k0; exact DataW.trod_lt m _ _ _ hm
  obtain ⟨s0, w0⟩ := open_cli (hval 0 25 v0 rfl rfl) h0
  obtain ⟨a1, rfl, rfl, rfl, w1⟩ := open_int Try.underlying26 (hval 1 26 v1 rfl rfl) h1
  obtain ⟨a2, rfl, rfl, rfl, w2⟩ := open_int Try.underlying26 (hval 2 26 v2 rfl rfl) h2
  clear hA0 hval0
  refine (walk v0 s0 a1 a2 W w0 w1 w2).mono fun e W' ⟨he, bel⟩ => ?_
  subst he
  exact ⟨_, rfl, _, _, _, [], _, [], hW', trodAll_mk1 (shut_bool Try.underlying4 _), (trodAll_cons_mk (Below.trod laidOut (by kernel_rfl) (of_decide_eq_true (by kernel_rfl)) k0 bel lt0) (trodAll_cons_mk (shut_int Try.underlying26 w1) (trodAll_cons_mk (shut_int Try.underlying26 w2) trodAll_mk0))), rfl, bel.frame _, fun h => by cases h⟩

theorem over : Rows.mapperOverRow.holds Try.pinned (OpenSpec.ofChange Rows.mapperOverSpec) :=
  OpenClaim.holds_of_wide 3 Try.f3 rfl rfl rfl rfl rfl rfl rfl ⟨rfl, rfl, rfl, rfl, rfl⟩ rfl rfl rfl rfl rfl (by kernel_rfl) Try.func3 (by kernel_rfl)
    (of_decide_eq_true (by kernel_rfl)) (by unfold Func.isWrapper; first | (rw [if_pos (by decide +kernel)]; kernel_rfl) | (rw [if_neg (by decide +kernel)]; exact ⟨rfl, rfl⟩))
    (fun os started H enc _ => lifted os started H enc)

/-- ████ THE STATEMENT ████ -/
theorem proved : Rows.MapperOverSaid := over
#print axioms proved
end Go.Proofs.Ytfaekiopmfnpkaa.mapperOver
