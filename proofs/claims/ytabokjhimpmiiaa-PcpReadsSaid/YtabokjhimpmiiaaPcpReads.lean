/-
  PcpReads: every row of bytes (200 bytes) is the request, and the answer, that the document says, or refused; none is both. Conditions: none.
-/
import Derived.Deep.QuietTactic
import Derived.Test.YtabokjhimpmiiaaPawk
import Derived.Test.YtabokjhimpmiiaaRows
import Derived.WalkKit
import Derived.ProofKit
import Derived.OpenShut
import Derived.ShutString
import Derived.ChangeOld
import Derived.Below
namespace Go.Proofs.Ytabokjhimpmiiaa.pcpReads
open Go.ChangeShapes Go.WideShapes Go.ChangeAt Go.RowKit
open Go.ChangeMaps (open_string shut_string)
set_option linter.unusedVariables false

theorem own : ownKnob Try.prog.godebug = none := by kernel_rfl
theorem laidOut : laidOutB Try.prog = true := by kernel_rfl

attribute [local go_sem] Oper.semAt_some
set_option maxRecDepth 100000 in
set_option maxHeartbeats 8000000 in
theorem walk (v0 : Value) (s0 : List Int) (w : World) (w0 : IsTxt w v0 s0) :
    Calls Try.prog 8 #[v0] w fun e w' => e = .returned (.bool true) ∧ Below w.heap.size w w' := by
  have hbd := Row.bd w0
  obtain ⟨la, ha, ea, pa, _, fa⟩ := paR_cases hbd
  obtain ⟨lb, eb, pb, _, fb⟩ := pbR_cases hbd
  have HF : Hid ((ea = 0 ∨ ea = 3) ∧ (eb = 0 ∨ eb = 3) ∧ ¬ (ea = 0 ∧ eb = 0)) := Lib.hid (by
    rcases fa with ⟨e1, h1⟩ | ⟨e1, _, _, h1⟩
    · rcases fb with ⟨e2, h2⟩ | ⟨e2, _, h2⟩
      · exact (pask_pans h1 h2).elim
      · exact ⟨.inl e1, .inr e2, by omega⟩
    · rcases fb with ⟨e2, h2⟩ | ⟨e2, _, h2⟩
      · exact ⟨.inr e1, .inl e2, by omega⟩
      · exact ⟨.inr e1, .inr e2, by omega⟩)
  have CA1 := Lib.hid (fun V W (hr : Row W V s0) => pread_ask hr)
  have CA2 := Lib.hid (fun V W (hr : Row W V s0) => rpread_ask hr)
  have CB1 := Lib.hid (fun V W (hr : Row W V s0) => pread_ans hr)
  have CB2 := Lib.hid (fun V W (hr : Row W V s0) => rpread_ans hr)
  have CV := Lib.hid (fun V W (hr : Row W V s0) => pversion hr)
  rw [pa] at CA1 CA2
  rw [pb] at CB1 CB2
  clear fa fb pa pb hbd
  unfold paT leV leA at CA1 CA2
  unfold pbT leV leA at CB1 CB2
  have HR0 : Hid (Row w v0 s0) := Lib.hid w0
  obtain ⟨A, c, rfl, _⟩ := w0
  obtain ⟨n, hn⟩ : ∃ n, s0.length = n := ⟨_, rfl⟩
  have HN := Lib.hid hn
  rw [hn] at HR0 ⊢
  clear hn
  go_enter Try.func8, Try.ntmps8
  go_wp2_with fail
  refine (pawake_any _).mono ?_
  rintro e w1 ⟨rfl, hb⟩
  have HB1 := Lib.hid hb
  have HR1 := Lib.hid (HR0.out.below hb)
  clear hb
  by_cases h100 : 200 < n
  · have t1 : decide ((200 : Int) < (n : Int)) = true := by simp; omega
    go_wp2
    go_ret
    exact ⟨rfl, HB1.out⟩
  · have t1 : decide ((200 : Int) < (n : Int)) = false := by simp; omega
    have HX := HR1.out
    obtain ⟨A', c', e1, bt, cc, cm, cn⟩ := HX
    rw [HN.out] at e1 bt cc cn
    simp only [Value.slice.injEq, true_and] at e1
    obtain ⟨rfl, rfl⟩ := e1
    have HBT := Lib.hid bt
    have HCN := Lib.hid cn
    clear bt cn cm cc
    go_wp2_with (at_builtin; refine wpList_append_bts rfl (.tmp 19) (.tmp 20) rfl w1.heap.size _ 0 [] rfl (lit_own w1) A n c s0 rfl (HBT.out.alloc _) HCN.out (by omega) (by simp) ?_; intro v5 w5 ho5 hg5; rw [List.nil_append, Nat.zero_add] at ho5; have HB5 := Lib.hid (own_grown_below (lit_own w1) ((Below.refl w1.heap.size w1).alloc (Nat.le_refl _) _) (Nat.le_refl _) hg5); clear hg5; have HO5 := Lib.hid ho5; clear ho5)
    · have HV5 : Hid (Row w5 v5 s0) := Lib.hid (by
        have := HO5.out
        rw [← HN.out] at this
        exact Row.own this HBT.out.bd)
      have HI5 := Lib.hid (HR1.out.below HB5.out)
      have HL5 := Lib.hid (HB1.out.trans (HB5.out.mono HB1.out.size))
      clear HO5 HBT HCN
      refine (CA1.out _ _ HV5.out).mono ?_
      rintro e w6 ⟨rfl, hb⟩
      obtain ⟨k1, k2⟩ := lay w6 la
      have HV6 := Lib.hid ((HV5.out.below hb).below k1)
      have HI6 := Lib.hid ((HI5.out.below hb).below k1)
      have HL6 := Lib.hid ((HL5.out.trans (hb.mono HL5.out.size)).trans (k1.mono (Nat.le_trans HL5.out.size hb.size)))
      have HP6 := Lib.hid k2
      unfold leA at HV6 HI6 HL6 HP6
      clear hb k1 k2
      go_wp2_with fail
      refine (CA2.out _ _ HI6.out).mono ?_
      rintro e w7 ⟨rfl, hb⟩
      obtain ⟨k1, k2⟩ := lay w7 la
      have HP7 : Hid (LeAt w7 w6.heap.size la) := Lib.hid (LeAt.below HP6.out hb (LeAt.lt HP6.out))
      have HP7b := Lib.hid (HP7.out.below k1 HP7.out.lt)
      have HV7 := Lib.hid ((HV6.out.below hb).below k1)
      have HI7 := Lib.hid ((HI6.out.below hb).below k1)
      have HL7 := Lib.hid ((HL6.out.trans (hb.mono HL6.out.size)).trans (k1.mono (Nat.le_trans HL6.out.size hb.size)))
      have HQ7 := Lib.hid k2
      unfold leA at HV7 HI7 HL7 HP7b HQ7
      clear hb k1 k2 HP6
      go_wp2_with fail
      refine (CB1.out _ _ HV7.out).mono ?_
      rintro e w8 ⟨rfl, hb⟩
      obtain ⟨k1, k2⟩ := lay w8 lb
      have HP8 : Hid (LeAt w8 w6.heap.size la) := Lib.hid (LeAt.below HP7b.out hb (LeAt.lt HP7b.out))
      have HP8b := Lib.hid (HP8.out.below k1 HP8.out.lt)
      have HQ8 : Hid (LeAt w8 w7.heap.size la) := Lib.hid (LeAt.below HQ7.out hb (LeAt.lt HQ7.out))
      have HQ8b := Lib.hid (HQ8.out.below k1 HQ8.out.lt)
      have HV8 := Lib.hid ((HV7.out.below hb).below k1)
      have HI8 := Lib.hid ((HI7.out.below hb).below k1)
      have HL8 := Lib.hid ((HL7.out.trans (hb.mono HL7.out.size)).trans (k1.mono (Nat.le_trans HL7.out.size hb.size)))
      have HS8 := Lib.hid k2
      unfold leA at HV8 HI8 HL8 HP8b HQ8b HS8
      clear hb k1 k2 HP7 HP7b HQ7
      go_wp2_with fail
      refine (CB2.out _ _ HI8.out).mono ?_
      rintro e w9 ⟨rfl, hb⟩
      have HP9 : Hid (LeAt w9 w6.heap.size la) := Lib.hid (LeAt.below HP8b.out hb (LeAt.lt HP8b.out))
      have HQ9 : Hid (LeAt w9 w7.heap.size la) := Lib.hid (LeAt.below HQ8b.out hb (LeAt.lt HQ8b.out))
      have HS9 : Hid (LeAt w9 w8.heap.size lb) := Lib.hid (LeAt.below HS8.out hb (LeAt.lt HS8.out))
      obtain ⟨k1, k2⟩ := lay w9 lb
      have HI9a := Lib.hid (HI8.out.below hb)
      have HV9 := Lib.hid ((HV8.out.below hb).below k1)
      have HI9 := Lib.hid ((HI8.out.below hb).below k1)
      have HL9 := Lib.hid ((HL8.out.trans (hb.mono HL8.out.size)).trans (k1.mono (Nat.le_trans HL8.out.size hb.size)))
      unfold leA at HV9 HI9 HL9
      have l6 := HP9.out.lt
      have l7 := HQ9.out.lt
      have l8 := HS9.out.lt
      obtain ⟨x0, x1, x2, x3, x4, x5, x6, x7⟩ := HP9.out.cells
      obtain ⟨y0, y1, y2, y3, y4, y5, y6, y7⟩ := HQ9.out.cells
      obtain ⟨z0, z1, z2, z3, z4, z5, z6, z7⟩ := HS9.out.cells
      clear hb k1 k2 HP8 HP8b HQ8 HQ8b HS8 HV8 HI8 HL8 HV7 HI7 HL7 HV6 HI6 HL6
      generalize w6.heap.size = g6 at *
      generalize w7.heap.size = g7 at *
      generalize w8.heap.size = g8 at *
      rw [HN.out] at CV
      by_cases h0 : n = 0
      · subst h0
        go_wp2_with fail
        go_quiet (fail)
        have HC := Lib.hid (same_rows (HV9.out.drew nq) (HI9.out.drew nq))
        rw [decide_eq_true rfl] at HC
        go_wp2_with fail
        refine HC.out.mono ?_
        rintro e w10 ⟨rfl, hb⟩
        have HLF := Lib.hid (HL9.out.trans ((below_drewN' (Below.refl _ _) nq).trans (hb.mono (by show _ ≤ (World.alloc _ _).heap.size; exact Nat.le_refl _)) |>.mono HL9.out.size))
        obtain ⟨f1, f2, f3⟩ := HF.out
        clear hb
        rcases f1 with rfl | rfl
        · rcases f2 with rfl | rfl
          · exact absurd ⟨rfl, rfl⟩ f3
          · clear f3
            go_wp2
            go_ret
            exact ⟨rfl, HLF.out⟩
        · clear f3
          rcases f2 with rfl | rfl
          all_goals
            go_wp2
            go_ret
            exact ⟨rfl, HLF.out⟩
      · have HI9b := HI9a.out
        obtain ⟨A', c', e1, bt, _⟩ := HI9b
        rw [HN.out] at e1 bt
        simp only [Value.slice.injEq, true_and] at e1
        obtain ⟨rfl, rfl⟩ := e1
        obtain ⟨b, off, rfl, hblt, hc⟩ := bt.2.2 (by omega)
        have hc0 := hc 0 (by omega)
        simp only [Nat.add_zero] at hc0
        rw [if_neg h0] at CV
        have hzb := getD_bd bt.bd 0
        generalize s0.getD 0 0 = z at *
        have HCV := Lib.hid (fun q => (CV.out _ ((w9.alloc (.cells (leA lb) 25)).drewN q) (HI9.out.drew q)).mono (fun e w' h => (show e = _ ∧ ∃ k, w' = ((w9.alloc (.cells (leA lb) 25)).drewN q).drewN k from ⟨h.1, 0, h.2⟩)))
        unfold leA at HCV
        have t0 : decide ((0 : Int) < (n : Int)) = true := by simp; omega
        have h1n : (0 : Int) < (n : Int) := by omega
        have h0n : 0 < n := by omega
        have hzz : (z != z) = false := by simp
        have hwz : IntKind.i64.wrap z = z := by rw [IntKind.wrap_i64]; omega
        clear hc bt
        go_wp2_with fail
        go_quiet ((go_at_call 30; refine Calls.quiet_of (HCV.out _)))
        have HC := Lib.hid (same_rows (HV9.out.drew nq) (HI9.out.drew nq))
        rw [decide_eq_true rfl] at HC
        go_wp2_with fail
        refine HC.out.mono ?_
        rintro e w10 ⟨rfl, hb⟩
        have HLF := Lib.hid (HL9.out.trans ((below_drewN' (Below.refl _ _) nq).trans (hb.mono (by show _ ≤ (World.alloc _ _).heap.size; exact Nat.le_refl _)) |>.mono HL9.out.size))
        obtain ⟨f1, f2, f3⟩ := HF.out
        clear hb
        rcases f1 with rfl | rfl
        · rcases f2 with rfl | rfl
          · exact absurd ⟨rfl, rfl⟩ f3
          · clear f3
            go_wp2
            go_ret
            exact ⟨rfl, HLF.out⟩
        · clear f3
          rcases f2 with rfl | rfl
          all_goals
            go_wp2
            go_ret
            exact ⟨rfl, HLF.out⟩

/-! ### THE ROW's STEP: WRITTEN OUT: LEAVE IT -/
set_option maxRecDepth 100000 in
theorem lifted (os : Os) (started : os.Started) (H : Type) (enc : TypeId × Value → H) :
    ReturnsInHanded {} Try.checked os 8 .any (Rows.pcpReadsSpec.pre6 enc Try.prog Try.f8 Rows.pcpReadsRow.domain false) (Rows.pcpReadsSpec.post enc Try.prog Try.f8 false true false false) := by
  refine returnsInHanded_of_change (C := Try.checked) own started (by kernel_rfl) Try.func8
    (ChangeSpec.witness6 (enc := enc) (C := Try.checked) false ⟨#[], #[.slice none 0 0], []⟩ 8 (by kernel_rfl) (by kernel_rfl) (by kernel_rfl) (by kernel_rfl)) ?_
  intro W base args ds gs before hval0 hW hcnd _
  have hval : ∀ (j : Nat) t v, Try.f8.params[j]? = some t → args[j]? = some v → Value.okWide Try.prog W .any base t v := hval0
  have hW' := hW
  obtain ⟨p, q, hA0, hV, rfl, hfz, hnd⟩ := hW
  have hA : DataW.TrodAll enc Try.prog W 0 (fun _ => true) true Try.f8.params.toList args.toList ds p := hA0
  rw [Try.params8] at hA hval
  obtain ⟨v0, vs0, d0, ds0, p0, q0, hargs, rfl, rfl, h0, r0⟩ := trodAll_cons hA
  obtain ⟨rfl, rfl, rfl⟩ := trodAll_nil r0
  obtain rfl : args = #[v0] := by cases args; simp_all
  obtain ⟨rfl, rfl⟩ := trodVars_none hV
  have k0 := h0
  have lt0 : ∀ x ∈ p0, x.block < W.heap.size := by obtain ⟨m, hm⟩ := k0; exact DataW.trod_lt m _ _ _ hm
  obtain ⟨s0, w0⟩ := open_txt (hval 0 27 v0 rfl rfl) h0
  clear hA0 hval0
  refine (walk v0 s0 W w0).mono fun e W' ⟨he, bel⟩ => ?_
  subst he
  exact ⟨_, rfl, _, _, _, [], _, [], hW', trodAll_mk1 (shut_bool Try.underlying4 _), (trodAll_cons_mk (Below.trod laidOut (by kernel_rfl) (of_decide_eq_true (by kernel_rfl)) k0 bel lt0) trodAll_mk0), rfl, bel.frame _, fun h => by cases h⟩

theorem over : Rows.pcpReadsRow.holds Try.pinned (OpenSpec.ofChange Rows.pcpReadsSpec) :=
  OpenClaim.holds_of_wide 8 Try.f8 rfl rfl rfl rfl rfl rfl rfl ⟨rfl, rfl, rfl, rfl, rfl⟩ rfl rfl rfl rfl rfl (by kernel_rfl) Try.func8 (by kernel_rfl)
    (of_decide_eq_true (by kernel_rfl)) (by unfold Func.isWrapper; first | (rw [if_pos (by decide +kernel)]; kernel_rfl) | (rw [if_neg (by decide +kernel)]; exact ⟨rfl, rfl⟩))
    (fun os started H enc _ => lifted os started H enc)

/-- ████ THE STATEMENT ████ -/
theorem proved : Rows.PcpReadsSaid := over
#print axioms proved
end Go.Proofs.Ytabokjhimpmiiaa.pcpReads
