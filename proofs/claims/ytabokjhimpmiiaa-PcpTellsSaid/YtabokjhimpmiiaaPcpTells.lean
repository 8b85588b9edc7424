/-
  PcpTells: every lease as a request, and as an answer, is what the document says, and is read again. Conditions: none.
-/
import Derived.Test.YtabokjhimpmiiaaPawk
import Derived.Test.YtabokjhimpmiiaaRows
import Derived.WalkKit
import Derived.ProofKit
import Derived.OpenShut
import Derived.ShutString
import Derived.ChangeOld
import Derived.Below
namespace Go.Proofs.Ytabokjhimpmiiaa.pcpTells
open Go.ChangeShapes Go.WideShapes Go.ChangeAt Go.RowKit
open Go.ChangeMaps (open_string shut_string)
set_option linter.unusedVariables false

theorem own : ownKnob Try.prog.godebug = none := by kernel_rfl
theorem laidOut : laidOutB Try.prog = true := by kernel_rfl

attribute [local go_sem] Oper.semAt_some
set_option maxRecDepth 100000 in
set_option maxHeartbeats 8000000 in
theorem walk (v0 : Value) (s0 : Le) (a1 : Int) (w : World) (w0 : IsLe w v0 s0) (w1 : (Lit.int .u32 a1).wf = true) :
    Calls Try.prog 7 #[v0, .int .u32 a1] w fun e w' => e = .returned (.bool true) ∧ Below w.heap.size w w' := by
  obtain ⟨rfl, hl⟩ := w0
  have hc : 0 ≤ a1 ∧ a1 < 4294967296 := by have := bounds_u32 w1; omega
  have CA := Lib.hid (fun W => ptell_ask s0 a1 W hl hc)
  have CB := Lib.hid (fun W => ptell_ans s0 W hl)
  have CRA := Lib.hid (fun W => rpask_row s0 a1 W hl hc)
  have CRB := Lib.hid (fun W => rpans_row s0 W hl)
  have HL := Lib.hid hl
  have HC := Lib.hid hc
  have HS0 := Lib.hid (St.start w s0)
  clear hl hc w1
  unfold leV leA at CA CB CRA CRB ⊢
  unfold leA at HS0
  go_enter Try.func7, Try.ntmps7
  go_wp2_with fail
  refine (pawake_any _).mono ?_
  rintro e w1 ⟨rfl, hb⟩
  have HS1 := Lib.hid (HS0.out.below hb)
  obtain ⟨x0, x1, x2, x3, x4, x5, x6, x7⟩ := HS1.out.box.cells
  clear hb
  go_wp2_with fail
  refine (CA.out _).mono ?_
  rintro e w2 ⟨V2, rfl, hr, hb⟩
  have HS2 := Lib.hid (HS1.out.below hb)
  have HR2 := Lib.hid hr
  clear hb hr x0 x1 x2 x3 x4 x5 x6 x7
  obtain ⟨x0, x1, x2, x3, x4, x5, x6, x7⟩ := HS2.out.box.cells
  go_wp2_with fail
  refine (CB.out _).mono ?_
  rintro e w3 ⟨V3, rfl, hr, hb⟩
  have HS3 := Lib.hid (HS2.out.below hb)
  have HA3 := Lib.hid (HR2.out.below hb)
  have HR3 := Lib.hid hr
  clear hb hr x0 x1 x2 x3 x4 x5 x6 x7
  obtain ⟨x0, x1, x2, x3, x4, x5, x6, x7⟩ := HS3.out.box.cells
  go_wp2_with fail
  refine (CRA.out _).mono ?_
  rintro e w4 ⟨V4, rfl, hr, hb⟩
  have HS4 := Lib.hid (HS3.out.below hb)
  have HA4 := Lib.hid (HA3.out.below hb)
  have HB4 := Lib.hid (HR3.out.below hb)
  have HR4 := Lib.hid hr
  clear hb hr x0 x1 x2 x3 x4 x5 x6 x7
  go_wp2_with fail
  refine (same_rows HA4.out HR4.out).mono ?_
  rintro e w5 ⟨rfl, hb⟩
  rw [decide_eq_true rfl]
  have HS5 := Lib.hid (HS4.out.below hb)
  have HA5 := Lib.hid (HA4.out.below hb)
  have HB5 := Lib.hid (HB4.out.below hb)
  clear hb
  obtain ⟨x0, x1, x2, x3, x4, x5, x6, x7⟩ := HS5.out.box.cells
  go_wp2_with fail
  refine (CRB.out _).mono ?_
  rintro e w6 ⟨V6, rfl, hr, hb⟩
  have HS6 := Lib.hid (HS5.out.below hb)
  have HA6 := Lib.hid (HA5.out.below hb)
  have HB6 := Lib.hid (HB5.out.below hb)
  have HR6 := Lib.hid hr
  clear hb hr x0 x1 x2 x3 x4 x5 x6 x7
  go_wp2_with fail
  refine (same_rows HB6.out HR6.out).mono ?_
  rintro e w7 ⟨rfl, hb⟩
  rw [decide_eq_true rfl]
  have HS7 := Lib.hid (HS6.out.below hb)
  have HA7 := Lib.hid (HA6.out.below hb)
  have HB7 := Lib.hid (HB6.out.below hb)
  clear hb HS0 HS1 HS2 HS3 HS4 HS5 HS6 HA3 HA4 HA5 HA6 HB4 HB5 HB6 HR2 HR3 HR4 HR6 CA CB CRA CRB
  -- the request, read
  obtain ⟨oka, hoka⟩ : ∃ b, decide (Pas s0) = b := ⟨_, rfl⟩
  obtain ⟨okb, hokb⟩ : ∃ b, decide (Pan s0) = b := ⟨_, rfl⟩
  obtain ⟨la, hla⟩ : ∃ l, (if oka then s0 else zeroL) = l := ⟨_, rfl⟩
  obtain ⟨lb, hlb⟩ : ∃ l, (if okb then s0 else zeroL) = l := ⟨_, rfl⟩
  obtain ⟨ha, hha⟩ : ∃ b : Int, (if oka then a1 else 0) = b := ⟨_, rfl⟩
  obtain ⟨ea, hea⟩ : ∃ e : Int, (if oka then 0 else 3) = e := ⟨_, rfl⟩
  obtain ⟨eb, heb⟩ : ∃ e : Int, (if okb then 0 else 3) = e := ⟨_, rfl⟩
  have CX : Hid (∀ V W, Row W V (paskR s0 a1) → Calls Try.prog 26 #[V] W fun e w' => e = .returned (.tuple #[leV la, .int .u32 ha, .int .i64 ea]) ∧ Below W.heap.size W w') := Lib.hid (by
    intro V W hr
    have := pread_ask hr
    cases oka with
    | true =>
      subst hla
      subst hha
      subst hea
      rw [paR_yes ⟨HL.out, HC.out, of_decide_eq_true hoka, rfl⟩] at this
      exact this
    | false =>
      subst hla
      subst hha
      subst hea
      rw [paskR_no a1 (of_decide_eq_false hoka)] at this
      rw [paR_len (by intro z hz; cases hz) (by simp)] at this
      exact this)
  have CY : Hid (∀ V W, Row W V (pansR s0) → Calls Try.prog 27 #[V] W fun e w' => e = .returned (.tuple #[leV lb, .int .i64 eb]) ∧ Below W.heap.size W w') := Lib.hid (by
    intro V W hr
    have := pread_ans hr
    cases okb with
    | true =>
      subst hlb
      subst heb
      rw [pbR_yes ⟨HL.out, of_decide_eq_true hokb, rfl⟩] at this
      exact this
    | false =>
      subst hlb
      subst heb
      rw [pansR_no (of_decide_eq_false hokb)] at this
      rw [pbR_len (by intro z hz; cases hz) (by simp)] at this
      exact this)
  have HN1 : Hid ((paskR s0 a1).length = 0 ∨ oka = true) := Lib.hid (by
    cases oka with
    | true => exact .inr rfl
    | false => exact .inl (by rw [paskR_no a1 (of_decide_eq_false hoka)]; rfl))
  have HN2 : Hid ((pansR s0).length = 0 ∨ okb = true) := Lib.hid (by
    cases okb with
    | true => exact .inr rfl
    | false => exact .inl (by rw [pansR_no (of_decide_eq_false hokb)]; rfl))
  have HLA := Lib.hid (show (if oka then s0 else zeroL) = la ∧ (if oka then a1 else 0) = ha ∧ (if oka then (0 : Int) else 3) = ea from ⟨hla, hha, hea⟩)
  have HLB := Lib.hid (show (if okb then s0 else zeroL) = lb ∧ (if okb then (0 : Int) else 3) = eb from ⟨hlb, heb⟩)
  clear hla hlb hoka hokb hha hea heb
  unfold leV leA at CX CY
  go_wp2_with fail
  refine (CX.out _ _ HA7.out).mono ?_
  rintro e w8 ⟨rfl, hb⟩
  have HS8 := Lib.hid (HS7.out.below hb)
  have HB8 := Lib.hid (HB7.out.below hb)
  clear hb
  go_wp2_with fail
  obtain ⟨k1, k2⟩ := lay w8 la
  have HS9 := Lib.hid (HS8.out.below k1)
  have HB9 := Lib.hid (HB8.out.below k1)
  have HX9 := Lib.hid k2
  clear k1 k2
  unfold leA at HS9 HB9 HX9
  refine (CY.out _ _ HB9.out).mono ?_
  rintro e w10 ⟨rfl, hb⟩
  have HS10 := Lib.hid (HS9.out.below hb)
  have HX10 : Hid (LeAt w10 w8.heap.size la) := Lib.hid (LeAt.below HX9.out hb HX9.out.lt)
  have hlt := HX10.out.lt
  have HBF : Hid (Below w.heap.size w (w10.alloc (.cells (leA lb) 25))) := Lib.hid (HS10.out.low.alloc HS10.out.low.size _)
  unfold leA at HBF
  clear hb HS9 HB9 HX9
  obtain ⟨x0, x1, x2, x3, x4, x5, x6, x7⟩ := HS10.out.box.cells
  obtain ⟨y0, y1, y2, y3, y4, y5, y6, y7⟩ := HX10.out.cells
  have hlt2 := HS10.out.box.lt
  generalize w8.heap.size = gx at *
  obtain ⟨A2, c2, rfl, _⟩ := HA7.out
  obtain ⟨A3, c3, rfl, _⟩ := HB7.out
  rcases HN1.out with h1 | h1
  · rw [h1]
    rcases HN2.out with h2 | h2
    · rw [h2]
      go_wp2
      go_ret
      exact ⟨rfl, HBF.out⟩
    · subst h2
      obtain ⟨q1, q2⟩ := HLB.out
      simp only [if_true] at q1 q2
      subst q1
      subst q2
      by_cases n2 : (pansR s0).length = 0
      · rw [n2]
        go_wp2
        go_ret
        exact ⟨rfl, HBF.out⟩
      · generalize (pansR s0).length = m2 at *
        have t2 : ((m2 : Int) == 0) = false := by simp; omega
        go_wp2
        go_ret
        exact ⟨rfl, HBF.out⟩
  · subst h1
    obtain ⟨q1, q2, q3⟩ := HLA.out
    simp only [if_true] at q1 q2 q3
    subst q1
    subst q2
    subst q3
    generalize (paskR s0 a1).length = m1 at *
    by_cases n1 : m1 = 0
    all_goals
      have t1 : ((m1 : Int) == 0) = decide (m1 = 0) := by rw [Bool.eq_iff_iff]; simp
      simp only [n1, decide_true, decide_false] at t1
      rcases HN2.out with h2 | h2
      · rw [h2]
        go_wp2
        go_ret
        exact ⟨rfl, HBF.out⟩
      · subst h2
        obtain ⟨q1, q2⟩ := HLB.out
        simp only [if_true] at q1 q2
        subst q1
        subst q2
        by_cases n2 : (pansR s0).length = 0
        · rw [n2]
          go_wp2
          go_ret
          exact ⟨rfl, HBF.out⟩
        · generalize (pansR s0).length = m2 at *
          have t2 : ((m2 : Int) == 0) = false := by simp; omega
          go_wp2
          go_ret
          exact ⟨rfl, HBF.out⟩

/-! ### THE ROW's STEP: WRITTEN OUT: LEAVE IT -/
set_option maxRecDepth 100000 in
theorem lifted (os : Os) (started : os.Started) (H : Type) (enc : TypeId × Value → H) :
    ReturnsInHanded {} Try.checked os 7 .any (Rows.pcpTellsSpec.pre6 enc Try.prog Try.f7 Rows.pcpTellsRow.domain false) (Rows.pcpTellsSpec.post enc Try.prog Try.f7 false true false false) := by
  refine returnsInHanded_of_change (C := Try.checked) own started (by kernel_rfl) Try.func7
    (ChangeSpec.witness6 (enc := enc) (C := Try.checked) false ⟨#[], #[.agg #[.int .i64 0, .int .i64 0, .int .i64 0, .int .i64 0, .int .u64 0, .int .i64 0, .int .i64 0, .int .u32 0], .int .u32 0], []⟩ 8 (by kernel_rfl) (by kernel_rfl) (by kernel_rfl) (by kernel_rfl)) ?_
  intro W base args ds gs before hval0 hW hcnd _
  have hval : ∀ (j : Nat) t v, Try.f7.params[j]? = some t → args[j]? = some v → Value.okWide Try.prog W .any base t v := hval0
  have hW' := hW
  obtain ⟨p, q, hA0, hV, rfl, hfz, hnd⟩ := hW
  have hA : DataW.TrodAll enc Try.prog W 0 (fun _ => true) true Try.f7.params.toList args.toList ds p := hA0
  rw [Try.params7] at hA hval
  obtain ⟨v0, vs0, d0, ds0, p0, q0, hargs, rfl, rfl, h0, r0⟩ := trodAll_cons hA
  obtain ⟨v1, vs1, d1, ds1, p1, q1, rfl, rfl, rfl, h1, r1⟩ := trodAll_cons r0
  obtain ⟨rfl, rfl, rfl⟩ := trodAll_nil r1
  obtain rfl : args = #[v0, v1] := by cases args; simp_all
  obtain ⟨rfl, rfl⟩ := trodVars_none hV
  have k0 := h0
  have lt0 : ∀ x ∈ p0, x.block < W.heap.size := by obtain ⟨m, hm⟩ := k0; exact DataW.trod_lt m _ _ _ hm
  obtain ⟨s0, w0⟩ := open_le (hval 0 25 v0 rfl rfl) h0
  obtain ⟨a1, rfl, rfl, rfl, w1⟩ := open_int Try.underlying23 (hval 1 23 v1 rfl rfl) h1
  clear hA0 hval0
  refine (walk v0 s0 a1 W w0 w1).mono fun e W' ⟨he, bel⟩ => ?_
  subst he
  exact ⟨_, rfl, _, _, _, [], _, [], hW', trodAll_mk1 (shut_bool Try.underlying4 _), (trodAll_cons_mk (Below.trod laidOut (by kernel_rfl) (of_decide_eq_true (by kernel_rfl)) k0 bel lt0) (trodAll_cons_mk (shut_int Try.underlying23 w1) trodAll_mk0)), rfl, bel.frame _, fun h => by cases h⟩

theorem over : Rows.pcpTellsRow.holds Try.pinned (OpenSpec.ofChange Rows.pcpTellsSpec) :=
  OpenClaim.holds_of_wide 7 Try.f7 rfl rfl rfl rfl rfl rfl rfl ⟨rfl, rfl, rfl, rfl, rfl⟩ rfl rfl rfl rfl rfl (by kernel_rfl) Try.func7 (by kernel_rfl)
    (of_decide_eq_true (by kernel_rfl)) (by unfold Func.isWrapper; first | (rw [if_pos (by decide +kernel)]; kernel_rfl) | (rw [if_neg (by decide +kernel)]; exact ⟨rfl, rfl⟩))
    (fun os started H enc _ => lifted os started H enc)

/-- ████ THE STATEMENT ████ -/
theorem proved : Rows.PcpTellsSaid := over
#print axioms proved
end Go.Proofs.Ytabokjhimpmiiaa.pcpTells
