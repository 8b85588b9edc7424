/-
  Embrasurelaw10's awake; what the readers answer of whatever bytes; two hosts that came in. Conditions: as each lemma states.
-/
import Derived.Test.YtabokjhimpmiiaaPrre
import Derived.Test.YtabokjhimpmiiaaLw
namespace Go.Proofs.Ytabokjhimpmiiaa
open Go.RowKit Go.ChangeShapes
attribute [local go_sem] Oper.semAt_some
set_option linter.unusedVariables false
set_option linter.unusedSimpArgs false

theorem ptell_ask (l : Le) (c : Int) (w : World) (hl : isL l) (hc : 0 ≤ c ∧ c < 4294967296) : Calls Try.prog 22 #[leV l, .int .u32 c] w fun e w' => ∃ V, e = .returned V ∧ Row w' V (paskR l c) ∧ Below w.heap.size w w' :=
  (pask_any l c w hl hc).mono fun e w' ⟨V, h1, h2, h3⟩ => ⟨V, h1, Row.own h2 (paskR_bd l c hl hc), h3⟩
theorem ptell_ans (l : Le) (w : World) (hl : isL l) : Calls Try.prog 23 #[leV l] w fun e w' => ∃ V, e = .returned V ∧ Row w' V (pansR l) ∧ Below w.heap.size w w' :=
  (panswer_any l w hl).mono fun e w' ⟨V, h1, h2, h3⟩ => ⟨V, h1, Row.own h2 (pansR_bd l hl), h3⟩
theorem pread_ask {V : Value} {zs : List Int} {w : World} (hr : Row w V zs) : Calls Try.prog 26 #[V] w fun e w' => e = .returned (paR zs) ∧ Below w.heap.size w w' := by
  obtain ⟨A, c, rfl, a1, a2, a3, a4⟩ := hr
  exact preadAsk_any A _ c zs w a1 a2 a3 a4
theorem pread_ans {V : Value} {zs : List Int} {w : World} (hr : Row w V zs) : Calls Try.prog 27 #[V] w fun e w' => e = .returned (pbR zs) ∧ Below w.heap.size w w' := by
  obtain ⟨A, c, rfl, a1, a2, a3, a4⟩ := hr
  exact preadAns_any A _ c zs w a1 a2 a3 a4
theorem rpread_ask {V : Value} {zs : List Int} {w : World} (hr : Row w V zs) : Calls Try.prog 28 #[V] w fun e w' => e = .returned (paR zs) ∧ Below w.heap.size w w' := by
  obtain ⟨A, c, rfl, a1, a2, a3, a4⟩ := hr
  exact rpreadAsk_any A _ c zs w a1 a2 a3
theorem rpread_ans {V : Value} {zs : List Int} {w : World} (hr : Row w V zs) : Calls Try.prog 29 #[V] w fun e w' => e = .returned (pbR zs) ∧ Below w.heap.size w w' := by
  obtain ⟨A, c, rfl, a1, a2, a3, a4⟩ := hr
  exact rpreadAns_any A _ c zs w a1 a2 a3
theorem pversion {V : Value} {zs : List Int} {w : World} (hr : Row w V zs) : Calls Try.prog 30 #[V] w fun e w' => e = .returned (.int .i64 (if zs.length = 0 then -1 else zs.getD 0 0)) ∧ w' = w := by
  obtain ⟨A, c, rfl, a1, a2, a3, a4⟩ := hr
  exact pversion_any A _ c zs w a1
/-- what ReadAsk answers of whatever bytes -/
theorem paR_cases {zs : List Int} (hb : Bd zs) : ∃ l c e, paR zs = paT l c e ∧ isL l ∧ ((e = 0 ∧ PAskOf zs l c) ∨ (e = 3 ∧ l = zeroL ∧ c = 0 ∧ ∀ l c, ¬ PAskOf zs l c)) := by
  by_cases hx : ∃ l c, PAskOf zs l c
  · obtain ⟨l, c, hz⟩ := hx
    exact ⟨l, c, 0, paR_yes hz, hz.is, .inl ⟨rfl, hz⟩⟩
  · have hz : ∀ l c, ¬ PAskOf zs l c := fun l c hz => hx ⟨l, c, hz⟩
    exact ⟨zeroL, 0, 3, paR_no hb hz, by constructor <;> simp [zeroL, W64], .inr ⟨rfl, rfl, rfl, hz⟩⟩
theorem pbR_cases {zs : List Int} (hb : Bd zs) : ∃ l e, pbR zs = pbT l e ∧ isL l ∧ ((e = 0 ∧ PAnsOf zs l) ∨ (e = 3 ∧ l = zeroL ∧ ∀ l, ¬ PAnsOf zs l)) := by
  by_cases hx : ∃ l, PAnsOf zs l
  · obtain ⟨l, hz⟩ := hx
    exact ⟨l, 0, pbR_yes hz, hz.is, .inl ⟨rfl, hz⟩⟩
  · have hz : ∀ l, ¬ PAnsOf zs l := fun l hz => hx ⟨l, hz⟩
    exact ⟨zeroL, 3, pbR_no hb hz, by constructor <;> simp [zeroL, W64], .inr ⟨rfl, rfl, hz⟩⟩
def cL : Le := ⟨2, 5, 7, 60, 9, 0, 0, 0⟩
theorem cL_is : isL cL := by constructor <;> simp [cL, W64]
theorem cL_may : Pas cL := by unfold Pas Pan cL; decide

set_option maxRecDepth 100000 in
set_option maxHeartbeats 4000000 in
/-- awake -/
theorem pawake_any (w : World) : Calls Try.prog 21 #[] w fun e w' => e = .returned (.bool true) ∧ Below w.heap.size w w' := by
  have hz : PAskOf (paskR cL 3) cL 3 := ⟨cL_is, by decide, cL_may, rfl⟩
  have CA := Lib.hid (fun W => ptell_ask cL 3 W cL_is (by decide))
  have CR := Lib.hid (fun V W (hr : Row W V (paskR cL 3)) => pread_ask hr)
  have CN := Lib.hid (fun V W (hr : Row W V (paskR cL 3)) => pread_ans hr)
  have CV := Lib.hid (fun V W (hr : Row W V (paskR cL 3)) => pversion hr)
  have hbd := paskR_bd cL 3 cL_is (by decide)
  rw [paR_yes hz] at CR
  rw [pbR_no hbd (fun l h => pask_pans hz h)] at CN
  have hlen := hz.len
  obtain ⟨hs1, hs0⟩ := hz.snd
  rw [hlen, hs0] at CV
  have HF := Lib.hid (show (paskR cL 3).length = 60 ∧ (paskR cL 3).getD 1 0 = 1 ∧ (paskR cL 3).getD 0 0 = 2 from ⟨hlen, hs1, hs0⟩)
  have HNIL := Lib.hid (fun W => pversion_any none 0 0 [] W ⟨rfl, by simp, by simp⟩)
  clear hz hbd hlen hs1 hs0
  generalize paskR cL 3 = zA at *
  unfold paT pbT leV leA zeroL cL at *
  dsimp only at *
  go_enter Try.func21, Try.ntmps21
  go_wp2_with fail
  refine (CA.out _).mono ?_
  rintro e w1 ⟨V, rfl, hr, hb⟩
  have HB1 := Lib.hid hb
  have HR := Lib.hid hr
  clear hb hr
  go_wp2_with fail
  refine (CR.out _ _ HR.out).mono ?_
  rintro e w2 ⟨rfl, hb⟩
  have HB2 := Lib.hid (HB1.out.trans (hb.mono HB1.out.size))
  have HR2 := Lib.hid (HR.out.below hb)
  clear hb HR
  have kk := lay w2 ⟨2, 5, 7, 60, 9, 0, 0, 0⟩
  have HB3 := Lib.hid (HB2.out.trans (kk.1.mono HB2.out.size))
  have HR3 := Lib.hid (HR2.out.below kk.1)
  have HX3 := Lib.hid kk.2
  unfold leA at HB3 HR3 HX3
  dsimp only at HB3 HR3 HX3
  clear kk
  go_wp2_with fail
  refine (CN.out _ _ HR3.out).mono ?_
  rintro e w4 ⟨rfl, hb⟩
  have HB4 := Lib.hid (HB3.out.trans (hb.mono HB3.out.size))
  have HR4 := Lib.hid (HR3.out.below hb)
  have HX4 : Hid (LeAt w4 w2.heap.size ⟨2, 5, 7, 60, 9, 0, 0, 0⟩) := Lib.hid (LeAt.below HX3.out hb (LeAt.lt HX3.out))
  clear hb HR3 HX3 HB3 HR2 HB2
  generalize w2.heap.size = g2 at *
  have kk := lay w4 zeroL
  have HB5 := Lib.hid (HB4.out.trans (kk.1.mono HB4.out.size))
  have HR5 := Lib.hid (HR4.out.below kk.1)
  have HX5 := Lib.hid (LeAt.below HX4.out kk.1 (LeAt.lt HX4.out))
  unfold leA zeroL at HB5 HR5 HX5
  dsimp only at HB5 HR5 HX5
  clear kk
  obtain ⟨x0, x1, x2, x3, x4, x5, x6, x7⟩ := HX4.out.cells
  have hlt := HX4.out.lt
  obtain ⟨A, c, rfl, v1, v2, v3, _⟩ := HR4.out
  obtain ⟨hf1, hf2, hf3⟩ := HF.out
  rw [hf1] at v1 v2 HR5 ⊢
  obtain ⟨b, off, rfl, hbl, hc⟩ := v1.2.2 (by decide)
  have d0 := hc 0 (by decide)
  have d1 := hc 1 (by decide)
  rw [hf3] at d0
  rw [hf2] at d1
  simp only [Nat.add_zero] at d0
  clear hc v1 hf1 hf2 hf3
  go_wp2_with fail
  refine (CV.out _ _ HR5.out).mono ?_
  rintro e w6 ⟨rfl, rfl⟩
  go_wp2_with fail
  refine (HNIL.out _).mono ?_
  rintro e w7 ⟨rfl, rfl⟩
  go_wp2
  go_ret
  exact ⟨rfl, HB5.out⟩

def IsTwo (w : World) (v : Value) (b : Int × Int) : Prop := v = .agg #[.int .u32 b.1, .int .u32 b.2] ∧ (0 ≤ b.1 ∧ b.1 < 4294967296) ∧ (0 ≤ b.2 ∧ b.2 < 4294967296)
section
variable {H : Type} {enc : TypeId × Value → H} {W : World}
set_option maxRecDepth 100000 in
theorem open_two {r : Reach} {b0 : Nat} {v : Value} {d : DataW H} {p : List MemPlace} (hv : Value.okWide Try.prog W r b0 47 v) (h : DataW.Trod enc Try.prog W 0 (fun _ => true) true 47 v d p) : ∃ s, IsTwo W v s := by
  obtain ⟨cs, rfl, hsz⟩ := okWide_arr Try.underlying47 hv
  have hsz2 : cs.toList.length = 2 := by rw [Array.length_toList]; exact hsz.trans (by kernel_rfl)
  obtain ⟨c0, c1, rfl⟩ : ∃ c0 c1, cs = #[c0, c1] := by
    match h : cs.toList, hsz2 with
    | [c0, c1], _ => exact ⟨c0, c1, by rw [← Array.toArray_toList (xs := cs), h]⟩
  obtain ⟨fuel, hf⟩ := h
  obtain ⟨xs, m, rfl, _, _, hx, hel⟩ := DataW.trod_array Try.underlying47 hf
  have c5 : Try.prog.cellsOf 23 = 1 := by kernel_rfl
  have e0 := hel 0 (by omega)
  have e1 := hel 1 (by omega)
  match xs, hx with
  | [x0, x1], _ =>
    rw [c5] at e0 e1
    simp only [Value.cells, Nat.zero_mul, List.drop_zero, List.take_succ_cons, List.take_zero, Nat.one_mul, List.drop_succ_cons, List.getElem?_cons_zero, List.getElem?_cons_succ] at e0 e1
    obtain ⟨a, q0, _, p0⟩ := DataW.trod_int Try.underlying23 e0
    obtain ⟨b, q1, _, p1⟩ := DataW.trod_int Try.underlying23 e1
    simp only [List.cons.injEq, and_true] at q0 q1
    have r0 := bounds_u32 p0
    have r1 := bounds_u32 p1
    exact ⟨(a, b), by rw [q0, q1], by dsimp only; omega, by dsimp only; omega⟩
end
end Go.Proofs.Ytabokjhimpmiiaa
