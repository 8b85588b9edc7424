/-
  Embrasurelaw10's awake; what the readers answer of whatever bytes; two hosts that came in. Conditions: as each lemma states.
-/
import Derived.Test.YtfaekiopmfnpkaaQPrre
import Derived.Test.YtfaekiopmfnpkaaQLw
namespace Go.Proofs.Ytfaekiopmfnpkaa.Pp
open Go.RowKit Go.ChangeShapes
attribute [local go_sem] Oper.semAt_some
set_option linter.unusedVariables false
set_option linter.unusedSimpArgs false

theorem ptell_ask (l : Le) (c : Int) (w : World) (hl : isL l) (hc : 0 ≤ c ∧ c < 4294967296) : Calls Try.prog 43 #[leV l, .int .u32 c] w fun e w' => ∃ V, e = .returned V ∧ Row w' V (paskR l c) ∧ Below w.heap.size w w' :=
  (pask_any l c w hl hc).mono fun e w' ⟨V, h1, h2, h3⟩ => ⟨V, h1, Row.own h2 (paskR_bd l c hl hc), h3⟩
theorem ptell_ans (l : Le) (w : World) (hl : isL l) : Calls Try.prog 9 #[leV l] w fun e w' => ∃ V, e = .returned V ∧ Row w' V (pansR l) ∧ Below w.heap.size w w' :=
  (panswer_any l w hl).mono fun e w' ⟨V, h1, h2, h3⟩ => ⟨V, h1, Row.own h2 (pansR_bd l hl), h3⟩
theorem pread_ans {V : Value} {zs : List Int} {w : World} (hr : Row w V zs) : Calls Try.prog 34 #[V] w fun e w' => e = .returned (pbR zs) ∧ Below w.heap.size w w' := by
  obtain ⟨A, c, rfl, a1, a2, a3, a4⟩ := hr
  exact preadAns_any A _ c zs w a1 a2 a3 a4
theorem pversion {V : Value} {zs : List Int} {w : World} (hr : Row w V zs) : Calls Try.prog 32 #[V] w fun e w' => e = .returned (.int .i64 (if zs.length = 0 then -1 else zs.getD 0 0)) ∧ w' = w := by
  obtain ⟨A, c, rfl, a1, a2, a3, a4⟩ := hr
  exact pversion_any A _ c zs w a1
/-- what ReadAsk answers of whatever bytes -/
theorem paR_cases {zs : List Int} (hb : Bd zs) : ∃ l c e, paR zs = paT l c e ∧ isL l ∧ ((e = 0 ∧ PAskOf zs l c) ∨ (e = 3 ∧ l = zeroL ∧ c = 0 ∧ ∀ l c, ¬ PAskOf zs l c)) := by
  by_cases hx : ∃ l c, PAskOf zs l c
  · obtain ⟨l, c, hz⟩ := hx
    exact ⟨l, c, 0, paR_yes hz, hz.is, .inl ⟨rfl, hz⟩⟩
  · have hz : ∀ l c, ¬ PAskOf zs l c := fun l c hz => hx ⟨l, c, hz⟩
    exact ⟨zeroL, 0, 3, paR_no hb hz, by constructor <;> simp [zeroL, W64], .inr ⟨rfl, rfl, rfl, hz⟩⟩
theorem pbR_cases {zs : List Int} (hb : Bd zs) : ∃ l e, pbR zs = pbT l e ∧ isL l ∧ ((e = 0 ∧ PAnsOf zs l) ∨ (e = 3 ∧ l = zeroL ∧ ∀ l, ¬ PAnsOf zs l)) := by
  by_cases hx : ∃ l, PAnsOf zs l
  · obtain ⟨l, hz⟩ := hx
    exact ⟨l, 0, pbR_yes hz, hz.is, .inl ⟨rfl, hz⟩⟩
  · have hz : ∀ l, ¬ PAnsOf zs l := fun l hz => hx ⟨l, hz⟩
    exact ⟨zeroL, 3, pbR_no hb hz, by constructor <;> simp [zeroL, W64], .inr ⟨rfl, rfl, hz⟩⟩
def cL : Le := ⟨2, 5, 7, 60, 9, 0, 0, 0⟩
theorem cL_is : isL cL := by constructor <;> simp [cL, W64]
theorem cL_may : Pas cL := by unfold Pas Pan cL; decide

def IsTwo (w : World) (v : Value) (b : Int × Int) : Prop := v = .agg #[.int .u32 b.1, .int .u32 b.2] ∧ (0 ≤ b.1 ∧ b.1 < 4294967296) ∧ (0 ≤ b.2 ∧ b.2 < 4294967296)
section
variable {H : Type} {enc : TypeId × Value → H} {W : World}
end
end Go.Proofs.Ytfaekiopmfnpkaa.Pp
