/-
  A region that draws its order, in a round of a range over a function, and whose walk outside of a round lets nothing out but in the plain way: it may be walked as outside of the round. Conditions: as each lemma states.
-/
import Derived.Test.YthfdnidcmkjmoaaTil
import Derived.RangeFuncCalls
import Derived.OrdersIn
namespace Go.Proofs.Ythfdnidcmkjmoaa
open Go.RowKit
set_option linter.unusedVariables false
variable {P : Program} {n r : Nat} {md : Region.Mode} {ops : Array Oper} {Q : Exit → Act → World → Prop}

/-- left in the plain way alone -/
def OnlyN (Q : Exit → Act → World → Prop) : Exit → Act → World → Prop
  | .normal, a, w => Q .normal a w
  | _, _, _ => False
theorem OnlyN.all {Q : Exit → Act → World → Prop} : ∀ e a w, OnlyN Q e a w → Q e a w
  | .normal, _, _, h => h
  | .exit _, _, _, h => h.elim
  | .goto _, _, _, h => h.elim
  | .ret, _, _, h => h.elim
  | .panic _, _, _, h => h.elim
  | .outgrown, _, _, h => h.elim
/-- an operation that is worked out at once: neither a call nor what is put off -/
def plainOp (o : Oper) : Bool := match o.op with
  | .defer _ => false
  | .call _ => false
  | _ => true
theorem op_wide {o : Oper} {a : Act} {w : World} {K : Act → World → Prop} (hd : ∀ c, o.op ≠ .defer c) (hv : ∀ y w', (execOp a.eval o).run P w = .ok y w' → (∃ v, y = .value v) ∨ y = .skip) (h : Oper.wp P o a w K Q) : Oper.wpIn (Fence.wide.inRound r) n P o a w K Q := by
  unfold Oper.wpIn Oper.wp at *
  rw [Oper.semAt_eq _ _ _ hd]
  refine ⟨fun _ _ => trivial, ?_⟩
  generalize hx : (execOp a.eval o).run P w = x at *
  cases x with
  | ok y w' =>
    rcases hv y w' rfl with ⟨v, rfl⟩ | rfl
    · exact h
    · exact h
  | halt y w' => cases y <;> exact h
theorem run_v {s : Sem Value} {w w' : World} {y : Next} (h : Sem.run P (do pure (Next.value (← s))) w = .ok y w') : (∃ v, y = .value v) ∨ y = .skip := by
  simp only [Sem.run_bind] at h
  cases hx : s.run P w with
  | ok v w1 =>
    rw [hx] at h
    simp only [Result.andThen_ok, Sem.run_pure] at h
    injection h with h1 h2
    exact .inl ⟨v, h1.symm⟩
  | halt e w1 => rw [hx] at h; cases h
theorem run_u {s : Sem Unit} {w w' : World} {y : Next} (h : Sem.run P (do s; pure Next.skip) w = .ok y w') : (∃ v, y = .value v) ∨ y = .skip := by
  simp only [Sem.run_bind] at h
  cases hx : s.run P w with
  | ok v w1 =>
    rw [hx] at h
    simp only [Result.andThen_ok, Sem.run_pure] at h
    injection h with h1 h2
    exact .inr h1.symm
  | halt e w1 => rw [hx] at h; cases h
/-- operations of these kinds are worked out at once -/
def calmOp (o : Oper) : Bool := match o.op with
  | .move _ | .assign _ | .alloc _ | .box _ _ | .load _ _ | .store _ _ _ | .binOp _ _ _ _ _ | .unOp _ _ _ | .convert _ _ _ | .fieldAddr _ _ _ | .indexAddr _ _ _ | .slice _ _ _ _ _ => true
  | _ => false
theorem calm_value {o : Oper} (h : calmOp o = true) {ρ : Operand → Value} {w w' : World} {y : Next} (hr : (execOp ρ o).run P w = .ok y w') : (∃ v, y = .value v) ∨ y = .skip := by
  unfold calmOp at h
  unfold execOp at hr
  split at h <;> rename_i ho <;> first | exact absurd h (by decide) | (simp only [ho] at hr; first | exact run_v hr | exact run_u hr | (simp only [Sem.run_pure] at hr; injection hr with h1 h2; exact .inl ⟨_, h1.symm⟩))
theorem calm_defer {o : Oper} (h : calmOp o = true) (c) : o.op ≠ .defer c := by
  intro e
  unfold calmOp at h
  rw [e] at h
  cases h
theorem any_in (hc : ops.all calmOp = true) (hQ : ¬ LetsOut Q) : ∀ (k : Nat) (l : Array Bool) (a : Act) (w : World), wpAny P md ops Q k l a w → wpAnyIn (Fence.wide.inRound r) n P md ops Q k l a w
  | 0, _, _, _, h => h
  | k + 1, l, a, w, h => by
    refine ⟨h.1, fun i hi => ?_⟩
    have h1 := h.2 i hi
    have h2 : wpOp P ops Q i (wpAnyIn (Fence.wide.inRound r) n P md ops Q k (l.setIfInBounds i true)) a w := wpOp_mono (fun a' w' h => any_in hc hQ k _ a' w' h) h1
    unfold wpOp at h2
    unfold wpOpIn
    cases ho : ops[i]? with
    | none => rw [ho] at h2; exact h2
    | some o =>
      rw [ho] at h2
      dsimp only at h2 ⊢
      have hco : calmOp o = true := by
        rw [Array.all_eq_true_iff_forall_mem] at hc
        exact hc o (Array.mem_of_getElem? ho)
      split
      · rename_i hw
        rw [if_pos hw] at h2
        rcases h2 with h2 | h2
        · exact op_wide (calm_defer hco) (fun y w' hr => calm_value hco hr) h2
        · exact absurd h2.2 hQ
      · rename_i hw
        rw [if_neg hw] at h2
        exact ⟨fun _ _ => trivial, h2⟩
/-- .. by text Till's walk -/
theorem region_round_till {S : World → Prop} {z : Nat} {id : Nat} {a : Act} {w : World} (hm : P.follows .mixedOrders = true) (hc : ops.all calmOp = true) (hS : S w.drew)
    (h : S w.drew → wpTill P .any ops (OnlyN Q) S z ops.size (Array.replicate ops.size false) a w.drew) : (Code.region id ops true).wpIn (Fence.wide.inRound r) n P Q a w :=
  wpIn_mono (wpIn_region_any hm (any_in hc (fun ⟨_, _, h⟩ => h) _ _ _ _ (any_of_till _ _ _ _ (h hS)))) OnlyN.all
end Go.Proofs.Ythfdnidcmkjmoaa
