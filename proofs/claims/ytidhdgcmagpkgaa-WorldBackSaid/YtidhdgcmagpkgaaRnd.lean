/-
  A region that draws its order, in a round of a range over a function, whose operations only read and whose callees leave what was there as it was: it may be walked as outside of the round. Conditions: as each lemma states.
-/
import Derived.Test.YtidhdgcmagpkgaaMem
import Derived.Lib.QuietBelowIn
import Derived.RangeFuncCalls
namespace Go.Proofs.Ytidhdgcmagpkgaa
open Go.RowKit Go.Sort
set_option linter.unusedVariables false
variable {P : Program} {n r : Nat} {md : Region.Mode} {ops : Array Oper} {Q : Exit → Act → World → Prop}

/-- no operation puts anything off -/
def noDefer (ops : Array Oper) : Bool := ops.all fun o => match o.op with
  | .defer _ => false
  | _ => true
theorem noDefer_at (h : noDefer ops = true) {i : Nat} {o : Oper} (hi : ops[i]? = some o) (c) : o.op ≠ .defer c := by
  intro e
  unfold noDefer at h
  rw [Array.all_eq_true_iff_forall_mem] at h
  have h1 := h o (Array.mem_of_getElem? hi)
  rw [e] at h1
  cases h1
theorem op_round {o : Oper} {a : Act} {w : World} {K : Act → World → Prop} (hd : ∀ c, o.op ≠ .defer c) (h : Oper.wpIn Fence.wide n P o a w K Q) : Oper.wpIn (Fence.wide.inRound r) n P o a w K Q := by
  unfold Oper.wpIn at *
  rw [Oper.semAt_eq _ _ _ hd] at *
  refine ⟨h.1, ?_⟩
  have h2 := h.2
  generalize (execOp a.eval o).run P w = x at *
  cases x with
  | ok y w' => cases y <;> exact h2
  | halt y w' => cases y <;> exact h2
theorem any_round (hd : noDefer ops = true) : ∀ (k : Nat) (l : Array Bool) (a : Act) (w : World), wpAnyIn Fence.wide n P md ops Q k l a w → wpAnyIn (Fence.wide.inRound r) n P md ops Q k l a w
  | 0, _, _, _, h => h
  | k + 1, l, a, w, h => by
    refine ⟨h.1, fun i hi => ?_⟩
    have h1 := h.2 i hi
    have h2 : wpOpIn Fence.wide n P ops Q i (wpAnyIn (Fence.wide.inRound r) n P md ops Q k (l.setIfInBounds i true)) a w := wpOpIn_mono (fun a' w' h => any_round hd k _ a' w' h) h1
    unfold wpOpIn at h2 ⊢
    cases ho : ops[i]? with
    | none => rw [ho] at h2; exact h2
    | some o =>
      rw [ho] at h2
      dsimp only at h2 ⊢
      split
      · rename_i hw
        rw [if_pos hw] at h2
        exact op_round (noDefer_at hd ho) h2
      · rename_i hw
        rw [if_neg hw] at h2
        exact h2
/-- one walk, in the order of the text, in a round -/
theorem region_round {id : Nat} {a : Act} {w : World} {l : List Oper} (hm : P.follows .mixedOrders = true) (hd : noDefer l.toArray = true) (hB : Region.lexB .any l.toArray = true)
    (h : wpQuietIn Fence.wide n P l.toArray (fun w' => ∃ p : Regrown, w' = grow (redrawn w p.d) p.os) (fun a' => ∀ w', (∃ p : Regrown, w' = grow (redrawn w p.d) p.os) → Q .normal a' w') l a) : (Code.region id l.toArray true).wpIn (Fence.wide.inRound r) n P Q a w := by
  simp only [Region.lexB, Bool.and_eq_true] at hB
  refine wpIn_region_any hm (any_round hd _ _ _ _ ?_)
  refine wpAnyIn_of_quiet (C := fun w' => ∃ p : Regrown, w' = grow (redrawn w p.d) p.os) (Q := fun a' => ∀ w', (∃ p : Regrown, w' = grow (redrawn w p.d) p.os) → Q .normal a' w') rfl (fun _ w' hw' h => h w' hw') _ _ _ _ ⟨⟨w.drawn + 1, #[]⟩, by rw [grow_empty]; rfl⟩ ?_
  have h2 := wpAnyQIn_lex (F := Fence.wide) (n := n) (C := fun w' => ∃ p : Regrown, w' = grow (redrawn w p.d) p.os) (md := .any) hB.1 l 0 (Array.replicate l.toArray.size false) a (by simp) (by simpa using hB.2) h
  simpa using h2
/-- the wide fence lets in whatever is called -/
theorem ask_wide (o : Oper) (a : Act) (C : World → Prop) : o.askedIn Fence.wide P a C := fun _ _ _ _ => trivial
end Go.Proofs.Ytidhdgcmagpkgaa
