/-
  A region that draws its order, with a condition on the world that is kept up to its operation number z: an operation that yields its value in whatever world may be taken first, be it ahead of z or behind it. Conditions: as each lemma states.
-/
import Derived.Test.YtidhdgcmagpkgaaTil
namespace Go.Proofs.Ytidhdgcmagpkgaa
set_option linter.unusedVariables false
variable {P : Program} {ops : Array Oper} {Q : Exit → Act → World → Prop} {md : Region.Mode} {S : World → Prop} {z : Nat}

theorem pure_first {i : Nat} {oi : Oper} {v : Value} (hi : ops[i]? = some oi) (hsel : ∀ (j : Nat) (o : Oper) cs b, ops[j]? = some o → o.op ≠ .select cs b)
    (hQ : ∀ c a w, Q (.panic c) (a.put oi.dst v) w → Q (.panic c) a w) (hz0 : ¬ z = i) (k : Nat) :
    ∀ (l : Array Bool) (a : Act) (w : World), FreeL md ops l i oi → i ∈ Region.ready md ops l → YieldsIf P ops (fun _ => True) oi v a → (l.getD z false = false → S w) →
      wpTill P md ops Q S z k (l.setIfInBounds i true) (a.put oi.dst v) w → wpTill P md ops Q S z (k + 1) l a w := by
  induction k with
  | zero =>
    intro l a w _ hr hy hS H
    refine ⟨fun h => absurd hr (by rw [h]; simp), fun j hj => ?_⟩
    rcases Decidable.em (j = i) with rfl | hji
    · exact hy.wpOp hi trivial ⟨fun h => hS (by rwa [getD_set_ne false (Ne.symm hz0)] at h), H⟩
    · exact absurd (ready_mono hj hji) (by rw [H.1]; simp)
  | succ k ih =>
    intro l a w hfree hr hy hS H
    refine ⟨fun h => absurd hr (by rw [h]; simp), fun j hj => ?_⟩
    rcases Decidable.em (j = i) with rfl | hji
    · exact hy.wpOp hi trivial ⟨fun h => hS (by rwa [getD_set_ne false (Ne.symm hz0)] at h), H⟩
    obtain ⟨hun, oj, hoj, hdeps⟩ := mem_ready.1 hj
    obtain ⟨hui, _, _, _⟩ := mem_ready.1 hr
    have hno : ∀ e ∈ oj.after, Region.binds md e = true → e.on ≠ i := by
      intro e he hb heq
      have h1 := hdeps e he hb
      rw [heq] at h1
      rcases Nat.lt_or_ge i l.size with h2 | h2
      · simp [h2] at h1 hui
        rw [h1] at hui; cases hui
      · simp [Array.getElem?_eq_none h2] at h1
    have h2 := wpOp_putIf hoj (hfree j oj hoj hji hun hno) (fun cs b => hsel i oi cs b hi) (fun cs b => hsel j oj cs b hoj) hQ hy (H.2 j (ready_mono hj hji))
    refine wpOp_mono (fun a' w' h3 => ?_) h2
    have hS3 : (l.setIfInBounds j true).getD z false = false → S w' := fun h => h3.2.1 (by rw [Array.setIfInBounds_comm _ _ (Ne.symm hji), getD_set_ne false (Ne.symm hz0)]; exact h)
    refine ⟨hS3, ih _ a' w' (free_set hfree hun) (ready_mono hr (Ne.symm hji)) h3.1 hS3 ?_⟩
    rw [Array.setIfInBounds_comm _ _ hji]
    exact h3.2.2
/-- number i yields in whatever world: it is taken first -/
theorem till_pure {i : Nat} {oi : Oper} {v : Value} {k : Nat} {l : Array Bool} {a : Act} {w : World} (hi : ops[i]? = some oi)
    (hs : Region.noSelect ops = true) (hz0 : ¬ z = i) (hf : Region.free md ops l i = true) (hr : (Region.ready md ops l).contains i = true)
    (hQ : ∀ c a w, Q (.panic c) (a.put oi.dst v) w → Q (.panic c) a w) (hy : YieldsIf P ops (fun _ => True) oi v a) (hS : l.getD z false = false → S w)
    (h : wpTill P md ops Q S z k (l.setIfInBounds i true) (a.put oi.dst v) w) : wpTill P md ops Q S z (k + 1) l a w :=
  pure_first hi (Region.noSelect_spec hs) hQ hz0 k l a w (Region.free_spec hi hf) (by simpa using hr) hy hS h
end Go.Proofs.Ytidhdgcmagpkgaa
