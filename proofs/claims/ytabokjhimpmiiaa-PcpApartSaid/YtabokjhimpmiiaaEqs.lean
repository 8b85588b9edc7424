/-
  Leases compared. Conditions: none.
-/
import Derived.Test.YtabokjhimpmiiaaMay
namespace Go.Proofs.Ytabokjhimpmiiaa
open Go.RowKit
set_option linter.unusedVariables false
theorem noGuard25 : Try.prog.eqGuardType Try.prog.depth 25 = false := by kernel_rfl
theorem eq_le (s t : Le) (W : World) : (binOp .eql 25 (.agg (leA s)) (.agg (leA t))).run Try.prog W = .ok (.bool (decide (s = t))) W := by
  have hm := noGuard25
  obtain ⟨a0, a1, a2, a3, a4, a5, a6, a7⟩ := s
  obtain ⟨b0, b1, b2, b3, b4, b5, b6, b7⟩ := t
  have e : decide ((⟨a0, a1, a2, a3, a4, a5, a6, a7⟩ : Le) = ⟨b0, b1, b2, b3, b4, b5, b6, b7⟩) = (a0 == b0 && (a1 == b1 && (a2 == b2 && (a3 == b3 && (a4 == b4 && (a5 == b5 && (a6 == b6 && a7 == b7))))))) := by
    rw [Bool.eq_iff_iff]; simp
  rw [e]
  clear e
  unfold leA
  dsimp only
  by_cases h0 : a0 = b0
  · subst h0
    by_cases h1 : a1 = b1
    · subst h1
      by_cases h2 : a2 = b2
      · subst h2
        by_cases h3 : a3 = b3
        · subst h3
          by_cases h4 : a4 = b4
          · subst h4
            by_cases h5 : a5 = b5
            · subst h5
              by_cases h6 : a6 = b6
              · subst h6
                by_cases h7 : a7 = b7
                · subst h7; go_simp
                · go_simp
              · go_simp
            · go_simp
          · go_simp
        · go_simp
      · go_simp
    · go_simp
  · go_simp
end Go.Proofs.Ytabokjhimpmiiaa
