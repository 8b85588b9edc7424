/-
  What is read as a place has just that place's text. No program. Conditions: as each lemma states.
-/
import Derived.Test.YtkemkbaomhjnbaaDoorRead
namespace Go.Proofs.YtkemkbaomhjnbaaDoor
set_option linter.unusedVariables false
theorem stepP_inv {s : Option PS} {z : List UInt8} {t : PS} (h : stepP s z = some t) : ∃ r, s = some r ∧ (put r z).ok = true ∧ t = { put r z with n := r.n + 1 } := by
  cases s with
  | none => cases h
  | some r =>
    simp only [stepP] at h
    split at h
    · rename_i hb
      exact ⟨r, rfl, hb, (Option.some.inj h).symm⟩
    · cases h
theorem read5 {a b c d e : List UInt8} {s : PS} (h : foldP [a, b, c, d, e] = some s) : a = [] ∧ b = [105, 112, 52] ∧ hostV c = (s.h, true) ∧ d = [117, 100, 112] ∧ numV 1 65535 e = (s.p, true) ∧ s.i = 0 ∧ s.v = false := by
  unfold foldP at h
  simp only [List.foldl_cons, List.foldl_nil] at h
  obtain ⟨r4, h4, k4, rfl⟩ := stepP_inv h
  obtain ⟨r3, h3, k3, rfl⟩ := stepP_inv h4
  obtain ⟨r2, h2, k2, rfl⟩ := stepP_inv h3
  obtain ⟨r1, h1, k1, rfl⟩ := stepP_inv h2
  obtain ⟨r0, h0, k0, rfl⟩ := stepP_inv h1
  obtain rfl := (Option.some.inj h0).symm
  simp only [put, decide_eq_true_eq] at k0 k1 k2 k3 k4 ⊢
  exact ⟨k0, k1, Prod.ext rfl k2, k3, Prod.ext rfl k4, trivial, trivial⟩
theorem read7 {a b c d e f g : List UInt8} {s : PS} (h : foldP [a, b, c, d, e, f, g] = some s) : a = [] ∧ b = [105, 112, 52] ∧ hostV c = (s.h, true) ∧ d = [117, 100, 112] ∧ numV 1 65535 e = (s.p, true) ∧ f = [112, 50, 112] ∧ numV 1 2147483647 g = (s.i, true) ∧ s.v = false := by
  unfold foldP at h
  simp only [List.foldl_cons, List.foldl_nil] at h
  obtain ⟨r6, h6, k6, rfl⟩ := stepP_inv h
  obtain ⟨r5, h5, k5, rfl⟩ := stepP_inv h6
  obtain ⟨r4, h4, k4, rfl⟩ := stepP_inv h5
  obtain ⟨r3, h3, k3, rfl⟩ := stepP_inv h4
  obtain ⟨r2, h2, k2, rfl⟩ := stepP_inv h3
  obtain ⟨r1, h1, k1, rfl⟩ := stepP_inv h2
  obtain ⟨r0, h0, k0, rfl⟩ := stepP_inv h1
  obtain rfl := (Option.some.inj h0).symm
  simp only [put, decide_eq_true_eq] at k0 k1 k2 k3 k4 k5 k6 ⊢
  exact ⟨k0, k1, Prod.ext rfl k2, k3, Prod.ext rfl k4, k5, Prod.ext rfl k6, trivial⟩
theorem read8 {a b c d e f g q : List UInt8} {s : PS} (h : foldP [a, b, c, d, e, f, g, q] = some s) : a = [] ∧ b = [105, 112, 52] ∧ hostV c = (s.h, true) ∧ d = [117, 100, 112] ∧ numV 1 65535 e = (s.p, true) ∧ f = [112, 50, 112] ∧ numV 1 2147483647 g = (s.i, true) ∧ q = [112, 50, 112, 45, 99, 105, 114, 99, 117, 105, 116] ∧ s.v = true := by
  unfold foldP at h
  simp only [List.foldl_cons, List.foldl_nil] at h
  obtain ⟨r7, h7, k7, rfl⟩ := stepP_inv h
  obtain ⟨r6, h6, k6, rfl⟩ := stepP_inv h7
  obtain ⟨r5, h5, k5, rfl⟩ := stepP_inv h6
  obtain ⟨r4, h4, k4, rfl⟩ := stepP_inv h5
  obtain ⟨r3, h3, k3, rfl⟩ := stepP_inv h4
  obtain ⟨r2, h2, k2, rfl⟩ := stepP_inv h3
  obtain ⟨r1, h1, k1, rfl⟩ := stepP_inv h2
  obtain ⟨r0, h0, k0, rfl⟩ := stepP_inv h1
  obtain rfl := (Option.some.inj h0).symm
  simp only [put, decide_eq_true_eq] at k0 k1 k2 k3 k4 k5 k6 k7 ⊢
  exact ⟨k0, k1, Prod.ext rfl k2, k3, Prod.ext rfl k4, k5, Prod.ext rfl k6, k7, trivial⟩
/-- what is read has just that text -/
theorem parse_is {l : List UInt8} {s : PS} (h : parseL l = some s) : mayP (s.h : Int) s.p s.i s.v = true ∧ textL (s.h : Int) s.p s.i s.v = l ∧ s.h < 4294967296 := by
  have hj := join_parts 47 l
  unfold parseL at h
  cases hf : foldP (parts 47 l) with
  | none => rw [hf] at h; cases h
  | some t =>
    rw [hf] at h
    simp only at h
    split at h
    · rename_i hn
      simp only [Option.some.injEq] at h
      subst h
      have hl := (foldP_good _ _ _ rfl hf).2.1
      generalize parts 47 l = ps at *
      have may : ∀ {c e : List UInt8}, hostV c = (t.h, true) → numV 1 65535 e = (t.p, true) → c = hostL (t.h : Int) t.p ∧ e = dig t.p ∧ mayA (t.h : Int) t.p = true ∧ t.h < 4294967296 := fun hc he => by
        obtain ⟨c1, c2, c3⟩ := hostV_is t.p hc
        obtain ⟨e1, _, e2, e3⟩ := numV_is (by omega) he
        exact ⟨c1, e1, mayA_t (by omega) e2 e3, c3⟩
      rw [← hj]
      rcases hn with hn | hn | hn
      · match ps, hl.symm.trans hn with
        | [a, b, c, d, e], _ =>
          obtain ⟨rfl, rfl, hc, rfl, he, hi, hv⟩ := read5 hf
          obtain ⟨rfl, rfl, hm, hlt⟩ := may hc he
          rw [textL_join, hi, hv]
          exact ⟨by simp [mayP, hm], by simp [pieces], hlt⟩
      · match ps, hl.symm.trans hn with
        | [a, b, c, d, e, f, g], _ =>
          obtain ⟨rfl, rfl, hc, rfl, he, rfl, hg, hv⟩ := read7 hf
          obtain ⟨rfl, rfl, hm, hlt⟩ := may hc he
          obtain ⟨rfl, g0, g1, g2⟩ := numV_is (by omega) hg
          rw [textL_join, hv]
          have hi : ¬ t.i = 0 := by omega
          exact ⟨by simp [mayP, hm, g0, g2], by simp [pieces, hi], hlt⟩
      · match ps, hl.symm.trans hn with
        | [a, b, c, d, e, f, g, q], _ =>
          obtain ⟨rfl, rfl, hc, rfl, he, rfl, hg, rfl, hv⟩ := read8 hf
          obtain ⟨rfl, rfl, hm, hlt⟩ := may hc he
          obtain ⟨rfl, g0, g1, g2⟩ := numV_is (by omega) hg
          rw [textL_join, hv]
          have hi : ¬ t.i = 0 := by omega
          exact ⟨by simp [mayP, hm, g0, g2, hi], by simp [pieces, hi], hlt⟩
    · cases h
/-- two places have one text just if they are the same -/
theorem text_inj {h p i : Int} {v : Bool} {h' p' i' : Int} {v' : Bool} (h0 : 0 ≤ h) (h1 : h < 4294967296) (h2 : 0 ≤ h') (h3 : h' < 4294967296) (hm : mayP h p i v = true) (hn : mayP h' p' i' v' = true) :
    (textL h' p' i' v' = textL h p i v) ↔ (h = h' ∧ p = p' ∧ i = i' ∧ v = v') := by
  constructor
  · intro e
    obtain ⟨s, a0, a1, a2, a3, a4⟩ := parse_text h0 h1 hm
    obtain ⟨t, b0, b1, b2, b3, b4⟩ := parse_text h2 h3 hn
    rw [e, a0] at b0
    obtain rfl := Option.some.inj b0
    exact ⟨a1.symm.trans b1, a2.symm.trans b2, a3.symm.trans b3, a4.symm.trans b4⟩
  · rintro ⟨rfl, rfl, rfl, rfl⟩; rfl
end Go.Proofs.YtkemkbaomhjnbaaDoor
