/-
  Plain words for WorldOpen: ways in a world just made, from the open net. Conditions: as each lemma states.
-/
import Derived.Test.YtidhdgcmagpkgaaWj
namespace Go.Proofs.Ytidhdgcmagpkgaa
open Go.RowKit
set_option linter.unusedVariables false

theorem idx_own {S H : List St} {bs : List Bp} (h : OkPlan S H bs) {k : Nat} {s : St} (hk : H[k]? = some s) : idxS H s = (k : Int) := idxS_some hk (fun j t hj ht e => by
  subst e
  have := h.h1 j k t ht hk
  omega)
theorem fresh_in {x : Bx} {t p : Int} {f : A2} : ¬ (inP (freshP x) t p f).1.2 = 0 := by
  show ¬ (inS x 0 [] t p f).2.1 = 0
  unfold inS
  split
  · show ¬ (inM x (liveM [] t) p f).2 = 0
    unfold inM liveM
    split
    · simp
    · simp
  · simp
section
variable {p : Pn} {S : List St}
theorem way_open1 {bs : List Bp} (h : OkPlan S p.hs bs) {a b : Nat} {ha hb p0 p1 : Int} (h1 : p.hs[a]? = some (ha, -1)) (h2 : p.hs[b]? = some (hb, -1)) (h3 : 1 ≤ p0 ∧ p0 ≤ 65535) (h4 : 1 ≤ p1 ∧ p1 ≤ 65535) :
    wayM S p.hs bs 0 0 a p0 (hb, p1) = (((b : Int), (ha, p0), (hb, p1), 0), bs, 0) := by
  have e1 : ownA p.hs a p0 = (ha, p0) := by
    unfold ownA
    rw [inB_nat, if_pos (by simpa using (List.getElem?_eq_some_iff.1 h1).1), getS_at h1]
  have e2 : outerI p.hs a = -1 := by
    unfold outerI
    rw [inB_nat, if_pos (by simpa using (List.getElem?_eq_some_iff.1 h1).1), getS_at h1]
  have n1 := (h.okH _ (List.mem_of_getElem? h1)).2.1
  have n2 := (h.okH _ (List.mem_of_getElem? h2)).2.1
  have e3 : folM S p.hs 0 100 bs (ha, p0) (hb, p1) (-1) (-1) false = (((b : Int), (ha, p0), (hb, p1), 0), bs) := by
    have e := idx_own h h2
    rw [show (100 : Nat) = 99 + 1 from rfl, folM_host (by show idxS p.hs (hb, -1) ≠ -1; rw [e]; omega)]
    show ((idxS p.hs (hb, -1), _, _, _), _) = _
    rw [e]
  unfold wayM
  rw [e1, e2, if_pos ⟨by omega, by omega, mayA_t n1 h3.1 h3.2, mayA_t n2 h4.1 h4.2⟩, e3]
  simp
theorem way_open2 {bx : List Bx} (h : OkPlan S p.hs (bx.map freshP)) {a b : Nat} {ha hb k p0 p1 : Int} (h1 : p.hs[a]? = some (ha, -1)) (h2 : p.hs[b]? = some (hb, k)) (hk : ¬ k = -1) :
    ¬ (wayM S p.hs (bx.map freshP) 0 0 a p0 (hb, p1)).1.2.2.2 = 0 ∨ ¬ (wayM S p.hs (bx.map freshP) 0 0 a p0 (hb, p1)).1.1 = (b : Int) := by
  have e2 : outerI p.hs a = -1 := by
    unfold outerI
    rw [inB_nat, if_pos (by simpa using (List.getElem?_eq_some_iff.1 h1).1), getS_at h1]
  unfold wayM
  split
  · show ¬ (folM S p.hs 0 100 (bx.map freshP) (ownA p.hs a p0) (hb, p1) (outerI p.hs a) (-1) false).1.2.2.2 = 0 ∨ ¬ (folM S p.hs 0 100 (bx.map freshP) (ownA p.hs a p0) (hb, p1) (outerI p.hs a) (-1) false).1.1 = (b : Int)
    rw [e2]
    generalize ownA p.hs a p0 = f
    rcases idxS_cases p.hs (hb, -1) with ⟨e, _⟩ | ⟨j, e, hj⟩
    · rcases idxS_cases S (hb, -1) with ⟨e3, _⟩ | ⟨j, e3, hj⟩
      · rw [show (100 : Nat) = 99 + 1 from rfl, folM_none (by exact e) (.inl e3) (.inl rfl)]
        left; simp [noWay]
      · obtain ⟨x, hx⟩ : ∃ x, bx[j]? = some x := ⟨_, List.getElem?_eq_getElem (by have := (List.getElem?_eq_some_iff.1 hj).1; have := h.len; simp at this; omega)⟩
        have hb2 : (bx.map freshP)[j]? = some (freshP x) := by rw [List.getElem?_map, hx]; rfl
        rw [show (100 : Nat) = 99 + 1 from rfl, folM_in (by exact e) e3 (by omega) hb2 _ rfl, if_neg fresh_in]
        left
        exact fresh_in
    · rw [show (100 : Nat) = 99 + 1 from rfl, folM_host (by show idxS p.hs (hb, -1) ≠ -1; rw [e]; omega)]
      right
      show ¬ idxS p.hs (hb, -1) = (b : Int)
      rw [e]
      intro e4
      have : j = b := by omega
      subst this
      rw [hj] at h2
      simp at h2
      exact hk h2.symm
  · left; simp [noWay]
end
end Go.Proofs.Ytidhdgcmagpkgaa
