/-
  A binding in the document's row gets another end. Conditions: the box stands in memory.
-/
import Derived.Test.YtemlnkcokeckmaaRap
namespace Go.Proofs.Ytemlnkcokeckmaa
open Go.RowKit
set_option linter.unusedVariables false

theorem own_set {w : World} {v : Value} {n g i : Nat} {xs : List Value} {u : Value} (h : w.ownsRow 0 104 8 v n xs) (hg : v.ownBlock = some g) : (w.setCell ⟨g, i, none⟩ u).ownsRow 0 104 8 v n (xs.set i u) := by
  rcases h.2 with ⟨rfl, _⟩ | ⟨g', cap, cur, rfl, hb, hg2, hn, hm, hsz, ht⟩
  · cases hg
  · obtain rfl : g' = g := by simpa [Value.ownBlock] using hg
    refine ⟨by rw [List.length_set]; exact h.1, .inr ⟨g', cap, cur.setIfInBounds i u, rfl, hb, set_top hg2 i u, hn, hm, by simp [hsz], ?_⟩⟩
    rw [Array.toList_setIfInBounds, List.take_set, ht]
theorem Ra.setAt {w : World} {rb : Nat} {x : Bx} {now : Int} {v : Value} {L L' : List Rb} {g : Nat} (h : Ra w rb x now v L) (hg : v.ownBlock = some g) (i : Nat) (u : Value) (hl : L'.length = L.length) (hc : cellsR L' = (cellsR L).set i u) (hs : ∀ d ∈ L', SeenAt w d.sv d.b.seen) : Ra (w.setCell ⟨g, i, none⟩ u) rb x now v L' := by
  obtain ⟨C, hC⟩ := own_obj h.row hg
  refine ⟨(set_else (fun e => h.ne_row (by rw [hg, e]))).trans h.top, by rw [hl, hc]; exact own_set h.row hg, fun d hd => (hs d hd).kept (fun k hk => set_else (fun e => ?_))⟩
  obtain ⟨_, C', hC'⟩ := (hs d hd).lt hk
  rw [e] at hC'
  exact clash hC hC' (by decide)
/-- with another end -/
def endR (d : Rb) (u : Int) : Rb := ⟨{ d.b with until_ := u }, d.sv⟩
theorem cellsR_end (u : Int) : ∀ {L : List Rb} {k : Nat} {d : Rb}, L[k]? = some d → cellsR (L.set k (endR d u)) = (cellsR L).set (k * 8 + 5) (.int .i64 u)
  | [], k, d, h => by simp at h
  | e :: L, 0, d, h => by
    simp only [List.getElem?_cons_zero, Option.some.injEq] at h
    subst h
    simp [cellsR_cons, rbCells, endR]
  | e :: L, k + 1, d, h => by
    rw [List.set_cons_succ, cellsR_cons, cellsR_cons, cellsR_end u (L := L) (k := k) (d := d) (by simpa using h), List.set_append_right _ _ (by simp [rbCells]; omega)]
    congr 2
    simp [rbCells]; omega
theorem rstep_end {w w' : World} {rb : Nat} {x : Bx} {now now' : Int} {v v' : Value} {L L' : List Rb} {g k : Nat} {d : Rb} (h0 : Ra w rb x now v L) (h1 : Ra w' rb x now' v' L') (h2 : Keeps (fun k => k = rb ∨ v.ownBlock = some k) w w') (h3 : ∀ g, RFoot rb v' L' g → RFoot rb v L g ∨ w.heap.size ≤ g)
    (hv : v'.ownBlock = some g) (hk : L'[k]? = some d) (u : Int) : RStep w (w'.setCell ⟨g, k * 8 + 5, none⟩ (.int .i64 u)) rb x v L now' (L'.set k (endR d u)) := by
  have hm : ∀ e ∈ L'.set k (endR d u), ∃ f ∈ L', e.sv = f.sv ∧ e.b.seen = f.b.seen := fun e he => by
    rcases List.mem_or_eq_of_mem_set he with h | rfl
    · exact ⟨e, h, rfl, rfl⟩
    · exact ⟨d, List.mem_of_getElem? hk, rfl, rfl⟩
  refine ⟨v', h1.setAt hv _ _ (by rw [List.length_set]) (cellsR_end u hk) (fun e he => ?_), ?_, fun j hj => ?_⟩
  · obtain ⟨f, hf, e1, e2⟩ := hm e he
    rw [e1, e2]; exact h1.nds f hf
  · obtain ⟨C, hC⟩ := own_obj h1.row hv
    have hgf := h3 g (.inr (.inl hv))
    refine ⟨h2.os, h2.tape, h2.output, by simpa using h2.size, fun j hj hn => ?_⟩
    have hjg : j ≠ g := by
      rintro rfl
      rcases hgf with h | h
      · rcases h with rfl | h | ⟨f, hf, h⟩
        · exact hn (.inl rfl)
        · exact hn (.inr h)
        · obtain ⟨_, C', hC'⟩ := (h0.nds f hf).lt h
          rw [h2.block j hj hn] at hC
          exact clash hC' hC (by decide)
      · omega
    exact (set_else hjg).trans (h2.block j hj hn)
  · refine h3 j ?_
    rcases hj with rfl | hj | ⟨e, he, hj⟩
    · exact .inl rfl
    · exact .inr (.inl hj)
    · obtain ⟨f, hf, e1, _⟩ := hm e he
      exact .inr (.inr ⟨f, hf, by rw [← e1]; exact hj⟩)
end Go.Proofs.Ytemlnkcokeckmaa
