/-
  A binding in the document's row is stored anew, as a whole. Conditions: the box stands in memory.
-/
import Derived.Test.YtemlnkcokeckmaaRst
namespace Go.Proofs.Ytemlnkcokeckmaa
open Go.RowKit
set_option linter.unusedVariables false

/-- all cells of a binding are stored, one behind the other -/
def w8 (W : World) (g o : Nat) (d : Rb) : World := (((((((W.setCell ⟨g, o, none⟩ (.int .u32 d.b.inn.1)).setCell ⟨g, o + 1, none⟩ (.int .i64 d.b.inn.2)).setCell ⟨g, o + 2, none⟩ (.int .u32 d.b.to.1)).setCell ⟨g, o + 3, none⟩ (.int .i64 d.b.to.2)).setCell ⟨g, o + 4, none⟩ (.int .i64 d.b.port)).setCell ⟨g, o + 5, none⟩ (.int .i64 d.b.until_)).setCell ⟨g, o + 6, none⟩ (.bool d.b.asked)).setCell ⟨g, o + 7, none⟩ d.sv
theorem w8_else {W : World} {g o j : Nat} {d : Rb} (h : j ≠ g) : (w8 W g o d).heap[j]? = W.heap[j]? := by
  unfold w8
  rw [set_else h, set_else h, set_else h, set_else h, set_else h, set_else h, set_else h, set_else h]
theorem set_rest (W : World) (p : Addr) (u : Value) : (W.setCell p u).os = W.os ∧ (W.setCell p u).tape = W.tape ∧ (W.setCell p u).output = W.output ∧ (W.setCell p u).heap.size = W.heap.size := ⟨rfl, rfl, rfl, by simp⟩
theorem w8_rest (W : World) (g o : Nat) (d : Rb) : (w8 W g o d).os = W.os ∧ (w8 W g o d).tape = W.tape ∧ (w8 W g o d).output = W.output ∧ (w8 W g o d).heap.size = W.heap.size := by
  unfold w8
  refine ⟨?_, ?_, ?_, ?_⟩
  · rw [(set_rest _ _ _).1, (set_rest _ _ _).1, (set_rest _ _ _).1, (set_rest _ _ _).1, (set_rest _ _ _).1, (set_rest _ _ _).1, (set_rest _ _ _).1, (set_rest _ _ _).1]
  · rw [(set_rest _ _ _).2.1, (set_rest _ _ _).2.1, (set_rest _ _ _).2.1, (set_rest _ _ _).2.1, (set_rest _ _ _).2.1, (set_rest _ _ _).2.1, (set_rest _ _ _).2.1, (set_rest _ _ _).2.1]
  · rw [(set_rest _ _ _).2.2.1, (set_rest _ _ _).2.2.1, (set_rest _ _ _).2.2.1, (set_rest _ _ _).2.2.1, (set_rest _ _ _).2.2.1, (set_rest _ _ _).2.2.1, (set_rest _ _ _).2.2.1, (set_rest _ _ _).2.2.1]
  · rw [(set_rest _ _ _).2.2.2, (set_rest _ _ _).2.2.2, (set_rest _ _ _).2.2.2, (set_rest _ _ _).2.2.2, (set_rest _ _ _).2.2.2, (set_rest _ _ _).2.2.2, (set_rest _ _ _).2.2.2, (set_rest _ _ _).2.2.2]
theorem w8_below {b : Nat} {w W : World} {g o : Nat} {d : Rb} (h : Below b w W) (hg : b ≤ g) : Below b w (w8 W g o d) := by
  unfold w8
  exact (((((((h.setCell (p := ⟨g, o, none⟩) hg _).setCell (p := ⟨g, o + 1, none⟩) hg _).setCell (p := ⟨g, o + 2, none⟩) hg _).setCell (p := ⟨g, o + 3, none⟩) hg _).setCell (p := ⟨g, o + 4, none⟩) hg _).setCell (p := ⟨g, o + 5, none⟩) hg _).setCell (p := ⟨g, o + 6, none⟩) hg _).setCell (p := ⟨g, o + 7, none⟩) hg _
theorem cellsR_all (d' : Rb) : ∀ {L : List Rb} {k : Nat}, k < L.length → cellsR (L.set k d') = ((((((((cellsR L).set (k * 8) (.int .u32 d'.b.inn.1)).set (k * 8 + 1) (.int .i64 d'.b.inn.2)).set (k * 8 + 2) (.int .u32 d'.b.to.1)).set (k * 8 + 3) (.int .i64 d'.b.to.2)).set (k * 8 + 4) (.int .i64 d'.b.port)).set (k * 8 + 5) (.int .i64 d'.b.until_)).set (k * 8 + 6) (.bool d'.b.asked)).set (k * 8 + 7) d'.sv
  | [], k, h => by simp at h
  | e :: L, 0, h => by
    simp [cellsR_cons, rbCells]
  | e :: L, k + 1, h => by
    have hs : ∀ (i : Nat) (M : List Value) (u : Value), (rbCells e ++ M).set ((k + 1) * 8 + i) u = rbCells e ++ M.set (k * 8 + i) u := fun i M u => by
      rw [List.set_append_right _ _ (by simp [rbCells]; omega)]
      congr 2
      simp [rbCells]; omega
    have h0 := hs 0
    simp only [Nat.add_zero] at h0
    rw [List.set_cons_succ, cellsR_cons, cellsR_cons, cellsR_all d' (L := L) (k := k) (by simpa using h), h0, hs 1, hs 2, hs 3, hs 4, hs 5, hs 6, hs 7]
theorem Ra.setAll {w : World} {rb : Nat} {x : Bx} {now : Int} {v : Value} {L : List Rb} {g k : Nat} (h : Ra w rb x now v L) (hg : v.ownBlock = some g) (hk : k < L.length) (d' : Rb) (hs : SeenAt w d'.sv d'.b.seen) : Ra (w8 w g (k * 8) d') rb x now v (L.set k d') := by
  obtain ⟨C, hC⟩ := own_obj h.row hg
  refine ⟨(w8_else (fun e => h.ne_row (by rw [hg, e]))).trans h.top, ?_, fun d hd => ?_⟩
  · rw [List.length_set, cellsR_all d' hk]
    unfold w8
    exact own_set (own_set (own_set (own_set (own_set (own_set (own_set (own_set h.row hg) hg) hg) hg) hg) hg) hg) hg
  · have hsd : SeenAt w d.sv d.b.seen := by
      rcases List.mem_or_eq_of_mem_set hd with h' | rfl
      · exact h.nds d h'
      · exact hs
    refine hsd.kept (fun j hj => w8_else (fun e => ?_))
    obtain ⟨_, C', hC'⟩ := hsd.lt hj
    rw [e] at hC'
    exact clash hC hC' (by decide)
theorem rstep_all {w w1 w' : World} {rb : Nat} {x : Bx} {now now' : Int} {v v' : Value} {L L' : List Rb} {g k : Nat} {d' : Rb} (h0 : Ra w rb x now v L) (h1 : Ra w1 rb x now' v' L') (h2 : Keeps (fun k => k = rb ∨ v.ownBlock = some k) w w1) (h3 : ∀ g, RFoot rb v' L' g → RFoot rb v L g ∨ w.heap.size ≤ g)
    (hb : Below w1.heap.size w1 w') (hv : v'.ownBlock = some g) (hk : k < L'.length) (hs : SeenAt w' d'.sv d'.b.seen) (hn : ∀ j, blockOf d'.sv = some j → w1.heap.size ≤ j) : RStep w (w8 w' g (k * 8) d') rb x v L now' (L'.set k d') := by
  obtain ⟨e1, e2, e3, e4⟩ := w8_rest w' g (k * 8) d'
  have h2' : Keeps (fun k => k = rb ∨ v.ownBlock = some k) w w' := h2.trans (.all hb)
  refine ⟨v', (h1.below hb).setAll hv hk d' hs, ?_, fun j hj => ?_⟩
  · obtain ⟨C, hC⟩ := own_obj h1.row hv
    have hgf := h3 g (.inr (.inl hv))
    refine ⟨e1.trans h2'.os, e2.trans h2'.tape, e3.trans h2'.output, by rw [e4]; exact h2'.size, fun j hj hn => ?_⟩
    have hjg : j ≠ g := by
      rintro rfl
      rcases hgf with h | h
      · rcases h with rfl | h | ⟨f, hf, h⟩
        · exact hn (.inl rfl)
        · exact hn (.inr h)
        · obtain ⟨_, C', hC'⟩ := (h0.nds f hf).lt h
          rw [h2.block j hj hn] at hC
          exact clash hC' hC (by decide)
      · omega
    exact (w8_else hjg).trans (h2'.block j hj hn)
  · rcases hj with rfl | hj | ⟨e, he, hj⟩
    · exact .inl (.inl rfl)
    · exact h3 j (.inr (.inl hj))
    · rcases List.mem_or_eq_of_mem_set he with h' | rfl
      · exact h3 j (.inr (.inr ⟨e, h', hj⟩))
      · exact .inr (Nat.le_trans h2.size (hn j hj))
end Go.Proofs.Ytemlnkcokeckmaa
