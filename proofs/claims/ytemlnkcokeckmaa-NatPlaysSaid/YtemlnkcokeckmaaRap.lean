/-
  Appends of the document's bindings as steps of a region that draws its order. Conditions: as each lemma states.
-/
import Derived.Test.YtemlnkcokeckmaaRin
namespace Go.Proofs.Ytemlnkcokeckmaa
open Go.RowKit
attribute [local go_sem] Oper.semAt_some
set_option linter.unusedVariables false
set_option linter.unusedSimpArgs false

/-- a row at A (or none) reads as these bindings -/
def RowR (W : World) (A : Option Addr) (M : List Rb) (c : Nat) : Prop := (A = none ∧ M = [] ∧ c = 0) ∨ ∃ b off C, A = some ⟨b, off, none⟩ ∧ W.heap[b]? = some (.cells C 104 (0, 0)) ∧ ∀ j y, (cellsR M)[j]? = some y → C[off + j]? = some y
theorem cellsR_take (L : List Rb) (k j : Nat) (y : Value) (h : (cellsR (L.take k))[j]? = some y) : (cellsR L)[j]? = some y := by
  have e : cellsR L = cellsR (L.take k) ++ cellsR (L.drop k) := by rw [← cellsR_append, List.take_append_drop]
  rw [e, List.getElem?_append_left (List.getElem?_eq_some_iff.1 h).1]
  exact h
theorem RowR.kept {W W' : World} {A : Option Addr} {M : List Rb} {c : Nat} (h : RowR W A M c) (hk : ∀ a, A = some a → W'.heap[a.block]? = W.heap[a.block]?) : RowR W' A M c := by
  rcases h with h | ⟨b, off, C, rfl, h1, h2⟩
  · exact .inl h
  · exact .inr ⟨b, off, C, rfl, (hk _ rfl).trans h1, h2⟩
theorem RowR.lt {W : World} {a : Addr} {M : List Rb} {c : Nat} (h : RowR W (some a) M c) : a.block < W.heap.size := by
  rcases h with ⟨e, _⟩ | ⟨b, off, C, e, h1, _⟩
  · cases e
  · cases e; exact (Array.getElem?_eq_some_iff.1 h1).1
theorem RowR.below {W W' : World} {A : Option Addr} {M : List Rb} {c : Nat} (h : RowR W A M c) (hb : Below W.heap.size W W') : RowR W' A M c := h.kept (fun a e => by subst e; exact hb.block _ h.lt)
theorem RowR.news {W : World} {a : Addr} {c : Nat} {M : List Rb} (h : RowR W (some a) M c) : ∀ j u, (cellsR M)[j]? = some u → W.cell? (a.add j) = some u := by
  intro j u hj
  rcases h with ⟨e, _⟩ | ⟨b, off, C, e, h1, h2⟩
  · cases e
  · cases e
    rw [show (⟨b, off, none⟩ : Addr).add j = ⟨b, off + j, none⟩ by unfold Addr.add; split <;> simp_all, (cells_of h1 _).1]
    exact h2 j u hj
theorem RowR.take {W : World} {A : Option Addr} {c : Nat} {M : List Rb} (h : RowR W A M c) (k : Nat) : RowR W A (M.take k) c := by
  rcases h with ⟨h1, rfl, h3⟩ | ⟨b, off, C, rfl, h1, h2⟩
  · exact .inl ⟨h1, by simp, h3⟩
  · exact .inr ⟨b, off, C, rfl, h1, fun j y hj => h2 j y (cellsR_take M k j y hj)⟩
theorem RowR.drop {W : World} {b off c : Nat} {M : List Rb} (h : RowR W (some ⟨b, off, none⟩) M c) (k c' : Nat) : RowR W (some ⟨b, off + k * 8, none⟩) (M.drop k) c' := by
  rcases h with ⟨e, _⟩ | ⟨b', off', C, e, h1, h2⟩
  · cases e
  · cases e
    refine .inr ⟨_, _, C, rfl, h1, fun j y hj => ?_⟩
    rw [cellsR_drop] at hj
    rw [Nat.add_assoc]; exact h2 _ _ hj
theorem RowR.nil {W : World} {a : Addr} {M : List Rb} {c : Nat} (h : RowR W (some a) M c) (c' : Nat) : RowR W (some a) [] c' := by
  rcases h with ⟨e, _⟩ | ⟨b, off, C, e, h1, _⟩
  · cases e
  · cases e; exact .inr ⟨b, off, C, rfl, h1, fun j y hj => by simp [cellsR] at hj⟩
theorem Ra.rowR {w : World} {rb : Nat} {x : Bx} {now : Int} {v : Value} {L : List Rb} (h : Ra w rb x now v L) : ∃ A c, v = .slice A L.length c ∧ L.length ≤ c ∧ c ≤ maxLen ∧ (∀ a, A = some a → ∃ b, a = ⟨b, 0, none⟩) ∧ RowR w A L c := by
  rcases h.row.2 with ⟨h1, h2⟩ | ⟨g, cap, cur, h1, h2, h3, h4, h5, h6, h7⟩
  · exact ⟨none, 0, by rw [h1, h2], by omega, Nat.zero_le _, (fun a e => by cases e), .inl ⟨rfl, List.eq_nil_of_length_eq_zero h2, rfl⟩⟩
  · refine ⟨_, cap, h1, h4, h5, (fun a e => by cases e; exact ⟨g, rfl⟩), .inr ⟨g, 0, cur, rfl, h3, fun j y hj => ?_⟩⟩
    have hl := (List.getElem?_eq_some_iff.1 hj).1
    rw [cellsR_len] at hl
    rw [← h7, List.getElem?_take_of_lt hl] at hj
    rw [Nat.zero_add]; simpa using hj

/-- a row of the call's own, at g, with the bindings M -/
structure OwnR (N : Nat) (W : World) (g c : Nat) (M : List Rb) : Prop where
  own : W.ownsRow N 104 8 (.slice (some ⟨g, 0, none⟩) M.length c) M.length (cellsR M)
theorem OwnR.parts {N : Nat} {W : World} {g c : Nat} {M : List Rb} (h : OwnR N W g c M) : N ≤ g ∧ g < W.heap.size ∧ M.length ≤ c ∧ c ≤ maxLen := by
  rcases h.own.2 with ⟨e, _⟩ | ⟨g', cap, cur, e, h1, h2, h3, h4, h5, h6⟩
  · cases e
  · cases e
    exact ⟨h1, (Array.getElem?_eq_some_iff.1 h2).1, h3, h4⟩
theorem OwnR.lit {N : Nat} (W : World) (hN : N ≤ W.heap.size) : OwnR N (W.alloc (.cells #[] 104)) W.heap.size 0 [] :=
  ⟨World.ownsRow_lit W #[] 0 hN (Nat.zero_le _) rfl⟩
theorem OwnR.kept {N : Nat} {W W' : World} {g c : Nat} {M : List Rb} (h : OwnR N W g c M) (hg : W'.heap[g]? = W.heap[g]?) : OwnR N W' g c M := by
  refine ⟨h.own.1, ?_⟩
  rcases h.own.2 with e | ⟨g', cap, cur, e, h1, h2, h3⟩
  · exact .inl e
  · cases e
    exact .inr ⟨_, _, cur, rfl, h1, hg.trans h2, h3⟩
theorem OwnR.alloc {N : Nat} {W : World} {g c : Nat} {M : List Rb} (h : OwnR N W g c M) (o : Obj) : OwnR N (W.alloc o) g c M := h.kept (Below.heap_alloc W o g h.parts.2.1)
theorem cellsR_one {M : List Rb} (h : ∀ d ∈ M, d.sv.oneCell' = true) : ∀ u ∈ cellsR M, u.oneCell' = true := by
  intro u hu
  obtain ⟨d, hd, hu⟩ := List.mem_flatMap.1 hu
  simp only [rbCells, List.mem_cons, List.not_mem_nil, or_false] at hu
  rcases hu with rfl | rfl | rfl | rfl | rfl | rfl | rfl | rfl <;> first | rfl | exact h d hd

/-- 'append(l, m...)' of bindings onto a row of the call's own, as one step of a region that draws its order -/
theorem step_appR {W : World} {ops : Array Oper} {o : Oper} {a : Act} {K : Act → World → Prop} {Q : Exit → Act → World → Prop} {E : Prop} (hf : o.guard = none) (s x : Operand)
    (ho : o.op = .call { callee := .builtin .append, args := #[s, x], argTypes := #[34, 34] }) {N g c0 n : Nat} {M : List Rb} (hs : a.eval s = .slice (some ⟨g, 0, none⟩) n c0) (hO : OwnR N W g c0 M) (hn : M.length = n)
    {A : Option Addr} {m c : Nat} {M2 : List Rb} (hx : a.eval x = .slice A m c) (hR : RowR W A M2 c) (hm : M2.length = m) (h1c : ∀ d ∈ M2, d.sv.oneCell' = true) (hb : n + m ≤ 1000) (hN : N ≤ W.heap.size)
    (h : ∀ g' c' W', OwnR N W' g' c' (M ++ M2) → W.grownBy W' (some g) → (g' = g ∨ g' = W.heap.size) → K (a.put o.dst (.slice (some ⟨g', 0, none⟩) (n + m) c')) W') :
    if Region.wanted o (yielded ops a.tmps) = true then Oper.wp Try.prog o a W K Q else E := by
  subst hn; subst hm
  obtain ⟨i0, hi0, hz0, hz1, hz2⟩ := info_parts info78
  rw [if_pos (by simp [Region.wanted, hf])]
  cases A with
  | none =>
    rcases hR with ⟨_, rfl, rfl⟩ | ⟨b, off, C, e, _⟩
    · have hrun := run_append_owned_none (P := Try.prog) (w := W) N 34 o.type 104 i0 8 Try.underlying34 hi0 _ _ _ hO.own
      have hK := h g c0 W (by rw [List.append_nil]; exact hO) (World.grownBy.refl _ _) (.inl rfl)
      unfold Oper.wp
      simp [execOp, ho, resolve, invoke, builtin, hs, hx, hrun, Result.andThen]
      have hK2 : K (a.put o.dst (.slice (some ⟨g, 0, none⟩) M.length c0)) W := by simpa using hK
      exact hK2
    · cases e
  | some ad =>
    obtain ⟨v', W', hrun, r1, r2, r3, r4⟩ := run_append_own_at (P := Try.prog) (w := W) N 34 o.type 104 i0 _ 8 80 Try.underlying34 hi0 hz0 hz1 hz2 rfl (by decide) _ M.length (cellsR M) hO.own ad M2.length c (cellsR M2) (by rw [cellsR_len]) hR.news (cellsR_one h1c)
      (by unfold maxLen; omega) (by omega) hN
    obtain ⟨g', c', rfl⟩ : ∃ g' c', v' = .slice (some ⟨g', 0, none⟩) (M.length + M2.length) c' := by
      rcases r1.2 with ⟨e, _⟩ | ⟨g', cap, cur, e, _⟩
      · have := (r3.1 e).1; cases this
      · exact ⟨g', cap, e⟩
    have hK := h g' c' W' ⟨by rw [cellsR_append, List.length_append]; exact r1⟩ r2 (by
      rcases r4 with e | e
      · left; simpa [Value.ownBlock] using e
      · right; simpa [Value.ownBlock] using e)
    unfold Oper.wp
    simp [execOp, ho, resolve, invoke, builtin, hs, hx, hrun, Result.andThen]
    exact hK
theorem below_appR {w W W' : World} {N g : Nat} (h : Below N w W) (hg : W.grownBy W' (some g)) (hn : N ≤ g) (hs : N ≤ W.heap.size) : Below N w W' := h.trans ((Below.refl _ _).grown hg hs (fun r e => by cases e; exact hn))
/-- what an own row leaves, laid into the box: w the world at the call, w1 the one at which the box last stood, W the one behind the last append -/
theorem rrow_end {w w1 W : World} {rb : Nat} {x : Bx} {now now' : Int} {v v1 : Value} {L L1 M M' : List Rb} {g c n : Nat} (h : RStep w w1 rb x v L now' L1) (hN : ∀ d ∈ M, d ∈ L1 ∨ d.sv = .slice none 0 0 ∧ d.b.seen = []) (hb : Below w1.heap.size w1 W) (hO : OwnR w1.heap.size W g c M) (hn : M.length = n) (hM : M = M') :
    RStep w (W.setCell ⟨rb, 7, none⟩ (.slice (some ⟨g, 0, none⟩) n c)) rb x v L now' M' := by
  subst hn; subst hM
  obtain ⟨v', h1, h2, h3⟩ := h
  obtain ⟨p1, p2, p3, p4⟩ := hO.parts
  have hW := h1.below hb
  have hsv : ∀ d ∈ M, SeenAt W d.sv d.b.seen := fun d hd => by
    rcases hN d hd with h | ⟨h, h'⟩
    · exact hW.nds d h
    · rw [h, h']; exact SeenAt.nil _
  refine ⟨_, hW.setRow (Go.Joins.ownsRow_le hO.own (Nat.zero_le _)) hsv, ?_, fun k hk => ?_⟩
  · refine Keeps.set (S := fun k => k = rb ∨ v.ownBlock = some k) ?_ rb 7 _ (.inl rfl)
    exact h2.trans (.all hb)
  · rcases hk with rfl | hk | ⟨d, hd, hk⟩
    · exact .inl (.inl rfl)
    · right
      obtain rfl : g = k := by simpa [Value.ownBlock] using hk
      exact Nat.le_trans h2.size p1
    · rcases hN d hd with h | ⟨h, _⟩
      · exact h3 k (.inr (.inr ⟨d, h, hk⟩))
      · rw [h] at hk; cases hk
end Go.Proofs.Ytemlnkcokeckmaa
