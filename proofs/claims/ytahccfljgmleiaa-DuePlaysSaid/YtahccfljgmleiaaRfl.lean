/-
  The document's table as a list of timers in a row: its words, and how they are kept. Conditions: as each lemma states.
-/
import Derived.Test.YtahccfljgmleiaaAwk
import Derived.Deep.QuietTactic
import Derived.BigQuiet
import Derived.Deep.RegionLaw
import Derived.Maps.AppendAt
import Derived.Laws.OwnMore
namespace Go.Proofs.Ytahccfljgmleiaa
open Go.RowKit Go.Shelf Go.Maps
attribute [local go_sem] Oper.semAt_some
set_option linter.unusedVariables false

/-- a row's cells -/
def cellsL (L : List En) : List Value := L.flatMap fun e => [.string (str e.1), .int .i64 e.2]
theorem cellsL_cons (e : En) (L : List En) : cellsL (e :: L) = .string (str e.1) :: .int .i64 e.2 :: cellsL L := rfl
theorem cellsL_append (L M : List En) : cellsL (L ++ M) = cellsL L ++ cellsL M := by simp [cellsL]
theorem cellsL_len : ∀ L : List En, (cellsL L).length = L.length * 2
  | [] => rfl
  | e :: L => by rw [cellsL_cons]; simp only [List.length_cons, cellsL_len L]; omega
theorem cellsL_one (L : List En) : ∀ u ∈ cellsL L, u.oneCell' = true := by
  intro u hu
  unfold cellsL at hu
  rw [List.mem_flatMap] at hu
  obtain ⟨e, _, h⟩ := hu
  simp only [List.mem_cons, List.not_mem_nil, or_false] at h
  rcases h with rfl | rfl <;> rfl
theorem cellsL_drop (L : List En) (k j : Nat) : (cellsL (L.drop k))[j]? = (cellsL L)[k * 2 + j]? := by
  induction k generalizing L with
  | zero => simp
  | succ k ih =>
    cases L with
    | nil => simp [cellsL]
    | cons e L =>
      rw [List.drop_succ_cons, ih, cellsL_cons, show (k + 1) * 2 + j = (k * 2 + j) + 1 + 1 by omega, List.getElem?_cons_succ, List.getElem?_cons_succ]
theorem cellsL_take (L : List En) (k j : Nat) (y : Value) (h : (cellsL (L.take k))[j]? = some y) : (cellsL L)[j]? = some y := by
  have h1 : cellsL L = cellsL (L.take k) ++ cellsL (L.drop k) := by rw [← cellsL_append, List.take_append_drop]
  rw [h1, List.getElem?_append_left (List.getElem?_eq_some_iff.1 h).1, h]
theorem cellsL_at {L : List En} {k : Nat} {e : En} (h : L[k]? = some e) : (cellsL L)[k * 2]? = some (.string (str e.1)) ∧ (cellsL L)[k * 2 + 1]? = some (.int .i64 e.2) := by
  have hk := (List.getElem?_eq_some_iff.1 h).1
  have h1 : L.drop k = e :: L.drop (k + 1) := by
    rw [List.drop_eq_getElem_cons hk]
    rw [List.getElem?_eq_getElem hk] at h
    rw [Option.some.inj h]
  have h2 := cellsL_drop L k 0
  have h3 := cellsL_drop L k 1
  rw [h1, cellsL_cons] at h2 h3
  exact ⟨h2.symm, h3.symm⟩

theorem cells_of {w : World} {b : Nat} {C : Array Value} {t : TypeId} (h : w.heap[b]? = some (.cells C t (0, 0))) (j : Nat) : w.cell? ⟨b, j, none⟩ = C[j]? ∧ w.frozen? ⟨b, j, none⟩ = false := by
  constructor
  · simp [World.cell?, h]
  · simp [World.frozen?, h]
/-- at A lie the timers L -/
def Row40 (W : World) (A : Option Addr) (L : List En) (c : Nat) : Prop := (A = none ∧ L = [] ∧ c = 0) ∨ ∃ b off C, A = some ⟨b, off, none⟩ ∧ W.heap[b]? = some (.cells C 40 (0, 0)) ∧ ∀ j y, (cellsL L)[j]? = some y → C[off + j]? = some y
/-- block rb is the document's table, with the timers L -/
structure Rf (W : World) (rb : Nat) (L : List En) : Prop where
  form : ∃ A c, W.heap[rb]? = some (.cells #[.slice A L.length c] 30 (0, 0)) ∧ L.length ≤ c ∧ c ≤ maxLen ∧ Row40 W A L c
/-- rows and tables of the document's are as they were -/
def Same30 (W W' : World) : Prop := ∀ (k : Nat) (C : Array Value) (e : TypeId), W.heap[k]? = some (Obj.cells C e (0, 0)) → (e = 30 ∨ e = 40) → W'.heap[k]? = W.heap[k]?
section
variable {W W' : World} {rb : Nat} {L : List En}
theorem Row40.kept {A : Option Addr} {c : Nat} (h : Row40 W A L c) (hs : Same30 W W') : Row40 W' A L c := by
  rcases h with h | ⟨b, off, C, rfl, h1, h2⟩
  · exact .inl h
  · exact .inr ⟨b, off, C, rfl, (hs b C 40 h1 (.inr rfl)).trans h1, h2⟩
theorem Rf.kept (h : Rf W rb L) (hs : Same30 W W') : Rf W' rb L := by
  obtain ⟨A, c, h1, h2, h3, h4⟩ := h.form
  exact ⟨A, c, (hs rb _ 30 h1 (.inl rfl)).trans h1, h2, h3, h4.kept hs⟩
theorem Rf.lt (h : Rf W rb L) : rb < W.heap.size := by
  obtain ⟨A, c, h1, _⟩ := h.form
  exact (Array.getElem?_eq_some_iff.1 h1).1
theorem Same30.below (hb : Below W.heap.size W W') : Same30 W W' := fun k C e h _ => hb.block k (Array.getElem?_eq_some_iff.1 h).1
theorem Same30.keeps {tb bm : Nat} {M : List En} (hD : Du W tb bm M) (hk : Keeps (· = bm) W W') : Same30 W W' := fun k C e h _ => hk.block k (Array.getElem?_eq_some_iff.1 h).1 (fun e2 => by
  subst e2
  obtain ⟨D, ⟨es, clock, h1, _⟩, _⟩ := hD.map
  rw [h] at h1; cases h1)
theorem Same30.moves {tb bm B : Nat} {M : List En} (hD : Du W tb bm M) (hk : Moves B bm W W') : Same30 W W' := fun k C e h _ => hk.block k (Array.getElem?_eq_some_iff.1 h).1 (fun e2 => by
  rcases e2 with e2 | ⟨_, o, ho, hoc⟩
  · subst e2
    obtain ⟨D, ⟨es, clock, h1, _⟩, _⟩ := hD.map
    rw [h] at h1; cases h1
  · rw [h] at ho; cases ho; cases hoc)
theorem Same30.grown {row : Option Nat} (hg : W.grownBy W' row) (hr : ∀ r, row = some r → ∃ o, W.heap[r]? = some o ∧ o.isCells = false) : Same30 W W' := fun k C e h _ => hg.block k (Array.getElem?_eq_some_iff.1 h).1 (fun e2 => by
  obtain ⟨o, ho, hoc⟩ := hr k e2.symm
  rw [h] at ho; cases ho; cases hoc)
theorem Same30.set {b o t : Nat} {u v : Value} (hb : Boxed W b t u) (h1 : t ≠ 30) (h2 : t ≠ 40) : Same30 W (W.setCell ⟨b, o, none⟩ v) := fun k C e h he => heap_setCell_other _ ⟨b, o, none⟩ k _ (fun e2 => by
  have e3 : k = b := e2
  subst e3
  have hb' : W.heap[k]? = _ := hb
  rw [h] at hb'
  simp only [Option.some.injEq, Obj.cells.injEq] at hb'
  obtain ⟨_, h5, _⟩ := hb'
  rcases he with rfl | rfl
  · first | exact h1 h5 | exact h1 h5.symm
  · first | exact h2 h5 | exact h2 h5.symm)
theorem Same30.refl (W : World) : Same30 W W := fun _ _ _ _ _ => rfl
theorem Same30.drewN (W : World) (q : Nat) : Same30 W (W.drewN q) := fun _ _ _ _ _ => rfl
theorem Same30.alloc (W : World) (o : Obj) : Same30 W (W.alloc o) := .below ((Below.refl _ W).alloc (Nat.le_refl _) o)
theorem Rf.drewN (h : Rf W rb L) (q : Nat) : Rf (W.drewN q) rb L := h.kept (.drewN W q)
theorem Rf.ne_tb {tb bm : Nat} {M : List En} (h : Rf W rb L) (hD : Du W tb bm M) : rb ≠ tb ∧ rb ≠ bm := by
  obtain ⟨A, c, h1, _⟩ := h.form
  constructor
  · rintro rfl
    rw [hD.own] at h1; cases h1
  · rintro rfl
    obtain ⟨D, ⟨es, clock, h2, _⟩, _⟩ := hD.map
    rw [h1] at h2; cases h2
theorem Rf.ne_box {b t : Nat} {v : Value} (h : Rf W rb L) (hb : Boxed W b t v) (ht : t ≠ 30) : rb ≠ b := by
  obtain ⟨A, c, h1, _⟩ := h.form
  rintro rfl
  have hb' : W.heap[rb]? = _ := hb
  rw [h1] at hb'
  simp only [Option.some.injEq, Obj.cells.injEq] at hb'
  first | exact ht hb'.2.1 | exact ht hb'.2.1.symm
/-- the table in the walk's words -/
theorem Rf.look (h : Rf W rb L) : ∃ A c, W.cell? ⟨rb, 0, none⟩ = some (.slice A L.length c) ∧ L.length ≤ c ∧ c ≤ maxLen ∧ Row40 W A L c := by
  obtain ⟨A, c, h1, h2⟩ := h.form
  exact ⟨A, c, by rw [(cells_of h1 0).1]; rfl, h2⟩
/-- .. and as a box -/
theorem Rf.box (h : Rf W rb L) : ∃ A c, Boxed W rb 30 (.slice A L.length c) ∧ L.length ≤ c ∧ c ≤ maxLen ∧ Row40 W A L c := h.form
theorem Row40.at {A : Option Addr} {c k : Nat} {e : En} (h : Row40 W A L c) (hk : L[k]? = some e) : ∃ b off, A = some ⟨b, off, none⟩ ∧ W.cell? ⟨b, off + k * 2, none⟩ = some (.string (str e.1)) ∧ W.cell? ⟨b, off + k * 2 + 1, none⟩ = some (.int .i64 e.2) := by
  rcases h with ⟨_, rfl, _⟩ | ⟨b, off, C, rfl, h1, h2⟩
  · simp at hk
  · refine ⟨b, off, rfl, ?_, ?_⟩
    · rw [(cells_of h1 _).1]; exact h2 _ _ (cellsL_at hk).1
    · rw [(cells_of h1 _).1, Nat.add_assoc]; exact h2 _ _ (cellsL_at hk).2
end
theorem ret_bool {a b : Bool} (h : a = b) : Ending.returned (.bool a) = .returned (.bool b) := by rw [h]
theorem ret_int {a b : Int} (h : a = b) : Ending.returned (.int .i64 a) = .returned (.int .i64 b) := by rw [h]

/-- how rows stand that are equal so far -/
theorem lt_at : ∀ (k : Nat) (x y : List UInt8) (a b : UInt8), x.take k = y.take k → x[k]? = some a → y[k]? = some b → a ≠ b → (x < y ↔ a < b)
  | 0, c :: x, d :: y, a, b, _, h1, h2, hne => by
    simp only [List.getElem?_cons_zero, Option.some.injEq] at h1 h2
    subst h1; subst h2
    rw [List.cons_lt_cons_iff]
    constructor
    · rintro (h | ⟨h, _⟩)
      · exact h
      · exact absurd h hne
    · exact .inl
  | k + 1, c :: x, d :: y, a, b, ht, h1, h2, hne => by
    simp only [List.take_succ_cons, List.cons.injEq] at ht
    obtain ⟨rfl, ht⟩ := ht
    rw [List.cons_lt_cons_iff]
    have ih := lt_at k x y a b ht (by simpa using h1) (by simpa using h2) hne
    constructor
    · rintro (h | ⟨_, h⟩)
      · exact absurd h (UInt8.lt_irrefl _)
      · exact ih.1 h
    · exact fun h => .inr ⟨rfl, ih.2 h⟩
  | _, [], _, _, _, _, h1, _, _ => by simp at h1
  | _, _ :: _, [], _, _, _, _, h2, _ => by simp at h2
theorem lt_end : ∀ (k : Nat) (x y : List UInt8), x.take k = y.take k → (x.length ≤ k ∨ y.length ≤ k) → (x < y ↔ x.length < y.length)
  | k, [], [], _, _ => by simp
  | k, [], d :: y, _, _ => by simp
  | k, c :: x, [], _, _ => by simp
  | 0, c :: x, d :: y, _, h => by simp at h
  | k + 1, c :: x, d :: y, ht, h => by
    simp only [List.take_succ_cons, List.cons.injEq] at ht
    obtain ⟨rfl, ht⟩ := ht
    rw [List.cons_lt_cons_iff]
    have ih := lt_end k x y ht (by simpa using h)
    simp only [List.length_cons, Nat.add_lt_add_iff_right]
    rw [← ih]
    constructor
    · rintro (h | ⟨_, h⟩)
      · exact absurd h (UInt8.lt_irrefl _)
      · exact h
    · exact fun h => .inr ⟨trivial, h⟩
end Go.Proofs.Ytahccfljgmleiaa
