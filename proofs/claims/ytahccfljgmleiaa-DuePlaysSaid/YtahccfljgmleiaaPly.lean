/-
  What stands while a script is gone through: both tables, and the blocks that are held. Conditions: as each lemma states.
-/
import Derived.Test.YtahccfljgmleiaaDos
namespace Go.Proofs.Ytahccfljgmleiaa
open Go.RowKit Go.Shelf Go.Maps
set_option linter.unusedVariables false

/-- neither a map nor a table of the document's -/
def plainO : Obj → Bool
  | .cells _ t _ => t != 30
  | .map _ _ => false
  | _ => true
/-- both tables stand: the program's with the timers L, the document's with M; these objects are held -/
structure Pl (w0 : World) (tb bm rb : Nat) (L M : List En) (os : List (Nat × Obj)) (V : World) : Prop where
  du : Du V tb bm L
  rf : Rf V rb M
  held : ∀ p ∈ os, V.heap[p.1]? = some p.2 ∧ plainO p.2 = true
  low : Below w0.heap.size w0 V
  hb : w0.heap.size ≤ bm
  hq : w0.heap.size ≤ rb
section
variable {w0 V V' : World} {tb bm rb : Nat} {L M : List En} {os : List (Nat × Obj)}
theorem held_bm (h : Pl w0 tb bm rb L M os V) {p : Nat × Obj} (hp : p ∈ os) : p.1 ≠ bm := by
  intro e
  obtain ⟨h1, h2⟩ := h.held p hp
  obtain ⟨D, ⟨es, clock, h3, _⟩, _⟩ := h.du.map
  rw [e, h3] at h1
  have h4 := Option.some.inj h1
  rw [← h4] at h2; cases h2
theorem held_rb (h : Pl w0 tb bm rb L M os V) {p : Nat × Obj} (hp : p ∈ os) : p.1 ≠ rb := by
  intro e
  obtain ⟨h1, h2⟩ := h.held p hp
  obtain ⟨A, c, h3, _⟩ := h.rf.form
  rw [e, h3] at h1
  have h4 := Option.some.inj h1
  rw [← h4] at h2; cases h2
theorem held_lt (h : Pl w0 tb bm rb L M os V) {p : Nat × Obj} (hp : p ∈ os) : p.1 < V.heap.size := (Array.getElem?_eq_some_iff.1 (h.held p hp).1).1
theorem Pl.below (h : Pl w0 tb bm rb L M os V) (hb : Below V.heap.size V V') : Pl w0 tb bm rb L M os V' :=
  ⟨h.du.after hb, h.rf.kept (.below hb), fun p hp => ⟨(hb.block _ (held_lt h hp)).trans (h.held p hp).1, (h.held p hp).2⟩, h.low.trans (hb.mono h.low.size), h.hb, h.hq⟩
theorem Pl.alloc (h : Pl w0 tb bm rb L M os V) (o : Obj) : Pl w0 tb bm rb L M os (V.alloc o) := h.below ((Below.refl _ V).alloc (Nat.le_refl _) o)
theorem Pl.drewN (h : Pl w0 tb bm rb L M os V) (q : Nat) : Pl w0 tb bm rb L M os (V.drewN q) := h.below (below_drewN' (Below.refl _ V) q)
theorem Pl.set {L' : List En} (h : Pl w0 tb bm rb L M os V) (hd : Du V' tb bm L') (hk : Keeps (· = bm) V V') : Pl w0 tb bm rb L' M os V' :=
  ⟨hd, h.rf.kept (.keeps h.du hk), fun p hp => ⟨(hk.block _ (held_lt h hp) (held_bm h hp)).trans (h.held p hp).1, (h.held p hp).2⟩, h.low.trans (hk.below (fun k e => by have := h.hb; omega) h.low.size), h.hb, h.hq⟩
theorem Pl.rset {M' : List En} (h : Pl w0 tb bm rb L M os V) (hr : Rf V' rb M') (hk : Keeps (· = rb) V V') : Pl w0 tb bm rb L M' os V' :=
  ⟨h.du.keeps hk (fun e => (h.rf.ne_tb h.du).1 e.symm) (fun e => (h.rf.ne_tb h.du).2 e.symm), hr, fun p hp => ⟨(hk.block _ (held_lt h hp) (held_rb h hp)).trans (h.held p hp).1, (h.held p hp).2⟩, h.low.trans (hk.below (fun k e => by have := h.hq; omega) h.low.size), h.hb, h.hq⟩
theorem Pl.moves {B : Nat} {L' : List En} (h : Pl w0 tb bm rb L M os V) (hm : Moves B bm V V') (hd : Du V' tb bm L') (hB : w0.heap.size ≤ B) (ho : ∀ p ∈ os, p.1 < B) : Pl w0 tb bm rb L' M os V' :=
  ⟨hd, h.rf.kept (.moves h.du hm), fun p hp => ⟨(hm.heap (held_lt h hp) (held_bm h hp) (ho p hp)).trans (h.held p hp).1, (h.held p hp).2⟩, below_moves h.low h.low.size hm h.hb hB, h.hb, h.hq⟩
theorem Pl.sub {os' : List (Nat × Obj)} (h : Pl w0 tb bm rb L M os V) (hs : ∀ p ∈ os', p ∈ os) : Pl w0 tb bm rb L M os' V := ⟨h.du, h.rf, fun p hp => h.held p (hs p hp), h.low, h.hb, h.hq⟩
theorem Pl.hold {p : Nat × Obj} (h : Pl w0 tb bm rb L M os V) (h1 : V.heap[p.1]? = some p.2) (h2 : plainO p.2 = true) : Pl w0 tb bm rb L M (p :: os) V :=
  ⟨h.du, h.rf, fun q hq => by
    rcases List.mem_cons.1 hq with rfl | hq
    · exact ⟨h1, h2⟩
    · exact h.held q hq, h.low, h.hb, h.hq⟩
theorem Pl.cells {b : Nat} {C : Array Value} {t : TypeId} (h : Pl w0 tb bm rb L M os V) (hp : (b, Obj.cells C t (0, 0)) ∈ os) (j : Nat) : V.cell? ⟨b, j, none⟩ = C[j]? ∧ V.frozen? ⟨b, j, none⟩ = false := cells_of (h.held _ hp).1 j
/-- no held object is one of this type's -/
def offT (t : TypeId) : Obj → Bool
  | .cells _ u _ => u != t
  | _ => true
theorem Pl.store {b : Nat} {u v : Value} {t : TypeId} (h : Pl w0 tb bm rb L M ((b, Obj.cells #[u] t (0, 0)) :: os) V) (ho : ∀ p ∈ os, offT t p.2 = true) (h1 : t ≠ 30) (h2 : t ≠ 40) (h3 : t ≠ 60) (hb : w0.heap.size ≤ b) :
    Pl w0 tb bm rb L M ((b, Obj.cells #[v] t (0, 0)) :: os) (V.setCell ⟨b, 0, none⟩ v) := by
  have hB : Boxed V b t u := (h.held (b, Obj.cells #[u] t (0, 0)) (by simp)).1
  refine ⟨h.du.set (fun e => ?_) (held_bm h (by simp : (b, Obj.cells #[u] t (0, 0)) ∈ _)), h.rf.kept (.set hB h1 h2), fun p hp => ?_, h.low.setCell (p := ⟨b, 0, none⟩) hb _, h.hb, h.hq⟩
  · have h4 := h.du.own
    have h5 : V.heap[b]? = _ := hB
    rw [e, h4] at h5
    simp only [Option.some.injEq, Obj.cells.injEq] at h5
    exact h3 h5.2.1.symm
  · rcases List.mem_cons.1 hp with rfl | hp
    · refine ⟨hB.set _, ?_⟩
      show (t != 30) = true
      simpa using h1
    · refine ⟨(heap_setCell_other _ ⟨b, 0, none⟩ p.1 _ (fun e => ?_)).trans (h.held p (List.mem_cons_of_mem _ hp)).1, (h.held p (List.mem_cons_of_mem _ hp)).2⟩
      have e2 : p.1 = b := e
      have h5 := (h.held p (List.mem_cons_of_mem _ hp)).1
      have h6 : V.heap[b]? = _ := hB
      rw [e2, h6] at h5
      have h7 := ho p hp
      rw [← Option.some.inj h5] at h7
      simp [offT] at h7
/-- the marks of the loops gone through -/
def markO (D : Nat) : Nat × Obj := (D, .deferred (some []))
def marks (Ds : List Nat) : List (Nat × Obj) := Ds.map markO
def defs (Ds : List Nat) : List Deferred := Ds.map fun D => { target := .collected D, args := #[] }
theorem marks_off (t : TypeId) (Ds : List Nat) : ∀ p ∈ marks Ds, offT t p.2 = true := by
  intro p hp
  obtain ⟨D, _, rfl⟩ := List.mem_map.1 hp
  rfl
/-- blocks from n on only are other than they were, those of Ds among them -/
theorem kept_of_keeps {S : Nat → Prop} {gs : List Nat} {B : Nat} (h : Keeps S V V') (hgs : ∀ g ∈ gs, g < V.heap.size ∧ ¬ S g) (hS : ∀ k, S k → k < B) : Kept gs true B V V' :=
  ⟨h.size, fun g hg => h.block g (hgs g hg).1 (hgs g hg).2, fun k o h1 h2 _ => (h.block k (Array.getElem?_eq_some_iff.1 h2).1 (fun s => by have := hS k s; omega)).trans h2⟩
theorem pl_own {w : World} (h1 : tb < w.heap.size) (h2 : bm < w.heap.size) (h3 : w0.heap.size ≤ w.heap.size) (h4 : ∀ p ∈ os, p.1 < w.heap.size) {X Y : World} {row : Option Nat}
    (h : Pl w0 tb bm rb L M os X) (hg : X.grownBy Y row) (hr : ∀ r, row = some r → w.heap.size ≤ r ∧ ∃ o, X.heap[r]? = some o ∧ o.isCells = false) : Pl w0 tb bm rb L M os Y :=
  h.moves (Moves.ofGrown hg hr) (h.du.turn hg (fun r e => (hr r e).1) h1 h2) h3 h4
end
end Go.Proofs.Ytahccfljgmleiaa
