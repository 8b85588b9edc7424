/-
  What stands while a law goes: a box with its bindings, and the blocks that the law holds; the calls' contracts in these words. Conditions: as each lemma states.
-/
import Derived.Test.YtidhdgcmagpkgaaInn
import Derived.Test.YtidhdgcmagpkgaaNew
namespace Go.Proofs.Ytidhdgcmagpkgaa
open Go.RowKit
set_option linter.unusedVariables false

/-- bindings as a box may hold them -/
structure OkM (M : List Bn) : Prop where
  len : M.length ≤ 100
  seen : ∀ b ∈ M, b.seen.length ≤ 16
theorem OkM.ofL {L : List Nd} (h : OkM (L.map Nd.b)) : OkL L := ⟨by have := h.len; rwa [List.length_map] at this, fun d hd => h.seen _ (List.mem_map.2 ⟨d, hd, rfl⟩)⟩
/-- the box nb stands with its time and its bindings; these objects are held, and are none of its own -/
structure Pl (w0 : World) (nb : Nat) (x : Bx) (now : Int) (M : List Bn) (os : List (Nat × Obj)) (V : World) : Prop where
  bo : ∃ kv L, Na V nb x now kv L ∧ L.map Nd.b = M ∧ (∀ k, Foot nb kv L k → w0.heap.size ≤ k) ∧ ∀ p ∈ os, ¬ Foot nb kv L p.1
  held : ∀ p ∈ os, V.heap[p.1]? = some p.2
  low : Below w0.heap.size w0 V
section
variable {w0 V V' : World} {nb : Nat} {x : Bx} {now now' : Int} {M M' : List Bn} {os : List (Nat × Obj)}
theorem Pl.lt (h : Pl w0 nb x now M os V) {p : Nat × Obj} (hp : p ∈ os) : p.1 < V.heap.size := (Array.getElem?_eq_some_iff.1 (h.held p hp)).1
theorem Pl.below (h : Pl w0 nb x now M os V) (hb : Below V.heap.size V V') : Pl w0 nb x now M os V' := by
  obtain ⟨kv, L, h1, h2, h3, h4⟩ := h.bo
  exact ⟨⟨kv, L, h1.below hb, h2, h3, h4⟩, fun p hp => (hb.block _ (h.lt hp)).trans (h.held p hp), h.low.trans (hb.mono h.low.size)⟩
theorem Pl.alloc (h : Pl w0 nb x now M os V) (o : Obj) : Pl w0 nb x now M os (V.alloc o) := h.below ((Below.refl _ V).alloc (Nat.le_refl _) o)
theorem Pl.drewN (h : Pl w0 nb x now M os V) (q : Nat) : Pl w0 nb x now M os (V.drewN q) := h.below (below_drw (Below.refl _ V) q)
theorem Pl.hold {k : Nat} {o : Obj} (h : Pl w0 nb x now M os V) (o' : Obj) (h1 : (V.alloc o').heap[k]? = some o) (hk : k = V.heap.size) : Pl w0 nb x now M ((k, o) :: os) (V.alloc o') := by
  have h2 := h.alloc o'
  obtain ⟨kv, L, g1, g2, g3, g4⟩ := h.bo
  refine ⟨⟨kv, L, g1.below ((Below.refl _ V).alloc (Nat.le_refl _) o'), g2, g3, fun p hp => ?_⟩, fun p hp => ?_, h2.low⟩
  · rcases List.mem_cons.1 hp with rfl | hp
    · intro hf
      have := g1.foot_lt hf
      simp only at this
      omega
    · exact g4 p hp
  · rcases List.mem_cons.1 hp with rfl | hp
    · exact h1
    · exact h2.held p hp
theorem Pl.hold' (h : Pl w0 nb x now M os V) (o : Obj) (he : ∃ cs t, o = .cells cs t (0, 0)) : Pl w0 nb x now M ((V.heap.size, o) :: os) (V.alloc o) := h.hold o (World.alloc_heap_new V o) rfl
theorem Pl.moved {kv : Value} {L : List Nd} (h : Pl w0 nb x now M os V) (hm : ∀ kv L, Na V nb x now kv L → L.map Nd.b = M → ∃ kv' L', Mvd nb x kv L V now' kv' L' V' ∧ L'.map Nd.b = M') : Pl w0 nb x now' M' os V' := by
  obtain ⟨kv, L, h1, h2, h3, h4⟩ := h.bo
  obtain ⟨kv', L', m1, m2⟩ := hm kv L h1 h2
  refine ⟨⟨kv', L', m1.na, m2, fun k hk => (m1.foot k hk).elim (h3 k) (fun e => Nat.le_trans h.low.size e), fun p hp hf => ?_⟩, fun p hp => ?_, h.low.trans (m1.keeps.below h3 h.low.size)⟩
  · rcases m1.foot _ hf with e | e
    · exact h4 p hp e
    · have := h.lt hp; omega
  · exact (m1.keeps.block _ (h.lt hp) (h4 p hp)).trans (h.held p hp)
theorem Pl.cells {b : Nat} {C : Array Value} {t : TypeId} (h : Pl w0 nb x now M os V) (hp : (b, Obj.cells C t (0, 0)) ∈ os) (j : Nat) : V.cell? ⟨b, j, none⟩ = C[j]? ∧ V.frozen? ⟨b, j, none⟩ = false := cells_of (h.held _ hp) j
theorem Pl.sub {os' : List (Nat × Obj)} (h : Pl w0 nb x now M os V) (hs : ∀ p ∈ os', p ∈ os) : Pl w0 nb x now M os' V := by
  obtain ⟨kv, L, h1, h2, h3, h4⟩ := h.bo
  exact ⟨⟨kv, L, h1, h2, h3, fun p hp => h4 p (hs p hp)⟩, fun p hp => h.held p (hs p hp), h.low⟩
/-- a held block's cell is turned -/
theorem Pl.store {b j : Nat} {C : Array Value} {t : TypeId} {v : Value} (h : Pl w0 nb x now M ((b, Obj.cells C t (0, 0)) :: os) V) (ho : ∀ p ∈ os, p.1 ≠ b) (hb : w0.heap.size ≤ b) :
    Pl w0 nb x now M ((b, Obj.cells (C.setIfInBounds j v) t (0, 0)) :: os) (V.setCell ⟨b, j, none⟩ v) := by
  obtain ⟨kv, L, h1, h2, h3, h4⟩ := h.bo
  have hf := h4 (b, Obj.cells C t (0, 0)) (by simp)
  have hk : Keeps (fun k => k = b) V (V.setCell ⟨b, j, none⟩ v) := Keeps.set (S := fun k => k = b) (Keeps.refl _ _) b j v rfl
  refine ⟨⟨kv, L, h1.keeps hk (fun k hk e => hf (by rw [← e]; exact hk)), h2, h3, fun p hp => ?_⟩, fun p hp => ?_, h.low.setCell (p := ⟨b, j, none⟩) hb _⟩
  · rcases List.mem_cons.1 hp with rfl | hp
    · exact hf
    · exact h4 p (List.mem_cons_of_mem _ hp)
  · rcases List.mem_cons.1 hp with rfl | hp
    · exact heap_setCell_same V b j C t v (h.held (b, Obj.cells C t (0, 0)) (by simp))
    · exact (heap_setCell_other V ⟨b, j, none⟩ p.1 v (fun e => ho p hp e)).trans (h.held p (List.mem_cons_of_mem _ hp))
/-- what Out answers and leaves, at any time -/
def outS (x : Bx) (now : Int) (M : List Bn) (t : Int) (a b : A2) : A2 × Int × Int × List Bn :=
  if goes now t = true then ((outM x (liveM M t) t a b).1, (outM x (liveM M t) t a b).2.1, t, (outM x (liveM M t) t a b).2.2) else ((0, 0), 1, now, M)
theorem out_pl (h : Pl w0 nb x now M os V) (hx : OkB x) (hM : OkM M) (t : Int) (a b : A2) (ha : isA a) (hb : isA b) (h0 : 0 ≤ now) :
    Calls Try.prog 31 #[.pointer (some ⟨nb, 0, none⟩), .int .i64 t, adr a, adr b] V fun e V' => e = .returned (ansA (outS x now M t a b).1 (outS x now M t a b).2.1) ∧ Pl w0 nb x (outS x now M t a b).2.2.1 (outS x now M t a b).2.2.2 os V' := by
  obtain ⟨kv, L, h1, h2, h3, h4⟩ := h.bo
  subst h2
  refine (out_any nb x now kv L t a b V h1 hx hM.ofL ha hb h0).mono fun e V' hr => ?_
  unfold OutR at hr
  unfold outS
  by_cases hg : goes now t = true
  · rw [if_pos hg] at hr ⊢
    obtain ⟨kv', L', g1, g2, g3⟩ := hr
    refine ⟨g1, ⟨kv', L', g2.na, g3, fun k hk => (g2.foot k hk).elim (h3 k) (fun e => Nat.le_trans h.low.size e), fun p hp hf => ?_⟩, fun p hp => ?_, h.low.trans (g2.keeps.below h3 h.low.size)⟩
    · exact (g2.foot _ hf).elim (h4 p hp) (fun e => by have := h.lt hp; omega)
    · exact (g2.keeps.block _ (h.lt hp) (h4 p hp)).trans (h.held p hp)
  · rw [if_neg hg] at hr ⊢
    obtain ⟨g1, g2⟩ := hr
    refine ⟨g1, ⟨kv, L, g2.na, rfl, h3, h4⟩, fun p hp => ?_, h.low.trans (g2.keeps.below h3 h.low.size)⟩
    exact (g2.keeps.block _ (h.lt hp) (h4 p hp)).trans (h.held p hp)
/-- what In answers and leaves, at any time -/
def inS (x : Bx) (now : Int) (M : List Bn) (t p : Int) (f : A2) : A2 × Int × Int × List Bn :=
  if goes now t = true then ((inM x (liveM M t) p f).1, (inM x (liveM M t) p f).2, t, liveM M t) else ((0, 0), 1, now, M)
theorem in_pl (h : Pl w0 nb x now M os V) (hM : OkM M) (t p : Int) (f : A2) (hf : isA f) :
    Calls Try.prog 30 #[.pointer (some ⟨nb, 0, none⟩), .int .i64 t, .int .i64 p, adr f] V fun e V' => e = .returned (ansA (inS x now M t p f).1 (inS x now M t p f).2.1) ∧ Pl w0 nb x (inS x now M t p f).2.2.1 (inS x now M t p f).2.2.2 os V' := by
  obtain ⟨kv, L, h1, h2, h3, h4⟩ := h.bo
  subst h2
  refine (in_any nb x now kv L t p f V h1 hM.ofL hf).mono fun e V' hr => ?_
  unfold InR at hr
  unfold inS
  by_cases hg : goes now t = true
  · rw [if_pos hg] at hr ⊢
    obtain ⟨kv', g1, g2⟩ := hr
    refine ⟨g1, ⟨kv', _, g2.na, live_map L t, fun k hk => (g2.foot k hk).elim (h3 k) (fun e => Nat.le_trans h.low.size e), fun p hp hf => ?_⟩, fun p hp => ?_, h.low.trans (g2.keeps.below h3 h.low.size)⟩
    · exact (g2.foot _ hf).elim (h4 p hp) (fun e => by have := h.lt hp; omega)
    · exact (g2.keeps.block _ (h.lt hp) (h4 p hp)).trans (h.held p hp)
  · rw [if_neg hg] at hr ⊢
    obtain ⟨g1, g2⟩ := hr
    refine ⟨g1, ⟨kv, L, g2.na, rfl, h3, h4⟩, fun p hp => ?_, h.low.trans (g2.keeps.below h3 h.low.size)⟩
    exact (g2.keeps.block _ (h.lt hp) (h4 p hp)).trans (h.held p hp)
end
/-- a new box -/
theorem new_pl {w0 V : World} (x : Bx) (hx : isBx x) (hb : box2 x = true) (os : List (Nat × Obj)) (hl : Below w0.heap.size w0 V) (ho : ∀ p ∈ os, V.heap[p.1]? = some p.2) :
    Calls Try.prog 15 #[.agg (boxCells x)] V fun e V' => ∃ g, e = .returned (.tuple #[.pointer (some ⟨g, 0, none⟩), .int .i64 0]) ∧ Pl w0 g x 0 [] os V' := by
  refine (new_any x V hx).mono fun e V' hr => ?_
  obtain ⟨h1, h2⟩ := hr
  rw [if_pos hb] at h2
  obtain ⟨g, rfl, h3, h4⟩ := h2
  refine ⟨g, rfl, ⟨_, _, h4, rfl, fun k hk => ?_, fun p hp hk => ?_⟩, fun p hp => (h1.block _ (Array.getElem?_eq_some_iff.1 (ho p hp)).1).trans (ho p hp), hl.trans (h1.mono hl.size)⟩
  · rcases hk with rfl | hk | ⟨d, hd, _⟩
    · exact Nat.le_trans hl.size h3
    · cases hk
    · cases hd
  · have := (Array.getElem?_eq_some_iff.1 (ho p hp)).1
    rcases hk with e | hk | ⟨d, hd, _⟩
    · omega
    · cases hk
    · cases hd
end Go.Proofs.Ytidhdgcmagpkgaa
