/-
  What NatOne's walk is told: a box that stands, and beside it a row of ports, which is one's own. Conditions: as each lemma states.
-/
import Derived.Test.YtcfbnepcinlheaaOne
import Derived.Test.YtcfbnepcinlheaaDl1
import Derived.Maps.AppendAt
namespace Go.Proofs.Ytcfbnepcinlheaa
open Go.RowKit
set_option linter.unusedVariables false

section
variable {w0 V V' : World} {nb : Nat} {x : Bx} {now now' : Int} {M M' : List Bn} {os : List (Nat × Obj)}
theorem Pl.keep3 {S : Nat → Prop} (h : Pl w0 nb x now M os V) (hk : Keeps S V V') (h3 : ∀ k, S k → ∃ C, V.heap[k]? = some (.cells C 3 (0, 0))) (ho : ∀ p ∈ os, ¬ S p.1) (hb : ∀ k, S k → w0.heap.size ≤ k) : Pl w0 nb x now M os V' := by
  obtain ⟨kv, L, h1, h2, h4, h5⟩ := h.bo
  refine ⟨⟨kv, L, h1.keeps hk (fun k hf hs => ?_), h2, h4, h5⟩, fun p hp => (hk.block _ (h.lt hp) (ho p hp)).trans (h.held p hp), h.low.trans (hk.below hb h.low.size)⟩
  obtain ⟨C, t, e1, e2⟩ := h1.kind hf
  obtain ⟨C', e3⟩ := h3 k hs
  rw [e1] at e3
  simp only [Option.some.injEq, Obj.cells.injEq] at e3
  obtain ⟨-, e3, -⟩ := e3
  subst e3
  rcases e2 with e | e | e | e <;> cases e
def intsV (ps : List Int) : List Value := ps.map (Value.int .i64)
/-- .. and a row of ports, whose block is none of those held -/
structure Pp (w0 : World) (nb : Nat) (x : Bx) (now : Int) (M : List Bn) (os : List (Nat × Obj)) (sv : Value) (ps : List Int) (V : World) : Prop where
  pl : Pl w0 nb x now M os V
  row : V.ownsRow w0.heap.size 3 1 sv ps.length (intsV ps)
  own : ∀ p ∈ os, ¬ sv.ownBlock = some p.1
theorem Pp.nil (h : Pl w0 nb x now M os V) : Pp w0 nb x now M os (.slice none 0 0) [] V := ⟨h, World.ownsRow_nil _ _ _ _, fun p hp => by simp [Value.ownBlock]⟩
theorem Pp.below {sv : Value} {ps : List Int} (h : Pp w0 nb x now M os sv ps V) (hb : Below V.heap.size V V') : Pp w0 nb x now M os sv ps V' :=
  ⟨h.pl.below hb, own_at h.row (fun g hg => by obtain ⟨C, e⟩ := own_obj h.row hg; exact hb.block g (Array.getElem?_eq_some_iff.1 e).1), h.own⟩
theorem Pp.drewN {sv : Value} {ps : List Int} (h : Pp w0 nb x now M os sv ps V) (q : Nat) : Pp w0 nb x now M os sv ps (V.drewN q) := h.below (below_drw (Below.refl _ V) q)
/-- one more block is held -/
theorem Pp.hold' {sv : Value} {ps : List Int} (h : Pp w0 nb x now M os sv ps V) (cs : Array Value) (t : TypeId) : Pp w0 nb x now M ((V.heap.size, .cells cs t (0, 0)) :: os) sv ps (V.alloc (.cells cs t)) :=
  ⟨h.pl.box cs t rfl, (h.below ((Below.refl _ V).alloc (Nat.le_refl _) _)).row, fun p hp e => by
    rcases List.mem_cons.1 hp with rfl | hp
    · obtain ⟨C, e2⟩ := own_obj h.row e
      have := (Array.getElem?_eq_some_iff.1 e2).1
      simp only at this
      omega
    · exact h.own p hp e⟩
theorem Pp.box {sv : Value} {ps : List Int} {k : Nat} (h : Pp w0 nb x now M os sv ps V) (cs : Array Value) (t : TypeId) (hk : k = V.heap.size) : Pp w0 nb x now M ((k, .cells cs t (0, 0)) :: os) sv ps (V.alloc (.cells cs t)) := by
  subst hk; exact h.hold' cs t
theorem Pp.sub {os' : List (Nat × Obj)} {sv : Value} {ps : List Int} (h : Pp w0 nb x now M os sv ps V) (hs : ∀ p ∈ os', p ∈ os) : Pp w0 nb x now M os' sv ps V := ⟨h.pl.sub hs, h.row, fun p hp => h.own p (hs p hp)⟩
theorem Pp.store {b j : Nat} {C : Array Value} {t : TypeId} {v : Value} {sv : Value} {ps : List Int} (h : Pp w0 nb x now M ((b, Obj.cells C t (0, 0)) :: os) sv ps V) (ho : ∀ p ∈ os, p.1 ≠ b) (hb : w0.heap.size ≤ b) :
    Pp w0 nb x now M ((b, Obj.cells (C.setIfInBounds j v) t (0, 0)) :: os) sv ps (V.setCell ⟨b, j, none⟩ v) :=
  ⟨h.pl.store ho hb, own_at h.row (fun g hg => heap_setCell_other V ⟨b, j, none⟩ g v (fun e => h.own (b, Obj.cells C t (0, 0)) (by simp) (by rw [hg, e]))), fun p hp => by
    rcases List.mem_cons.1 hp with rfl | hp
    · exact h.own (b, Obj.cells C t (0, 0)) (by simp)
    · exact h.own p (List.mem_cons_of_mem _ hp)⟩
/-- with its row among what is held -/
theorem Pp.held {sv : Value} {ps : List Int} (h : Pp w0 nb x now M os sv ps V) {g : Nat} {C : Array Value} (hg : V.heap[g]? = some (.cells C 3 (0, 0))) : Pl w0 nb x now M ((g, .cells C 3 (0, 0)) :: os) V := by
  obtain ⟨kv, L, h1, h2, h4, h5⟩ := h.pl.bo
  refine ⟨⟨kv, L, h1, h2, h4, fun p hp => ?_⟩, fun p hp => ?_, h.pl.low⟩
  · rcases List.mem_cons.1 hp with rfl | hp
    · intro hf
      obtain ⟨C', t, e1, e2⟩ := h1.kind hf
      have e1 := hg.symm.trans e1
      simp only [Option.some.injEq, Obj.cells.injEq] at e1
      obtain ⟨-, e3, -⟩ := e1
      subst e3
      rcases e2 with e | e | e | e <;> cases e
    · exact h5 p hp
  · rcases List.mem_cons.1 hp with rfl | hp
    · exact hg
    · exact h.pl.held p hp
theorem out_pp {sv : Value} {ps : List Int} (h : Pp w0 nb x now M os sv ps V) (hx : OkB x) (hM : OkM M) (t : Int) (a b : A2) (ha : isA a) (hb : isA b) (h0 : 0 ≤ now) :
    Calls Try.prog 13 #[.pointer (some ⟨nb, 0, none⟩), .int .i64 t, adr a, adr b] V fun e V' => e = .returned (ansA (outS x now M t a b).1 (outS x now M t a b).2.1) ∧ Pp w0 nb x (outS x now M t a b).2.2.1 (outS x now M t a b).2.2.2 os sv ps V' := by
  rcases h.row.2 with ⟨e1, e2⟩ | ⟨g, cap, cur, e1, e2, e3, e4⟩
  · refine (out_pl h.pl hx hM t a b ha hb h0).mono fun e V' hr => ⟨hr.1, hr.2, ?_, h.own⟩
    exact ⟨h.row.1, .inl ⟨e1, e2⟩⟩
  · refine (out_pl (h.held e3) hx hM t a b ha hb h0).mono fun e V' hr => ⟨hr.1, hr.2.sub (fun p hp => List.mem_cons_of_mem _ hp), ?_, h.own⟩
    exact ⟨h.row.1, .inr ⟨g, cap, cur, e1, e2, hr.2.held (g, .cells cur 3 (0, 0)) (by simp), e4⟩⟩
theorem info3 : (Try.prog.info? 3).map (fun i => (i.zero, i.size, i.bytes)) = some (some (.int .i64 0), 1, 8) := by kernel_rfl
theorem app_pp {sv : Value} {ps : List Int} (h : Pp w0 nb x now M os sv ps V) (p : Int) (hl : ps.length ≤ 1000) :
    ∃ sv' V', (∀ ty, (Builtin.append_ #[57, 57] ty #[sv, .slice (some ⟨V.heap.size, 0, none⟩) 1 1]).run Try.prog (V.alloc (.cells #[.int .i64 p] 3)) = .ok sv' V') ∧ (∃ A n c, sv' = .slice A n c) ∧ Pp w0 nb x now M os sv' (ps ++ [p]) V' := by
  obtain ⟨i0, hi0, hz0, hz1, hz2⟩ := info_parts info3
  have h1 := h.hold' #[.int .i64 p] 3
  have hB : w0.heap.size ≤ V.heap.size := h.pl.low.size
  have hc : ∀ j u, [Value.int .i64 p][j]? = some u → (V.alloc (.cells #[.int .i64 p] 3)).cell? ((⟨V.heap.size, 0, none⟩ : Addr).add j) = some u := by
    intro j u hj
    rw [add_spot, Nat.zero_add, (cells_of (World.alloc_heap_new V _) j).1]
    simpa using hj
  have hrun := fun ty => run_append_own_at (P := Try.prog) (V.alloc (.cells #[.int .i64 p] 3)) w0.heap.size 57 ty 3 i0 _ 1 8 Try.underlying57 hi0 hz0 hz1 hz2 rfl (by decide) sv ps.length (intsV ps) h1.row ⟨V.heap.size, 0, none⟩ 1 1 [Value.int .i64 p] rfl hc (by simp [Value.oneCell']) (by unfold maxLen; omega) (by omega) (by simp; omega)
  obtain ⟨v', w', r0, r1, r2, r3, r4⟩ := hrun 57
  have hr1 : w'.ownsRow w0.heap.size 3 1 v' (ps ++ [p]).length (intsV (ps ++ [p])) := by
    have e1 : intsV (ps ++ [p]) = intsV ps ++ [Value.int .i64 p] := by simp [intsV]
    rw [List.length_append, e1]; exact r1
  refine ⟨v', w', fun ty => ?_, ?_, ?_, hr1, fun q hq e => ?_⟩
  · rw [← r0]; rfl
  · rcases r1.2 with ⟨e, _⟩ | ⟨g, cap, cur, e, _⟩
    · exact ⟨_, _, _, e⟩
    · exact ⟨_, _, _, e⟩
  · refine Pl.sub (Pl.keep3 (S := fun k => sv.ownBlock = some k) h1.pl ⟨r2.os, r2.tape, r2.output, r2.size, fun k hk hn => r2.block k hk (fun e => hn (by rw [← e]))⟩ (fun k hk => own_obj h1.row hk) (fun q hq => h1.own q hq) (fun k hk => (h1.row.lt k hk).1)) (fun q hq => List.mem_cons_of_mem _ hq)
  · rcases r4 with r4 | r4
    · rw [r4] at e; exact h.own q hq e
    · rw [r4] at e
      simp only [Option.some.injEq] at e
      have := h.pl.lt hq
      simp at e
      omega
/-- a port of the row -/
theorem Pp.at_ {sv : Value} {ps : List Int} (h : Pp w0 nb x now M os sv ps V) {j : Nat} (hj : j < ps.length) : ∃ g cap, sv = .slice (some ⟨g, 0, none⟩) ps.length cap ∧ ps.length ≤ cap ∧ cap ≤ maxLen ∧ ∀ (i : Nat) (p : Int), ps[i]? = some p → V.cell? ⟨g, i, none⟩ = some (.int .i64 p) := by
  rcases h.row.2 with ⟨e1, e2⟩ | ⟨g, cap, cur, e1, e2, e3, e4, e5, e6, e7⟩
  · omega
  · refine ⟨g, cap, e1, e4, e5, fun i p hp => ?_⟩
    rw [(cells_of e3 i).1]
    have hi := (List.getElem?_eq_some_iff.1 hp).1
    have h2 : (intsV ps)[i]? = some (.int .i64 p) := by unfold intsV; rw [List.getElem?_map, hp]; rfl
    rw [← e7, List.getElem?_take_of_lt (by omega)] at h2
    simpa using h2
end
end Go.Proofs.Ytcfbnepcinlheaa
