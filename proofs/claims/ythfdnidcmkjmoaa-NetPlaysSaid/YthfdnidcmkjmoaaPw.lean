/-
  What stands while NetPlays goes: the program's net and the document's own, side by side, and objects that the law holds; the calls' contracts in these words. Conditions: as each lemma states.
-/
import Derived.Test.YthfdnidcmkjmoaaNe
import Derived.Test.YthfdnidcmkjmoaaNf
import Derived.Test.YthfdnidcmkjmoaaNu
namespace Go.Proofs.Ythfdnidcmkjmoaa
open Go.RowKit
set_option linter.unusedVariables false

section
variable {V V' : World} {T T' nb rb : Nat} {la lb : Int} {kv rkv : Value} {L RL : List Md}
theorem foot_cells (h : Na V T nb la kv L) {k : Nat} (hk : FootN nb kv L k) : ∃ C t, V.heap[k]? = some (.cells C t (0, 0)) := by
  rcases hk with (rfl | hk) | ⟨m, hm, hk⟩
  · exact ⟨_, _, h.top⟩
  · obtain ⟨C, e⟩ := own_obj h.row hk; exact ⟨C, _, e⟩
  · obtain ⟨C, e⟩ := own_obj (h.mds m hm).row hk; exact ⟨C, _, e⟩
theorem own_not_foot (h : Na V T nb la kv L) (h' : Na V T' rb lb rkv RL) (hd : ∀ g, kv.ownBlock = some g → rkv.ownBlock ≠ some g) {k : Nat} (hk : rkv.ownBlock = some k) : ¬ FootN nb kv L k := by
  obtain ⟨C, e⟩ := own_obj h'.row hk
  rintro ((rfl | h1) | ⟨m, hm, h1⟩)
  · exact clash h.top e h.ty1.2
  · exact hd k h1 hk
  · obtain ⟨C', e'⟩ := own_obj (h.mds m hm).row h1
    exact clash e' e (by decide)
theorem top_not_foot (h : Na V T nb la kv L) (h' : Na V T' rb lb rkv RL) (hT : T ≠ T') (hd : ∀ g, kv.ownBlock = some g → rkv.ownBlock ≠ some g) {k : Nat} (hk : Top nb kv k) : ¬ FootN rb rkv RL k := by
  rintro ((rfl | h1) | ⟨m, hm, h1⟩)
  · rcases hk with rfl | hk
    · exact clash h.top h'.top hT
    · obtain ⟨C, e⟩ := own_obj h.row hk
      exact clash h'.top e h'.ty1.2
  · rcases hk with rfl | hk
    · obtain ⟨C, e⟩ := own_obj h'.row h1
      exact clash h.top e h.ty1.2
    · exact hd k hk h1
  · exact h.ne_top (h'.mds m hm) h1 hk
end

/-- both nets stand; these objects are held, and are none of theirs -/
structure Pw (w0 : World) (nb rb : Nat) (la : Int) (M : List Dg) (lb : Int) (RM : List Dg) (os : List (Nat × Obj)) (V : World) : Prop where
  bo : ∃ kv L rkv RL, Na V 59 nb la kv L ∧ L.map Md.d = M ∧ Na V 30 rb lb rkv RL ∧ RL.map Md.d = RM ∧ (∀ k, FootN nb kv L k ∨ FootN rb rkv RL k → w0.heap.size ≤ k) ∧ (∀ p ∈ os, ¬ (FootN nb kv L p.1 ∨ FootN rb rkv RL p.1)) ∧ (∀ g, kv.ownBlock = some g → rkv.ownBlock ≠ some g)
  held : ∀ p ∈ os, V.heap[p.1]? = some p.2
  low : Below w0.heap.size w0 V
section
variable {w0 V V' : World} {nb rb : Nat} {la la' lb lb' : Int} {M M' RM RM' : List Dg} {os : List (Nat × Obj)}
theorem Pw.lt (h : Pw w0 nb rb la M lb RM os V) {p : Nat × Obj} (hp : p ∈ os) : p.1 < V.heap.size := (Array.getElem?_eq_some_iff.1 (h.held p hp)).1
/-- blocks that are held, or are no cells, or new, are turned -/
theorem Pw.turned {S : Nat → Prop} (h : Pw w0 nb rb la M lb RM os V) (hk : Keeps S V V') (h1 : ∀ k, S k → w0.heap.size ≤ k) (h2 : ∀ k, S k → (∃ q ∈ os, q.1 = k) ∨ (∃ o, V.heap[k]? = some o ∧ o.isCells = false) ∨ V.heap.size ≤ k) (os' : List (Nat × Obj))
    (h4 : ∀ p ∈ os', (p ∈ os ∧ ¬ S p.1) ∨ (V'.heap[p.1]? = some p.2 ∧ ((∃ q ∈ os, q.1 = p.1) ∨ V.heap.size ≤ p.1))) : Pw w0 nb rb la M lb RM os' V' := by
  obtain ⟨kv, L, rkv, RL, k1, k2, k3, k4, k5, k6, k7⟩ := h.bo
  have hS : ∀ k, FootN nb kv L k ∨ FootN rb rkv RL k → ¬ S k := fun k hf hs => by
    have hc : ∃ C t, V.heap[k]? = some (.cells C t (0, 0)) := hf.elim (foot_cells k1) (foot_cells k3)
    obtain ⟨C, t, e⟩ := hc
    rcases h2 k hs with ⟨q, hq, rfl⟩ | ⟨o, e1, e2⟩ | h3
    · exact k6 q hq hf
    · rw [e] at e1; cases e1; cases e2
    · have := (Array.getElem?_eq_some_iff.1 e).1; omega
  refine ⟨⟨kv, L, rkv, RL, k1.keeps hk (fun k hf => hS k (.inl hf)), k2, k3.keeps hk (fun k hf => hS k (.inr hf)), k4, k5, fun p hp hf => ?_, k7⟩, fun p hp => ?_, h.low.trans (hk.below h1 h.low.size)⟩
  · rcases h4 p hp with ⟨h5, _⟩ | ⟨_, ⟨q, hq, e⟩ | h5⟩
    · exact k6 p h5 hf
    · rw [← e] at hf; exact k6 q hq hf
    · have := hf.elim k1.foot_lt k3.foot_lt; omega
  · rcases h4 p hp with ⟨h5, h6⟩ | ⟨h5, _⟩
    · exact (hk.block _ (h.lt h5) h6).trans (h.held p h5)
    · exact h5
theorem Pw.below (h : Pw w0 nb rb la M lb RM os V) (hb : Below V.heap.size V V') : Pw w0 nb rb la M lb RM os V' := h.turned (S := fun _ => False) (.all hb) (fun _ e => e.elim) (fun _ e => e.elim) os (fun p hp => .inl ⟨hp, id⟩)
theorem Pw.drewN (h : Pw w0 nb rb la M lb RM os V) (q : Nat) : Pw w0 nb rb la M lb RM os (V.drewN q) := h.below (below_drw (Below.refl _ V) q)
theorem Pw.drew (h : Pw w0 nb rb la M lb RM os V) : Pw w0 nb rb la M lb RM os V.drew := h.drewN 1
/-- a block just laid is held -/
theorem Pw.fresh {g : Nat} {o : Obj} (h : Pw w0 nb rb la M lb RM os V) (hb : Below V.heap.size V V') (hg : V'.heap[g]? = some o) (hge : V.heap.size ≤ g) : Pw w0 nb rb la M lb RM ((g, o) :: os) V' :=
  h.turned (S := fun _ => False) (.all hb) (fun _ e => e.elim) (fun _ e => e.elim) _ (fun p hp => by
    rcases List.mem_cons.1 hp with rfl | hp
    · exact .inr ⟨hg, .inr hge⟩
    · exact .inl ⟨hp, id⟩)
theorem Pw.box (h : Pw w0 nb rb la M lb RM os V) (cs : Array Value) (t : TypeId) {k : Nat} (hk : k = V.heap.size) : Pw w0 nb rb la M lb RM ((k, .cells cs t (0, 0)) :: os) (V.alloc (.cells cs t)) := by
  subst hk
  exact h.fresh ((Below.refl _ V).alloc (Nat.le_refl _) _) (World.alloc_heap_new V _) (Nat.le_refl _)
theorem Pw.sub {os' : List (Nat × Obj)} (h : Pw w0 nb rb la M lb RM os V) (hs : ∀ p ∈ os', p ∈ os) : Pw w0 nb rb la M lb RM os' V := by
  obtain ⟨kv, L, rkv, RL, k1, k2, k3, k4, k5, k6, k7⟩ := h.bo
  exact ⟨⟨kv, L, rkv, RL, k1, k2, k3, k4, k5, fun p hp => k6 p (hs p hp), k7⟩, fun p hp => h.held p (hs p hp), h.low⟩
theorem Pw.cells {b : Nat} {C : Array Value} {t : TypeId} (h : Pw w0 nb rb la M lb RM os V) (hp : (b, Obj.cells C t (0, 0)) ∈ os) (j : Nat) : V.cell? ⟨b, j, none⟩ = C[j]? ∧ V.frozen? ⟨b, j, none⟩ = false := cells_of (h.held _ hp) j
/-- a held block's cell is turned -/
theorem Pw.store {b j : Nat} {C : Array Value} {t : TypeId} {v : Value} (h : Pw w0 nb rb la M lb RM ((b, Obj.cells C t (0, 0)) :: os) V) (ho : ∀ p ∈ os, p.1 ≠ b) (hb : w0.heap.size ≤ b) :
    Pw w0 nb rb la M lb RM ((b, Obj.cells (C.setIfInBounds j v) t (0, 0)) :: os) (V.setCell ⟨b, j, none⟩ v) :=
  h.turned (S := fun k => k = b) (Keeps.set (S := fun k => k = b) (Keeps.refl _ _) b j v rfl) (fun k e => by rw [e]; exact hb) (fun k e => .inl ⟨_, List.mem_cons_self, e.symm⟩) _ (fun p hp => by
    rcases List.mem_cons.1 hp with rfl | hp
    · exact .inr ⟨heap_setCell_same V b j C t v (h.held (b, Obj.cells C t (0, 0)) (by simp)), .inl ⟨_, List.mem_cons_self, rfl⟩⟩
    · exact .inl ⟨List.mem_cons_of_mem _ hp, ho p hp⟩)
/-- .. as a loop's own records grow -/
theorem Pw.own {row : Option Nat} {B : Nat} (h : Pw w0 nb rb la M lb RM os V) (hg : V.grownBy V' row) (hr : ∀ r, row = some r → B ≤ r ∧ ∃ o, V.heap[r]? = some o ∧ o.isCells = false) (hos : ∀ p ∈ os, p.1 < B) (hw : w0.heap.size ≤ B) : Pw w0 nb rb la M lb RM os V' :=
  h.turned (S := fun k => row = some k) ⟨hg.os, hg.tape, hg.output, hg.size, fun k hk hn => hg.block k hk (fun e => hn (by rw [← e]))⟩ (fun k e => Nat.le_trans hw (hr k e).1) (fun k e => .inr (.inl (hr k e).2)) os (fun p hp => .inl ⟨hp, fun e => by have := hos p hp; have := (hr _ e).1; omega⟩)
theorem Pw.put {d : Nat} {o o' : Obj} (h : Pw w0 nb rb la M lb RM os V) (hd : V.heap[d]? = some o') (ho : o'.isCells = false) (hdw : w0.heap.size ≤ d) (hos : ∀ p ∈ os, p.1 ≠ d) : Pw w0 nb rb la M lb RM os (V.putObj d o) := by
  have hg := grownBy_putObj' V d o
  exact h.turned (S := fun k => k = d) ⟨hg.os, hg.tape, hg.output, hg.size, fun k hk hn => hg.block k hk (fun e => hn (by cases e; rfl))⟩ (fun k e => by rw [e]; exact hdw) (fun k e => .inr (.inl ⟨o', by rw [e]; exact hd, ho⟩)) os (fun p hp => .inl ⟨hp, hos p hp⟩)
/-- what a call of the program's net leaves -/
theorem Pw.moved1 {kv : Value} {L : List Md} {rkv : Value} {RL : List Md} {kv' : Value} {L' : List Md} (h : Pw w0 nb rb la M lb RM os V) (k1 : Na V 59 nb la kv L) (k3 : Na V 30 rb lb rkv RL) (k4 : RL.map Md.d = RM) (k5 : ∀ k, FootN nb kv L k ∨ FootN rb rkv RL k → w0.heap.size ≤ k)
    (k6 : ∀ p ∈ os, ¬ (FootN nb kv L p.1 ∨ FootN rb rkv RL p.1)) (k7 : ∀ g, kv.ownBlock = some g → rkv.ownBlock ≠ some g) (hm : MvN V 59 nb kv L V' la' kv' L') (hM : L'.map Md.d = M') : Pw w0 nb rb la' M' lb RM os V' :=
  ⟨⟨kv', L', rkv, RL, hm.na, hM, k3.keeps hm.keeps (fun k hf ht => top_not_foot k1 k3 (by decide) k7 ht hf), k4,
      fun k hk => hk.elim (fun hk => (hm.foot k hk).elim (fun e => k5 k (.inl e)) (fun e => Nat.le_trans h.low.size e)) (fun hk => k5 k (.inr hk)),
      fun p hp hf => hf.elim (fun hf => (hm.foot _ hf).elim (fun e => k6 p hp (.inl e)) (fun e => by have := h.lt hp; omega)) (fun hf => k6 p hp (.inr hf)),
      fun g hg hg' => (hm.foot g (.inl (.inr hg))).elim (own_not_foot k1 k3 k7 hg') (fun e => by have := k3.row_lt hg'; omega)⟩,
    fun p hp => (hm.keeps.block _ (h.lt hp) (fun e => k6 p hp (.inl (.inl e)))).trans (h.held p hp), h.low.trans (hm.keeps.below (fun k e => k5 k (.inl (.inl e))) h.low.size)⟩
/-- what a call of the document's own leaves -/
theorem Pw.moved2 {kv : Value} {L : List Md} {rkv : Value} {RL : List Md} {rkv' : Value} {RL' : List Md} (h : Pw w0 nb rb la M lb RM os V) (k1 : Na V 59 nb la kv L) (k2 : L.map Md.d = M) (k3 : Na V 30 rb lb rkv RL) (k5 : ∀ k, FootN nb kv L k ∨ FootN rb rkv RL k → w0.heap.size ≤ k)
    (k6 : ∀ p ∈ os, ¬ (FootN nb kv L p.1 ∨ FootN rb rkv RL p.1)) (k7 : ∀ g, kv.ownBlock = some g → rkv.ownBlock ≠ some g) (hm : MvN V 30 rb rkv RL V' lb' rkv' RL') (hM : RL'.map Md.d = RM') : Pw w0 nb rb la M lb' RM' os V' :=
  have k8 : ∀ g, rkv.ownBlock = some g → kv.ownBlock ≠ some g := fun g e e' => k7 g e' e
  ⟨⟨kv, L, rkv', RL', k1.keeps hm.keeps (fun k hf ht => top_not_foot k3 k1 (by decide) k8 ht hf), k2, hm.na, hM,
      fun k hk => hk.elim (fun hk => k5 k (.inl hk)) (fun hk => (hm.foot k hk).elim (fun e => k5 k (.inr e)) (fun e => Nat.le_trans h.low.size e)),
      fun p hp hf => hf.elim (fun hf => k6 p hp (.inl hf)) (fun hf => (hm.foot _ hf).elim (fun e => k6 p hp (.inr e)) (fun e => by have := h.lt hp; omega)),
      fun g hg hg' => (hm.foot g (.inl (.inr hg'))).elim (own_not_foot k3 k1 k8 hg) (fun e => by have := k1.row_lt hg; omega)⟩,
    fun p hp => (hm.keeps.block _ (h.lt hp) (fun e => k6 p hp (.inr (.inl e)))).trans (h.held p hp), h.low.trans (hm.keeps.below (fun k e => k5 k (.inr (.inl e))) h.low.size)⟩

theorem send_w (h : Pw w0 nb rb la M lb RM os V) (hM : OkD M la) (f t : A2) (hf : isA f) (ht : isA t) (A : Option Addr) (n c : Nat) (b : List Int) (hb : Bts V A n b) (hnil : A = none → n = 0 ∧ c = 0) (hn : n ≤ 1000000) :
    Calls Try.prog 10 #[.pointer (some ⟨nb, 0, none⟩), adr f, adr t, .slice A n c] V fun e V' => e = .returned (twoV (sendN M la f t b).1) ∧ Pw w0 nb rb (sendN M la f t b).2.2 (sendN M la f t b).2.1 lb RM os V' := by
  obtain ⟨kv, L, rkv, RL, k1, k2, k3, k4, k5, k6, k7⟩ := h.bo
  subst k2
  refine (send_n k1 f t hf ht A n c b hb hnil hn hM.lo hM.hi (OkD.ofL (kv := kv) hM).1).mono fun e V' hr => ?_
  obtain ⟨e1, kv', L', hm, hL⟩ := hr
  exact ⟨e1, h.moved1 k1 k3 k4 k5 k6 k7 hm hL⟩
theorem rsend_w (h : Pw w0 nb rb la M lb RM os V) (hM : OkD RM lb) (f t : A2) (hf : isA f) (ht : isA t) (A : Option Addr) (n c : Nat) (b : List Int) (hb : Bts V A n b) (hnil : A = none → n = 0 ∧ c = 0) (hn : n ≤ 1000000) :
    Calls Try.prog 11 #[.pointer (some ⟨rb, 0, none⟩), adr f, adr t, .slice A n c] V fun e V' => e = .returned (twoV (sendN RM lb f t b).1) ∧ Pw w0 nb rb la M (sendN RM lb f t b).2.2 (sendN RM lb f t b).2.1 os V' := by
  obtain ⟨kv, L, rkv, RL, k1, k2, k3, k4, k5, k6, k7⟩ := h.bo
  subst k4
  refine (rsend_n k3 f t hf ht A n c b hb hnil hn hM.lo hM.hi (OkD.ofL (kv := rkv) hM).1).mono fun e V' hr => ?_
  obtain ⟨e1, kv', L', hm, hL⟩ := hr
  exact ⟨e1, h.moved2 k1 k2 k3 k5 k6 k7 hm hL⟩
theorem copy_w (h : Pw w0 nb rb la M lb RM os V) (hM : OkD M la) (no : Int) :
    Calls Try.prog 12 #[.pointer (some ⟨nb, 0, none⟩), .int .i64 no] V fun e V' => e = .returned (twoV (copyN M la no).1) ∧ Pw w0 nb rb (copyN M la no).2.2 (copyN M la no).2.1 lb RM os V' := by
  obtain ⟨kv, L, rkv, RL, k1, k2, k3, k4, k5, k6, k7⟩ := h.bo
  subst k2
  refine (copy_n k1 no hM.lo hM.hi (OkD.ofL (kv := kv) hM).1).mono fun e V' hr => ?_
  obtain ⟨e1, kv', L', hm, hL⟩ := hr
  exact ⟨e1, h.moved1 k1 k3 k4 k5 k6 k7 hm hL⟩
theorem rcopy_w (h : Pw w0 nb rb la M lb RM os V) (hM : OkD RM lb) (no : Int) :
    Calls Try.prog 13 #[.pointer (some ⟨rb, 0, none⟩), .int .i64 no] V fun e V' => e = .returned (twoV (copyN RM lb no).1) ∧ Pw w0 nb rb la M (copyN RM lb no).2.2 (copyN RM lb no).2.1 os V' := by
  obtain ⟨kv, L, rkv, RL, k1, k2, k3, k4, k5, k6, k7⟩ := h.bo
  subst k4
  refine (rcopy_n k3 no hM.lo hM.hi (OkD.ofL (kv := rkv) hM).1 (OkD.ofL (kv := rkv) hM).2).mono fun e V' hr => ?_
  obtain ⟨e1, kv', L', hm, hL⟩ := hr
  exact ⟨e1, h.moved2 k1 k2 k3 k5 k6 k7 hm hL⟩
theorem take_w (h : Pw w0 nb rb la M lb RM os V) (hM : OkD M la) (no : Int) :
    Calls Try.prog 16 #[.pointer (some ⟨nb, 0, none⟩), .int .i64 no] V fun e V' => ∃ A c, e = .returned (takeV (takeN M no).1.1 (.slice A (takeN M no).1.1.b.length c) (takeN M no).1.2) ∧ Pw w0 nb rb la (takeN M no).2 lb RM os V' ∧ Bts V' A (takeN M no).1.1.b.length (takeN M no).1.1.b ∧ RowB V' (.slice A (takeN M no).1.1.b.length c) (takeN M no).1.1.b ∧ ∀ g, (Value.slice A (takeN M no).1.1.b.length c).ownBlock = some g → V.heap.size ≤ g := by
  obtain ⟨kv, L, rkv, RL, k1, k2, k3, k4, k5, k6, k7⟩ := h.bo
  subst k2
  refine (take_n k1 no (OkD.ofL (kv := kv) hM).1 (OkD.ofL (kv := kv) hM).2).mono fun e V' hr => ?_
  obtain ⟨v, kv', L', e1, hm, hL, hR, hB⟩ := hr
  obtain ⟨A, c, rfl, h1, h2, h3, h4⟩ := hR.parts
  exact ⟨A, c, e1, h.moved1 k1 k3 k4 k5 k6 k7 hm hL, h3, hR, fun g hg => (hB g hg).1⟩
theorem rtake_w (h : Pw w0 nb rb la M lb RM os V) (hM : OkD RM lb) (no : Int) :
    Calls Try.prog 17 #[.pointer (some ⟨rb, 0, none⟩), .int .i64 no] V fun e V' => ∃ A c, e = .returned (takeV (takeN RM no).1.1 (.slice A (takeN RM no).1.1.b.length c) (takeN RM no).1.2) ∧ Pw w0 nb rb la M lb (takeN RM no).2 os V' ∧ Bts V' A (takeN RM no).1.1.b.length (takeN RM no).1.1.b ∧
      ∀ (A' : Option Addr) (n' c' : Nat) (b' : List Int), RowB V (.slice A' n' c') b' → (∀ g, (Value.slice A' n' c').ownBlock = some g → w0.heap.size ≤ g) → RowB V' (.slice A' n' c') b' := by
  obtain ⟨kv, L, rkv, RL, k1, k2, k3, k4, k5, k6, k7⟩ := h.bo
  subst k4
  refine (rtake_n k3 no (OkD.ofL (kv := rkv) hM).1).mono fun e V' hr => ?_
  obtain ⟨v, kv', L', e1, hm, hL, hR, hB⟩ := hr
  obtain ⟨A, c, rfl, h1, h2, h3, h4⟩ := hR.parts
  refine ⟨A, c, e1, h.moved2 k1 k2 k3 k5 k6 k7 hm hL, h3, fun A' n' c' b' hrow hge => ⟨hrow.1, own_at hrow.2.1 (fun g hg => ?_), hrow.2.2⟩⟩
  obtain ⟨C, e⟩ := own_obj hrow.2.1 hg
  refine hm.keeps.block g (Array.getElem?_eq_some_iff.1 e).1 (fun ht => ?_)
  rcases ht with rfl | ht
  · exact clash k3.top e k3.ty1.1
  · obtain ⟨C', e'⟩ := own_obj k3.row ht
    exact clash e' e (by decide)
theorem at_w (h : Pw w0 nb rb la M lb RM os V) (p : Int) (hp : -9223372036854775808 ≤ p ∧ p ≤ 9223372036854775807) : Calls Try.prog 14 #[.pointer (some ⟨nb, 0, none⟩), .int .i64 p] V fun e V' => e = .returned (.int .i64 (atN M p)) ∧ V' = V := by
  obtain ⟨kv, L, rkv, RL, k1, k2, k3, k4, k5, k6, k7⟩ := h.bo
  subst k2
  exact at_n k1 p hp
theorem rat_w (h : Pw w0 nb rb la M lb RM os V) (p : Int) (hp : -9223372036854775808 ≤ p ∧ p ≤ 9223372036854775807) : Calls Try.prog 15 #[.pointer (some ⟨rb, 0, none⟩), .int .i64 p] V fun e V' => e = .returned (.int .i64 (atN RM p)) ∧ V' = V := by
  obtain ⟨kv, L, rkv, RL, k1, k2, k3, k4, k5, k6, k7⟩ := h.bo
  subst k4
  exact rat_n k3 p hp
theorem count_w (h : Pw w0 nb rb la M lb RM os V) : Calls Try.prog 20 #[.pointer (some ⟨nb, 0, none⟩)] V fun e V' => e = .returned (.int .i64 (M.length : Int)) ∧ V' = V := by
  obtain ⟨kv, L, rkv, RL, k1, k2, k3, k4, k5, k6, k7⟩ := h.bo
  subst k2
  rw [List.length_map]
  exact count_n k1
/-- All: the iterator, and the blocks that it keeps -/
theorem all_w (h : Pw w0 nb rb la M lb RM os V) (hM : OkD M la) :
    Calls Try.prog 19 #[.pointer (some ⟨nb, 0, none⟩)] V fun e V' => ∃ b2 kv2 L, e = .returned (.func (.func 32) #[] #[.pointer (some ⟨b2, 0, none⟩)]) ∧ L.map Md.d = M ∧ Snp V' b2 kv2 L ∧ Pw w0 nb rb la M lb RM os V' ∧ (∀ p ∈ os, p.1 ∉ blks b2 kv2 L) ∧ Below V.heap.size V V' := by
  obtain ⟨kv, L, rkv, RL, k1, k2, k3, k4, k5, k6, k7⟩ := h.bo
  have hP := h
  subst k2
  refine (all_n k1 (OkD.ofL (kv := kv) hM).1).mono fun e V' hr => ?_
  obtain ⟨b2, kv2, rfl, hS, hb2, hkv2, hB, C, hC⟩ := hr
  refine ⟨b2, kv2, L, rfl, rfl, hS, hP.below hB, fun p hp' hg => ?_, hB⟩
  have hl := hP.lt hp'
  exact blks_all (b2 := b2) (kv := kv2) (L := L) (p := fun g => g ≠ p.1) (by omega) (fun g hg e => by have := hkv2 g hg; omega) (fun m hm g hg e => k6 p hp' (.inl (.inr ⟨m, hm, by rw [← e]; exact hg⟩))) _ hg rfl
end
end Go.Proofs.Ythfdnidcmkjmoaa
