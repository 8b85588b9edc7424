/-
  What stands while a law goes: a net, and objects that the law holds; the calls' contracts in these words; the laws' awake. Conditions: as each lemma states.
-/
import Derived.Test.YthfdnidcmkjmoaaNo
import Derived.Test.YthfdnidcmkjmoaaNt
namespace Go.Proofs.Ythfdnidcmkjmoaa
open Go.RowKit
attribute [local go_sem] Oper.semAt_some
set_option linter.unusedVariables false

/-- datagrams as a net may hold them -/
structure OkD (M : List Dg) (last : Int) : Prop where
  len : M.length ≤ 1000
  sm : ∀ d ∈ M, d.b.length ≤ 1000000
  lo : -1000 ≤ last
  hi : last < 4611686018427387904
/-- the net nb stands with its datagrams; these objects are held, and are none of its own -/
structure Pn (w0 : World) (nb : Nat) (last : Int) (M : List Dg) (os : List (Nat × Obj)) (V : World) : Prop where
  bo : ∃ kv L, Na V 59 nb last kv L ∧ L.map Md.d = M ∧ (∀ k, FootN nb kv L k → w0.heap.size ≤ k) ∧ ∀ p ∈ os, ¬ FootN nb kv L p.1
  held : ∀ p ∈ os, V.heap[p.1]? = some p.2
  low : Below w0.heap.size w0 V
section
variable {w0 V V' : World} {nb : Nat} {last last' : Int} {M M' : List Dg} {os : List (Nat × Obj)}
theorem Pn.lt (h : Pn w0 nb last M os V) {p : Nat × Obj} (hp : p ∈ os) : p.1 < V.heap.size := (Array.getElem?_eq_some_iff.1 (h.held p hp)).1
theorem Pn.below (h : Pn w0 nb last M os V) (hb : Below V.heap.size V V') : Pn w0 nb last M os V' := by
  obtain ⟨kv, L, h1, h2, h3, h4⟩ := h.bo
  exact ⟨⟨kv, L, h1.below hb, h2, h3, h4⟩, fun p hp => (hb.block _ (h.lt hp)).trans (h.held p hp), h.low.trans (hb.mono h.low.size)⟩
theorem Pn.alloc (h : Pn w0 nb last M os V) (o : Obj) : Pn w0 nb last M os (V.alloc o) := h.below ((Below.refl _ V).alloc (Nat.le_refl _) o)
theorem Pn.drewN (h : Pn w0 nb last M os V) (q : Nat) : Pn w0 nb last M os (V.drewN q) := h.below (below_drw (Below.refl _ V) q)
theorem Pn.drew (h : Pn w0 nb last M os V) : Pn w0 nb last M os V.drew := h.drewN 1
/-- a block just laid is held -/
theorem Pn.box (h : Pn w0 nb last M os V) (cs : Array Value) (t : TypeId) {k : Nat} (hk : k = V.heap.size) : Pn w0 nb last M ((k, .cells cs t (0, 0)) :: os) (V.alloc (.cells cs t)) := by
  subst hk
  have h2 := h.alloc (.cells cs t)
  obtain ⟨kv, L, g1, g2, g3, g4⟩ := h.bo
  refine ⟨⟨kv, L, g1.alloc _, g2, g3, fun p hp => ?_⟩, fun p hp => ?_, h2.low⟩
  · rcases List.mem_cons.1 hp with rfl | hp
    · intro hf
      have := g1.foot_lt hf
      simp only at this
      omega
    · exact g4 p hp
  · rcases List.mem_cons.1 hp with rfl | hp
    · exact World.alloc_heap_new V _
    · exact h2.held p hp
theorem Pn.sub {os' : List (Nat × Obj)} (h : Pn w0 nb last M os V) (hs : ∀ p ∈ os', p ∈ os) : Pn w0 nb last M os' V := by
  obtain ⟨kv, L, h1, h2, h3, h4⟩ := h.bo
  exact ⟨⟨kv, L, h1, h2, h3, fun p hp => h4 p (hs p hp)⟩, fun p hp => h.held p (hs p hp), h.low⟩
theorem Pn.cells {b : Nat} {C : Array Value} {t : TypeId} (h : Pn w0 nb last M os V) (hp : (b, Obj.cells C t (0, 0)) ∈ os) (j : Nat) : V.cell? ⟨b, j, none⟩ = C[j]? ∧ V.frozen? ⟨b, j, none⟩ = false := cells_of (h.held _ hp) j
/-- a held block's cell is turned -/
theorem Pn.store {b j : Nat} {C : Array Value} {t : TypeId} {v : Value} (h : Pn w0 nb last M ((b, Obj.cells C t (0, 0)) :: os) V) (ho : ∀ p ∈ os, p.1 ≠ b) (hb : w0.heap.size ≤ b) :
    Pn w0 nb last M ((b, Obj.cells (C.setIfInBounds j v) t (0, 0)) :: os) (V.setCell ⟨b, j, none⟩ v) := by
  obtain ⟨kv, L, h1, h2, h3, h4⟩ := h.bo
  have hf := h4 (b, Obj.cells C t (0, 0)) (by simp)
  have hk : Keeps (fun k => k = b) V (V.setCell ⟨b, j, none⟩ v) := Keeps.set (S := fun k => k = b) (Keeps.refl _ _) b j v rfl
  refine ⟨⟨kv, L, h1.keeps hk (fun k hk e => hf (by rw [← e]; exact hk)), h2, h3, fun p hp => ?_⟩, fun p hp => ?_, h.low.setCell (p := ⟨b, j, none⟩) hb _⟩
  · rcases List.mem_cons.1 hp with rfl | hp
    · exact hf
    · exact h4 p (List.mem_cons_of_mem _ hp)
  · rcases List.mem_cons.1 hp with rfl | hp
    · exact heap_setCell_same V b j C t v (h.held (b, Obj.cells C t (0, 0)) (by simp))
    · exact (heap_setCell_other V ⟨b, j, none⟩ p.1 v (fun e => ho p hp e)).trans (h.held p (List.mem_cons_of_mem _ hp))
/-- another row of the call's own, grown, is held in its place -/
theorem Pn.turn {g : Nat} {o : Obj} {W : World} {S : Nat → Prop} (h : Pn w0 nb last M ((g, o) :: os) V) (hk : Keeps S V W) (hs : ∀ k, S k → k = g) (ho : ∀ p ∈ os, p.1 ≠ g) (hb : w0.heap.size ≤ g) : Pn w0 nb last M os W := by
  obtain ⟨kv, L, h1, h2, h3, h4⟩ := h.bo
  have hf := h4 (g, o) (by simp)
  exact ⟨⟨kv, L, h1.keeps hk (fun k hk e => hf (by rw [← hs k e]; exact hk)), h2, h3, fun p hp => h4 p (List.mem_cons_of_mem _ hp)⟩,
    fun p hp => (hk.block _ (h.lt (List.mem_cons_of_mem _ hp)) (fun e => ho p hp (hs _ e))).trans (h.held p (List.mem_cons_of_mem _ hp)), h.low.trans (hk.below (fun k e => by rw [hs k e]; exact hb) h.low.size)⟩
/-- one that is none of the net's is held too -/
theorem Pn.hold {g : Nat} {o : Obj} (h : Pn w0 nb last M os V) (hg : V.heap[g]? = some o) (hn : ∀ kv L, Na V 59 nb last kv L → L.map Md.d = M → (∀ p ∈ os, ¬ FootN nb kv L p.1) → ¬ FootN nb kv L g) : Pn w0 nb last M ((g, o) :: os) V := by
  obtain ⟨kv, L, h1, h2, h3, h4⟩ := h.bo
  refine ⟨⟨kv, L, h1, h2, h3, fun p hp => ?_⟩, fun p hp => ?_, h.low⟩
  · rcases List.mem_cons.1 hp with rfl | hp
    · exact hn kv L h1 h2 h4
    · exact h4 p hp
  · rcases List.mem_cons.1 hp with rfl | hp
    · exact hg
    · exact h.held p hp
theorem Pn.moved {e : Ending} {kv : Value} {L : List Md} {w' : World} {kv' : Value} {L' : List Md} (h : Pn w0 nb last M os V) (h3 : ∀ k, FootN nb kv L k → w0.heap.size ≤ k) (h4 : ∀ p ∈ os, ¬ FootN nb kv L p.1) (hm : MvN V 59 nb kv L w' last' kv' L') (hM : L'.map Md.d = M') : Pn w0 nb last' M' os w' :=
  ⟨⟨kv', L', hm.na, hM, fun k hk => (hm.foot k hk).elim (h3 k) (fun e => Nat.le_trans h.low.size e), fun p hp hf => (hm.foot _ hf).elim (h4 p hp) (fun e => by have := h.lt hp; omega)⟩,
    fun p hp => (hm.keeps.block _ (h.lt hp) (fun e => h4 p hp (.inl e))).trans (h.held p hp), h.low.trans (hm.keeps.below (fun k e => h3 k (.inl e)) h.low.size)⟩
theorem OkD.ofL {kv : Value} {L : List Md} (h : OkD (L.map Md.d) last) : L.length ≤ 1000 ∧ ∀ m ∈ L, m.d.b.length ≤ 1000000 := ⟨by have := h.len; rwa [List.length_map] at this, fun m hm => h.sm _ (List.mem_map.2 ⟨m, hm, rfl⟩)⟩

theorem send_p (h : Pn w0 nb last M os V) (hM : OkD M last) (f t : A2) (hf : isA f) (ht : isA t) (A : Option Addr) (n c : Nat) (b : List Int) (hb : Bts V A n b) (hnil : A = none → n = 0 ∧ c = 0) (hn : n ≤ 1000000) :
    Calls Try.prog 10 #[.pointer (some ⟨nb, 0, none⟩), adr f, adr t, .slice A n c] V fun e V' => e = .returned (twoV (sendN M last f t b).1) ∧ Pn w0 nb (sendN M last f t b).2.2 (sendN M last f t b).2.1 os V' := by
  obtain ⟨kv, L, h1, h2, h3, h4⟩ := h.bo
  subst h2
  refine (send_n h1 f t hf ht A n c b hb hnil hn hM.lo hM.hi (OkD.ofL (kv := kv) hM).1).mono fun e V' hr => ?_
  obtain ⟨e1, kv', L', hm, hL⟩ := hr
  exact ⟨e1, h.moved (e := e) h3 h4 hm hL⟩
theorem copy_p (h : Pn w0 nb last M os V) (hM : OkD M last) (no : Int) :
    Calls Try.prog 12 #[.pointer (some ⟨nb, 0, none⟩), .int .i64 no] V fun e V' => e = .returned (twoV (copyN M last no).1) ∧ Pn w0 nb (copyN M last no).2.2 (copyN M last no).2.1 os V' := by
  obtain ⟨kv, L, h1, h2, h3, h4⟩ := h.bo
  subst h2
  refine (copy_n h1 no hM.lo hM.hi (OkD.ofL (kv := kv) hM).1).mono fun e V' hr => ?_
  obtain ⟨e1, kv', L', hm, hL⟩ := hr
  exact ⟨e1, h.moved (e := e) h3 h4 hm hL⟩
/-- bytes that a Take hands over: rows of the call's own, that are none of the net's -/
theorem take_p (h : Pn w0 nb last M os V) (hM : OkD M last) (no : Int) :
    Calls Try.prog 16 #[.pointer (some ⟨nb, 0, none⟩), .int .i64 no] V fun e V' => ∃ v, e = .returned (takeV (takeN M no).1.1 v (takeN M no).1.2) ∧ Pn w0 nb last (takeN M no).2 os V' ∧ RowB V' v (takeN M no).1.1.b ∧
      ∀ g, v.ownBlock = some g → V.heap.size ≤ g ∧ ∀ o, V'.heap[g]? = some o → Pn w0 nb last (takeN M no).2 ((g, o) :: os) V' := by
  obtain ⟨kv, L, h1, h2, h3, h4⟩ := h.bo
  subst h2
  refine (take_n h1 no (OkD.ofL (kv := kv) hM).1 (OkD.ofL (kv := kv) hM).2).mono fun e V' hr => ?_
  obtain ⟨v, kv', L', e1, hm, hL, hR, hB⟩ := hr
  have hp := h.moved (e := e) h3 h4 hm hL
  refine ⟨v, e1, hp, hR, fun g hg => ⟨(hB g hg).1, fun o ho => ?_⟩⟩
  refine ⟨⟨kv', L', hm.na, hL, fun k hk => (hm.foot k hk).elim (h3 k) (fun e => Nat.le_trans h.low.size e), fun p hp hf => ?_⟩, fun p hp' => ?_, hp.low⟩
  · rcases List.mem_cons.1 hp with rfl | hp
    · exact (hB g hg).2 hf
    · exact (hm.foot _ hf).elim (h4 p hp) (fun e => by have := h.lt hp; omega)
  · rcases List.mem_cons.1 hp' with rfl | hp'
    · exact ho
    · exact hp.held p hp'
theorem at_p (h : Pn w0 nb last M os V) (p : Int) (hp : -9223372036854775808 ≤ p ∧ p ≤ 9223372036854775807) : Calls Try.prog 14 #[.pointer (some ⟨nb, 0, none⟩), .int .i64 p] V fun e V' => e = .returned (.int .i64 (atN M p)) ∧ V' = V := by
  obtain ⟨kv, L, h1, h2, h3, h4⟩ := h.bo
  subst h2
  exact at_n h1 p hp
theorem count_p (h : Pn w0 nb last M os V) : Calls Try.prog 20 #[.pointer (some ⟨nb, 0, none⟩)] V fun e V' => e = .returned (.int .i64 (M.length : Int)) ∧ V' = V := by
  obtain ⟨kv, L, h1, h2, h3, h4⟩ := h.bo
  subst h2
  rw [List.length_map]
  exact count_n h1
end
/-- a new net -/
theorem new_p {w0 V : World} (os : List (Nat × Obj)) (hl : Below w0.heap.size w0 V) (ho : ∀ p ∈ os, V.heap[p.1]? = some p.2) :
    Calls Try.prog 9 #[] V fun e V' => e = .returned (.pointer (some ⟨V.heap.size, 0, none⟩)) ∧ Pn w0 V.heap.size 0 [] os V' := by
  refine (new_n V).mono fun e V' hr => ?_
  obtain ⟨rfl, h1, h2⟩ := hr
  refine ⟨rfl, ⟨_, _, h1, rfl, fun k hk => ?_, fun p hp hk => ?_⟩, fun p hp => (h2.block _ (Array.getElem?_eq_some_iff.1 (ho p hp)).1).trans (ho p hp), hl.trans (h2.mono hl.size)⟩
  · rcases hk with (rfl | hk) | ⟨m, hm, _⟩
    · exact hl.size
    · cases hk
    · cases hm
  · have := (Array.getElem?_eq_some_iff.1 (ho p hp)).1
    rcases hk with (e | hk) | ⟨m, hm, _⟩
    · omega
    · cases hk
    · cases hm
theorem OkD.nil : OkD [] 0 := ⟨by simp, by simp, by decide, by decide⟩
end Go.Proofs.Ythfdnidcmkjmoaa
