/-
  Contracts of nat's New, Box and Reboot. Conditions: as each lemma states.
  What stands while a law goes: a box with its bindings, and the blocks that the law holds; the calls' contracts in these words. Conditions: as each lemma states.
  The contract of nat's Drop. Conditions: the box lies in memory; at most 100 bindings.
  The contract of nat's Ask. Conditions: the box may be made so, and lies in memory; at most 100 bindings, each with at most sixteen seen ones.
  Contracts of the laws' Box and awake. Conditions: as each lemma states.
  Inputs of the laws read as plain data: an address, two addresses, a row of addresses, a row of bytes. Conditions: as each lemma states.
  What NatLasts' and NatOne's walks are told: a box with one binding, as times go on. Conditions: as each lemma states.
-/
import Derived.Test.YtemlnkcokeckmaaMh7
import Derived.Test.YtemlnkcokeckmaaMh10
import Derived.Test.YtemlnkcokeckmaaMh11
import Derived.WalkKit
import Derived.ProofKit
import Derived.OpenShut
import Derived.ShutString
import Derived.ChangeOld
import Derived.Lib.SmallJoins
import Derived.Deep.Slices
namespace Go.Proofs.Ytemlnkcokeckmaa
open Go.RowKit
attribute [local go_sem] Oper.semAt_some
set_option linter.unusedVariables false

/-- what New leaves -/
def Made (w : World) (x : Bx) : Ending → World → Prop := fun e w' => Below w.heap.size w w' ∧ if box2 x = true then ∃ g, e = .returned (.tuple #[.pointer (some ⟨g, 0, none⟩), .int .i64 0]) ∧ w.heap.size ≤ g ∧ Na w' g x 0 (.slice none 0 0) [] else e = .returned (.tuple #[.pointer none, .int .i64 1])
set_option maxHeartbeats 1000000 in
theorem new_any (x : Bx) (w : World) (hx : isBx x) : Calls Try.prog 14 #[.agg (boxCells x)] w (Made w x) := by
  have HI := Lib.hid (fun W => isBox_any x W hx)
  cases hb : box2 x with
  | false =>
    rw [hb] at HI
    have HB := Lib.hid hb
    clear hb
    unfold boxCells at *
    go_enter Try.func14, Try.ntmps14
    go_wp2_with fail
    refine (HI.out _).mono ?_
    rintro e w1 ⟨rfl, hb1⟩
    have HB1 := Lib.hid hb1; clear hb1
    go_wp2
    go_ret2
    exact ⟨((Below.refl _ _).alloc (Nat.le_refl _) _).trans (HB1.out.mono (by simp)), by rw [HB.out, if_neg (by simp)]; rfl⟩
  | true =>
    rw [hb] at HI
    have HB := Lib.hid hb
    clear hb
    unfold boxCells at *
    go_enter Try.func14, Try.ntmps14
    go_wp2_with fail
    refine (HI.out _).mono ?_
    rintro e w1 ⟨rfl, hb1⟩
    have HB1 := Lib.hid hb1
    have c0 := hb1.cell (p := ⟨w.heap.size, 0, none⟩) (by simp)
    have c1 := hb1.cell (p := ⟨w.heap.size, 1, none⟩) (by simp)
    have c2 := hb1.cell (p := ⟨w.heap.size, 2, none⟩) (by simp)
    have c3 := hb1.cell (p := ⟨w.heap.size, 3, none⟩) (by simp)
    have c4 := hb1.cell (p := ⟨w.heap.size, 4, none⟩) (by simp)
    have c5 := hb1.cell (p := ⟨w.heap.size, 5, none⟩) (by simp)
    have c6 := hb1.cell (p := ⟨w.heap.size, 6, none⟩) (by simp)
    clear hb1
    have HS : Hid (w.heap.size + 1 ≤ w1.heap.size) := Lib.hid (by have := HB1.out.size; simpa using this)
    go_wp2
    go_ret2
    refine ⟨(((Below.refl _ _).alloc (Nat.le_refl _) _).trans (HB1.out.mono (by simp))).alloc (by have := HS.out; omega) _, ?_⟩
    rw [HB.out, if_pos rfl]
    exact ⟨_, rfl, by have := HS.out; omega, World.alloc_heap_new w1 _, World.ownsRow_nil _ _ _ _, by simp, List.Pairwise.nil⟩
set_option maxHeartbeats 1000000 in
theorem box_any (nb : Nat) (x : Bx) (now : Int) (kv : Value) (L : List Nd) (w : World) (h : Na w nb x now kv L) : Calls Try.prog 16 #[.pointer (some ⟨nb, 0, none⟩)] w fun e w' => e = .returned (.agg (boxCells x)) ∧ Below w.heap.size w w' := by
  obtain ⟨c0, c1, c2, c3, c4, c5, c6⟩ := h.cells.1
  have hlt := h.lt
  have HB : Hid (∀ o, Below w.heap.size w (w.alloc o)) := Lib.hid (fun o => (Below.refl _ w).alloc (Nat.le_refl _) _)
  clear h
  unfold boxCells
  go_enter Try.func16, Try.ntmps16
  go_wp2
  exact ⟨rfl, .agg #[.int .u32 x.host, .int .i64 x.lo, .int .i64 x.hi, .int .i64 x.map, .int .i64 x.filter, .int .i64 x.life, .int .i64 x.most], by simp [results, Try.results16, go_sem], rfl, HB.out _⟩
set_option maxHeartbeats 1000000 in
theorem reboot_any (nb : Nat) (x : Bx) (now : Int) (kv : Value) (L : List Nd) (w : World) (h : Na w nb x now kv L) : Calls Try.prog 25 #[.pointer (some ⟨nb, 0, none⟩)] w fun e w' => e = .returned (.tuple #[]) ∧ Mvd nb x kv L w 0 (.slice none 0 0) [] w' := by
  have c7 := h.cells.2.1
  have c8 := h.cells.2.2.1
  have f7 := h.cells.2.2.2 7
  have f8 := h.cells.2.2.2 8
  have H := Lib.hid h
  clear h
  go_enter Try.func25, Try.ntmps25
  go_wp2
  go_end0
  refine ⟨rfl, ⟨heap_setCell_same _ nb 8 _ 90 _ (heap_setCell_same w nb 7 _ 90 _ H.out.top), World.ownsRow_nil _ _ _ _, by simp, List.Pairwise.nil⟩, fun k hk => .inl ?_, ((Keeps.refl _ w).set nb 7 _ (.inl rfl)).set nb 8 _ (.inl rfl)⟩
  rcases hk with rfl | hk | ⟨d, hd, _⟩
  · exact .inl rfl
  · cases hk
  · cases hd
end Go.Proofs.Ytemlnkcokeckmaa
namespace Go.Proofs.Ytemlnkcokeckmaa
open Go.RowKit
set_option linter.unusedVariables false

/-- bindings as a box may hold them -/
structure OkM (M : List Bn) : Prop where
  len : M.length ≤ 100
  seen : ∀ b ∈ M, b.seen.length ≤ 16
theorem OkM.ofL {L : List Nd} (h : OkM (L.map Nd.b)) : OkL L := ⟨by have := h.len; rwa [List.length_map] at this, fun d hd => h.seen _ (List.mem_map.2 ⟨d, hd, rfl⟩)⟩
/-- the box nb stands with its time and its bindings; these objects are held, and are none of its own -/
structure Pl (w0 : World) (nb : Nat) (x : Bx) (now : Int) (M : List Bn) (os : List (Nat × Obj)) (V : World) : Prop where
  bo : ∃ kv L, Na V nb x now kv L ∧ L.map Nd.b = M ∧ (∀ k, Foot nb kv L k → w0.heap.size ≤ k) ∧ ∀ p ∈ os, ¬ Foot nb kv L p.1
  held : ∀ p ∈ os, V.heap[p.1]? = some p.2
  low : Below w0.heap.size w0 V
section
variable {w0 V V' : World} {nb : Nat} {x : Bx} {now now' : Int} {M M' : List Bn} {os : List (Nat × Obj)}
theorem Pl.lt (h : Pl w0 nb x now M os V) {p : Nat × Obj} (hp : p ∈ os) : p.1 < V.heap.size := (Array.getElem?_eq_some_iff.1 (h.held p hp)).1
theorem Pl.below (h : Pl w0 nb x now M os V) (hb : Below V.heap.size V V') : Pl w0 nb x now M os V' := by
  obtain ⟨kv, L, h1, h2, h3, h4⟩ := h.bo
  exact ⟨⟨kv, L, h1.below hb, h2, h3, h4⟩, fun p hp => (hb.block _ (h.lt hp)).trans (h.held p hp), h.low.trans (hb.mono h.low.size)⟩
theorem Pl.alloc (h : Pl w0 nb x now M os V) (o : Obj) : Pl w0 nb x now M os (V.alloc o) := h.below ((Below.refl _ V).alloc (Nat.le_refl _) o)
theorem Pl.drewN (h : Pl w0 nb x now M os V) (q : Nat) : Pl w0 nb x now M os (V.drewN q) := h.below (below_drw (Below.refl _ V) q)
theorem Pl.hold {k : Nat} {o : Obj} (h : Pl w0 nb x now M os V) (o' : Obj) (h1 : (V.alloc o').heap[k]? = some o) (hk : k = V.heap.size) : Pl w0 nb x now M ((k, o) :: os) (V.alloc o') := by
  have h2 := h.alloc o'
  obtain ⟨kv, L, g1, g2, g3, g4⟩ := h.bo
  refine ⟨⟨kv, L, g1.below ((Below.refl _ V).alloc (Nat.le_refl _) o'), g2, g3, fun p hp => ?_⟩, fun p hp => ?_, h2.low⟩
  · rcases List.mem_cons.1 hp with rfl | hp
    · intro hf
      have := g1.foot_lt hf
      simp only at this
      omega
    · exact g4 p hp
  · rcases List.mem_cons.1 hp with rfl | hp
    · exact h1
    · exact h2.held p hp
theorem Pl.hold' (h : Pl w0 nb x now M os V) (o : Obj) (he : ∃ cs t, o = .cells cs t (0, 0)) : Pl w0 nb x now M ((V.heap.size, o) :: os) (V.alloc o) := h.hold o (World.alloc_heap_new V o) rfl
theorem Pl.moved {kv : Value} {L : List Nd} (h : Pl w0 nb x now M os V) (hm : ∀ kv L, Na V nb x now kv L → L.map Nd.b = M → ∃ kv' L', Mvd nb x kv L V now' kv' L' V' ∧ L'.map Nd.b = M') : Pl w0 nb x now' M' os V' := by
  obtain ⟨kv, L, h1, h2, h3, h4⟩ := h.bo
  obtain ⟨kv', L', m1, m2⟩ := hm kv L h1 h2
  refine ⟨⟨kv', L', m1.na, m2, fun k hk => (m1.foot k hk).elim (h3 k) (fun e => Nat.le_trans h.low.size e), fun p hp hf => ?_⟩, fun p hp => ?_, h.low.trans (m1.keeps.below h3 h.low.size)⟩
  · rcases m1.foot _ hf with e | e
    · exact h4 p hp e
    · have := h.lt hp; omega
  · exact (m1.keeps.block _ (h.lt hp) (h4 p hp)).trans (h.held p hp)
theorem Pl.cells {b : Nat} {C : Array Value} {t : TypeId} (h : Pl w0 nb x now M os V) (hp : (b, Obj.cells C t (0, 0)) ∈ os) (j : Nat) : V.cell? ⟨b, j, none⟩ = C[j]? ∧ V.frozen? ⟨b, j, none⟩ = false := cells_of (h.held _ hp) j
theorem Pl.sub {os' : List (Nat × Obj)} (h : Pl w0 nb x now M os V) (hs : ∀ p ∈ os', p ∈ os) : Pl w0 nb x now M os' V := by
  obtain ⟨kv, L, h1, h2, h3, h4⟩ := h.bo
  exact ⟨⟨kv, L, h1, h2, h3, fun p hp => h4 p (hs p hp)⟩, fun p hp => h.held p (hs p hp), h.low⟩
/-- a held block's cell is turned -/
theorem Pl.store {b j : Nat} {C : Array Value} {t : TypeId} {v : Value} (h : Pl w0 nb x now M ((b, Obj.cells C t (0, 0)) :: os) V) (ho : ∀ p ∈ os, p.1 ≠ b) (hb : w0.heap.size ≤ b) :
    Pl w0 nb x now M ((b, Obj.cells (C.setIfInBounds j v) t (0, 0)) :: os) (V.setCell ⟨b, j, none⟩ v) := by
  obtain ⟨kv, L, h1, h2, h3, h4⟩ := h.bo
  have hf := h4 (b, Obj.cells C t (0, 0)) (by simp)
  have hk : Keeps (fun k => k = b) V (V.setCell ⟨b, j, none⟩ v) := Keeps.set (S := fun k => k = b) (Keeps.refl _ _) b j v rfl
  refine ⟨⟨kv, L, h1.keeps hk (fun k hk e => hf (by rw [← e]; exact hk)), h2, h3, fun p hp => ?_⟩, fun p hp => ?_, h.low.setCell (p := ⟨b, j, none⟩) hb _⟩
  · rcases List.mem_cons.1 hp with rfl | hp
    · exact hf
    · exact h4 p (List.mem_cons_of_mem _ hp)
  · rcases List.mem_cons.1 hp with rfl | hp
    · exact heap_setCell_same V b j C t v (h.held (b, Obj.cells C t (0, 0)) (by simp))
    · exact (heap_setCell_other V ⟨b, j, none⟩ p.1 v (fun e => ho p hp e)).trans (h.held p (List.mem_cons_of_mem _ hp))
/-- what Out answers and leaves, at any time -/
def outS (x : Bx) (now : Int) (M : List Bn) (t : Int) (a b : A2) : A2 × Int × Int × List Bn :=
  if goes now t = true then ((outM x (liveM M t) t a b).1, (outM x (liveM M t) t a b).2.1, t, (outM x (liveM M t) t a b).2.2) else ((0, 0), 1, now, M)
theorem out_pl (h : Pl w0 nb x now M os V) (hx : OkB x) (hM : OkM M) (t : Int) (a b : A2) (ha : isA a) (hb : isA b) (h0 : 0 ≤ now) :
    Calls Try.prog 17 #[.pointer (some ⟨nb, 0, none⟩), .int .i64 t, adr a, adr b] V fun e V' => e = .returned (ansA (outS x now M t a b).1 (outS x now M t a b).2.1) ∧ Pl w0 nb x (outS x now M t a b).2.2.1 (outS x now M t a b).2.2.2 os V' := by
  obtain ⟨kv, L, h1, h2, h3, h4⟩ := h.bo
  subst h2
  refine (out_any nb x now kv L t a b V h1 hx hM.ofL ha hb h0).mono fun e V' hr => ?_
  unfold OutR at hr
  unfold outS
  by_cases hg : goes now t = true
  · rw [if_pos hg] at hr ⊢
    obtain ⟨kv', L', g1, g2, g3⟩ := hr
    refine ⟨g1, ⟨kv', L', g2.na, g3, fun k hk => (g2.foot k hk).elim (h3 k) (fun e => Nat.le_trans h.low.size e), fun p hp hf => ?_⟩, fun p hp => ?_, h.low.trans (g2.keeps.below h3 h.low.size)⟩
    · exact (g2.foot _ hf).elim (h4 p hp) (fun e => by have := h.lt hp; omega)
    · exact (g2.keeps.block _ (h.lt hp) (h4 p hp)).trans (h.held p hp)
  · rw [if_neg hg] at hr ⊢
    obtain ⟨g1, g2⟩ := hr
    refine ⟨g1, ⟨kv, L, g2.na, rfl, h3, h4⟩, fun p hp => ?_, h.low.trans (g2.keeps.below h3 h.low.size)⟩
    exact (g2.keeps.block _ (h.lt hp) (h4 p hp)).trans (h.held p hp)
/-- what In answers and leaves, at any time -/
def inS (x : Bx) (now : Int) (M : List Bn) (t p : Int) (f : A2) : A2 × Int × Int × List Bn :=
  if goes now t = true then ((inM x (liveM M t) p f).1, (inM x (liveM M t) p f).2, t, liveM M t) else ((0, 0), 1, now, M)
theorem in_pl (h : Pl w0 nb x now M os V) (hM : OkM M) (t p : Int) (f : A2) (hf : isA f) :
    Calls Try.prog 19 #[.pointer (some ⟨nb, 0, none⟩), .int .i64 t, .int .i64 p, adr f] V fun e V' => e = .returned (ansA (inS x now M t p f).1 (inS x now M t p f).2.1) ∧ Pl w0 nb x (inS x now M t p f).2.2.1 (inS x now M t p f).2.2.2 os V' := by
  obtain ⟨kv, L, h1, h2, h3, h4⟩ := h.bo
  subst h2
  refine (in_any nb x now kv L t p f V h1 hM.ofL hf).mono fun e V' hr => ?_
  unfold InR at hr
  unfold inS
  by_cases hg : goes now t = true
  · rw [if_pos hg] at hr ⊢
    obtain ⟨kv', g1, g2⟩ := hr
    refine ⟨g1, ⟨kv', _, g2.na, live_map L t, fun k hk => (g2.foot k hk).elim (h3 k) (fun e => Nat.le_trans h.low.size e), fun p hp hf => ?_⟩, fun p hp => ?_, h.low.trans (g2.keeps.below h3 h.low.size)⟩
    · exact (g2.foot _ hf).elim (h4 p hp) (fun e => by have := h.lt hp; omega)
    · exact (g2.keeps.block _ (h.lt hp) (h4 p hp)).trans (h.held p hp)
  · rw [if_neg hg] at hr ⊢
    obtain ⟨g1, g2⟩ := hr
    refine ⟨g1, ⟨kv, L, g2.na, rfl, h3, h4⟩, fun p hp => ?_, h.low.trans (g2.keeps.below h3 h.low.size)⟩
    exact (g2.keeps.block _ (h.lt hp) (h4 p hp)).trans (h.held p hp)
end
/-- a new box -/
theorem new_pl {w0 V : World} (x : Bx) (hx : isBx x) (hb : box2 x = true) (os : List (Nat × Obj)) (hl : Below w0.heap.size w0 V) (ho : ∀ p ∈ os, V.heap[p.1]? = some p.2) :
    Calls Try.prog 14 #[.agg (boxCells x)] V fun e V' => ∃ g, e = .returned (.tuple #[.pointer (some ⟨g, 0, none⟩), .int .i64 0]) ∧ Pl w0 g x 0 [] os V' := by
  refine (new_any x V hx).mono fun e V' hr => ?_
  obtain ⟨h1, h2⟩ := hr
  rw [if_pos hb] at h2
  obtain ⟨g, rfl, h3, h4⟩ := h2
  refine ⟨g, rfl, ⟨_, _, h4, rfl, fun k hk => ?_, fun p hp hk => ?_⟩, fun p hp => (h1.block _ (Array.getElem?_eq_some_iff.1 (ho p hp)).1).trans (ho p hp), hl.trans (h1.mono hl.size)⟩
  · rcases hk with rfl | hk | ⟨d, hd, _⟩
    · exact Nat.le_trans hl.size h3
    · cases hk
    · cases hd
  · have := (Array.getElem?_eq_some_iff.1 (ho p hp)).1
    rcases hk with e | hk | ⟨d, hd, _⟩
    · omega
    · cases hk
    · cases hd
end Go.Proofs.Ytemlnkcokeckmaa
namespace Go.Proofs.Ytemlnkcokeckmaa
open Go.RowKit
attribute [local go_sem] Oper.semAt_some
set_option linter.unusedVariables false

/-- the first of which it holds is struck -/
def dropM (M : List Bn) (a : A2) : List Bn := M.eraseP (askF a)
theorem filter_one {L : List Nd} (hs : L.Pairwise Apart) (o : Option Nd) (f : Nd → Bool) (ho : L.find? f = o) :
    L.filter (fun d => !decide (o.map Nd.p = some d.p)) = L.eraseP f := by
  subst ho
  induction L with
  | nil => rfl
  | cons d L ih =>
    obtain ⟨h1, h2⟩ := List.pairwise_cons.1 hs
    cases hf : f d with
    | true =>
      rw [List.find?_cons_of_pos hf, List.eraseP_cons_of_pos hf, List.filter_cons_of_neg (by simp)]
      rw [List.filter_eq_self]
      intro e he
      have := (h1 e he).1
      simp [this]
    | false =>
      have hn : ¬ f d = true := by simp [hf]
      rw [List.find?_cons_of_neg hn, List.eraseP_cons_of_neg hn, List.filter_cons_of_pos ?_]
      · rw [ih h2]
      · cases hx : L.find? f with
        | none => simp
        | some e =>
          have := (h1 e (List.mem_of_find?_eq_some hx)).1
          simp [Ne.symm this]
/-- what Drop leaves -/
def DropR (w : World) (nb : Nat) (x : Bx) (now : Int) (kv : Value) (L : List Nd) (t : Int) (a : A2) : Ending → World → Prop := fun e w' =>
  if goes now t = true then ∃ kv' L', e = .returned (.bool ((liveM (L.map Nd.b) t).any (askF a))) ∧ Mvd nb x kv L w t kv' L' w' ∧ L'.map Nd.b = dropM (liveM (L.map Nd.b) t) a
  else e = .returned (.bool false) ∧ Mvd nb x kv L w now kv L w'

set_option maxRecDepth 100000 in
set_option maxHeartbeats 8000000 in
theorem drop_any (nb : Nat) (x : Bx) (now : Int) (kv : Value) (L : List Nd) (t : Int) (a : A2) (w : World) (h : Na w nb x now kv L) (hL : OkL L) :
    Calls Try.prog 23 #[.pointer (some ⟨nb, 0, none⟩), .int .i64 t, adr a] w (DropR w nb x now kv L t a) := by
  have H := Lib.hid h; have HL := Lib.hid hL
  have hlt := h.lt
  clear h hL
  unfold adr
  go_enter Try.func23, Try.ntmps23
  go_wp2_with fail
  obtain ⟨V0, hV⟩ : ∃ V0, (w.alloc (.cells #[.int .u32 a.1, .int .i64 a.2] 38)) = V0 := ⟨_, rfl⟩
  rw [hV]
  have hvs : V0.heap.size = w.heap.size + 1 := by rw [← hV]; simp
  have HBV : Hid (Below w.heap.size w V0) := Lib.hid (by rw [← hV]; exact (Below.refl _ w).alloc (Nat.le_refl _) _)
  have HXS : Hid (V0.heap[w.heap.size]? = some (.cells #[.int .u32 a.1, .int .i64 a.2] 38 (0, 0))) := Lib.hid (by rw [← hV]; exact World.alloc_heap_new w _)
  clear hV
  have HM0 : Hid (Mvd nb x kv L w now kv L V0) := Lib.hid (Mvd.same H.out HBV.out)
  have HFT : Hid (∀ k, Foot nb kv L k → k < w.heap.size) := Lib.hid (fun k hk => H.out.foot_lt hk)
  have HBX : Hid (∀ nw kv1 L1 W, Mvd nb x kv L V0 nw kv1 L1 W → (W.cell? ⟨w.heap.size, 0, none⟩ = some (.int .u32 a.1) ∧ W.cell? ⟨w.heap.size, 1, none⟩ = some (.int .i64 a.2)) ∧ Mvd nb x kv L w nw kv1 L1 W) := Lib.hid (fun nw kv1 L1 W hm => by
    have h1 := (hm.keeps.block w.heap.size (by omega) (fun hf => by have := HFT.out _ hf; omega)).trans HXS.out
    exact ⟨⟨(cells_of h1 0).1, (cells_of h1 1).1⟩, HM0.out.trans hm⟩)
  have HG := Lib.hid (goesOn_any nb x now t kv L V0 (H.out.below HBV.out) (by have := HL.out.len; omega))
  have HNV := Lib.hid (H.out.below HBV.out)
  refine HG.out.mono ?_
  intro e w1 hw1
  obtain rfl := hw1.1
  cases hg : goes now t with
  | false =>
    have hm1 : Mvd nb x kv L V0 now kv L w1 := Mvd.same HNV.out (by have := hw1.2; rw [hg, if_neg (by simp)] at this; exact this)
    have HE := Lib.hid (HM0.out.trans hm1)
    have HGG := Lib.hid hg
    clear hm1 hw1 hg
    go_wp2
    go_ret
    unfold DropR
    rw [HGG.out, if_neg (by simp)]
    exact ⟨rfl, HE.out⟩
  | true =>
    obtain ⟨kv1, hm1⟩ := Mvd.went HNV.out hw1 hg
    have HL1 := Lib.hid (HL.out.live t)
    have HLM : Hid ((liveN L t).map Nd.b = liveM (L.map Nd.b) t) := Lib.hid (live_map L t)
    have HRES : Hid (∀ r kv' L' w', r = (liveM (L.map Nd.b) t).any (askF a) → Mvd nb x kv L w t kv' L' w' → L'.map Nd.b = dropM (liveM (L.map Nd.b) t) a → DropR w nb x now kv L t a (.returned (.bool r)) w') := Lib.hid (fun r kv' L' w' h1 h2 h3 => by
      unfold DropR
      rw [if_pos hg]
      exact ⟨kv', L', by rw [h1], h2, h3⟩)
    clear hw1 hg
    generalize liveN L t = L1 at *
    generalize liveM (L.map Nd.b) t = M1 at *
    have HM1 := Lib.hid hm1
    obtain ⟨⟨q0, q1⟩, -⟩ := HBX.out _ _ _ _ hm1
    have HASK := Lib.hid (asked_any nb x t kv1 L1 a w1 hm1.na (by have := HL1.out.len; omega))
    unfold adr at HASK
    clear hm1
    go_wp2_with fail
    refine HASK.out.mono ?_
    rintro e w2 ⟨rfl, hb2⟩
    have hm2 := HM1.out.trans (.same HM1.out.na hb2)
    have HM2 := Lib.hid hm2
    obtain ⟨o, ho⟩ : ∃ o, o = L1.find? (fun d => inF a d && d.b.asked) := ⟨_, rfl⟩
    rw [← ho]
    have HO := Lib.hid ho
    clear hb2 hm2 q0 q1 ho
    unfold ptrO
    have HNA : Hid (Na (w2.alloc (.cells #[.pointer (o.map fun d => ⟨d.p, 0, none⟩)] 93)) nb x t kv1 L1) := Lib.hid (HM2.out.na.below ((Below.refl _ w2).alloc (Nat.le_refl _) _))
    have HAL : Hid (Below w2.heap.size w2 (w2.alloc (.cells #[.pointer (o.map fun d => ⟨d.p, 0, none⟩)] 93))) := Lib.hid ((Below.refl _ w2).alloc (Nat.le_refl _) _)
    have HCC : Hid ((w2.alloc (.cells #[.pointer (o.map fun d => ⟨d.p, 0, none⟩)] 93)).cell? ⟨w2.heap.size, 0, none⟩ = some (.pointer ((o.map Nd.p).map fun k => ⟨k, 0, none⟩))) := Lib.hid (by
      rw [(cells_of (World.alloc_heap_new w2 _) 0).1, Option.map_map]; rfl)
    have HMEM : Hid (∀ k, o.map Nd.p = some k → ∃ d ∈ L1, d.p = k) := Lib.hid (fun k hk => by
      rw [HO.out] at hk
      obtain ⟨d, hd, rfl⟩ := Option.map_eq_some_iff.1 hk
      exact ⟨d, List.mem_of_find?_eq_some hd, rfl⟩)
    go_wp2_with fail
    have HNC : Hid (kv1.ownBlock ≠ some w2.heap.size) := Lib.hid (fun e => by have := HM2.out.na.foot_lt (.inr (.inl e)); omega)
    have HF := Lib.hid (forget41 w2.heap.size nb x t kv1 L1 (fun d => decide (o.map Nd.p = some d.p)) _ HNA.out (by have := HL1.out.len; omega) (isHad_tests (o.map Nd.p) HNA.out HCC.out HNC.out HMEM.out))
    have HFLT : Hid ((L1.filter (fun d => !decide (o.map Nd.p = some d.p))).map Nd.b = dropM M1 a) := Lib.hid (by
      rw [filter_one HM2.out.na.sep o (fun d => inF a d && d.b.asked) HO.out.symm, ← HLM.out]
      unfold dropM
      rw [List.eraseP_map]
      rfl)
    have HFT2 := Lib.hid (fun k (hk : Foot nb kv1 L1 k) => HM2.out.na.foot_lt hk)
    have HANY : Hid (o.isSome = M1.any (askF a)) := Lib.hid (by
      rw [HO.out, ← HLM.out, List.any_map, Bool.eq_iff_iff, List.find?_isSome, List.any_eq_true]
      rfl)
    have HCK : Hid (∀ W, Keeps (fun k => k = nb ∨ kv1.ownBlock = some k) (w2.alloc (.cells #[.pointer (o.map fun d => ⟨d.p, 0, none⟩)] 93)) W → W.cell? ⟨w2.heap.size, 0, none⟩ = some (.pointer (o.map fun d => ⟨d.p, 0, none⟩))) := Lib.hid (fun W hk => by
      have h1 := World.alloc_heap_new w2 (.cells #[.pointer (o.map fun d => ⟨d.p, 0, none⟩)] 93)
      have h2 := (hk.block w2.heap.size (Array.getElem?_eq_some_iff.1 h1).1 (fun hs => by
        rcases hs with e | e
        · have := HFT2.out w2.heap.size (.inl e); omega
        · exact HNC.out e)).trans h1
      exact (cells_of h2 0).1)
    refine HF.out.mono ?_
    rintro e w3 ⟨rfl, kv', hn, hob, hk⟩
    have c0 := HCK.out _ hk
    have hm3 : Mvd nb x kv1 L1 w2 t kv' (L1.filter (fun d => !decide (o.map Nd.p = some d.p))) w3 := by
      refine ⟨hn, fun k hf => .inl ?_, ?_⟩
      · rcases hf with rfl | e | ⟨d, hd, e⟩
        · exact .inl rfl
        · exact .inr (.inl (by rw [← hob]; exact e))
        · exact .inr (.inr ⟨d, (List.mem_filter.1 hd).1, e⟩)
      · exact (Keeps.all HAL.out).trans (hk.mono (fun k _ hk => hk.elim .inl (fun e => .inr (.inl e))))
    have HE := Lib.hid (HRES.out _ kv' _ w3 HANY.out (HBX.out _ _ _ _ (HM2.out.trans hm3)).2 HFLT.out)
    clear hn hob hk hm3 HF
    cases o with
    | none =>
      dsimp only [Option.map, Option.isSome] at *
      go_wp2
      go_ret
      exact HE.out
    | some d =>
      dsimp only [Option.map, Option.isSome] at *
      go_wp2
      go_ret
      exact HE.out
/-- what Drop answers and leaves, at any time -/
def dropS (now : Int) (M : List Bn) (t : Int) (a : A2) : Bool × Int × List Bn :=
  if goes now t = true then ((liveM M t).any (askF a), t, dropM (liveM M t) a) else (false, now, M)
theorem drop_pl {w0 V : World} {nb : Nat} {x : Bx} {now : Int} {M : List Bn} {os : List (Nat × Obj)} (h : Pl w0 nb x now M os V) (hM : OkM M) (t : Int) (a : A2) :
    Calls Try.prog 23 #[.pointer (some ⟨nb, 0, none⟩), .int .i64 t, adr a] V fun e V' => e = .returned (.bool (dropS now M t a).1) ∧ Pl w0 nb x (dropS now M t a).2.1 (dropS now M t a).2.2 os V' := by
  obtain ⟨kv, L, h1, h2, h3, h4⟩ := h.bo
  subst h2
  refine (drop_any nb x now kv L t a V h1 hM.ofL).mono fun e V' hr => ?_
  unfold DropR at hr
  unfold dropS
  by_cases hg : goes now t = true
  · rw [if_pos hg] at hr ⊢
    obtain ⟨kv', L', g1, g2, g3⟩ := hr
    refine ⟨g1, ⟨kv', L', g2.na, g3, fun k hk => (g2.foot k hk).elim (h3 k) (fun e => Nat.le_trans h.low.size e), fun p hp hf => ?_⟩, fun p hp => ?_, h.low.trans (g2.keeps.below h3 h.low.size)⟩
    · exact (g2.foot _ hf).elim (h4 p hp) (fun e => by have := h.lt hp; omega)
    · exact (g2.keeps.block _ (h.lt hp) (h4 p hp)).trans (h.held p hp)
  · rw [if_neg hg] at hr ⊢
    obtain ⟨g1, g2⟩ := hr
    refine ⟨g1, ⟨kv, L, g2.na, rfl, fun k hk => (g2.foot k hk).elim (h3 k) (fun e => Nat.le_trans h.low.size e), fun p hp hf => ?_⟩, fun p hp => ?_, h.low.trans (g2.keeps.below h3 h.low.size)⟩
    · exact (g2.foot _ hf).elim (h4 p hp) (fun e => by have := h.lt hp; omega)
    · exact (g2.keeps.block _ (h.lt hp) (h4 p hp)).trans (h.held p hp)
end Go.Proofs.Ytemlnkcokeckmaa
namespace Go.Proofs.Ytemlnkcokeckmaa
open Go.RowKit
attribute [local go_sem] Oper.semAt_some
set_option linter.unusedVariables false

def askB (a : A2) (p u : Int) : Bn := { inn := a, to := (0, 0), port := p, until_ := u, asked := true, seen := [] }
def tillB (u : Int) (d : Bn) : Bn := { d with until_ := u }
/-- what Ask answers: the port and the code, and the bindings that it leaves, at a time that may be -/
def askM (x : Bx) (M : List Bn) (t : Int) (a : A2) (s u : Int) : Int × Int × List Bn :=
  if mayA a = true ∧ t < u ∧ u ≤ 1099511627776 then
    match M.find? (askF a) with
    | some d => (d.port, 0, updF (askF a) (tillB u) M)
    | none => match addM x M s with
      | some p => (p, 0, M ++ [askB a p u])
      | none => (0, 10, M)
  else (0, 1, M)
def ansI (p c : Int) : Value := .tuple #[.int .i64 p, .int .i64 c]
/-- what Ask leaves -/
def AskR (w : World) (nb : Nat) (x : Bx) (now : Int) (kv : Value) (L : List Nd) (t : Int) (a : A2) (s u : Int) : Ending → World → Prop := fun e w' =>
  if goes now t = true then ∃ kv' L', e = .returned (ansI (askM x (liveM (L.map Nd.b) t) t a s u).1 (askM x (liveM (L.map Nd.b) t) t a s u).2.1) ∧ Mvd nb x kv L w t kv' L' w' ∧ L'.map Nd.b = (askM x (liveM (L.map Nd.b) t) t a s u).2.2
  else e = .returned (ansI 0 1) ∧ Mvd nb x kv L w now kv L w'

set_option maxRecDepth 100000 in
set_option maxHeartbeats 8000000 in
theorem ask_any (nb : Nat) (x : Bx) (now : Int) (kv : Value) (L : List Nd) (t : Int) (a : A2) (s u : Int) (w : World) (h : Na w nb x now kv L) (hx : OkB x) (hL : OkL L) (ha : isA a) :
    Calls Try.prog 21 #[.pointer (some ⟨nb, 0, none⟩), .int .i64 t, adr a, .int .i64 s, .int .i64 u] w (AskR w nb x now kv L t a s u) := by
  have H := Lib.hid h; have HX := Lib.hid hx; have HL := Lib.hid hL; have HA := Lib.hid ha
  have hlt := h.lt
  clear h hx hL ha
  unfold adr
  go_enter Try.func21, Try.ntmps21
  go_wp2_with fail
  obtain ⟨V0, hV⟩ : ∃ V0, (w.alloc (.cells #[.int .u32 a.1, .int .i64 a.2] 38)) = V0 := ⟨_, rfl⟩
  rw [hV]
  have hvs : V0.heap.size = w.heap.size + 1 := by rw [← hV]; simp
  have HBV : Hid (Below w.heap.size w V0) := Lib.hid (by rw [← hV]; exact (Below.refl _ w).alloc (Nat.le_refl _) _)
  have HXS : Hid (V0.heap[w.heap.size]? = some (.cells #[.int .u32 a.1, .int .i64 a.2] 38 (0, 0))) := Lib.hid (by rw [← hV]; exact World.alloc_heap_new w _)
  clear hV
  have HM0 : Hid (Mvd nb x kv L w now kv L V0) := Lib.hid (Mvd.same H.out HBV.out)
  have HFT : Hid (∀ k, Foot nb kv L k → k < w.heap.size) := Lib.hid (fun k hk => H.out.foot_lt hk)
  have HBX : Hid (∀ nw kv1 L1 W, Mvd nb x kv L V0 nw kv1 L1 W → (W.cell? ⟨w.heap.size, 0, none⟩ = some (.int .u32 a.1) ∧ W.cell? ⟨w.heap.size, 1, none⟩ = some (.int .i64 a.2)) ∧ Mvd nb x kv L w nw kv1 L1 W) := Lib.hid (fun nw kv1 L1 W hm => by
    have h1 := (hm.keeps.block w.heap.size (by omega) (fun hf => by have := HFT.out _ hf; omega)).trans HXS.out
    exact ⟨⟨(cells_of h1 0).1, (cells_of h1 1).1⟩, HM0.out.trans hm⟩)
  have HG := Lib.hid (goesOn_any nb x now t kv L V0 (H.out.below HBV.out) (by have := HL.out.len; omega))
  have HNV := Lib.hid (H.out.below HBV.out)
  refine HG.out.mono ?_
  intro e w1 hw1
  obtain rfl := hw1.1
  cases hg : goes now t with
  | false =>
    have hm1 : Mvd nb x kv L V0 now kv L w1 := Mvd.same HNV.out (by have := hw1.2; rw [hg, if_neg (by simp)] at this; exact this)
    have HE := Lib.hid (HM0.out.trans hm1)
    have HGG := Lib.hid hg
    clear hm1 hw1 hg
    go_wp2
    go_ret2
    unfold AskR
    rw [HGG.out, if_neg (by simp)]
    exact ⟨rfl, HE.out⟩
  | true =>
    obtain ⟨kv1, hm1⟩ := Mvd.went HNV.out hw1 hg
    have HL1 := Lib.hid (HL.out.live t)
    have HLM : Hid ((liveN L t).map Nd.b = liveM (L.map Nd.b) t) := Lib.hid (live_map L t)
    have ht0 : t ≤ 1099511627776 := by
      unfold goes at hg
      simp only [Bool.and_eq_true, decide_eq_true_eq] at hg
      omega
    have HRES : Hid (∀ kv' L' w' r, askM x (liveM (L.map Nd.b) t) t a s u = r → Mvd nb x kv L w t kv' L' w' → L'.map Nd.b = r.2.2 → AskR w nb x now kv L t a s u (.returned (ansI r.1 r.2.1)) w') := Lib.hid (fun kv' L' w' r hr hm hl => by
      unfold AskR
      rw [if_pos hg]
      exact ⟨kv', L', by rw [hr], hm, by rw [hr]; exact hl⟩)
    clear hw1 hg
    generalize liveN L t = L1 at *
    generalize liveM (L.map Nd.b) t = M1 at *
    have HM1 := Lib.hid hm1
    obtain ⟨⟨q0, q1⟩, -⟩ := HBX.out _ _ _ _ hm1
    have HMA := Lib.hid (fun W => may_any a W HA.out)
    unfold adr at HMA
    have HARG : Hid (¬ (mayA a = true ∧ t < u ∧ u ≤ 1099511627776) → askM x M1 t a s u = (0, 1, M1)) := Lib.hid (fun hn => by unfold askM; rw [if_neg hn])
    clear hm1
    go_wp2_with fail
    refine (HMA.out _).mono ?_
    rintro e w2 ⟨rfl, hb2⟩
    have hm2 := HM1.out.trans (.same HM1.out.na hb2)
    have HM2 := Lib.hid hm2
    obtain ⟨⟨r0, r1⟩, hmw2⟩ := HBX.out _ _ _ _ hm2
    have HMW2 := Lib.hid hmw2
    clear q0 q1 hb2 hm2 hmw2
    cases hma : mayA a with
    | false =>
      have HAR := Lib.hid (HARG.out (by simp [hma]))
      clear hma
      go_wp2
      go_ret2
      exact HRES.out _ _ _ _ HAR.out HMW2.out HLM.out
    | true =>
      by_cases hu1 : u ≤ t
      · have HAR := Lib.hid (HARG.out (fun h => by omega))
        clear hma
        go_wp2
        go_ret2
        exact HRES.out _ _ _ _ HAR.out HMW2.out HLM.out
      · by_cases hu2 : 1099511627776 < u
        · have HAR := Lib.hid (HARG.out (fun h => by omega))
          clear hma
          go_wp2
          go_ret2
          exact HRES.out _ _ _ _ HAR.out HMW2.out HLM.out
        · have HMAB : Hid (mayA a = true ∧ t < u ∧ u ≤ 1099511627776) := Lib.hid ⟨hma, by omega, by omega⟩
          clear hma
          have HASK := Lib.hid (asked_any nb x t kv1 L1 a w2 HM2.out.na (by have := HL1.out.len; omega))
          unfold adr at HASK
          go_wp2_with fail
          refine HASK.out.mono ?_
          rintro e w4 ⟨rfl, hb4⟩
          have hm4 := HM2.out.trans (.same HM2.out.na hb4)
          have HM4 := Lib.hid hm4
          obtain ⟨⟨q0, q1⟩, -⟩ := HBX.out _ _ _ _ hm4
          clear r0 r1 hb4 hm4
          cases hf : L1.find? (fun d => inF a d && d.b.asked) with
          | some d =>
            obtain ⟨hfd, ls, rs, rfl, hfl⟩ := List.find?_eq_some_iff_append.1 hf
            have hfl2 : ∀ c ∈ ls, askF a c.b = false := fun c hc => by have h3 := hfl c hc; simp only [Bool.not_eq_eq_eq_not, Bool.not_true] at h3; exact h3
            have hfd2 : askF a d.b = true := hfd
            have hdd : d ∈ ls ++ d :: rs := by simp
            have HFIN : Hid (askM x M1 t a s u = (d.b.port, 0, (ls ++ ({ d with b := tillB u d.b } : Nd) :: rs).map Nd.b)) := Lib.hid (by
              unfold askM
              rw [if_pos HMAB.out]
              have hM : M1 = ls.map Nd.b ++ d.b :: rs.map Nd.b := by rw [← HLM.out]; simp
              have h1 : M1.find? (askF a) = some d.b := by
                rw [hM, List.find?_append, List.find?_cons_of_pos hfd2]
                have : (ls.map Nd.b).find? (askF a) = none := by
                  rw [List.find?_eq_none]
                  intro c hc
                  obtain ⟨e, he, rfl⟩ := List.mem_map.1 hc
                  simp [hfl2 e he]
                rw [this]; rfl
              have h2 : updF (askF a) (tillB u) M1 = (ls ++ ({ d with b := tillB u d.b } : Nd) :: rs).map Nd.b := by
                rw [hM, updF_at (fun c hc => by obtain ⟨e, he, rfl⟩ := List.mem_map.1 hc; exact hfl2 e he) hfd2]
                simp
              rw [h1]
              simp only [h2])
            have c5 := (HM4.out.na.nds _ hdd).cells.1.2.2.2.2.2.1
            have c4 := (HM4.out.na.nds _ hdd).cells.1.2.2.2.2.1
            have f5 := (HM4.out.na.nds _ hdd).cells.2.2 5
            have hm5 := HM4.out.trans (Mvd.turn (d' := { d with b := { d.b with until_ := u } }) (w1 := w4.setCell ⟨d.p, 5, none⟩ (.int .i64 u)) HM4.out.na rfl (set_until (HM4.out.na.nds _ hdd)) (fun g hg => .inl hg) (Keeps.set (Keeps.refl _ _) d.p 5 _ (.inl rfl)))
            have HE := Lib.hid (HRES.out _ _ _ _ HFIN.out (HBX.out _ _ _ _ hm5).2 rfl)
            clear hf hfl hfl2 hfd hfd2 hm5
            unfold ptrO
            dsimp only [Option.map]
            go_wp2
            go_ret2
            exact HE.out
          | none =>
            have hwn : M1.find? (askF a) = none := by
              rw [List.find?_eq_none] at hf ⊢
              intro c hc
              rw [← HLM.out] at hc
              obtain ⟨e, he, rfl⟩ := List.mem_map.1 hc
              exact hf e he
            have HFULL : Hid (addM x M1 s = none → askM x M1 t a s u = (0, 10, M1)) := Lib.hid (fun h => by unfold askM; rw [if_pos HMAB.out, hwn]; simp only [h])
            have HNEW : Hid (∀ p, addM x M1 s = some p → askM x M1 t a s u = (p, 0, M1 ++ [askB a p u])) := Lib.hid (fun p h => by unfold askM; rw [if_pos HMAB.out, hwn]; simp only [h])
            have HADD : Hid (Calls Try.prog 43 #[.pointer (some ⟨nb, 0, none⟩), .agg #[.int .u32 a.1, .int .i64 a.2, .int .u32 0, .int .i64 0, .int .i64 0, .int .i64 0, .bool true], .int .i64 s] w4 (Added w4 nb x t kv1 L1 (askB a 0 0) s)) := Lib.hid (add_any nb x t kv1 L1 (askB a 0 0) s w4 HM4.out.na (by have := HL1.out.len; omega) HX.out.lo HX.out.lh HX.out.hi rfl)
            clear hf hwn
            unfold ptrO
            dsimp only [Option.map]
            cases hadd : addM x M1 s with
            | none =>
              have HF := Lib.hid (HFULL.out hadd)
              unfold Added at HADD
              rw [HLM.out, hadd] at HADD
              clear hadd
              go_wp2_with fail
              refine HADD.out.mono ?_
              rintro e w5 ⟨rfl, hb5⟩
              have HE := Lib.hid (HRES.out _ _ _ _ HF.out (HBX.out _ _ _ _ (HM4.out.trans (.same HM4.out.na hb5))).2 HLM.out)
              clear hb5
              go_wp2
              go_ret2
              exact HE.out
            | some p =>
              have HF := Lib.hid (HNEW.out p hadd)
              unfold Added at HADD
              rw [HLM.out, hadd] at HADD
              clear hadd
              go_wp2_with fail
              refine HADD.out.mono ?_
              rintro e w5 ⟨q, kv2, rfl, hq, hn, hfr, hk⟩
              obtain ⟨d, hd⟩ : ∃ d : Nd, d = ⟨q, { askB a 0 0 with port := p }, .slice none 0 0⟩ := ⟨_, rfl⟩
              rw [← hd] at hn
              have hdp : q = d.p := by rw [hd]
              have hsv : d.sv = .slice none 0 0 := by rw [hd]
              have hm5 := HM4.out.trans (Mvd.added (q := 0) hn (by rw [← hdp]; exact hq) hsv hfr hk)
              have hdd : d ∈ L1 ++ [d] := by simp
              have c5 := (hm5.na.nds _ hdd).cells.1.2.2.2.2.2.1
              have c4 := (hm5.na.nds _ hdd).cells.1.2.2.2.2.1
              have f5 := (hm5.na.nds _ hdd).cells.2.2 5
              have hm6 := hm5.trans (Mvd.turn (ls := L1) (rs := []) (d := d) (d' := { d with b := { d.b with until_ := u } }) (w1 := w5.setCell ⟨d.p, 5, none⟩ (.int .i64 u)) hm5.na rfl (set_until (hm5.na.nds _ hdd)) (fun g hg => .inl hg) (Keeps.set (Keeps.refl _ _) d.p 5 _ (.inl rfl)))
              have HE := Lib.hid (HRES.out _ _ _ _ HF.out (HBX.out _ _ _ _ hm6).2 (by rw [List.map_append, HLM.out, hd]; rfl))
              have hdpp : d.b.port = p := by rw [hd]
              rw [hdpp] at c4
              rw [hdp]
              clear hm5 hm6 hn hfr hk hq hd hsv hdpp
              go_wp2
              go_ret2
              exact HE.out
end Go.Proofs.Ytemlnkcokeckmaa
namespace Go.Proofs.Ytemlnkcokeckmaa
deriving instance DecidableEq for Bn
open Go.RowKit
attribute [local go_sem] Oper.semAt_some
set_option linter.unusedVariables false

/-- the laws' box -/
def bxC (n : Nat) : Bx := ⟨3405803777, 40000, 40009, (n : Int) % 3, (n : Int) / 3 % 3, 30, 12⟩
theorem bxC_is (n : Nat) : isBx (bxC n) := by
  refine ⟨⟨by simp [bxC], by simp [bxC]⟩, ?_, ?_, ?_, ?_, ?_, ?_⟩ <;> (unfold W64 bxC; dsimp only; omega)
theorem bxC_ok (n : Nat) : OkB (bxC n) := by constructor <;> (unfold bxC; dsimp only; omega)
theorem bxC_2 (n : Nat) : box2 (bxC n) = true := by
  have h1 : isWayB ((n : Int) % 3) = true := by
    unfold isWayB
    rw [Bool.and_eq_true, decide_eq_true_eq, decide_eq_true_eq]
    omega
  have h2 : isWayB ((n : Int) / 3 % 3) = true := by
    unfold isWayB
    rw [Bool.and_eq_true, decide_eq_true_eq, decide_eq_true_eq]
    omega
  unfold box2 bxC
  dsimp only
  rw [h1, h2]
  simp [mayA]
set_option maxHeartbeats 1000000 in
theorem box25 (n : Nat) (hn : n ≤ 255) (w : World) : Calls Try.prog 29 #[.int .u8 (n : Int)] w fun e w' => e = .returned (.agg (boxCells (bxC n))) ∧ Below w.heap.size w w' := by
  have HB : Hid (∀ o, Below w.heap.size w (w.alloc o)) := Lib.hid (fun o => (Below.refl _ w).alloc (Nat.le_refl _) _)
  have e1 : IntKind.i64.wrap (n : Int) = (n : Int) := by simp [IntKind.wrap, IntKind.signed, IntKind.bits] <;> omega
  unfold boxCells bxC
  go_enter Try.func29, Try.ntmps29
  go_wp2
  exact ⟨rfl, .agg #[.int .u32 3405803777, .int .i64 40000, .int .i64 40009, .int .i64 ((n : Int) % 3), .int .i64 ((n : Int) / 3 % 3), .int .i64 30, .int .i64 12], by simp [results, Try.results29, go_sem], rfl, HB.out _⟩

/-- two who talk, in awake -/
def inA0 : A2 := (167772161, 5)
def toA0 : A2 := (134744072, 53)
def b4 : Bn := ⟨inA0, (134744072, 0), 40000, 31, false, [toA0]⟩
theorem aw1 : outS (bxC 4) 0 [] 1 inA0 toA0 = ((3405803777, 40000), 0, 1, [b4]) := by decide
theorem aw2 : inS (bxC 4) 1 [b4] 2 40000 toA0 = (inA0, 0, 2, [b4]) := by decide
theorem aw3 : inS (bxC 4) 2 [b4] 2 40000 (9, 53) = ((0, 0), 8, 2, [b4]) := by decide
theorem aw4 : inS (bxC 4) 2 [b4] 31 40000 toA0 = ((0, 0), 8, 31, []) := by decide

section
variable {w0 V V' : World} {nb : Nat} {x : Bx} {now now' : Int} {M M' : List Bn} {os : List (Nat × Obj)}
theorem Pl.box {k : Nat} (h : Pl w0 nb x now M os V) (cs : Array Value) (t : TypeId) (hk : k = V.heap.size) : Pl w0 nb x now M ((k, .cells cs t (0, 0)) :: os) (V.alloc (.cells cs t)) := h.hold _ (by rw [hk]; exact World.alloc_heap_new V _) hk
theorem Pl.c2 {k : Nat} {u v : Value} (h : Pl w0 nb x now M os V) (hp : (k, Obj.cells #[u, v] 38 (0, 0)) ∈ os) : V.cell? ⟨k, 0, none⟩ = some u ∧ V.cell? ⟨k, 1, none⟩ = some v := ⟨(h.cells hp 0).1, (h.cells hp 1).1⟩
end
theorem ok_nil : OkM [] := ⟨by simp, by simp⟩
theorem ok_b4 : OkM [b4] := ⟨by simp, fun b hb => by simp at hb; subst hb; simp [b4]⟩
theorem noGuard24 : Try.prog.eqGuardType Try.prog.depth 24 = false := by kernel_rfl

set_option maxRecDepth 100000 in
set_option maxHeartbeats 4000000 in
theorem awake_any (w : World) : Calls Try.prog 13 #[] w fun e w' => e = .returned (.bool true) ∧ Below w.heap.size w w' := by
  have hm1 := noGuard38
  have hm2 := noGuard24
  go_enter Try.func13, Try.ntmps13
  go_wp2_with fail
  have h25 := box25 4 (by omega) w
  refine h25.mono ?_
  rintro e w1 ⟨rfl, hb1⟩
  have h10 := new_pl (w0 := w) (V := w1) (bxC 4) (bxC_is 4) (bxC_2 4) [] hb1 (by simp)
  clear hb1 h25
  go_wp2_with fail
  refine h10.mono ?_
  rintro e V1 ⟨g, rfl, hp1⟩
  clear h10
  have hp2 := (hp1.box #[.int .u32 167772161, .int .i64 5] 38 rfl).box (k := V1.heap.size + 1) #[.int .u32 134744072, .int .i64 53] 38 (by simp)
  have hC := out_pl hp2 (bxC_ok 4) ok_nil 1 inA0 toA0 ⟨by decide, by decide⟩ ⟨by decide, by decide⟩ (by decide)
  rw [aw1] at hC
  unfold ansA adr at hC
  dsimp only [inA0, toA0] at hC
  have k1 : V1.heap.size + 1 < V1.heap.size + 2 := by omega
  clear hp1 hp2
  go_wp2_with fail
  refine hC.mono ?_
  rintro e V3 ⟨rfl, hp3⟩
  clear hC
  obtain ⟨a0, a1⟩ := hp3.c2 (k := V1.heap.size) (u := .int .u32 167772161) (v := .int .i64 5) (by simp)
  obtain ⟨b0, b1⟩ := hp3.c2 (k := V1.heap.size + 1) (u := .int .u32 134744072) (v := .int .i64 53) (by simp)
  have k3 := World.block_lt_of_cell? V3 _ b0
  dsimp only at k3
  have hp4 := hp3.box #[.int .u32 3405803777, .int .i64 40000] 38 rfl
  have hC := in_pl hp4 ok_b4 2 40000 toA0 ⟨by decide, by decide⟩
  rw [aw2] at hC
  unfold ansA adr at hC
  dsimp only [inA0, toA0] at hC
  clear hp3 hp4
  go_wp2_with fail
  refine hC.mono ?_
  rintro e V5 ⟨rfl, hp5⟩
  clear hC a0 a1 b0 b1
  obtain ⟨a0, a1⟩ := hp5.c2 (k := V1.heap.size) (u := .int .u32 167772161) (v := .int .i64 5) (by simp)
  obtain ⟨b0, b1⟩ := hp5.c2 (k := V1.heap.size + 1) (u := .int .u32 134744072) (v := .int .i64 53) (by simp)
  obtain ⟨r0, r1⟩ := hp5.c2 (k := V3.heap.size) (u := .int .u32 3405803777) (v := .int .i64 40000) (by simp)
  have k5a0 := World.block_lt_of_cell? V5 _ a0
  dsimp only at k5a0
  have k5b0 := World.block_lt_of_cell? V5 _ b0
  dsimp only at k5b0
  have k5r0 := World.block_lt_of_cell? V5 _ r0
  dsimp only at k5r0
  have hp6 := hp5.box #[.int .u32 167772161, .int .i64 5] 38 rfl
  have hC := in_pl hp6 ok_b4 2 40000 (9, 53) ⟨by decide, by decide⟩
  rw [aw3] at hC
  unfold ansA adr at hC
  dsimp only at hC
  clear hp5 hp6
  go_wp2_with fail
  refine hC.mono ?_
  rintro e V7 ⟨rfl, hp7⟩
  clear hC a0 a1 b0 b1 r0 r1
  obtain ⟨a0, a1⟩ := hp7.c2 (k := V1.heap.size) (u := .int .u32 167772161) (v := .int .i64 5) (by simp)
  obtain ⟨b0, b1⟩ := hp7.c2 (k := V1.heap.size + 1) (u := .int .u32 134744072) (v := .int .i64 53) (by simp)
  obtain ⟨r0, r1⟩ := hp7.c2 (k := V3.heap.size) (u := .int .u32 3405803777) (v := .int .i64 40000) (by simp)
  obtain ⟨s0, s1⟩ := hp7.c2 (k := V5.heap.size) (u := .int .u32 167772161) (v := .int .i64 5) (by simp)
  have k7a0 := World.block_lt_of_cell? V7 _ a0
  dsimp only at k7a0
  have k7b0 := World.block_lt_of_cell? V7 _ b0
  dsimp only at k7b0
  have k7r0 := World.block_lt_of_cell? V7 _ r0
  dsimp only at k7r0
  have k7s0 := World.block_lt_of_cell? V7 _ s0
  dsimp only at k7s0
  have hp8 := hp7.box #[.int .u32 0, .int .i64 0] 38 rfl
  have hC := in_pl hp8 ok_b4 31 40000 toA0 ⟨by decide, by decide⟩
  rw [aw4] at hC
  unfold ansA adr at hC
  dsimp only [toA0] at hC
  clear hp7 hp8
  go_wp2_with fail
  refine hC.mono ?_
  rintro e V9 ⟨rfl, hp9⟩
  clear hC a0 a1 b0 b1 r0 r1 s0 s1
  obtain ⟨a0, a1⟩ := hp9.c2 (k := V1.heap.size) (u := .int .u32 167772161) (v := .int .i64 5) (by simp)
  obtain ⟨r0, r1⟩ := hp9.c2 (k := V3.heap.size) (u := .int .u32 3405803777) (v := .int .i64 40000) (by simp)
  obtain ⟨s0, s1⟩ := hp9.c2 (k := V5.heap.size) (u := .int .u32 167772161) (v := .int .i64 5) (by simp)
  have k9a0 := World.block_lt_of_cell? V9 _ a0
  dsimp only at k9a0
  have k9r0 := World.block_lt_of_cell? V9 _ r0
  dsimp only at k9r0
  have k9s0 := World.block_lt_of_cell? V9 _ s0
  dsimp only at k9s0
  obtain ⟨kv, L, hN, -, -, -⟩ := (hp9.alloc (.cells #[.int .u32 0, .int .i64 0] 38)).bo
  have hC := box_any g (bxC 4) 31 kv L _ hN
  have HLOW := Lib.hid (hp9.alloc (.cells #[.int .u32 0, .int .i64 0] 38)).low
  have H25 := Lib.hid (fun W => box25 4 (by omega) W)
  clear hp9 hN
  go_wp2_with fail
  refine hC.mono ?_
  rintro e V10 ⟨rfl, hb10⟩
  have HB10 := Lib.hid hb10
  clear hb10 hC
  go_wp2_with fail
  refine (H25.out _).mono ?_
  rintro e V11 ⟨rfl, hb11⟩
  have HB11 := Lib.hid hb11
  clear hb11
  unfold boxCells bxC
  go_wp2
  go_ret
  exact ⟨rfl, HLOW.out.trans ((HB10.out.trans (HB11.out.mono HB10.out.size)).mono HLOW.out.size)⟩
end Go.Proofs.Ytemlnkcokeckmaa
namespace Go.Proofs.Ytemlnkcokeckmaa
open Go.RowKit Go.ChangeShapes
set_option linter.unusedVariables false

def IsAdr (w : World) (v : Value) (a : A2) : Prop := v = adr a ∧ isA a
def IsEnd (w : World) (v : Value) (s : A2 × A2) : Prop := v = .agg #[.int .u32 s.1.1, .int .i64 s.1.2, .int .u32 s.2.1, .int .i64 s.2.2] ∧ isA s.1 ∧ isA s.2
def IsBys (w : World) (v : Value) (zs : List Int) : Prop := ∃ A cap, v = .slice A zs.length cap ∧ zs.length ≤ cap ∧ cap ≤ maxLen ∧ (0 < zs.length → ∃ b off, A = some ⟨b, off, none⟩ ∧ b < w.heap.size ∧ ∀ (j : Nat) (z : Int), zs[j]? = some z → w.cell? ⟨b, off + j, none⟩ = some (.int .u8 z)) ∧ ∀ z ∈ zs, 0 ≤ z ∧ z ≤ 255
def IsAdrs (w : World) (v : Value) (l : List A2) : Prop := ∃ A cap, v = .slice A l.length cap ∧ l.length ≤ cap ∧ cap ≤ maxLen ∧ (0 < l.length → ∃ b off, A = some ⟨b, off, none⟩ ∧ b < w.heap.size ∧ ∀ (j : Nat) (a : A2), l[j]? = some a → w.cell? ⟨b, off + j * 2, none⟩ = some (.int .u32 a.1) ∧ w.cell? ⟨b, off + j * 2 + 1, none⟩ = some (.int .i64 a.2)) ∧ ∀ a ∈ l, isA a
section
variable {H : Type} {enc : TypeId × Value → H} {W : World}
theorem adr_of {n : Nat} {x0 x1 : Value} {y0 y1 : DataW H × List MemPlace} (h0 : DataW.trod enc Try.prog W 0 (fun _ => true) true n 22 [x0] = some y0) (h1 : DataW.trod enc Try.prog W 0 (fun _ => true) true n 3 [x1] = some y1) : ∃ a : A2, x0 = .int .u32 a.1 ∧ x1 = .int .i64 a.2 ∧ isA a := by
  obtain ⟨a, e0, _, p0⟩ := DataW.trod_int Try.underlying22 h0
  obtain ⟨b, e1, _, p1⟩ := DataW.trod_int Try.underlying3 h1
  simp only [List.cons.injEq, and_true] at e0 e1
  have ha := bounds_u32 p0
  have hb := bounds_i64 p1
  exact ⟨(a, b), e0, e1, ⟨ha.1, by simp only; omega⟩, hb.1, hb.2⟩
set_option maxRecDepth 100000 in
theorem open_adr {r : Reach} {b0 : Nat} {v : Value} {d : DataW H} {p : List MemPlace} (hv : Value.okWide Try.prog W r b0 38 v) (h : DataW.Trod enc Try.prog W 0 (fun _ => true) true  38 v d p) : ∃ s, IsAdr W v s := by
  obtain ⟨x0, x1, y0, y1, n, rfl, _, _, h0, h1⟩ := Joins.open_agg2 Try.underlying38 (by kernel_rfl) (by kernel_rfl) hv h
  obtain ⟨a, e0, e1, ha⟩ := adr_of h0 h1
  exact ⟨a, by rw [e0, e1]; rfl, ha⟩
theorem trod_struct2 {P : Program} {w : World} {base : Nat} {spare : Nat → Bool} {held : Bool} {t : TypeId} {f0 f1 : Field} {fuel : Nat} {cs : List Value} {x : DataW H × List MemPlace} (ht : P.underlying t = some (.struct #[f0, f1])) (h : DataW.trod enc P w base spare held fuel t cs = some x) :
    ∃ y0 y1 n, DataW.trod enc P w base spare held n f0.type ((cs.drop f0.offset).take (P.cellsOf f0.type)) = some y0 ∧ DataW.trod enc P w base spare held n f1.type ((cs.drop f1.offset).take (P.cellsOf f1.type)) = some y1 := by
  obtain ⟨xs, n, _, rfl, hl, hlen, hf⟩ := DataW.trod_struct ht h
  match xs, hlen with
  | [y0, y1], _ => exact ⟨y0, y1, n, by simpa using hf 0 f0 rfl, by simpa using hf 1 f1 rfl⟩
theorem okWide_arr {P : Program} {t e : TypeId} {n : Nat} {w : World} {r : Reach} {b : Nat} {v : Value} (ht : P.underlying t = some (.array n e)) (h : Value.okWide P w r b t v) : ∃ cs, v = .agg cs ∧ cs.size = P.cellsOf t := by
  simp only [Value.okWide, ht] at h
  obtain ⟨cs, h1, h2, _⟩ := h
  exact ⟨cs, h1, h2⟩
set_option maxRecDepth 100000 in
theorem open_end {r : Reach} {b0 : Nat} {v : Value} {d : DataW H} {p : List MemPlace} (hv : Value.okWide Try.prog W r b0 51 v) (h : DataW.Trod enc Try.prog W 0 (fun _ => true) true  51 v d p) : ∃ s, IsEnd W v s := by
  obtain ⟨cs, rfl, hsz⟩ := okWide_arr Try.underlying51 hv
  have hsz2 : cs.toList.length = 4 := by rw [Array.length_toList]; exact hsz.trans (by kernel_rfl)
  obtain ⟨c0, c1, c2, c3, rfl⟩ : ∃ c0 c1 c2 c3, cs = #[c0, c1, c2, c3] := by
    match h : cs.toList, hsz2 with
    | [c0, c1, c2, c3], _ => exact ⟨c0, c1, c2, c3, by rw [← Array.toArray_toList (xs := cs), h]⟩
  obtain ⟨fuel, hf⟩ := h
  obtain ⟨xs, m, rfl, _, _, hx, hel⟩ := DataW.trod_array Try.underlying51 hf
  have c5 : Try.prog.cellsOf 38 = 2 := by kernel_rfl
  have e0 := hel 0 (by omega)
  have e1 := hel 1 (by omega)
  match xs, hx with
  | [x0, x1], _ =>
    rw [c5] at e0 e1
    simp only [Value.cells, Nat.zero_mul, List.drop_zero, List.take_succ_cons, List.take_zero, Nat.one_mul, List.drop_succ_cons, List.getElem?_cons_zero, List.getElem?_cons_succ] at e0 e1
    obtain ⟨y0, y1, n', h0, h1⟩ := trod_struct2 Try.underlying38 e0
    obtain ⟨y0', y1', n'', h0', h1'⟩ := trod_struct2 Try.underlying38 e1
    have c3 : Try.prog.cellsOf 3 = 1 := by kernel_rfl
    have c22 : Try.prog.cellsOf 22 = 1 := by kernel_rfl
    simp only [c3, c22, List.drop_zero, List.drop_succ_cons, List.take_succ_cons, List.take_zero] at h0 h1 h0' h1'
    obtain ⟨a, q0, q1, ha⟩ := adr_of h0 h1
    obtain ⟨b, q2, q3, hb⟩ := adr_of h0' h1'
    exact ⟨(a, b), by rw [q0, q1, q2, q3], ha, hb⟩
set_option maxRecDepth 100000 in
theorem open_bys {r : Reach} {b0 : Nat} {v : Value} {d : DataW H} {p : List MemPlace} (hv : Value.okWide Try.prog W r b0 60 v) (h : DataW.Trod enc Try.prog W 0 (fun _ => true) true  60 v d p) : ∃ ds, IsBys W v ds := by
  obtain ⟨A, l, c, rfl⟩ := WideShapes.okWide_slice Try.underlying60 hv
  obtain ⟨fuel, hf⟩ := h
  rcases Deep.open_slice Try.underlying60 hf with ⟨hcs, _⟩ | ⟨a, len, cap, m, n, D, Pl, hcs, _, hl, hm, hmm, _, hi⟩
  · simp [Value.cells] at hcs
    obtain ⟨rfl, rfl, rfl⟩ := hcs
    exact ⟨[], none, 0, rfl, Nat.le_refl _, Nat.zero_le _, fun h => by simp at h, by simp⟩
  · simp [Value.cells] at hcs
    obtain ⟨rfl, rfl, rfl⟩ := hcs
    have hmc : m = c := by simpa using hmm
    subst hmc
    have hall : ∀ j, ∃ s : Int, (0 ≤ s ∧ s ≤ 255) ∧ (j < l → W.cell? ((a.add (j * 1)).add 0) = some (.int .u8 s)) := fun j => by
      by_cases hj : j < l
      · obtain ⟨cs, hc, ht⟩ := hi j (by omega)
        obtain ⟨_, hlen, hat⟩ := World.cells?_some hc
        have h4 : Try.prog.cellsOf 5 = 1 := by kernel_rfl
        rw [h4] at hlen hat
        match cs, hlen with
        | [x0], _ =>
          obtain ⟨z, e0, _, p0⟩ := DataW.trod_int Try.underlying5 ht
          simp only [List.cons.injEq, and_true] at e0
          have hz := bounds_u8 p0
          exact ⟨z, ⟨hz.1, hz.2⟩, fun _ => by rw [hat 0 (by omega), e0]; rfl⟩
      · exact ⟨0, by omega, fun h => absurd h hj⟩
    obtain ⟨f, hf⟩ := Classical.axiomOfChoice hall
    refine ⟨(List.range l).map f, some a, m, by simp, by simpa using hl, hm, fun hpos => ?_, fun z hz => ?_⟩
    · have hl0 : 0 < l := by simpa using hpos
      obtain ⟨b, off, spot⟩ := a
      have h0 := (hf 0).2 hl0
      have h9 := h0
      have h8 := World.cell?_spot h9
      have hspot : spot = none := by simpa [Addr.add] using h8
      subst hspot
      have hb : b < W.heap.size := by
        rw [add_spot, add_spot] at h9
        exact lt_of_cell h9
      refine ⟨b, off, rfl, hb, fun j z hj => ?_⟩
      have hjl : j < l := by have := (List.getElem?_eq_some_iff.1 hj).1; simpa using this
      have hz : z = f j := by
        rw [List.getElem?_map, List.getElem?_range hjl] at hj
        simpa using hj.symm
      have h1 := (hf j).2 hjl
      rw [hz]
      rw [add_spot, add_spot] at h1
      simpa using h1
    · obtain ⟨j, _, rfl⟩ := List.mem_map.1 hz
      exact (hf j).1
set_option maxRecDepth 100000 in
theorem open_adrs {r : Reach} {b0 : Nat} {v : Value} {d : DataW H} {p : List MemPlace} (hv : Value.okWide Try.prog W r b0 56 v) (h : DataW.Trod enc Try.prog W 0 (fun _ => true) true  56 v d p) : ∃ ds, IsAdrs W v ds := by
  obtain ⟨A, l, c, rfl⟩ := WideShapes.okWide_slice Try.underlying56 hv
  obtain ⟨fuel, hf⟩ := h
  rcases Deep.open_slice Try.underlying56 hf with ⟨hcs, _⟩ | ⟨a, len, cap, m, n, D, Pl, hcs, _, hl, hm, hmm, _, hi⟩
  · simp [Value.cells] at hcs
    obtain ⟨rfl, rfl, rfl⟩ := hcs
    exact ⟨[], none, 0, rfl, Nat.le_refl _, Nat.zero_le _, fun h => by simp at h, by simp⟩
  · simp [Value.cells] at hcs
    obtain ⟨rfl, rfl, rfl⟩ := hcs
    have hmc : m = c := by simpa using hmm
    subst hmc
    have hall : ∀ j, ∃ s : A2, isA s ∧ (j < l → (W.cell? ((a.add (j * 2)).add 0) = some (.int .u32 s.1) ∧ W.cell? ((a.add (j * 2)).add 1) = some (.int .i64 s.2))) := fun j => by
      by_cases hj : j < l
      · obtain ⟨cs, hc, ht⟩ := hi j (by omega)
        obtain ⟨_, hlen, hat⟩ := World.cells?_some hc
        have h4 : Try.prog.cellsOf 38 = 2 := by kernel_rfl
        rw [h4] at hlen hat
        match cs, hlen with
        | [x0, x1], _ =>
          obtain ⟨y0, y1, n', h0, h1⟩ := trod_struct2 Try.underlying38 ht
          have c3 : Try.prog.cellsOf 3 = 1 := by kernel_rfl
          have c22 : Try.prog.cellsOf 22 = 1 := by kernel_rfl
          simp only [c3, c22, List.drop_zero, List.drop_succ_cons, List.take_succ_cons, List.take_zero] at h0 h1
          obtain ⟨z, e0, e1, hz⟩ := adr_of h0 h1
          exact ⟨z, hz, fun _ => ⟨by rw [hat 0 (by omega), e0]; rfl, by rw [hat 1 (by omega), e1]; rfl⟩⟩
      · exact ⟨(0, 0), ⟨⟨by simp, by simp⟩, by simp, by simp⟩, fun h => absurd h hj⟩
    obtain ⟨f, hf⟩ := Classical.axiomOfChoice hall
    refine ⟨(List.range l).map f, some a, m, by simp, by simpa using hl, hm, fun hpos => ?_, fun z hz => ?_⟩
    · have hl0 : 0 < l := by simpa using hpos
      obtain ⟨b, off, spot⟩ := a
      have h0 := (hf 0).2 hl0
      have h9 := h0.1
      have h8 := World.cell?_spot h9
      have hspot : spot = none := by simpa [Addr.add] using h8
      subst hspot
      have hb : b < W.heap.size := by
        rw [add_spot, add_spot] at h9
        exact lt_of_cell h9
      refine ⟨b, off, rfl, hb, fun j z hj => ?_⟩
      have hjl : j < l := by have := (List.getElem?_eq_some_iff.1 hj).1; simpa using this
      have hz : z = f j := by
        rw [List.getElem?_map, List.getElem?_range hjl] at hj
        simpa using hj.symm
      have h1 := (hf j).2 hjl
      rw [hz]
      rw [add_spot, add_spot, add_spot] at h1
      exact h1
    · obtain ⟨j, _, rfl⟩ := List.mem_map.1 hz
      exact (hf j).1
end
end Go.Proofs.Ytemlnkcokeckmaa
namespace Go.Proofs.Ytemlnkcokeckmaa
open Go.RowKit
set_option linter.unusedVariables false

/-- these objects are held -/
structure Hs (w0 : World) (os : List (Nat × Obj)) (V : World) : Prop where
  held : ∀ p ∈ os, V.heap[p.1]? = some p.2
  low : Below w0.heap.size w0 V
section
variable {w0 V V' : World} {os : List (Nat × Obj)}
theorem Hs.below (h : Hs w0 os V) (hb : Below V.heap.size V V') : Hs w0 os V' := ⟨fun p hp => (hb.block _ (Array.getElem?_eq_some_iff.1 (h.held p hp)).1).trans (h.held p hp), h.low.trans (hb.mono h.low.size)⟩
theorem Hs.box {k : Nat} (h : Hs w0 os V) (cs : Array Value) (t : TypeId) (hk : k = V.heap.size) : Hs w0 ((k, .cells cs t (0, 0)) :: os) (V.alloc (.cells cs t)) := by
  refine ⟨fun p hp => ?_, (h.below ((Below.refl _ V).alloc (Nat.le_refl _) _)).low⟩
  rcases List.mem_cons.1 hp with rfl | hp
  · rw [hk]; exact World.alloc_heap_new V _
  · exact (h.below ((Below.refl _ V).alloc (Nat.le_refl _) _)).held p hp
theorem Hs.cells {b : Nat} {C : Array Value} {t : TypeId} (h : Hs w0 os V) (hp : (b, Obj.cells C t (0, 0)) ∈ os) (j : Nat) : V.cell? ⟨b, j, none⟩ = C[j]? ∧ V.frozen? ⟨b, j, none⟩ = false := cells_of (h.held _ hp) j
theorem Hs.sub_nil (h : Hs w0 os V) : Hs w0 [] V := ⟨by simp, h.low⟩
theorem Hs.nil (w : World) : Hs w [] w := ⟨by simp, Below.refl _ _⟩
theorem new_hs (x : Bx) (hx : isBx x) (hb : box2 x = true) (h : Hs w0 os V) : Calls Try.prog 14 #[.agg (boxCells x)] V fun e V' => ∃ g, e = .returned (.tuple #[.pointer (some ⟨g, 0, none⟩), .int .i64 0]) ∧ Pl w0 g x 0 [] os V' := new_pl x hx hb os h.low h.held
end
theorem choose_nil {x : Bx} (h : x.lo ≤ x.hi) (s : Int) : chooseM x [] s = some (wish0 x s) := choose_some (k := 0) (by omega) rfl (fun j hj => by omega)
theorem add_nil {x : Bx} (h : x.lo ≤ x.hi) (hm : 1 ≤ x.most) (s : Int) : addM x [] s = some (wish0 x s) := by
  unfold addM
  rw [choose_nil h]
  show (if (0 : Int) < x.most then _ else _) = _
  rw [if_pos (by omega)]
/-- the one binding, till u -/
def bL (x : Bx) (a b : A2) (u : Int) : Bn := ⟨a, partA b x.map, wish0 x a.2, u, false, [b]⟩
theorem sent_new {x : Bx} {t : Int} (a b : A2) (p : Int) (hl : t + x.life ≤ 1099511627776) : sentB x t b (newB x a b p) = ⟨a, partA b x.map, p, t + x.life, false, [b]⟩ := by
  unfold sentB newB
  rw [if_neg (by simp), Int.min_eq_left hl]
  rfl
theorem seeL_self (b : A2) : seeL [b] b = [b] := by simp [seeL, cut16]
theorem find_nil {x : Bx} (a b : A2) : ([] : List Bn).find? (wayF x [] a b) = none := rfl
theorem live_one {x : Bx} {a b : A2} {u t : Int} (h : t < u) : liveM [bL x a b u] t = [bL x a b u] := by
  have : ¬ (bL x a b u).until_ ≤ t := by show ¬ u ≤ t; omega
  simp [liveM, this]
theorem live_none {x : Bx} {a b : A2} {u t : Int} (h : u ≤ t) : liveM [bL x a b u] t = [] := by
  have : (bL x a b u).until_ ≤ t := h
  simp [liveM, this]
section
variable {x : Bx} {now t : Int} {a b : A2} {u : Int}
theorem las_bad (hg : goes now t = true) (hm : ¬ (mayA a = true ∧ mayA b = true)) : outS x now [] t a b = ((0, 0), 1, t, []) := by
  unfold outS
  rw [if_pos hg]
  unfold outM
  rw [if_neg hm]; rfl
theorem las_new (hx : OkB x) (hm : 1 ≤ x.most) (hg : goes now t = true) (ha : mayA a = true) (hb : mayA b = true) (hl : t + x.life ≤ 1099511627776) : outS x now [] t a b = ((x.host, wish0 x a.2), 0, t, [bL x a b (t + x.life)]) := by
  unfold outS
  rw [if_pos hg]
  have h0 : liveM [] t = [] := rfl
  rw [h0]
  unfold outM
  rw [if_pos ⟨ha, hb⟩, find_nil]
  simp only [add_nil hx.lh hm, sent_new a b _ hl]
  rfl
theorem las_out (hg : goes now t = true) (ha : mayA a = true) (hb : mayA b = true) (hu : t < u) (hl : t + x.life ≤ 1099511627776) : outS x now [bL x a b u] t a b = ((x.host, wish0 x a.2), 0, t, [bL x a b (t + x.life)]) := by
  unfold outS
  rw [if_pos hg, live_one hu]
  unfold outM
  have h1 : wayF x [bL x a b u] a b = toF x a b := by
    unfold wayF
    rw [if_neg (by simp [askF, bL])]
  have h2 : toF x a b (bL x a b u) = true := by simp [toF, bL]
  rw [if_pos ⟨ha, hb⟩, h1]
  have h3 : [bL x a b u].find? (toF x a b) = some (bL x a b u) := by simp [h2]
  have h4 : updF (toF x a b) (sentB x t b) [bL x a b u] = [bL x a b (t + x.life)] := by
    unfold updF
    rw [if_pos h2]
    congr 1
    unfold sentB bL
    dsimp only
    rw [if_neg (by simp), Int.min_eq_left hl, seeL_self]
  rw [h3]
  simp only [h4]
  rfl
theorem las_in (hg : goes now t = true) (hb : mayA b = true) (hu : t < u) : inS x now [bL x a b u] t (wish0 x a.2) b = (a, 0, t, [bL x a b u]) := by
  unfold inS
  rw [if_pos hg, live_one hu]
  have h1 : comesF x (wish0 x a.2) b (bL x a b u) = true := by simp [comesF, letsB, bL]
  have h2 : inM x [bL x a b u] (wish0 x a.2) b = (a, 0) := by
    unfold inM
    rw [if_pos hb]
    have : [bL x a b u].find? (comesF x (wish0 x a.2) b) = some (bL x a b u) := by simp [h1]
    rw [this]; rfl
  rw [h2]
theorem las_gone (hg : goes now t = true) (hb : mayA b = true) (hu : u ≤ t) (p : Int) : inS x now [bL x a b u] t p b = ((0, 0), 8, t, []) := by
  unfold inS
  rw [if_pos hg, live_none hu]
  have h2 : inM x [] p b = ((0, 0), 8) := by
    unfold inM
    rw [if_pos hb]; rfl
  rw [h2]
theorem ok_bL : OkM [bL x a b u] := ⟨by simp, fun c hc => by simp at hc; subst hc; simp [bL]⟩
end
theorem goes_nat {N T : Nat} (h : N ≤ T) (h2 : T ≤ 100000) : goes (N : Int) (T : Int) = true := by
  unfold goes
  rw [Bool.and_eq_true, decide_eq_true_eq, decide_eq_true_eq]
  omega
theorem IsBys.below {w w' : World} {v : Value} {zs : List Int} (h : IsBys w v zs) (hb : Below w.heap.size w w') : IsBys w' v zs := by
  obtain ⟨A, c, h1, h2, h3, h4, h5⟩ := h
  refine ⟨A, c, h1, h2, h3, fun hp => ?_, h5⟩
  obtain ⟨b, off, e, hlt, hc⟩ := h4 hp
  exact ⟨b, off, e, Nat.lt_of_lt_of_le hlt hb.size, fun j z hj => (hb.cell (p := ⟨b, off + j, none⟩) hlt).trans (hc j z hj)⟩
theorem IsAdrs.below {w w' : World} {v : Value} {l : List A2} (h : IsAdrs w v l) (hb : Below w.heap.size w w') : IsAdrs w' v l := by
  obtain ⟨A, c, h1, h2, h3, h4, h5⟩ := h
  refine ⟨A, c, h1, h2, h3, fun hp => ?_, h5⟩
  obtain ⟨b, off, e, hlt, hc⟩ := h4 hp
  exact ⟨b, off, e, Nat.lt_of_lt_of_le hlt hb.size, fun j z hj => ⟨(hb.cell (p := ⟨b, off + j * 2, none⟩) hlt).trans (hc j z hj).1, (hb.cell (p := ⟨b, off + j * 2 + 1, none⟩) hlt).trans (hc j z hj).2⟩⟩
theorem las_wish (x : Bx) (h : x.lo ≤ x.hi) (s : Int) : x.lo ≤ wish0 x s ∧ wish0 x s ≤ x.hi := by unfold wish0; split <;> omega
end Go.Proofs.Ytemlnkcokeckmaa
