/-
  Plain words on a world of hosts and boxes, and how it lies in memory: its block, the row of its boxes, those of its sites, and each box; what stands while a law goes. Conditions: as each lemma states.
-/
import Derived.Test.YtidhdgcmagpkgaaPlb

namespace Go.Proofs.Ytidhdgcmagpkgaa
open Go.RowKit
set_option linter.unusedVariables false

/-- a site: its host, behind whom it stands -/
abbrev St := Int × Int
def site (s : St) : Value := .agg #[.int .u32 s.1, .int .i64 s.2]
def isS (s : St) : Prop := (0 ≤ s.1 ∧ s.1 < 4294967296) ∧ -9223372036854775808 ≤ s.2 ∧ s.2 ≤ 9223372036854775807
def cellsS (l : List St) : List Value := l.flatMap fun a => [.int .u32 a.1, .int .i64 a.2]
theorem cellsS_cons (a : St) (l : List St) : cellsS (a :: l) = .int .u32 a.1 :: .int .i64 a.2 :: cellsS l := rfl
theorem cellsS_append (l m : List St) : cellsS (l ++ m) = cellsS l ++ cellsS m := by simp [cellsS]
theorem cellsS_len : ∀ l : List St, (cellsS l).length = l.length * 2
  | [] => rfl
  | a :: l => by rw [cellsS_cons]; simp only [List.length_cons, cellsS_len l]; omega
theorem cellsS_at {l : List St} {k : Nat} {a : St} (h : l[k]? = some a) : (cellsS l)[k * 2]? = some (.int .u32 a.1) ∧ (cellsS l)[k * 2 + 1]? = some (.int .i64 a.2) := cellsA_at h
/-- a row of sites that may be read -/
def SAt (w : World) (A : Option Addr) (l : List St) : Prop := 0 < l.length → ∃ b off, A = some ⟨b, off, none⟩ ∧ b < w.heap.size ∧ ∀ (j : Nat) (a : St), l[j]? = some a → w.cell? ⟨b, off + j * 2, none⟩ = some (.int .u32 a.1) ∧ w.cell? ⟨b, off + j * 2 + 1, none⟩ = some (.int .i64 a.2)
theorem SAt.below {w w' : World} {A : Option Addr} {l : List St} (h : SAt w A l) (hb : Below w.heap.size w w') : SAt w' A l := fun hl => by
  obtain ⟨b, off, e, h1, h2⟩ := h hl
  exact ⟨b, off, e, Nat.lt_of_lt_of_le h1 hb.size, fun j a hj => ⟨(hb.cell (p := ⟨b, _, none⟩) h1).trans (h2 j a hj).1, (hb.cell (p := ⟨b, _, none⟩) h1).trans (h2 j a hj).2⟩⟩
theorem own_sat {w : World} {base : Nat} {v : Value} {l : List St} (h : w.ownsRow base 42 2 v l.length (cellsS l)) : ∃ A c, v = .slice A l.length c ∧ l.length ≤ c ∧ c ≤ maxLen ∧ SAt w A l ∧ (A = none → l = [] ∧ c = 0) := by
  rcases h.2 with ⟨rfl, h2⟩ | ⟨g, cap, cur, rfl, _, h2, h3, h4, h5, h6⟩
  · have hl : l = [] := List.eq_nil_of_length_eq_zero h2
    subst hl
    exact ⟨none, 0, rfl, by simp, by simp, fun h => by simp at h, fun _ => ⟨rfl, rfl⟩⟩
  · refine ⟨some ⟨g, 0, none⟩, cap, rfl, h3, by omega, fun _ => ⟨g, 0, rfl, (Array.getElem?_eq_some_iff.1 h2).1, fun j a hj => ?_⟩, fun e => by cases e⟩
    have hjl := (List.getElem?_eq_some_iff.1 hj).1
    obtain ⟨c1, c2⟩ := cellsS_at hj
    rw [← h6, List.getElem?_take_of_lt (by omega)] at c1 c2
    rw [Nat.zero_add]
    exact ⟨((cells_of h2 _).1).trans (by simpa using c1), ((cells_of h2 _).1).trans (by simpa using c2)⟩
/-- a box in memory -/
structure Bm where
  nb : Nat
  x : Bx
  now : Int
  kv : Value
  L : List Nd
/-- a box, plainly -/
structure Bp where
  x : Bx
  now : Int
  M : List Bn
def Bm.plain (b : Bm) : Bp := ⟨b.x, b.now, b.L.map Nd.b⟩
def Bm.foot (b : Bm) : Nat → Prop := Foot b.nb b.kv b.L
/-- a world in memory: its block wb, its boxes B; all of it lies from base on -/
structure Wo (V : World) (base wb : Nat) (bv sv hv : Value) (S H : List St) (B : List Bm) (now : Int) : Prop where
  top : V.heap[wb]? = some (.cells #[bv, sv, hv, .int .i64 now] 60 (0, 0))
  bxs : V.ownsRow base 50 1 bv B.length (cellsP (B.map Bm.nb))
  sts : V.ownsRow base 42 2 sv S.length (cellsS S)
  hst : V.ownsRow base 42 2 hv H.length (cellsS H)
  nas : ∀ b ∈ B, Na V b.nb b.x b.now b.kv b.L
  low : base ≤ wb ∧ ∀ b ∈ B, ∀ k, b.foot k → base ≤ k
  sep : ∀ (i j : Nat) (b c : Bm), B[i]? = some b → B[j]? = some c → i ≠ j → ∀ k, b.foot k → ¬ c.foot k
section
variable {V V' : World} {base wb : Nat} {bv sv hv : Value} {S H : List St} {B : List Bm} {now now' : Int} {b : Bm}
theorem Wo.lt (h : Wo V base wb bv sv hv S H B now) : wb < V.heap.size := (Array.getElem?_eq_some_iff.1 h.top).1
theorem Wo.not_top (h : Wo V base wb bv sv hv S H B now) (hb : b ∈ B) : ¬ b.foot wb := fun hf => by
  obtain ⟨C, t, h1, h2⟩ := (h.nas b hb).kind hf
  rcases h2 with rfl | rfl | rfl | rfl <;> exact clash h.top h1 (by decide)
theorem Wo.not_row {v : Value} {e : TypeId} {k n : Nat} {xs : List Value} (h : Wo V base wb bv sv hv S H B now) (hb : b ∈ B) (hr : V.ownsRow base e k v n xs) (he : e = 42 ∨ e = 50) {g : Nat} (hg : v.ownBlock = some g) : ¬ b.foot g := fun hf => by
  obtain ⟨C, t, h1, h2⟩ := (h.nas b hb).kind hf
  obtain ⟨C', h3⟩ := own_obj hr hg
  rcases he with rfl | rfl <;> rcases h2 with rfl | rfl | rfl | rfl <;> exact clash h3 h1 (by decide)
theorem Wo.top_row {v : Value} {e : TypeId} {k n : Nat} {xs : List Value} (h : Wo V base wb bv sv hv S H B now) (hr : V.ownsRow base e k v n xs) (he : e = 42 ∨ e = 50) {g : Nat} (hg : v.ownBlock = some g) : g ≠ wb := fun hf => by
  obtain ⟨C', h3⟩ := own_obj hr hg
  rw [hf] at h3
  rcases he with rfl | rfl <;> exact clash h3 h.top (by decide)
/-- the world's blocks are left alone -/
theorem Wo.kept (h : Wo V base wb bv sv hv S H B now) (h1 : V'.heap[wb]? = V.heap[wb]?) (h2 : ∀ g, bv.ownBlock = some g ∨ sv.ownBlock = some g ∨ hv.ownBlock = some g → V'.heap[g]? = V.heap[g]?) (h3 : ∀ b ∈ B, ∀ k, b.foot k → V'.heap[k]? = V.heap[k]?) : Wo V' base wb bv sv hv S H B now :=
  ⟨h1.trans h.top, own_at h.bxs (fun g hg => h2 g (.inl hg)), own_at h.sts (fun g hg => h2 g (.inr (.inl hg))), own_at h.hst (fun g hg => h2 g (.inr (.inr hg))), fun b hb => (h.nas b hb).kept (h3 b hb), h.low, h.sep⟩
theorem Wo.row_lt (h : Wo V base wb bv sv hv S H B now) {g : Nat} (hg : bv.ownBlock = some g ∨ sv.ownBlock = some g ∨ hv.ownBlock = some g) : base ≤ g ∧ g < V.heap.size := by
  rcases hg with hg | hg | hg
  · exact h.bxs.lt g hg
  · exact h.sts.lt g hg
  · exact h.hst.lt g hg
theorem Wo.below (h : Wo V base wb bv sv hv S H B now) (hb : Below V.heap.size V V') : Wo V' base wb bv sv hv S H B now :=
  h.kept (hb.block _ h.lt) (fun g hg => hb.block g (h.row_lt hg).2) (fun b hB k hk => hb.block k ((h.nas b hB).foot_lt hk))
theorem Wo.set_now (h : Wo V base wb bv sv hv S H B now) : Wo (V.setCell ⟨wb, 3, none⟩ (.int .i64 now')) base wb bv sv hv S H B now' := by
  have hk : ∀ k, k ≠ wb → (V.setCell ⟨wb, 3, none⟩ (.int .i64 now')).heap[k]? = V.heap[k]? := fun k hk => heap_setCell_other V ⟨wb, 3, none⟩ k _ hk
  exact ⟨heap_setCell_same V wb 3 _ 60 _ h.top, own_at h.bxs (fun g hg => hk g (h.top_row h.bxs (.inr rfl) hg)), own_at h.sts (fun g hg => hk g (h.top_row h.sts (.inl rfl) hg)), own_at h.hst (fun g hg => hk g (h.top_row h.hst (.inl rfl) hg)), fun b hb => (h.nas b hb).kept (fun k hf => hk k (fun e => h.not_top hb (e ▸ hf))), h.low, h.sep⟩
/-- one box is moved on -/
theorem Wo.moved {i : Nat} {kv' : Value} {L' : List Nd} (h : Wo V base wb bv sv hv S H B now) (hi : B[i]? = some b) (hm : Mvd b.nb b.x b.kv b.L V now' kv' L' V') (hV : base ≤ V.heap.size) : Wo V' base wb bv sv hv S H (B.set i ⟨b.nb, b.x, now', kv', L'⟩) now := by
  have hbm := List.mem_of_getElem? hi
  have hil := (List.getElem?_eq_some_iff.1 hi).1
  have hk : ∀ k, k < V.heap.size → ¬ b.foot k → V'.heap[k]? = V.heap[k]? := fun k h1 h2 => hm.keeps.block k h1 h2
  have hmap : (B.set i ⟨b.nb, b.x, now', kv', L'⟩).map Bm.nb = B.map Bm.nb := by
    rw [List.map_set]
    refine List.ext_getElem? fun j => ?_
    rw [List.getElem?_set]
    split
    · rename_i e
      subst e
      rw [if_pos (by simpa using hil), List.getElem?_map, hi]; rfl
    · rfl
  have hcase : ∀ j c, (B.set i ⟨b.nb, b.x, now', kv', L'⟩)[j]? = some c → (j = i ∧ c = ⟨b.nb, b.x, now', kv', L'⟩) ∨ (j ≠ i ∧ B[j]? = some c) := fun j c hc => by
    rw [List.getElem?_set] at hc
    split at hc
    · rename_i e
      exact .inl ⟨e.symm, (Option.some.inj hc).symm⟩
    · rename_i e
      exact .inr ⟨fun h => e h.symm, hc⟩
  have hft : ∀ k, Bm.foot ⟨b.nb, b.x, now', kv', L'⟩ k → b.foot k ∨ V.heap.size ≤ k := fun k hf => hm.foot k hf
  refine ⟨(hk wb h.lt (h.not_top hbm)).trans h.top, ?_, own_at h.sts (fun g hg => hk g (h.sts.lt g hg).2 (h.not_row hbm h.sts (.inl rfl) hg)), own_at h.hst (fun g hg => hk g (h.hst.lt g hg).2 (h.not_row hbm h.hst (.inl rfl) hg)), fun c hc => ?_, ⟨h.low.1, fun c hc k hf => ?_⟩, fun j l c d hc hd hne k hf hg => ?_⟩
  · rw [hmap, List.length_set]
    exact own_at h.bxs (fun g hg => hk g (h.bxs.lt g hg).2 (h.not_row hbm h.bxs (.inr rfl) hg))
  · obtain ⟨j, hj⟩ := List.getElem?_of_mem hc
    rcases hcase j c hj with ⟨rfl, rfl⟩ | ⟨hne, hc2⟩
    · exact hm.na
    · have hcm := List.mem_of_getElem? hc2
      exact (h.nas c hcm).kept (fun k hf => hk k ((h.nas c hcm).foot_lt hf) (fun hg => h.sep j i c b hc2 hi hne k hf hg))
  · obtain ⟨j, hj⟩ := List.getElem?_of_mem hc
    rcases hcase j c hj with ⟨rfl, rfl⟩ | ⟨hne, hc2⟩
    · rcases hft k hf with hf | hf
      · exact h.low.2 b hbm k hf
      · omega
    · exact h.low.2 c (List.mem_of_getElem? hc2) k hf
  · rcases hcase j c hc with ⟨rfl, rfl⟩ | ⟨h1, hc2⟩ <;> rcases hcase l d hd with ⟨rfl, rfl⟩ | ⟨h2, hd2⟩
    · exact hne rfl
    · rcases hft k hf with hf | hf
      · exact h.sep _ _ b d hi hd2 hne k hf hg
      · have := (h.nas d (List.mem_of_getElem? hd2)).foot_lt hg
        omega
    · rcases hft k hg with hg | hg
      · exact h.sep _ _ c b hc2 hi hne k hf hg
      · have := (h.nas c (List.mem_of_getElem? hc2)).foot_lt hf
        omega
    · exact h.sep _ _ c d hc2 hd2 hne k hf hg
end
/-- the world stands, its boxes are these, and these objects are held, and are none of its own -/
structure Wp (w0 : World) (wb : Nat) (bv sv hv : Value) (S H : List St) (bs : List Bp) (now : Int) (os : List (Nat × Obj)) (V : World) : Prop where
  wo : ∃ B, Wo V w0.heap.size wb bv sv hv S H B now ∧ B.map Bm.plain = bs ∧ ∀ p ∈ os, p.1 ≠ wb ∧ (∀ g, bv.ownBlock = some g ∨ sv.ownBlock = some g ∨ hv.ownBlock = some g → p.1 ≠ g) ∧ ∀ b ∈ B, ¬ b.foot p.1
  held : ∀ p ∈ os, V.heap[p.1]? = some p.2
  low : Below w0.heap.size w0 V
section
variable {w0 V V' : World} {wb : Nat} {bv sv hv : Value} {S H : List St} {bs : List Bp} {now now' : Int} {os : List (Nat × Obj)}
theorem Wp.lt (h : Wp w0 wb bv sv hv S H bs now os V) {p : Nat × Obj} (hp : p ∈ os) : p.1 < V.heap.size := (Array.getElem?_eq_some_iff.1 (h.held p hp)).1
theorem Wp.below (h : Wp w0 wb bv sv hv S H bs now os V) (hb : Below V.heap.size V V') : Wp w0 wb bv sv hv S H bs now os V' := by
  obtain ⟨B, h1, h2, h3⟩ := h.wo
  exact ⟨⟨B, h1.below hb, h2, h3⟩, fun p hp => (hb.block _ (h.lt hp)).trans (h.held p hp), h.low.trans (hb.mono h.low.size)⟩
theorem Wp.alloc (h : Wp w0 wb bv sv hv S H bs now os V) (o : Obj) : Wp w0 wb bv sv hv S H bs now os (V.alloc o) := h.below ((Below.refl _ V).alloc (Nat.le_refl _) o)
theorem Wp.drewN (h : Wp w0 wb bv sv hv S H bs now os V) (q : Nat) : Wp w0 wb bv sv hv S H bs now os (V.drewN q) := h.below (below_drw (Below.refl _ V) q)
theorem Wp.hold {k : Nat} {o : Obj} (h : Wp w0 wb bv sv hv S H bs now os V) (o' : Obj) (h1 : (V.alloc o').heap[k]? = some o) (hk : k = V.heap.size) : Wp w0 wb bv sv hv S H bs now ((k, o) :: os) (V.alloc o') := by
  have h2 := h.alloc o'
  obtain ⟨B, g1, g2, g3⟩ := h.wo
  refine ⟨⟨B, g1.below ((Below.refl _ V).alloc (Nat.le_refl _) o'), g2, fun p hp => ?_⟩, fun p hp => ?_, h2.low⟩
  · rcases List.mem_cons.1 hp with rfl | hp
    · refine ⟨by have := g1.lt; simp only; omega, fun g hg => by have := (g1.row_lt hg).2; simp only; omega, fun b hb hf => ?_⟩
      have := (g1.nas b hb).foot_lt hf
      simp only at this
      omega
    · exact g3 p hp
  · rcases List.mem_cons.1 hp with rfl | hp
    · exact h1
    · exact h2.held p hp
theorem Wp.box {k : Nat} (h : Wp w0 wb bv sv hv S H bs now os V) (cs : Array Value) (t : TypeId) (hk : k = V.heap.size) : Wp w0 wb bv sv hv S H bs now ((k, .cells cs t (0, 0)) :: os) (V.alloc (.cells cs t)) := h.hold _ (by rw [hk]; exact World.alloc_heap_new V _) hk
theorem Wp.sub {os' : List (Nat × Obj)} (h : Wp w0 wb bv sv hv S H bs now os V) (hs : ∀ p ∈ os', p ∈ os) : Wp w0 wb bv sv hv S H bs now os' V := by
  obtain ⟨B, h1, h2, h3⟩ := h.wo
  exact ⟨⟨B, h1, h2, fun p hp => h3 p (hs p hp)⟩, fun p hp => h.held p (hs p hp), h.low⟩
theorem Wp.cells {b : Nat} {C : Array Value} {t : TypeId} (h : Wp w0 wb bv sv hv S H bs now os V) (hp : (b, Obj.cells C t (0, 0)) ∈ os) (j : Nat) : V.cell? ⟨b, j, none⟩ = C[j]? ∧ V.frozen? ⟨b, j, none⟩ = false := cells_of (h.held _ hp) j
theorem Wp.c2 {k : Nat} {u v : Value} {t : TypeId} (h : Wp w0 wb bv sv hv S H bs now os V) (hp : (k, Obj.cells #[u, v] t (0, 0)) ∈ os) : V.cell? ⟨k, 0, none⟩ = some u ∧ V.cell? ⟨k, 1, none⟩ = some v ∧ V.frozen? ⟨k, 0, none⟩ = false ∧ V.frozen? ⟨k, 1, none⟩ = false := ⟨(h.cells hp 0).1, (h.cells hp 1).1, (h.cells hp 0).2, (h.cells hp 1).2⟩
theorem Wp.top (h : Wp w0 wb bv sv hv S H bs now os V) : V.cell? ⟨wb, 0, none⟩ = some bv ∧ V.cell? ⟨wb, 1, none⟩ = some sv ∧ V.cell? ⟨wb, 2, none⟩ = some hv ∧ V.cell? ⟨wb, 3, none⟩ = some (.int .i64 now) ∧ ∀ j, V.frozen? ⟨wb, j, none⟩ = false := by
  obtain ⟨B, h1, _⟩ := h.wo
  have h0 := fun j => (cells_of h1.top j).1
  exact ⟨h0 0, h0 1, h0 2, h0 3, fun j => (cells_of h1.top j).2⟩
/-- a held block's cell is turned -/
theorem Wp.store {b j : Nat} {C : Array Value} {t : TypeId} {v : Value} (h : Wp w0 wb bv sv hv S H bs now ((b, Obj.cells C t (0, 0)) :: os) V) (ho : ∀ p ∈ os, p.1 ≠ b) (hb : w0.heap.size ≤ b) :
    Wp w0 wb bv sv hv S H bs now ((b, Obj.cells (C.setIfInBounds j v) t (0, 0)) :: os) (V.setCell ⟨b, j, none⟩ v) := by
  obtain ⟨B, h1, h2, h3⟩ := h.wo
  obtain ⟨f1, f2, f3⟩ := h3 (b, Obj.cells C t (0, 0)) (by simp)
  have hk : ∀ k, k ≠ b → (V.setCell ⟨b, j, none⟩ v).heap[k]? = V.heap[k]? := fun k hk => heap_setCell_other V ⟨b, j, none⟩ k v hk
  refine ⟨⟨B, h1.kept (hk _ (fun e => f1 e.symm)) (fun g hg => hk g (fun e => f2 g hg e.symm)) (fun c hc k hf => hk k (fun e => f3 c hc (e ▸ hf))), h2, fun p hp => ?_⟩, fun p hp => ?_, h.low.setCell (p := ⟨b, j, none⟩) hb _⟩
  · rcases List.mem_cons.1 hp with rfl | hp
    · exact ⟨f1, f2, f3⟩
    · exact h3 p (List.mem_cons_of_mem _ hp)
  · rcases List.mem_cons.1 hp with rfl | hp
    · exact heap_setCell_same V b j C t v (h.held (b, Obj.cells C t (0, 0)) (by simp))
    · exact (hk p.1 (ho p hp)).trans (h.held p (List.mem_cons_of_mem _ hp))
theorem Wp.set_now (h : Wp w0 wb bv sv hv S H bs now os V) : Wp w0 wb bv sv hv S H bs now' os (V.setCell ⟨wb, 3, none⟩ (.int .i64 now')) := by
  obtain ⟨B, h1, h2, h3⟩ := h.wo
  exact ⟨⟨B, h1.set_now, h2, h3⟩, fun p hp => (heap_setCell_other V ⟨wb, 3, none⟩ p.1 _ (h3 p hp).1).trans (h.held p hp), h.low.setCell (p := ⟨wb, 3, none⟩) h1.low.1 _⟩
/-- a box is moved on -/
theorem Wp.moved {i : Nat} {b : Bp} {M' : List Bn} (h : Wp w0 wb bv sv hv S H bs now os V) (hi : bs[i]? = some b) (hm : ∀ nb kv L, Na V nb b.x b.now kv L → L.map Nd.b = b.M → ∃ kv' L', Mvd nb b.x kv L V now' kv' L' V' ∧ L'.map Nd.b = M') : Wp w0 wb bv sv hv S H (bs.set i ⟨b.x, now', M'⟩) now os V' := by
  obtain ⟨B, h1, h2, h3⟩ := h.wo
  obtain ⟨c, hc, rfl⟩ : ∃ c, B[i]? = some c ∧ c.plain = b := by
    rw [← h2, List.getElem?_map] at hi
    cases hB : B[i]? with
    | none => rw [hB] at hi; cases hi
    | some c => rw [hB] at hi; exact ⟨c, rfl, Option.some.inj hi⟩
  have hcm := List.mem_of_getElem? hc
  obtain ⟨kv', L', m1, m2⟩ := hm c.nb c.kv c.L (h1.nas c hcm) rfl
  refine ⟨⟨_, h1.moved hc m1 h.low.size, ?_, fun p hp => ?_⟩, fun p hp => ?_, h.low.trans (m1.keeps.below (h1.low.2 c hcm) h.low.size)⟩
  · rw [List.map_set, h2]
    unfold Bm.plain
    rw [m2]
  · obtain ⟨e1, e2, e3⟩ := h3 p hp
    refine ⟨e1, e2, fun d hd hf => ?_⟩
    rcases List.mem_or_eq_of_mem_set hd with hd | rfl
    · exact e3 d hd hf
    · rcases m1.foot _ hf with hf | hf
      · exact e3 c hcm hf
      · have := h.lt hp; omega
  · exact (m1.keeps.block _ (h.lt hp) ((h3 p hp).2.2 c hcm)).trans (h.held p hp)
end
end Go.Proofs.Ytidhdgcmagpkgaa
