/-
  How a world is made: a box, and its site, laid behind the others. Conditions: as each lemma states.
-/
import Derived.Test.YtidhdgcmagpkgaaWe
namespace Go.Proofs.Ytidhdgcmagpkgaa
open Go.RowKit
set_option linter.unusedVariables false

theorem infoN : (Try.prog.info? 50).map (fun i => (i.zero, i.size, i.bytes)) = some (some (.pointer none), 1, 8) := by kernel_rfl
theorem keeps_app {w w' : World} {v : Value} {o : Obj} (h : (w.alloc o).grownBy w' v.ownBlock) : Keeps (fun k => v.ownBlock = some k) w w' := ((Keeps.refl _ w).alloc _).trans (Keeps.grown h (fun g hg => hg))
theorem app_p {B : Nat} {w : World} {v : Value} {ps : List Nat} (hr : w.ownsRow B 50 1 v ps.length (cellsP ps)) (hl : ps.length ≤ 1000) (hB : B ≤ w.heap.size) (q : Nat) :
    ∃ v' w', (∀ ty, (Builtin.append_ #[58, 58] ty #[v, .slice (some ⟨w.heap.size, 0, none⟩) 1 1]).run Try.prog (w.alloc (.cells #[.pointer (some ⟨q, 0, none⟩)] 50)) = .ok v' w') ∧
      w'.ownsRow B 50 1 v' (ps ++ [q]).length (cellsP (ps ++ [q])) ∧ (∀ g, v'.ownBlock = some g → v.ownBlock = some g ∨ w.heap.size ≤ g) ∧ Keeps (fun k => v.ownBlock = some k) w w' := by
  obtain ⟨i0, hi0, hz0, hz1, hz2⟩ := info_parts infoN
  have h1 : (w.alloc (.cells #[.pointer (some ⟨q, 0, none⟩)] 50)).ownsRow B 50 1 v ps.length (cellsP ps) := hr.alloc _
  have hc : ∀ j u, (cellsP [q])[j]? = some u → (w.alloc (.cells #[.pointer (some ⟨q, 0, none⟩)] 50)).cell? ((⟨w.heap.size, 0, none⟩ : Addr).add j) = some u := by
    intro j u hj
    rw [add_spot, Nat.zero_add, (cells_of (World.alloc_heap_new w _) j).1]
    simpa [cellsP, ptr] using hj
  have hrun := fun ty => run_append_own_at (P := Try.prog) (w.alloc (.cells #[.pointer (some ⟨q, 0, none⟩)] 50)) B 58 ty 50 i0 (.pointer none) 1 8 Try.underlying58 hi0 hz0 hz1 hz2 rfl (by decide) v ps.length (cellsP ps) h1 ⟨w.heap.size, 0, none⟩ 1 1 (cellsP [q]) rfl hc (cellsP_one _) (by unfold maxLen; omega) (by omega) (by simp; omega)
  obtain ⟨v', w', r0, r1, r2, r3, r4⟩ := hrun 58
  refine ⟨v', w', fun ty => ?_, ?_, ?_, keeps_app r2⟩
  · rw [← r0]; rfl
  · rw [List.length_append, show cellsP (ps ++ [q]) = cellsP ps ++ cellsP [q] by simp [cellsP]]; exact r1
  · intro g hg
    rcases r4 with e | e
    · exact .inl (by rw [← e]; exact hg)
    · rw [e] at hg
      simp at hg
      exact .inr (by omega)
theorem app_s {B : Nat} {w : World} {v : Value} {l : List St} (hr : w.ownsRow B 42 2 v l.length (cellsS l)) (hl : l.length ≤ 900) (hB : B ≤ w.heap.size) (s : St) :
    ∃ v' w', (∀ ty, (Builtin.append_ #[24, 24] ty #[v, .slice (some ⟨w.heap.size, 0, none⟩) 1 1]).run Try.prog (w.alloc (.cells #[.int .u32 s.1, .int .i64 s.2] 42)) = .ok v' w') ∧
      w'.ownsRow B 42 2 v' (l ++ [s]).length (cellsS (l ++ [s])) ∧ (∀ g, v'.ownBlock = some g → v.ownBlock = some g ∨ w.heap.size ≤ g) ∧ Keeps (fun k => v.ownBlock = some k) w w' := by
  obtain ⟨i0, hi0, hz0, hz1, hz2⟩ := info_parts infoS
  have h1 : (w.alloc (.cells #[.int .u32 s.1, .int .i64 s.2] 42)).ownsRow B 42 2 v l.length (cellsS l) := hr.alloc _
  have hc : ∀ j u, (cellsS [s])[j]? = some u → (w.alloc (.cells #[.int .u32 s.1, .int .i64 s.2] 42)).cell? ((⟨w.heap.size, 0, none⟩ : Addr).add j) = some u := by
    intro j u hj
    rw [add_spot, Nat.zero_add, (cells_of (World.alloc_heap_new w _) j).1]
    simpa [cellsS] using hj
  have hrun := fun ty => run_append_own_at (P := Try.prog) (w.alloc (.cells #[.int .u32 s.1, .int .i64 s.2] 42)) B 24 ty 42 i0 _ 2 16 Try.underlying24 hi0 hz0 hz1 hz2 rfl (by decide) v l.length (cellsS l) h1 ⟨w.heap.size, 0, none⟩ 1 1 (cellsS [s]) rfl hc (cellsS_one _) (by unfold maxLen; omega) (by omega) (by simp; omega)
  obtain ⟨v', w', r0, r1, r2, r3, r4⟩ := hrun 24
  refine ⟨v', w', fun ty => ?_, ?_, ?_, keeps_app r2⟩
  · rw [← r0]; rfl
  · rw [List.length_append, cellsS_append]; exact r1
  · intro g hg
    rcases r4 with e | e
    · exact .inl (by rw [← e]; exact hg)
    · rw [e] at hg
      simp at hg
      exact .inr (by omega)
/-- a new box -/
def newM (g : Nat) (x : Bx) : Bm := ⟨g, x, 0, .slice none 0 0, []⟩
theorem newM_foot {g k : Nat} {x : Bx} (h : (newM g x).foot k) : k = g := by
  rcases h with h | h | ⟨d, hd, _⟩
  · exact h
  · cases h
  · cases hd
section
variable {V V1 V2 : World} {base wb : Nat} {bv sv hv : Value} {S H : List St} {B : List Bm} {now : Int}
/-- the boxes' row is laid anew, one box behind the others -/
theorem Wo.add_box {g : Nat} {x : Bx} {bv' : Value} (h : Wo V base wb bv sv hv S H B now) (hb : Below V.heap.size V V1) (hna : Na V1 g x 0 (.slice none 0 0) []) (hg : V.heap.size ≤ g)
    (hr : V2.ownsRow base 50 1 bv' (B.map Bm.nb ++ [g]).length (cellsP (B.map Bm.nb ++ [g]))) (hf : ∀ k, bv'.ownBlock = some k → bv.ownBlock = some k ∨ V1.heap.size ≤ k) (hk : Keeps (fun k => bv.ownBlock = some k) V1 V2) (hB : base ≤ V.heap.size) :
    Wo (V2.setCell ⟨wb, 0, none⟩ bv') base wb bv' sv hv S H (B ++ [newM g x]) now := by
  have h1 := h.below hb
  have hne : ∀ k, bv.ownBlock = some k → k ≠ wb := fun k hk => h1.top_row h1.bxs (.inr rfl) hk
  have t2 : V2.heap[wb]? = some (.cells #[bv, sv, hv, .int .i64 now] 60 (0, 0)) := (hk.block wb h1.lt (fun e => hne wb e rfl)).trans h1.top
  have hoth : ∀ k, k < V1.heap.size → bv.ownBlock ≠ some k → k ≠ wb → (V2.setCell ⟨wb, 0, none⟩ bv').heap[k]? = V1.heap[k]? := fun k hk1 hk2 hk3 => (heap_setCell_other V2 ⟨wb, 0, none⟩ k _ hk3).trans (hk.block k hk1 hk2)
  have hbwb : ∀ k, bv'.ownBlock = some k → k ≠ wb := fun k hk1 => by
    rcases hf k hk1 with h2 | h2
    · exact hne k h2
    · have := h1.lt; omega
  have hrow : ∀ {v : Value} {e : TypeId} {j n : Nat} {xs : List Value}, V1.ownsRow base e j v n xs → e = 42 → ∀ k, v.ownBlock = some k → bv.ownBlock ≠ some k := fun hr2 he k hk1 hk2 => by
    obtain ⟨C, hC⟩ := own_obj hr2 hk1
    obtain ⟨C', hC'⟩ := own_obj h1.bxs hk2
    subst he
    exact clash hC hC' (by decide)
  have hfoot : ∀ b ∈ B, ∀ k, b.foot k → (V2.setCell ⟨wb, 0, none⟩ bv').heap[k]? = V1.heap[k]? := fun b hb k hf2 => hoth k ((h1.nas b hb).foot_lt hf2) (fun e => h1.not_row hb h1.bxs (.inr rfl) e hf2) (fun e => h1.not_top hb (e ▸ hf2))
  have hgw : g ≠ wb := by have := h.lt; omega
  have hgb : bv.ownBlock ≠ some g := fun e => by have := (h.bxs.lt g e).2; omega
  refine ⟨heap_setCell_same V2 wb 0 _ 60 _ t2, ?_, own_at h1.sts (fun k hk1 => hoth k (h1.sts.lt k hk1).2 (hrow h1.sts rfl k hk1) (h1.top_row h1.sts (.inl rfl) hk1)), own_at h1.hst (fun k hk1 => hoth k (h1.hst.lt k hk1).2 (hrow h1.hst rfl k hk1) (h1.top_row h1.hst (.inl rfl) hk1)), fun b hb => ?_, ⟨h.low.1, fun b hb k hf2 => ?_⟩, fun i j b c hb hc hij k hk1 hk2 => ?_⟩
  · have e1 : (B ++ [newM g x]).map Bm.nb = B.map Bm.nb ++ [g] := by simp [newM]
    have e2 : (B ++ [newM g x]).length = (B.map Bm.nb ++ [g]).length := by simp
    rw [e1, e2]
    exact own_at hr (fun k hk1 => heap_setCell_other V2 ⟨wb, 0, none⟩ k _ (hbwb k hk1))
  · rcases List.mem_append.1 hb with hb | hb
    · exact (h1.nas b hb).kept (hfoot b hb)
    · simp only [List.mem_singleton] at hb
      subst hb
      exact hna.kept (fun k hf2 => by
        have e := newM_foot (g := g) (x := x) hf2
        rw [e]
        exact hoth g hna.lt hgb hgw)
  · rcases List.mem_append.1 hb with hb | hb
    · exact h.low.2 b hb k hf2
    · simp only [List.mem_singleton] at hb
      subst hb
      have := newM_foot hf2
      omega
  · have key : ∀ (i : Nat) d, (B ++ [newM g x])[i]? = some d → (B[i]? = some d) ∨ (i = B.length ∧ d = newM g x) := fun i d hd => by
      rcases Nat.lt_or_ge i B.length with h9 | h9
      · rw [List.getElem?_append_left h9] at hd
        exact .inl hd
      · rw [List.getElem?_append_right h9] at hd
        have h8 := (List.getElem?_eq_some_iff.1 hd).1
        simp at h8
        have h7 : i = B.length := by omega
        subst h7
        simp at hd
        exact .inr ⟨rfl, hd.symm⟩
    rcases key i b hb with hb2 | ⟨h5, h6⟩ <;> rcases key j c hc with hc2 | ⟨h7, h8⟩
    · exact h1.sep i j b c hb2 hc2 hij k hk1 hk2
    · subst h8
      have e := newM_foot hk2
      subst e
      have := (h.nas b (List.mem_of_getElem? hb2)).foot_lt hk1
      omega
    · subst h6
      have e := newM_foot hk1
      subst e
      have := (h.nas c (List.mem_of_getElem? hc2)).foot_lt hk2
      omega
    · omega
/-- the sites' row is laid anew, one site behind the others -/
theorem Wo.add_site {s : St} {sv' : Value} (h : Wo V base wb bv sv hv S H B now) (hr : V2.ownsRow base 42 2 sv' (S ++ [s]).length (cellsS (S ++ [s]))) (hf : ∀ k, sv'.ownBlock = some k → sv.ownBlock = some k ∨ V.heap.size ≤ k) (hk : Keeps (fun k => sv.ownBlock = some k) V V2) (hs : ∀ k, hv.ownBlock = some k → sv.ownBlock ≠ some k) :
    Wo (V2.setCell ⟨wb, 1, none⟩ sv') base wb bv sv' hv (S ++ [s]) H B now := by
  have hne : ∀ k, sv.ownBlock = some k → k ≠ wb := fun k hk => h.top_row h.sts (.inl rfl) hk
  have t2 : V2.heap[wb]? = some (.cells #[bv, sv, hv, .int .i64 now] 60 (0, 0)) := (hk.block wb h.lt (fun e => hne wb e rfl)).trans h.top
  have hoth : ∀ k, k < V.heap.size → sv.ownBlock ≠ some k → k ≠ wb → (V2.setCell ⟨wb, 1, none⟩ sv').heap[k]? = V.heap[k]? := fun k hk1 hk2 hk3 => (heap_setCell_other V2 ⟨wb, 1, none⟩ k _ hk3).trans (hk.block k hk1 hk2)
  have hbwb : ∀ k, sv'.ownBlock = some k → k ≠ wb := fun k hk1 => by
    rcases hf k hk1 with h2 | h2
    · exact hne k h2
    · have := h.lt; omega
  have hbs : ∀ k, bv.ownBlock = some k → sv.ownBlock ≠ some k := fun k hk1 hk2 => by
    obtain ⟨C, hC⟩ := own_obj h.bxs hk1
    obtain ⟨C', hC'⟩ := own_obj h.sts hk2
    exact clash hC hC' (by decide)
  have hfoot : ∀ b ∈ B, ∀ k, b.foot k → (V2.setCell ⟨wb, 1, none⟩ sv').heap[k]? = V.heap[k]? := fun b hb k hf2 => hoth k ((h.nas b hb).foot_lt hf2) (fun e => h.not_row hb h.sts (.inl rfl) e hf2) (fun e => h.not_top hb (e ▸ hf2))
  exact ⟨heap_setCell_same V2 wb 1 _ 60 _ t2, own_at h.bxs (fun k hk1 => hoth k (h.bxs.lt k hk1).2 (hbs k hk1) (h.top_row h.bxs (.inr rfl) hk1)), own_at hr (fun k hk1 => heap_setCell_other V2 ⟨wb, 1, none⟩ k _ (hbwb k hk1)), own_at h.hst (fun k hk1 => hoth k (h.hst.lt k hk1).2 (hs k hk1) (h.top_row h.hst (.inl rfl) hk1)), fun b hb => (h.nas b hb).kept (hfoot b hb), h.low, h.sep⟩
theorem Wo.base_le {b0 : Nat} (h : Wo V base wb bv sv hv S H B now) (hb : b0 ≤ base) : Wo V b0 wb bv sv hv S H B now :=
  ⟨h.top, Go.Joins.ownsRow_le h.bxs hb, Go.Joins.ownsRow_le h.sts hb, Go.Joins.ownsRow_le h.hst hb, h.nas, ⟨Nat.le_trans hb h.low.1, fun b hB k hk => Nat.le_trans hb (h.low.2 b hB k hk)⟩, h.sep⟩
end
/-- where the boxes stand -/
def sitesOf (bx : List Bx) (bh : List Int) : List St := List.zipWith (fun x b => (x.host, b)) bx bh
def okNew (bx : List Bx) (bh : List Int) (H : List St) : Bool := decide (bx.length ≤ 16) && (decide (bh.length = bx.length) && (decide (H.length ≤ 16) && (bx.all box2 && standB (sitesOf bx bh) H)))
def freshP (x : Bx) : Bp := ⟨x, 0, []⟩
/-- rows of boxes, and of ints, that may be read -/
def BAt (w : World) (A : Option Addr) (l : List Bx) : Prop := 0 < l.length → ∃ b off, A = some ⟨b, off, none⟩ ∧ b < w.heap.size ∧ ∀ (j : Nat) (x : Bx), l[j]? = some x → ∀ i, i < 7 → w.cell? ⟨b, off + j * 7 + i, none⟩ = (boxCells x)[i]?
def IAt (w : World) (A : Option Addr) (l : List Int) : Prop := 0 < l.length → ∃ b off, A = some ⟨b, off, none⟩ ∧ b < w.heap.size ∧ ∀ (j : Nat) (z : Int), l[j]? = some z → w.cell? ⟨b, off + j, none⟩ = some (.int .i64 z)
theorem sites_take {bx : List Bx} {bh : List Int} {k : Nat} {x : Bx} {z : Int} (h1 : bx[k]? = some x) (h2 : bh[k]? = some z) : sitesOf (bx.take (k + 1)) (bh.take (k + 1)) = sitesOf (bx.take k) (bh.take k) ++ [(x.host, z)] := by
  unfold sitesOf
  rw [List.take_add_one, List.take_add_one, h1, h2]
  have := (List.getElem?_eq_some_iff.1 h1).1
  have := (List.getElem?_eq_some_iff.1 h2).1
  rw [List.zipWith_append (by rw [List.length_take, List.length_take]; omega)]
  rfl
end Go.Proofs.Ytidhdgcmagpkgaa
