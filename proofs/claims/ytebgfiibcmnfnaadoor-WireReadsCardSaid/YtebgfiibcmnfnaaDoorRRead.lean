/-
  The contract of the document's own FromBytes. Conditions: at most 1,000,000 bytes.
-/
import Derived.Test.YtebgfiibcmnfnaaDoorRWi
namespace Go.Proofs.YtebgfiibcmnfnaaDoor
open Go.RowKit
set_option linter.unusedVariables false

theorem rget_parts (A : Option Addr) (n c : Nat) (zs : List Int) (w : World) (r1 : n ≤ c) (r2 : c ≤ maxLen) (hb : Bts w A n zs) : Calls Tryd.prog 31 #[.slice A n c] w fun e w' => e = .returned (.tuple #[.int .u64 (Uv.val zs), .int .i64 (Uv.size zs : Int), .int .i64 (Uv.code zs)]) ∧ w = w' := by
  refine (ref_get_any A n c zs w r1 r2 hb).mono ?_
  rintro e w' ⟨rfl, rfl⟩
  refine ⟨?_, rfl⟩
  unfold tup Uv.val Uv.size Uv.code
  have h0 : 0 ≤ (Uv.got zs).2.1 := by
    unfold Uv.got
    split
    · simp
    · split
      · simp
      · split <;> simp <;> omega
  rw [Int.toNat_of_nonneg h0]
theorem rfrom_at (b off n c : Nat) (zs : List Int) (w : World) (hb : Bts w (some ⟨b, off, none⟩) n zs) (h6 : 6 ≤ n) (r1 : n ≤ c) (r2 : c ≤ maxLen) :
    Calls Tryd.prog 32 #[.slice (some ⟨b, off, none⟩) 6 c] w fun e w' => e = .returned (.tuple #[.agg #[.int .u32 (ahost zs), .int .i64 (aport zs)], .int .i64 (acode zs)]) ∧ Below w.heap.size w w' := by
  have hl := hb.len
  obtain ⟨h1, h2, h3⟩ := hb
  obtain ⟨b', off', e, hlt, hc⟩ := h3 (by omega)
  cases e
  have hg := getD_bd h2
  refine (rfrom_six b off c zs w (by omega) r2 hg hlt (fun j hj => hc j (by omega))).mono ?_
  rintro e w' ⟨rfl, hbe⟩
  refine ⟨?_, hbe⟩
  rw [hostUp4 hg, portUp2]
  show Ending.returned (gaveOr (Wi.host6 zs) (Wi.port6 zs)) = _
  unfold gaveOr ahost aport acode refusedA adr
  by_cases hm : mayA (Wi.host6 zs) (Wi.port6 zs) = true
  · have : 6 ≤ zs.length ∧ mayA (Wi.host6 zs) (Wi.port6 zs) = true := ⟨by omega, hm⟩
    rw [if_pos this, if_pos this, if_pos this, if_pos hm]
    rfl
  · have : ¬ (6 ≤ zs.length ∧ mayA (Wi.host6 zs) (Wi.port6 zs) = true) := fun h => hm h.2
    rw [if_neg this, if_neg this, if_neg this, if_neg hm]
theorem ahost_bd {zs : List Int} (hb : ∀ z ∈ zs, 0 ≤ z ∧ z ≤ 255) : 0 ≤ ahost zs ∧ ahost zs < 4294967296 := by
  unfold ahost
  split
  · rename_i h; exact (Wi.six_of h.1 hb).2
  · decide
/-- the message's box and the answer's, while a message is read -/
structure Rb (w W : World) (M G : Nat) (kd : Int) (k : Nat) (v1 : Value) (vs : List Nat) (j : Nat) (v2 : Value) (al : List (Int × Int)) : Prop where
  mb : MBox W M kd v1 v2 (.slice none 0 0)
  gb : MBox W G 0 (.slice none 0 0) (.slice none 0 0) (.slice none 0 0)
  r1 : W.ownsRow (M + 1) 39 1 v1 k (U vs)
  r2 : W.ownsRow (M + 1) 45 2 v2 j (A2 al)
  bel : Below w.heap.size w W
theorem Rb.call {w W W' : World} {M G k j : Nat} {kd : Int} {v1 v2 : Value} {vs : List Nat} {al : List (Int × Int)} (h : Rb w W M G kd k v1 vs j v2 al) (hb : Below W.heap.size W W') : Rb w W' M G kd k v1 vs j v2 al :=
  ⟨(hb.block M (Array.getElem?_eq_some_iff.1 h.mb).1).trans h.mb, (hb.block G (Array.getElem?_eq_some_iff.1 h.gb).1).trans h.gb, own_at h.r1 (fun g _ _ _ hc => hb.block g (Array.getElem?_eq_some_iff.1 hc).1), own_at h.r2 (fun g _ _ _ hc => hb.block g (Array.getElem?_eq_some_iff.1 hc).1), h.bel.trans (hb.mono h.bel.size)⟩
theorem Rb.apart {w W : World} {M G k j : Nat} {kd : Int} {v1 v2 : Value} {vs : List Nat} {al : List (Int × Int)} (h : Rb w W M G kd k v1 vs j v2 al) {g : Nat} (h1 : v1.ownBlock = some g) (h2 : v2.ownBlock = some g) : False := by
  obtain ⟨_, ⟨rfl, _⟩ | ⟨g1, cap1, cur1, rfl, _, e1, _⟩⟩ := h.r1
  · cases h1
  · obtain ⟨_, ⟨rfl, _⟩ | ⟨g2, cap2, cur2, rfl, _, e2, _⟩⟩ := h.r2
    · cases h2
    · cases h1; cases h2
      rw [e1] at e2
      cases e2
theorem Rb.num {w W w4 : World} {M G k j x : Nat} {kd : Int} {v1 v2 v' : Value} {vs : List Nat} {al : List (Int × Int)} {o : Obj} (h : Rb w W M G kd k v1 vs j v2 al) (hGM : G < M) (hw : w.heap.size ≤ G) (hg : (W.alloc o).grownBy w4 v1.ownBlock) (ho : w4.ownsRow (M + 1) 39 1 v' (k + 1) (U vs ++ [.int .u64 (x : Int)])) :
    w4.cell? ⟨M, 1, none⟩ = some v1 ∧ w4.frozen? ⟨M, 1, none⟩ = false ∧ M < w4.heap.size ∧ Hid (Rb w (w4.setCell ⟨M, 1, none⟩ v') M G kd (k + 1) v' (vs ++ [x]) j v2 al) := by
  have hML := (Array.getElem?_eq_some_iff.1 h.mb).1
  have hGL := (Array.getElem?_eq_some_iff.1 h.gb).1
  have hvb : ∀ g, v1.ownBlock = some g → M + 1 ≤ g := fun g hg => (h.r1.lt g hg).1
  have same : ∀ g, g < W.heap.size → (∀ g', v1.ownBlock = some g' → g ≠ g') → w4.heap[g]? = W.heap[g]? := fun g h8 h9 =>
    (hg.block g (by simp; omega) (fun e => h9 g e.symm rfl)).trans (Below.heap_alloc _ _ _ h8)
  have hm4 : MBox w4 M kd v1 v2 (.slice none 0 0) := (same M hML (fun g hg => by have := hvb g hg; omega)).trans h.mb
  have hg4 : MBox w4 G 0 (.slice none 0 0) (.slice none 0 0) (.slice none 0 0) := (same G hGL (fun g hg => by have := hvb g hg; omega)).trans h.gb
  have h4 : w4.ownsRow (M + 1) 45 2 v2 j (A2 al) := (h.r2.alloc o).kept hg (by
    cases e : v2.ownBlock with
    | none => exact .inl rfl
    | some g => exact .inr (fun e2 => h.apart e2.symm e))
  have hb4 : Below w.heap.size w w4 := (h.bel.alloc h.bel.size o).grown hg (by have := h.bel.size; simp; omega) (fun r e => by have := hvb r e; omega)
  obtain ⟨⟨_, m1, _, _⟩, hl, mf⟩ := MBox.mx hm4
  refine ⟨m1, mf 1, hl, Lib.hid ⟨?_, (Below.heap_setCell _ _ _ _ (by show G ≠ M; omega)).trans hg4, ?_, ownsRow_setCell_below h4 (by show M < M + 1; omega) _, hb4.setCell (by show w.heap.size ≤ M; omega) _⟩⟩
  · unfold MBox at hm4 ⊢
    rw [heap_mod hm4 (by simp)]; rfl
  · rw [U_snoc]
    exact ownsRow_setCell_below ho (by show M < M + 1; omega) _
theorem Rb.adr {w W w4 : World} {M G k j : Nat} {kd hh pp : Int} {v1 v2 v' : Value} {vs : List Nat} {al : List (Int × Int)} {o : Obj} (h : Rb w W M G kd k v1 vs j v2 al) (hGM : G < M) (hw : w.heap.size ≤ G) (hg : (W.alloc o).grownBy w4 v2.ownBlock) (ho : w4.ownsRow (M + 1) 45 2 v' (j + 1) (A2 al ++ [.int .u32 hh, .int .i64 pp])) :
    w4.cell? ⟨M, 2, none⟩ = some v2 ∧ w4.frozen? ⟨M, 2, none⟩ = false ∧ M < w4.heap.size ∧ Hid (Rb w (w4.setCell ⟨M, 2, none⟩ v') M G kd k v1 vs (j + 1) v' (al ++ [(hh, pp)])) := by
  have hML := (Array.getElem?_eq_some_iff.1 h.mb).1
  have hGL := (Array.getElem?_eq_some_iff.1 h.gb).1
  have hvb : ∀ g, v2.ownBlock = some g → M + 1 ≤ g := fun g hg => (h.r2.lt g hg).1
  have same : ∀ g, g < W.heap.size → (∀ g', v2.ownBlock = some g' → g ≠ g') → w4.heap[g]? = W.heap[g]? := fun g h8 h9 =>
    (hg.block g (by simp; omega) (fun e => h9 g e.symm rfl)).trans (Below.heap_alloc _ _ _ h8)
  have hm4 : MBox w4 M kd v1 v2 (.slice none 0 0) := (same M hML (fun g hg => by have := hvb g hg; omega)).trans h.mb
  have hg4 : MBox w4 G 0 (.slice none 0 0) (.slice none 0 0) (.slice none 0 0) := (same G hGL (fun g hg => by have := hvb g hg; omega)).trans h.gb
  have h4 : w4.ownsRow (M + 1) 39 1 v1 k (U vs) := (h.r1.alloc o).kept hg (by
    cases e : v1.ownBlock with
    | none => exact .inl rfl
    | some g => exact .inr (fun e2 => h.apart e e2.symm))
  have hb4 : Below w.heap.size w w4 := (h.bel.alloc h.bel.size o).grown hg (by have := h.bel.size; simp; omega) (fun r e => by have := hvb r e; omega)
  obtain ⟨⟨_, _, m2, _⟩, hl, mf⟩ := MBox.mx hm4
  refine ⟨m2, mf 2, hl, Lib.hid ⟨?_, (Below.heap_setCell _ _ _ _ (by show G ≠ M; omega)).trans hg4, ownsRow_setCell_below h4 (by show M < M + 1; omega) _, ?_, hb4.setCell (by show w.heap.size ≤ M; omega) _⟩⟩
  · unfold MBox at hm4 ⊢
    rw [heap_mod hm4 (by simp)]; rfl
  · rw [A2_snoc]
    exact ownsRow_setCell_below ho (by show M < M + 1; omega) _
/-- 'append(m.Nums, v)' and 'append(m.Addrs, a)', as steps -/
theorem list_num {w : World} {ops : Array Oper} {rest : List Oper} {o : Oper} {a : Act} {Q : Exit → Act → World → Prop} (hf : o.guard = none) (s x : Operand)
    (ho : o.op = .call { callee := .builtin .append, args := #[s, x], argTypes := #[22, 22] }) {k g base y : Nat} {v : Value} {xs : List Value} (hs : a.eval s = v) (hown : w.ownsRow base 39 1 v k xs) (hx : a.eval x = .slice (some ⟨g, 0, none⟩) 1 1)
    (h0 : w.cell? ⟨g, 0, none⟩ = some (.int .u64 (y : Int))) (hk : k ≤ 1000000) (hb : base ≤ w.heap.size)
    (h : ∀ v' w', w'.ownsRow base 39 1 v' (k + 1) (xs ++ [.int .u64 (y : Int)]) → w.grownBy w' v.ownBlock → wpList Tryd.prog ops Q rest (a.put o.dst v') w') : wpList Tryd.prog ops Q (o :: rest) a w := by
  obtain ⟨i0, hi0, hz0, hz1, hz2⟩ := info_parts num_info
  refine wpList_append_own w hf s x 22 ho base 39 i0 (.int .u64 0) 1 8 Tryd.underlying22 hi0 hz0 hz1 hz2 rfl (by decide) v k xs hs hown ⟨g, 0, none⟩ 1 1 [.int .u64 (y : Int)] hx rfl
    (fun j u hu => by
      match j, hu with
      | 0, hu => simp at hu; subst hu; exact h0) (by simp [Value.oneCell']) (by unfold maxLen; omega) (by omega) hb (fun v' w' h2 h3 _ => h v' w' h2 h3)
theorem list_adr {w : World} {ops : Array Oper} {rest : List Oper} {o : Oper} {a : Act} {Q : Exit → Act → World → Prop} (hf : o.guard = none) (s x : Operand)
    (ho : o.op = .call { callee := .builtin .append, args := #[s, x], argTypes := #[23, 23] }) {k g base : Nat} {h p : Int} {v : Value} {xs : List Value} (hs : a.eval s = v) (hown : w.ownsRow base 45 2 v k xs) (hx : a.eval x = .slice (some ⟨g, 0, none⟩) 1 1)
    (h0 : w.heap[g]? = some (.cells #[.int .u32 h, .int .i64 p] 45 (0, 0))) (hk : k ≤ 1000000) (hb : base ≤ w.heap.size)
    (hh : ∀ v' w', w'.ownsRow base 45 2 v' (k + 1) (xs ++ [.int .u32 h, .int .i64 p]) → w.grownBy w' v.ownBlock → wpList Tryd.prog ops Q rest (a.put o.dst v') w') : wpList Tryd.prog ops Q (o :: rest) a w := by
  obtain ⟨i0, hi0, hz0, hz1, hz2⟩ := info_parts adr_info
  refine wpList_append_own w hf s x 23 ho base 45 i0 (.agg #[.int .u32 0, .int .i64 0]) 2 16 Tryd.underlying23 hi0 hz0 hz1 hz2 rfl (by decide) v k xs hs hown ⟨g, 0, none⟩ 1 1 [.int .u32 h, .int .i64 p] hx rfl
    (fun j u hu => by
      match j, hu with
      | 0, hu => simp at hu; subst hu; rw [add_spot, (cells_of h0 _).1]; rfl
      | 1, hu => simp at hu; subst hu; rw [add_spot, (cells_of h0 _).1]; rfl) (by simp [Value.oneCell']) (by unfold maxLen; omega) (by omega) hb (fun v' w' h2 h3 _ => hh v' w' h2 h3)
end Go.Proofs.YtebgfiibcmnfnaaDoor
