/-
  The numbers of a message that embrasure/wire's reader reads: what stands while they are read. Conditions: as each states.
-/
import Derived.Test.YtebgfiibcmnfnaaDoorAdrs
import Derived.Test.YtebgfiibcmnfnaaDoorNums
import Derived.Deep.RegionLaw
namespace Go.Proofs.YtebgfiibcmnfnaaDoor
open Go.RowKit
set_option linter.unusedVariables false

def U (vs : List Nat) : List Value := vs.map fun (x : Nat) => Value.int .u64 (x : Int)
theorem U_snoc (vs : List Nat) (x : Nat) : U (vs ++ [x]) = U vs ++ [.int .u64 (x : Int)] := by simp [U]
theorem num_info : (Tryd.prog.info? 39).map (fun i => (i.zero, i.size, i.bytes)) = some (some (.int .u64 0), 1, 8) := by kernel_rfl
/-- 'append(m.Nums, v)', as one step of a region that draws its order -/
theorem step_num {w : World} {ops : Array Oper} {o : Oper} {a : Act} {K : Act → World → Prop} {Q : Exit → Act → World → Prop} {E : Prop} (hf : o.guard = none) (s x : Operand)
    (ho : o.op = .call { callee := .builtin .append, args := #[s, x], argTypes := #[22, 22] }) {k g base y : Nat} {v : Value} {xs : List Value} (hs : a.eval s = v) (hown : w.ownsRow base 39 1 v k xs) (hx : a.eval x = .slice (some ⟨g, 0, none⟩) 1 1)
    (h0 : w.cell? ⟨g, 0, none⟩ = some (.int .u64 (y : Int))) (hk : k ≤ 1000000) (hb : base ≤ w.heap.size)
    (h : ∀ v' w', w'.ownsRow base 39 1 v' (k + 1) (xs ++ [.int .u64 (y : Int)]) → w.grownBy w' v.ownBlock → K (a.put o.dst v') w') :
    if Region.wanted o (yielded ops a.tmps) = true then Oper.wp Tryd.prog o a w K Q else E := by
  obtain ⟨i0, hi0, hz0, hz1, hz2⟩ := info_parts num_info
  rw [if_pos (by simp [Region.wanted, hf])]
  refine wp_append_own w s x 22 ho base 39 i0 (.int .u64 0) 1 8 Tryd.underlying22 hi0 hz0 hz1 hz2 rfl (by decide) v k xs hs hown ⟨g, 0, none⟩ 1 1 [.int .u64 (y : Int)] hx rfl
    (fun j u hu => by
      match j, hu with
      | 0, hu => simp at hu; subst hu; exact h0) (by simp [Value.oneCell']) (by unfold maxLen; omega) (by omega) hb (fun v' w' h2 h3 _ => h v' w' h2 h3)

/-- a message's box, field by field -/
def MBox (w : World) (M : Nat) (k : Int) (x1 x2 x3 : Value) : Prop := w.heap[M]? = some (.cells #[.int .i64 k, x1, x2, x3] 26 (0, 0))
theorem MBox.mx {w : World} {M : Nat} {k : Int} {x1 x2 x3 : Value} (h : MBox w M k x1 x2 x3) : Mx w M k x1 x2 x3 ∧ M < w.heap.size ∧ ∀ j, w.frozen? ⟨M, j, none⟩ = false :=
  ⟨⟨by rw [(cells_of h 0).1]; rfl, by rw [(cells_of h 1).1]; rfl, by rw [(cells_of h 2).1]; rfl, by rw [(cells_of h 3).1]; rfl⟩, (Array.getElem?_eq_some_iff.1 h).1, fun j => (cells_of h j).2⟩
theorem grown_to {w w' w2 : World} {R : Nat} {row : Option Nat} (h : w.grownBy w' (some R)) (hg : w'.grownBy w2 row) (hr : ∀ k, row = some k → w.heap.size ≤ k) : w.grownBy w2 (some R) :=
  ⟨hg.os.trans h.os, hg.tape.trans h.tape, hg.output.trans h.output, Nat.le_trans h.size hg.size, fun k hk hn => (hg.block k (Nat.lt_of_lt_of_le hk h.size) (fun e => by have := hr k e.symm; omega)).trans (h.block k hk hn)⟩

/-- what stands when k numbers have been read: M holds the message, G the answer -/
def NumAt (w : World) (R b M G : Nat) (kd : Int) (zs : List Int) (k : Nat) (wr : World) : Prop :=
  ∃ vs r bd v, vs.length = k ∧ (∀ x ∈ vs, x < 9223372036854775808) ∧ MBox wr M kd v (.slice none 0 0) (.slice none 0 0) ∧ MBox wr G 0 (.slice none 0 0) (.slice none 0 0) (.slice none 0 0) ∧ wr.ownsRow (M + 1) 39 1 v k (U vs) ∧ w.grownBy wr (some R) ∧ Rd wr R b r bd ∧
    (bd = false → Uv.code zs = 0 ∧ Wi.readNums (nrest zs) k = some (vs, r)) ∧ (bd = true → Uv.code zs ≠ 0 ∨ Wi.readNums (nrest zs) k = none)
theorem num_yes {zs r : List Int} {i : Nat} {vs : List Nat} (h : Wi.readNums zs i = some (vs, r)) (hc : Uv.code r = 0) : Wi.readNums zs (i + 1) = some (vs ++ [(Uv.val r).toNat], nrest r) := by
  unfold Wi.readNums
  rw [h]
  simp only
  rw [if_pos hc]
  unfold nrest
  rw [if_pos hc]
theorem num_no {zs r : List Int} {i : Nat} {vs : List Nat} (h : Wi.readNums zs i = some (vs, r)) (hc : Uv.code r ≠ 0) : Wi.readNums zs (i + 1) = none := by
  unfold Wi.readNums
  rw [h]
  simp only
  rw [if_neg hc]
theorem num_step {w wr w2 w4 : World} {R b M G k x : Nat} {kd : Int} {zs r : List Int} {vs : List Nat} {bd : Bool} {v v2 : Value} {o : Obj} (hR : R < w.heap.size) (hb : b < w.heap.size) (hG : w.heap.size ≤ G) (hGM : G < M)
    (h1 : vs.length = k) (h2 : ∀ x ∈ vs, x < 9223372036854775808) (h3 : MBox wr M kd v (.slice none 0 0) (.slice none 0 0)) (h4 : MBox wr G 0 (.slice none 0 0) (.slice none 0 0) (.slice none 0 0)) (h5 : wr.ownsRow (M + 1) 39 1 v k (U vs)) (h6 : w.grownBy wr (some R))
    (h8 : bd = false → Uv.code zs = 0 ∧ Wi.readNums (nrest zs) k = some (vs, r)) (h9 : bd = true → Uv.code zs ≠ 0 ∨ Wi.readNums (nrest zs) k = none)
    (hx : Uv.val r = (x : Int)) (hg2 : wr.drew.grownBy w2 (some R)) (hr2 : Rd w2 R b (nrest r) (spoils bd (Uv.code r))) (hg4 : (w2.alloc o).grownBy w4 v.ownBlock) (ho4 : w4.ownsRow (M + 1) 39 1 v2 (k + 1) (U vs ++ [.int .u64 (x : Int)])) :
    Hid (NumAt w R b M G kd zs (k + 1) (w4.setCell ⟨M, 1, none⟩ v2)) := by
  have hxb : x < 9223372036854775808 := by have := Uv.val_bd r; omega
  have hvb : ∀ g, v.ownBlock = some g → M + 1 ≤ g := fun g hg => (h5.lt g hg).1
  have hMs : M < wr.heap.size := (Array.getElem?_eq_some_iff.1 h3).1
  have hGs : G < wr.heap.size := (Array.getElem?_eq_some_iff.1 h4).1
  have hs2 : wr.heap.size ≤ w2.heap.size := hg2.size
  have hs4 : w2.heap.size + 1 ≤ w4.heap.size := by have := hg4.size; simpa using this
  have same : ∀ g, g < wr.heap.size → g ≠ R → (∀ g', v.ownBlock = some g' → g ≠ g') → w4.heap[g]? = wr.heap[g]? := fun g h7 h8 h9 =>
    (hg4.block g (by simp; omega) (fun e => h9 g e.symm rfl)).trans ((Below.heap_alloc _ _ _ (by omega)).trans (hg2.block g h7 (fun e => h8 (by simpa using e))))
  have hws := h6.size
  have hM4 : MBox w4 M kd v (.slice none 0 0) (.slice none 0 0) := (same M hMs (by omega) (fun g hg => by have := hvb g hg; omega)).trans h3
  have hG4 : MBox w4 G 0 (.slice none 0 0) (.slice none 0 0) (.slice none 0 0) := (same G hGs (by omega) (fun g hg => by have := hvb g hg; omega)).trans h4
  have hr4 : Rd w4 R b (nrest r) (spoils bd (Uv.code r)) := hr2.kept (by omega) ((hg4.block R (by simp; omega) (fun e => by have := hvb R e.symm; omega)).trans (Below.heap_alloc _ _ _ (by omega))) (fun _ => (hg4.block b (by simp; omega) (fun e => by have := hvb b e.symm; omega)).trans (Below.heap_alloc _ _ _ (by omega)))
  have hg5 : w.grownBy w4 (some R) := by
    refine ⟨hg4.os.trans (hg2.os.trans h6.os), hg4.tape.trans (hg2.tape.trans h6.tape), hg4.output.trans (hg2.output.trans h6.output), by omega, fun g hg hn => ?_⟩
    exact (same g (by omega) (fun e => hn (by rw [e])) (fun g' hg' => by have := hvb g' hg'; omega)).trans (h6.block g hg hn)
  refine Lib.hid ⟨vs ++ [x], nrest r, _, v2, by simp [h1], ?_, ?_, ?_, ?_, grown_new hg5 (by omega) _ _, hr4.setNew (by omega) (fun _ => by omega) _ _, fun h => ?_, fun h => ?_⟩
  · intro y hy
    rcases List.mem_append.1 hy with hy | hy
    · exact h2 y hy
    · simp at hy; omega
  · unfold MBox at hM4 ⊢
    rw [heap_mod hM4 (by simp)]; rfl
  · exact (Below.heap_setCell _ _ _ _ (by show G ≠ M; omega)).trans hG4
  · rw [U_snoc]
    exact ownsRow_setCell_below ho4 (by show M < M + 1; omega) _
  · obtain ⟨e1, e2⟩ := spoils_f h
    obtain ⟨e3, e4⟩ := h8 e1
    have := num_yes e4 e2
    rw [hx, Int.toNat_natCast] at this
    exact ⟨e3, this⟩
  · cases hbd : bd with
    | true =>
      rcases h9 hbd with h | h
      · exact .inl h
      · refine .inr ?_
        unfold Wi.readNums
        rw [h]
    | false =>
      rcases spoils_t h with h | h
      · rw [hbd] at h; cases h
      · exact .inr (num_no (h8 hbd).2 h)
end Go.Proofs.YtebgfiibcmnfnaaDoor
