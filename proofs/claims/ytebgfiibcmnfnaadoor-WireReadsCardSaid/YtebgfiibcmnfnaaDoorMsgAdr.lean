/-
  The addresses of a message that embrasure/wire's reader reads: what stands while they are read. Conditions: as each states.
-/
import Derived.Test.YtebgfiibcmnfnaaDoorMsgNum
import Derived.Lib.OwnKind
namespace Go.Proofs.YtebgfiibcmnfnaaDoor
open Go.RowKit
set_option linter.unusedVariables false

def A2 (al : List (Int × Int)) : List Value := al.flatMap fun a => [Value.int .u32 a.1, Value.int .i64 a.2]
theorem A2_snoc (al : List (Int × Int)) (a : Int × Int) : A2 (al ++ [a]) = A2 al ++ [.int .u32 a.1, .int .i64 a.2] := by simp [A2]
theorem adr_info : (Tryd.prog.info? 45).map (fun i => (i.zero, i.size, i.bytes)) = some (some (.agg #[.int .u32 0, .int .i64 0]), 2, 16) := by kernel_rfl

/-- what stands while the addresses are read: M holds the message, G the answer -/
def AdrI (w : World) (R M G C : Nat) (kd : Int) (K : Nat) (v1 : Value) (vs : List Nat) (pre : List (Int × Int)) (V : World) : Prop :=
  ∃ v2, MBox V M kd v1 v2 (.slice none 0 0) ∧ MBox V G 0 (.slice none 0 0) (.slice none 0 0) (.slice none 0 0) ∧ V.ownsRow (M + 1) 39 1 v1 K (U vs) ∧ V.ownsRow (C + 1) 45 2 v2 pre.length (A2 pre) ∧ w.grownBy V (some R) ∧ C < V.heap.size ∧ ∀ a ∈ pre, 0 ≤ a.1 ∧ a.1 < 4294967296
theorem own_cells {V : World} {base e size n : Nat} {v : Value} {xs : List Value} (h : V.ownsRow base e size v n xs) {r : Nat} {o : Obj} (ho : V.heap[r]? = some o) (hn : o.isCells = false) : v.ownBlock = none ∨ v.ownBlock ≠ some r := by
  refine .inr (fun hr => ?_)
  obtain ⟨c, fz, h2⟩ := Go.Lib.ownsRow_kind h r hr
  rw [ho] at h2
  cases h2
  cases hn
theorem AdrI.turn {w V V' : World} {R M G C K : Nat} {kd : Int} {v1 : Value} {vs : List Nat} {pre : List (Int × Int)} (h : AdrI w R M G C kd K v1 vs pre V) (hg : V.grownBy V' (some R)) (hRM : R < M) (hRG : R ≠ G) (hMC : M < C) : AdrI w R M G C kd K v1 vs pre V' := by
  obtain ⟨v2, h1, h2, h3, h4, h5, h6, h7⟩ := h
  refine ⟨v2, (hg.block M (Array.getElem?_eq_some_iff.1 h1).1 (fun e => by simp at e; omega)).trans h1, (hg.block G (Array.getElem?_eq_some_iff.1 h2).1 (fun e => by simp at e; omega)).trans h2, h3.kept hg (.inr (fun e => by have := (h3.lt R e).1; omega)), h4.kept hg (.inr (fun e => by have := (h4.lt R e).1; omega)), grown_trans h5 hg, Nat.lt_of_lt_of_le h6 hg.size, h7⟩
theorem AdrI.own {w : World} {R M G C K B : Nat} {kd : Int} {v1 : Value} {vs : List Nat} (hB : w.heap.size ≤ B) : OwnFrom B (AdrI w R M G C kd K v1 vs) := by
  rintro pre V V' row ⟨v2, h1, h2, h3, h4, h5, h6, h7⟩ hg hr
  have hb : ∀ g o, V.heap[g]? = some o → Obj.isCells o = true → V'.heap[g]? = V.heap[g]? := fun g o ho hc => hg.block g (Array.getElem?_eq_some_iff.1 ho).1 (fun e => by
    obtain ⟨_, o', ho', h'⟩ := hr g e.symm
    rw [ho] at ho'; cases ho'
    rw [hc] at h'; cases h')
  have hk : ∀ {base e size n : Nat} {v : Value} {xs : List Value}, V.ownsRow base e size v n xs → V'.ownsRow base e size v n xs := fun {base e size n v xs} h => by
    cases row with
    | none => exact h.kept hg (by cases v.ownBlock <;> simp)
    | some r =>
      obtain ⟨_, o, ho, hn⟩ := hr r rfl
      exact h.kept hg (own_cells h ho hn)
  exact ⟨v2, (hb M _ h1 rfl).trans h1, (hb G _ h2 rfl).trans h2, hk h3, hk h4, grown_to h5 hg (fun r e => Nat.le_trans hB (hr r e).1), Nat.lt_of_lt_of_le h6 hg.size, h7⟩

/-- a round: the address has been put behind the others -/
theorem adr_step {w W w4 : World} {R M G C K b : Nat} {kd h p : Int} {v1 v2 v3 : Value} {vs : List Nat} {pre : List (Int × Int)} {o : Obj} {B : Nat} (hR : R < w.heap.size) (hb : b < w.heap.size) (hG : w.heap.size ≤ G) (hGM : G < M) (hMC : M < C) (hCB : C < B) (hBW : B ≤ W.heap.size)
    (hv1 : ∀ g, v1.ownBlock = some g → g < C)
    (h1 : MBox W M kd v1 v2 (.slice none 0 0)) (h2 : MBox W G 0 (.slice none 0 0) (.slice none 0 0) (.slice none 0 0)) (h3 : W.ownsRow (M + 1) 39 1 v1 K (U vs)) (h4 : W.ownsRow (C + 1) 45 2 v2 pre.length (A2 pre)) (h5 : w.grownBy W (some R)) (h6 : C < W.heap.size) (h7 : ∀ a ∈ pre, 0 ≤ a.1 ∧ a.1 < 4294967296) (h8 : 0 ≤ h ∧ h < 4294967296)
    (hg4 : (W.alloc o).grownBy w4 v2.ownBlock) (ho4 : w4.ownsRow (C + 1) 45 2 v3 (pre.length + 1) (A2 pre ++ [.int .u32 h, .int .i64 p])) :
    Hid (Kept [C, R, b] false B W (w4.setCell ⟨M, 2, none⟩ v3) ∧ AdrI w R M G C kd K v1 vs (pre ++ [(h, p)]) (w4.setCell ⟨M, 2, none⟩ v3)) := by
  have hvb : ∀ g, v2.ownBlock = some g → C + 1 ≤ g := fun g hg => (h4.lt g hg).1
  have hs4 : W.heap.size + 1 ≤ w4.heap.size := by have := hg4.size; simpa using this
  have hws := h5.size
  have same : ∀ g, g < W.heap.size → (∀ g', v2.ownBlock = some g' → g ≠ g') → w4.heap[g]? = W.heap[g]? := fun g h8 h9 =>
    (hg4.block g (by simp; omega) (fun e => h9 g e.symm rfl)).trans (Below.heap_alloc _ _ _ h8)
  have hMl := (Array.getElem?_eq_some_iff.1 h1).1
  have hGl := (Array.getElem?_eq_some_iff.1 h2).1
  have hM4 : MBox w4 M kd v1 v2 (.slice none 0 0) := (same M hMl (fun g hg => by have := hvb g hg; omega)).trans h1
  have hG4 : MBox w4 G 0 (.slice none 0 0) (.slice none 0 0) (.slice none 0 0) := (same G hGl (fun g hg => by have := hvb g hg; omega)).trans h2
  have h34 : w4.ownsRow (M + 1) 39 1 v1 K (U vs) := (h3.alloc o).kept hg4 (by
    cases e : v1.ownBlock with
    | none => exact .inl rfl
    | some g => exact .inr (fun e2 => by have := hv1 g e; have := hvb g e2.symm; omega))
  have hsz : ∀ u, (w4.setCell ⟨M, 2, none⟩ u).heap.size = w4.heap.size := fun u => by simp [World.setCell]
  have other : ∀ g u, g ≠ M → (w4.setCell ⟨M, 2, none⟩ u).heap[g]? = w4.heap[g]? := fun g u h => Below.heap_setCell _ _ _ _ h
  refine Lib.hid ⟨⟨by rw [hsz]; omega, fun g hg => ?_, fun k ob hk hob hn => ?_⟩, v3, ?_, (other G _ (by omega)).trans hG4, ?_, ?_, ?_, by rw [hsz]; omega, ?_⟩
  · have hg3 : g = C ∨ g = R ∨ g = b := by simpa using hg
    exact (other g _ (by omega)).trans (same g (by omega) (fun g' hg' => by have := hvb g' hg'; omega))
  · have hkl := (Array.getElem?_eq_some_iff.1 hob).1
    refine ((other k _ (by omega)).trans (same k hkl (fun g' hg' e => ?_))).trans hob
    subst e
    obtain ⟨c, fz, hh⟩ := Go.Lib.ownsRow_kind h4 k hg'
    rw [hob] at hh
    cases hh
    rcases hn with hn | hn <;> cases hn
  · unfold MBox at hM4 ⊢
    rw [heap_mod hM4 (by simp)]; rfl
  · exact h34.kept (grown_set w4 M 2 v3) (by
      cases e : v1.ownBlock with
      | none => exact .inl rfl
      | some g => exact .inr (fun e2 => by have := (h3.lt g e).1; simp at e2; omega))
  · rw [A2_snoc, List.length_append]
    exact ownsRow_setCell_below ho4 (by show M < C + 1; omega) _
  · refine grown_new ?_ (by omega) _ _
    refine ⟨hg4.os.trans h5.os, hg4.tape.trans h5.tape, hg4.output.trans h5.output, by omega, fun g hg hn => ?_⟩
    exact (same g (by omega) (fun g' hg' => by have := hvb g' hg'; omega)).trans (h5.block g hg hn)
  · intro a ha
    rcases List.mem_append.1 ha with ha | ha
    · exact h7 a ha
    · simp at ha; subst ha; exact h8
/-- 'append(m.Addrs, a)', as one step within a round -/
theorem stepIn_adr {F : Fence} {n : Nat} {w : World} {ops : Array Oper} {rest : List Oper} {o : Oper} {a : Act} {Q : Exit → Act → World → Prop} (hf : o.guard = none) (s x : Operand)
    (ho : o.op = .call { callee := .builtin .append, args := #[s, x], argTypes := #[23, 23] }) {k g base : Nat} {h p : Int} {v : Value} {xs : List Value} (hs : a.eval s = v) (hown : w.ownsRow base 45 2 v k xs) (hx : a.eval x = .slice (some ⟨g, 0, none⟩) 1 1)
    (h0 : w.heap[g]? = some (.cells #[.int .u32 h, .int .i64 p] 45 (0, 0))) (hk : k ≤ 1000000) (hb : base ≤ w.heap.size)
    (hh : ∀ v' w', w'.ownsRow base 45 2 v' (k + 1) (xs ++ [.int .u32 h, .int .i64 p]) → w.grownBy w' v.ownBlock → wpListIn F n Tryd.prog ops Q rest (a.put o.dst v') w') :
    wpListIn F n Tryd.prog ops Q (o :: rest) a w := by
  obtain ⟨i0, hi0, hz0, hz1, hz2⟩ := info_parts adr_info
  refine wpListIn_append_own w hf s x 23 ho base 45 i0 (.agg #[.int .u32 0, .int .i64 0]) 2 16 Tryd.underlying23 hi0 hz0 hz1 hz2 rfl (by decide) v k xs hs hown ⟨g, 0, none⟩ 1 1 [.int .u32 h, .int .i64 p] hx rfl
    (fun j u hu => by
      match j, hu with
      | 0, hu => simp at hu; subst hu; rw [add_spot, (cells_of h0 _).1]; rfl
      | 1, hu => simp at hu; subst hu; rw [add_spot, (cells_of h0 _).1]; rfl) (by simp [Value.oneCell']) (by unfold maxLen; omega) (by omega) hb (fun v' w' h2 h3 _ => hh v' w' h2 h3)
end Go.Proofs.YtebgfiibcmnfnaaDoor
