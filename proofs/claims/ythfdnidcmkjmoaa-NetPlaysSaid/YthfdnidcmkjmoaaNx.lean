/-
  Contracts of net's small functions: slices.Clone at bytes, told, New, Count, At; the document's own May and At. Conditions: as each lemma states.
-/
import Derived.Test.YthfdnidcmkjmoaaNw
import Derived.Deep.QuietTactic
import Derived.BigQuiet
namespace Go.Proofs.Ythfdnidcmkjmoaa
open Go.RowKit
attribute [local go_sem] Oper.semAt_some
set_option linter.unusedVariables false

theorem clone_any (A : Option Addr) (n c : Nat) (zs : List Int) (w : World) (h : Bts w A n zs) (hnil : A = none → n = 0 ∧ c = 0) (hn : n ≤ 1000000) :
    Calls Try.prog 24 #[.slice A n c] w fun e w' => ∃ A' c', e = .returned (.slice A' n c') ∧ w'.ownsRow w.heap.size 5 1 (.slice A' n c') n (B zs) ∧ Below w.heap.size w w' := by
  have q22 : ∀ (w : World) (a : Option Addr) (n c n' c' : Nat), (binOp .eql 34 (.slice a n c) (.slice none n' c')).run Try.prog w = .ok (.bool a.isNone) w := fun w a n c n' c' => Lib.run_eql_slice_nil w _ _ a n c n' c' Try.underlying34
  cases A with
  | none =>
    obtain ⟨rfl, rfl⟩ := hnil rfl
    have hz : zs = [] := List.eq_nil_of_length_eq_zero h.len
    subst hz
    clear h hnil hn
    go_enter Try.func24, Try.ntmps24
    go_wp2
    go_ret
    exact ⟨none, 0, rfl, World.ownsRow_nil _ _ _ _, Below.refl _ _⟩
  | some ad =>
    have H := Lib.hid h; have HN := Lib.hid hnil
    clear h hnil
    go_enter Try.func24, Try.ntmps24
    go_wp2_with (at_builtin; refine wpList_append_bts rfl (.tmp 5) (.tmp 6) rfl w.heap.size _ 0 [] rfl (lit_own w) (some ad) n c zs rfl (H.out.alloc _) HN.out (by omega) (by simp) ?_; intro v' w' h1 h2; rw [List.nil_append, Nat.zero_add] at h1; obtain ⟨A', c', rfl, -, -, -⟩ := own_form h1 H.out.bd; have H1 := Lib.hid h1; have H2 := Lib.hid (own_grown_below (lit_own w) ((Below.refl w.heap.size w).alloc (Nat.le_refl _) _) (Nat.le_refl _) h2); clear h1 h2)
    go_ret
    exact ⟨A', c', rfl, H1.out, H2.out⟩

/-- six stores over a block of six cells -/
def six (W : World) (b : Nat) (v0 v1 v2 v3 v4 v5 : Value) : World := (((((W.setCell ⟨b, 0, none⟩ v0).setCell ⟨b, 1, none⟩ v1).setCell ⟨b, 2, none⟩ v2).setCell ⟨b, 3, none⟩ v3).setCell ⟨b, 4, none⟩ v4).setCell ⟨b, 5, none⟩ v5
theorem six_heap {W : World} {b : Nat} {C : Array Value} {t : TypeId} (h : W.heap[b]? = some (.cells C t (0, 0))) (hs : C.size = 6) (v0 v1 v2 v3 v4 v5 : Value) :
    (six W b v0 v1 v2 v3 v4 v5).heap[b]? = some (.cells #[v0, v1, v2, v3, v4, v5] t (0, 0)) := by
  unfold six
  rw [heap_setCell_same _ b 5 _ t v5 (heap_setCell_same _ b 4 _ t v4 (heap_setCell_same _ b 3 _ t v3 (heap_setCell_same _ b 2 _ t v2 (heap_setCell_same _ b 1 _ t v1 (heap_setCell_same _ b 0 _ t v0 h)))))]
  obtain ⟨l⟩ := C
  match l, hs with
  | [a0, a1, a2, a3, a4, a5], _ => rfl
theorem six_keeps (W : World) (b : Nat) (v0 v1 v2 v3 v4 v5 : Value) : Keeps (fun k => k = b) W (six W b v0 v1 v2 v3 v4 v5) := by
  have st : ∀ (V : World) j v, Keeps (fun k => k = b) W V → Keeps (fun k => k = b) W (V.setCell ⟨b, j, none⟩ v) := fun V j v h => h.set b j v rfl
  exact st _ 5 _ (st _ 4 _ (st _ 3 _ (st _ 2 _ (st _ 1 _ (st _ 0 _ (Keeps.refl _ W))))))
theorem six_cells {W : World} {b : Nat} {C : Array Value} {t : TypeId} (h : W.heap[b]? = some (.cells C t (0, 0))) (hs : C.size = 6) (v0 v1 v2 v3 v4 v5 : Value) :
    (((((((W.setCell ⟨b, 0, none⟩ v0).setCell ⟨b, 1, none⟩ v1).setCell ⟨b, 2, none⟩ v2).setCell ⟨b, 3, none⟩ v3).setCell ⟨b, 4, none⟩ v4).setCell ⟨b, 5, none⟩ v5)).cell? ⟨b, 0, none⟩ = some v0 ∧ (((((((W.setCell ⟨b, 0, none⟩ v0).setCell ⟨b, 1, none⟩ v1).setCell ⟨b, 2, none⟩ v2).setCell ⟨b, 3, none⟩ v3).setCell ⟨b, 4, none⟩ v4).setCell ⟨b, 5, none⟩ v5)).cell? ⟨b, 1, none⟩ = some v1 ∧
    (((((((W.setCell ⟨b, 0, none⟩ v0).setCell ⟨b, 1, none⟩ v1).setCell ⟨b, 2, none⟩ v2).setCell ⟨b, 3, none⟩ v3).setCell ⟨b, 4, none⟩ v4).setCell ⟨b, 5, none⟩ v5)).cell? ⟨b, 2, none⟩ = some v2 ∧ (((((((W.setCell ⟨b, 0, none⟩ v0).setCell ⟨b, 1, none⟩ v1).setCell ⟨b, 2, none⟩ v2).setCell ⟨b, 3, none⟩ v3).setCell ⟨b, 4, none⟩ v4).setCell ⟨b, 5, none⟩ v5)).cell? ⟨b, 3, none⟩ = some v3 ∧
    (((((((W.setCell ⟨b, 0, none⟩ v0).setCell ⟨b, 1, none⟩ v1).setCell ⟨b, 2, none⟩ v2).setCell ⟨b, 3, none⟩ v3).setCell ⟨b, 4, none⟩ v4).setCell ⟨b, 5, none⟩ v5)).cell? ⟨b, 4, none⟩ = some v4 ∧ (((((((W.setCell ⟨b, 0, none⟩ v0).setCell ⟨b, 1, none⟩ v1).setCell ⟨b, 2, none⟩ v2).setCell ⟨b, 3, none⟩ v3).setCell ⟨b, 4, none⟩ v4).setCell ⟨b, 5, none⟩ v5)).cell? ⟨b, 5, none⟩ = some v5 := by
  have h6 := six_heap h hs v0 v1 v2 v3 v4 v5
  exact ⟨(cells_of h6 0).1, (cells_of h6 1).1, (cells_of h6 2).1, (cells_of h6 3).1, (cells_of h6 4).1, (cells_of h6 5).1⟩

set_option maxHeartbeats 1000000 in
theorem told_any (no : Int) (f t : A2) (A : Option Addr) (n c : Nat) (zs : List Int) (w : World) (h : Bts w A n zs) (hnil : A = none → n = 0 ∧ c = 0) (hn : n ≤ 1000000) :
    Calls Try.prog 30 #[.agg (sentC no f t (.slice A n c))] w fun e w' => ∃ A' c', e = .returned (.agg (sentC no f t (.slice A' n c'))) ∧ w'.ownsRow w.heap.size 5 1 (.slice A' n c') n (B zs) ∧ Below w.heap.size w w' := by
  have hb0 : Below w.heap.size w ((w.alloc (.cells (sentC no f t (.slice A n c)) 43)).alloc (.cells (sentC 0 (0, 0) (0, 0) (.slice none 0 0)) 43)) := ((Below.refl _ w).alloc (Nat.le_refl _) _).alloc (by simp) _
  have HC := Lib.hid (clone_any A n c zs _ (h.below hb0) hnil hn)
  obtain ⟨f1, f2⟩ := f
  obtain ⟨t1, t2⟩ := t
  have HB0 := Lib.hid hb0
  clear hb0 h hnil hn
  unfold sentC at *
  dsimp only at *
  go_enter Try.func30, Try.ntmps30
  go_wp2_with fail
  refine HC.out.mono ?_
  rintro e w1 ⟨A', c', rfl, h1, hb1⟩
  have q0 : w1.heap[w.heap.size]? = some (.cells #[.int .i64 no, .int .u32 f1, .int .i64 f2, .int .u32 t1, .int .i64 t2, .slice A n c] 43 (0, 0)) := (hb1.block _ (by simp; omega)).trans (by
    rw [Below.heap_alloc _ _ _ (by simp)]
    exact World.alloc_heap_new w _)
  have q1 : w1.heap[w.heap.size + 1]? = some (.cells #[.int .i64 0, .int .u32 0, .int .i64 0, .int .u32 0, .int .i64 0, .slice none 0 0] 43 (0, 0)) := (hb1.block _ (by simp)).trans (by
    have := World.alloc_heap_new (w.alloc (.cells #[.int .i64 no, .int .u32 f1, .int .i64 f2, .int .u32 t1, .int .i64 t2, .slice A n c] 43)) (.cells #[.int .i64 0, .int .u32 0, .int .i64 0, .int .u32 0, .int .i64 0, .slice none 0 0] 43)
    rwa [World.size_alloc] at this)
  have r1 : (w1.setCell ⟨w.heap.size, 5, none⟩ (.slice A' n c')).heap[w.heap.size + 1]? = some (.cells #[.int .i64 0, .int .u32 0, .int .i64 0, .int .u32 0, .int .i64 0, .slice none 0 0] 43 (0, 0)) := (heap_setCell_other w1 ⟨w.heap.size, 5, none⟩ _ _ (by show ¬ w.heap.size + 1 = w.heap.size; omega)).trans q1
  have r0 := heap_setCell_same w1 w.heap.size 5 _ 43 (.slice A' n c') q0
  have hk1 : Keeps (fun k => k = w.heap.size) w1 (w1.setCell ⟨w.heap.size, 5, none⟩ (.slice A' n c')) := Keeps.set (S := fun k => k = w.heap.size) (Keeps.refl _ _) w.heap.size 5 _ rfl
  have hk2 : Keeps (fun k => k = w.heap.size ∨ k = w.heap.size + 1) w1 (six (w1.setCell ⟨w.heap.size, 5, none⟩ (.slice A' n c')) (w.heap.size + 1) (.int .i64 no) (.int .u32 f1) (.int .i64 f2) (.int .u32 t1) (.int .i64 t2) (.slice A' n c')) :=
    (hk1.mono (fun k _ e => Or.inl e)).trans ((six_keeps _ (w.heap.size + 1) _ _ _ _ _ _).mono (fun k _ e => Or.inr e))
  have HEND : Hid ((six (w1.setCell ⟨w.heap.size, 5, none⟩ (.slice A' n c')) (w.heap.size + 1) (.int .i64 no) (.int .u32 f1) (.int .i64 f2) (.int .u32 t1) (.int .i64 t2) (.slice A' n c')).ownsRow w.heap.size 5 1 (.slice A' n c') n (B zs) ∧ Below w.heap.size w (six (w1.setCell ⟨w.heap.size, 5, none⟩ (.slice A' n c')) (w.heap.size + 1) (.int .i64 no) (.int .u32 f1) (.int .i64 f2) (.int .u32 t1) (.int .i64 t2) (.slice A' n c'))) := Lib.hid (by
    refine ⟨?_, (HB0.out.trans (hb1.mono (by simp; omega))).trans (hk2.below (by rintro k (rfl | rfl) <;> omega) (by have := hb1.size; simp at this; omega))⟩
    have h2 := own_at (w' := six (w1.setCell ⟨w.heap.size, 5, none⟩ (.slice A' n c')) (w.heap.size + 1) (.int .i64 no) (.int .u32 f1) (.int .i64 f2) (.int .u32 t1) (.int .i64 t2) (.slice A' n c')) h1 (fun g hg => hk2.block g (h1.lt g hg).2 (fun e => by have := (h1.lt g hg).1; simp at this; omega))
    exact ⟨h2.1, h2.2.imp id (fun ⟨g, cap, cur, e1, e2, e3⟩ => ⟨g, cap, cur, e1, by simp at e2; omega, e3⟩)⟩)
  obtain ⟨z0, z1, z2, z3, z4, z5⟩ := six_cells r1 rfl (.int .i64 no) (.int .u32 f1) (.int .i64 f2) (.int .u32 t1) (.int .i64 t2) (.slice A' n c')
  have a0 := (cells_of q0 0).1; have a5 := (cells_of q0 5).1; have g5 := (cells_of q0 5).2
  have k0 := (cells_of r0 0).1; have k1 := (cells_of r0 1).1; have k2 := (cells_of r0 2).1; have k3 := (cells_of r0 3).1; have k4 := (cells_of r0 4).1; have k5 := (cells_of r0 5).1
  have y0 := (cells_of r1 0).1; have y1 := (cells_of r1 1).1; have y2 := (cells_of r1 2).1; have y3 := (cells_of r1 3).1; have y4 := (cells_of r1 4).1; have y5 := (cells_of r1 5).1
  have x0 := (cells_of r1 0).2; have x1 := (cells_of r1 1).2; have x2 := (cells_of r1 2).2; have x3 := (cells_of r1 3).2; have x4 := (cells_of r1 4).2; have x5 := (cells_of r1 5).2
  simp at a0 a5 k0 k1 k2 k3 k4 k5 y0 y1 y2 y3 y4 y5
  have l0 : w.heap.size < w1.heap.size := World.block_lt_of_cell? w1 _ a0
  have l1 : w.heap.size + 1 < w1.heap.size := (Array.getElem?_eq_some_iff.1 q1).1
  clear h1 hb1 q0 q1 r0 r1 hk1 hk2
  go_wp2
  exact ⟨rfl, .agg #[.int .i64 no, .int .u32 f1, .int .i64 f2, .int .u32 t1, .int .i64 t2, .slice A' n c'], by simp [results, Try.results30, go_sem, z0, z1, z2, z3, z4, z5], A', c', rfl, HEND.out⟩
end Go.Proofs.Ythfdnidcmkjmoaa
