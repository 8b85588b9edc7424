/-
  Contracts of nat's New, Box and Reboot. Conditions: as each lemma states.
-/
import Derived.Test.YtemlnkcokeckmaaBx
import Derived.Test.YtemlnkcokeckmaaMvd
namespace Go.Proofs.Ytemlnkcokeckmaa
open Go.RowKit
attribute [local go_sem] Oper.semAt_some
set_option linter.unusedVariables false

/-- what New leaves -/
def Made (w : World) (x : Bx) : Ending → World → Prop := fun e w' => Below w.heap.size w w' ∧ if box2 x = true then ∃ g, e = .returned (.tuple #[.pointer (some ⟨g, 0, none⟩), .int .i64 0]) ∧ w.heap.size ≤ g ∧ Na w' g x 0 (.slice none 0 0) [] else e = .returned (.tuple #[.pointer none, .int .i64 1])
set_option maxHeartbeats 1000000 in
theorem new_any (x : Bx) (w : World) (hx : isBx x) : Calls Try.prog 14 #[.agg (boxCells x)] w (Made w x) := by
  have HI := Lib.hid (fun W => isBox_any x W hx)
  cases hb : box2 x with
  | false =>
    rw [hb] at HI
    have HB := Lib.hid hb
    clear hb
    unfold boxCells at *
    go_enter Try.func14, Try.ntmps14
    go_wp2_with fail
    refine (HI.out _).mono ?_
    rintro e w1 ⟨rfl, hb1⟩
    have HB1 := Lib.hid hb1; clear hb1
    go_wp2
    go_ret2
    exact ⟨((Below.refl _ _).alloc (Nat.le_refl _) _).trans (HB1.out.mono (by simp)), by rw [HB.out, if_neg (by simp)]; rfl⟩
  | true =>
    rw [hb] at HI
    have HB := Lib.hid hb
    clear hb
    unfold boxCells at *
    go_enter Try.func14, Try.ntmps14
    go_wp2_with fail
    refine (HI.out _).mono ?_
    rintro e w1 ⟨rfl, hb1⟩
    have HB1 := Lib.hid hb1
    have c0 := hb1.cell (p := ⟨w.heap.size, 0, none⟩) (by simp)
    have c1 := hb1.cell (p := ⟨w.heap.size, 1, none⟩) (by simp)
    have c2 := hb1.cell (p := ⟨w.heap.size, 2, none⟩) (by simp)
    have c3 := hb1.cell (p := ⟨w.heap.size, 3, none⟩) (by simp)
    have c4 := hb1.cell (p := ⟨w.heap.size, 4, none⟩) (by simp)
    have c5 := hb1.cell (p := ⟨w.heap.size, 5, none⟩) (by simp)
    have c6 := hb1.cell (p := ⟨w.heap.size, 6, none⟩) (by simp)
    clear hb1
    have HS : Hid (w.heap.size + 1 ≤ w1.heap.size) := Lib.hid (by have := HB1.out.size; simpa using this)
    go_wp2
    go_ret2
    refine ⟨(((Below.refl _ _).alloc (Nat.le_refl _) _).trans (HB1.out.mono (by simp))).alloc (by have := HS.out; omega) _, ?_⟩
    rw [HB.out, if_pos rfl]
    exact ⟨_, rfl, by have := HS.out; omega, World.alloc_heap_new w1 _, World.ownsRow_nil _ _ _ _, by simp, List.Pairwise.nil⟩
set_option maxHeartbeats 1000000 in
theorem box_any (nb : Nat) (x : Bx) (now : Int) (kv : Value) (L : List Nd) (w : World) (h : Na w nb x now kv L) : Calls Try.prog 16 #[.pointer (some ⟨nb, 0, none⟩)] w fun e w' => e = .returned (.agg (boxCells x)) ∧ Below w.heap.size w w' := by
  obtain ⟨c0, c1, c2, c3, c4, c5, c6⟩ := h.cells.1
  have hlt := h.lt
  have HB : Hid (∀ o, Below w.heap.size w (w.alloc o)) := Lib.hid (fun o => (Below.refl _ w).alloc (Nat.le_refl _) _)
  clear h
  unfold boxCells
  go_enter Try.func16, Try.ntmps16
  go_wp2
  exact ⟨rfl, .agg #[.int .u32 x.host, .int .i64 x.lo, .int .i64 x.hi, .int .i64 x.map, .int .i64 x.filter, .int .i64 x.life, .int .i64 x.most], by simp [results, Try.results16, go_sem], rfl, HB.out _⟩
set_option maxHeartbeats 1000000 in
theorem reboot_any (nb : Nat) (x : Bx) (now : Int) (kv : Value) (L : List Nd) (w : World) (h : Na w nb x now kv L) : Calls Try.prog 25 #[.pointer (some ⟨nb, 0, none⟩)] w fun e w' => e = .returned (.tuple #[]) ∧ Mvd nb x kv L w 0 (.slice none 0 0) [] w' := by
  have c7 := h.cells.2.1
  have c8 := h.cells.2.2.1
  have f7 := h.cells.2.2.2 7
  have f8 := h.cells.2.2.2 8
  have H := Lib.hid h
  clear h
  go_enter Try.func25, Try.ntmps25
  go_wp2
  go_end0
  refine ⟨rfl, ⟨heap_setCell_same _ nb 8 _ 90 _ (heap_setCell_same w nb 7 _ 90 _ H.out.top), World.ownsRow_nil _ _ _ _, by simp, List.Pairwise.nil⟩, fun k hk => .inl ?_, ((Keeps.refl _ w).set nb 7 _ (.inl rfl)).set nb 8 _ (.inl rfl)⟩
  rcases hk with rfl | hk | ⟨d, hd, _⟩
  · exact .inl rfl
  · cases hk
  · cases hd
end Go.Proofs.Ytemlnkcokeckmaa
