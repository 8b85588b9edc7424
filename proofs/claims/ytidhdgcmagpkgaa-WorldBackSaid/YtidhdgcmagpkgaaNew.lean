/-
  Contracts of nat's New, Box and Reboot. Conditions: as each lemma states.
-/
import Derived.Test.YtidhdgcmagpkgaaBx
import Derived.Test.YtidhdgcmagpkgaaMvd
namespace Go.Proofs.Ytidhdgcmagpkgaa
open Go.RowKit
attribute [local go_sem] Oper.semAt_some
set_option linter.unusedVariables false

/-- what New leaves -/
def Made (w : World) (x : Bx) : Ending → World → Prop := fun e w' => Below w.heap.size w w' ∧ if box2 x = true then ∃ g, e = .returned (.tuple #[.pointer (some ⟨g, 0, none⟩), .int .i64 0]) ∧ w.heap.size ≤ g ∧ Na w' g x 0 (.slice none 0 0) [] else e = .returned (.tuple #[.pointer none, .int .i64 1])
set_option maxHeartbeats 1000000 in
theorem new_any (x : Bx) (w : World) (hx : isBx x) : Calls Try.prog 15 #[.agg (boxCells x)] w (Made w x) := by
  have HI := Lib.hid (fun W => isBox_any x W hx)
  cases hb : box2 x with
  | false =>
    rw [hb] at HI
    have HB := Lib.hid hb
    clear hb
    unfold boxCells at *
    go_enter Try.func15, Try.ntmps15
    go_wp2_with fail
    refine (HI.out _).mono ?_
    rintro e w1 ⟨rfl, hb1⟩
    have HB1 := Lib.hid hb1; clear hb1
    go_wp2
    go_ret2
    exact ⟨((Below.refl _ _).alloc (Nat.le_refl _) _).trans (HB1.out.mono (by simp)), by rw [HB.out, if_neg (by simp)]; rfl⟩
  | true =>
    rw [hb] at HI
    have HB := Lib.hid hb
    clear hb
    unfold boxCells at *
    go_enter Try.func15, Try.ntmps15
    go_wp2_with fail
    refine (HI.out _).mono ?_
    rintro e w1 ⟨rfl, hb1⟩
    have HB1 := Lib.hid hb1
    have c0 := hb1.cell (p := ⟨w.heap.size, 0, none⟩) (by simp)
    have c1 := hb1.cell (p := ⟨w.heap.size, 1, none⟩) (by simp)
    have c2 := hb1.cell (p := ⟨w.heap.size, 2, none⟩) (by simp)
    have c3 := hb1.cell (p := ⟨w.heap.size, 3, none⟩) (by simp)
    have c4 := hb1.cell (p := ⟨w.heap.size, 4, none⟩) (by simp)
    have c5 := hb1.cell (p := ⟨w.heap.size, 5, none⟩) (by simp)
    have c6 := hb1.cell (p := ⟨w.heap.size, 6, none⟩) (by simp)
    clear hb1
    have HS : Hid (w.heap.size + 1 ≤ w1.heap.size) := Lib.hid (by have := HB1.out.size; simpa using this)
    go_wp2
    go_ret2
    refine ⟨(((Below.refl _ _).alloc (Nat.le_refl _) _).trans (HB1.out.mono (by simp))).alloc (by have := HS.out; omega) _, ?_⟩
    rw [HB.out, if_pos rfl]
    exact ⟨_, rfl, by have := HS.out; omega, World.alloc_heap_new w1 _, World.ownsRow_nil _ _ _ _, by simp, List.Pairwise.nil⟩
end Go.Proofs.Ytidhdgcmagpkgaa
