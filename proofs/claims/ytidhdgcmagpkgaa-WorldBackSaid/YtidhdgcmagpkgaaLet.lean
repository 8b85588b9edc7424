/-
  The contract of a binding's lets. Conditions: the binding lies in memory, with at most sixteen seen ones.
-/
import Derived.Test.YtidhdgcmagpkgaaSew
namespace Go.Proofs.Ytidhdgcmagpkgaa
open Go.RowKit
attribute [local go_sem] Oper.semAt_some
set_option linter.unusedVariables false

/-- is what comes from another one let in by a binding, where the box filters so? -/
def letsB (b : Bn) (f : A2) (m : Int) : Bool := b.asked || b.seen.any (fun a => decide (partA a m = partA f m))
theorem tests53 {V : World} {c1 c2 : Nat} {f : A2} {m : Int} (h1 : V.cell? ⟨c1, 0, none⟩ = some (.int .i64 m)) (h2 : V.cell? ⟨c2, 0, none⟩ = some (.int .u32 f.1)) (h3 : V.cell? ⟨c2, 1, none⟩ = some (.int .i64 f.2)) :
    TestsA 55 #[.pointer (some ⟨c1, 0, none⟩), .pointer (some ⟨c2, 0, none⟩)] (fun a => decide (partA a m = partA f m)) (fun _ => False) V := by
  intro a W hW
  have l1 := World.block_lt_of_cell? V _ h1
  have l2 := World.block_lt_of_cell? V _ h2
  exact like_any c1 c2 m f a W ((World.cell?_of_block (hW.block c1 l1 id)).trans h1) ((World.cell?_of_block (hW.block c2 l2 id)).trans h2) ((World.cell?_of_block (hW.block c2 l2 id)).trans h3)

set_option maxHeartbeats 2000000 in
theorem lets_any (d : Nd) (f : A2) (m : Int) (w : World) (h : NdAt w d) (hs : d.b.seen.length ≤ 16) :
    Calls Try.prog 39 #[ptr d.p, adr f, .int .i64 m] w fun e w' => e = .returned (.bool (letsB d.b f m)) ∧ Below w.heap.size w w' := by
  have c6 := h.cells.1.2.2.2.2.2.2
  have c7 := h.cells.2.1
  have hlt := h.lt
  have hb0 : Below w.heap.size w ((w.alloc (.cells #[.int .u32 f.1, .int .i64 f.2] 36)).alloc (.cells #[.int .i64 m] 3)) := ((Below.refl _ _).alloc (Nat.le_refl _) _).alloc (by simp) _
  have hV0 : NdAt ((w.alloc (.cells #[.int .u32 f.1, .int .i64 f.2] 36)).alloc (.cells #[.int .i64 m] 3)) d := h.kept (hb0.block _ hlt) (fun g hg => hb0.block g (h.rowlt hg))
  have hC := contains_any (w.heap.size + 1) w.heap.size (fun a => decide (partA a m = partA f m)) d.sv d.b.seen (fun _ => False) _ hV0.row (by omega) (tests53 (by go_simp) (by go_simp) (by go_simp))
  have HB0 := Lib.hid hb0
  unfold ptr adr
  cases hk : d.b.asked with
  | true =>
    rw [hk] at c6
    have HR : Hid (letsB d.b f m = true) := Lib.hid (by simp [letsB, hk])
    clear h hs hb0 hV0 hC hk
    go_enter Try.func39, Try.ntmps39
    go_wp2
    go_ret
    exact ⟨ret_b HR.out.symm, HB0.out⟩
  | false =>
    rw [hk] at c6
    have HR : Hid (letsB d.b f m = d.b.seen.any (fun a => decide (partA a m = partA f m))) := Lib.hid (by simp [letsB, hk])
    generalize d.b.seen.any (fun a => decide (partA a m = partA f m)) = r at *
    clear h hs hb0 hV0 hk
    go_enter Try.func39, Try.ntmps39
    go_wp2_with fail
    refine hC.mono ?_
    rintro e w1 ⟨rfl, hb1⟩
    have HB1 := Lib.hid hb1; clear hb1
    go_wp2
    go_ret
    exact ⟨ret_b HR.out.symm, HB0.out.trans (HB1.out.mono (by simp; omega))⟩
end Go.Proofs.Ytidhdgcmagpkgaa
