/-
  Contracts of the tests that see and lets hand to the library: an address is the one; an address is like another one. Conditions: the captured cells hold what they are said to.
-/
import Derived.Test.YtidhdgcmagpkgaaPrt
import Derived.Deep.RegionHeld3
import Derived.Deep.QuietTactic
import Derived.BigQuiet
namespace Go.Proofs.Ytidhdgcmagpkgaa
open Go.RowKit
attribute [local go_sem] Oper.semAt_some
set_option linter.unusedVariables false

theorem noGuard38 : Try.prog.eqGuardType Try.prog.depth 36 = false := by kernel_rfl
theorem run_eqA (a b : A2) (w : World) : (binOp .eql 36 (.agg #[.int .u32 a.1, .int .i64 a.2]) (.agg #[.int .u32 b.1, .int .i64 b.2])).run Try.prog w = .ok (.bool (decide (a = b))) w := by
  obtain ⟨h, p⟩ := a
  obtain ⟨h', p'⟩ := b
  have hm := noGuard38
  by_cases h1 : h = h'
  · subst h1
    by_cases h2 : p = p'
    · subst h2
      go_simp
    · go_simp
  · go_simp

set_option maxHeartbeats 1000000 in
theorem same_any (cb : Nat) (t a : A2) (w : World) (c0 : w.cell? ⟨cb, 0, none⟩ = some (.int .u32 t.1)) (c1 : w.cell? ⟨cb, 1, none⟩ = some (.int .i64 t.2)) :
    Calls Try.prog 61 #[adr a, .pointer (some ⟨cb, 0, none⟩)] w fun e w' => e = .returned (.bool (decide (a = t))) ∧ Below w.heap.size w w' := by
  have hE := fun W => run_eqA a t W
  have hlt := World.block_lt_of_cell? w _ c0
  dsimp only at hlt
  unfold adr
  generalize decide (a = t) = r at *
  generalize t.1 = t1 at *
  generalize t.2 = t2 at *
  generalize a.1 = a1 at *
  generalize a.2 = a2 at *
  go_enter Try.func61, Try.ntmps61
  go_wp2
  go_ret
  exact ⟨rfl, (Below.refl _ _).alloc (Nat.le_refl _) _⟩

/-- what stands while like's test goes -/
structure SL (w W : World) : Prop where
  b : Below w.heap.size w W
set_option maxHeartbeats 2000000 in
theorem like_any (c1 c2 : Nat) (m : Int) (f a : A2) (w : World) (h1 : w.cell? ⟨c1, 0, none⟩ = some (.int .i64 m)) (h2 : w.cell? ⟨c2, 0, none⟩ = some (.int .u32 f.1)) (h3 : w.cell? ⟨c2, 1, none⟩ = some (.int .i64 f.2)) :
    Calls Try.prog 55 #[adr a, .pointer (some ⟨c1, 0, none⟩), .pointer (some ⟨c2, 0, none⟩)] w fun e w' => e = .returned (.bool (decide (partA a m = partA f m))) ∧ Below w.heap.size w w' := by
  have HP := Lib.hid (fun a W => part_any a m W)
  have hE := fun W => run_eqA (partA a m) (partA f m) W
  have l1 := World.block_lt_of_cell? w _ h1
  have l2 := World.block_lt_of_cell? w _ h2
  dsimp only at l1 l2
  have HPA := Lib.hid (fun W => part_any a m W)
  have HPF := Lib.hid (fun W => part_any f m W)
  unfold adr at *
  generalize decide (partA a m = partA f m) = r at *
  generalize (partA a m).1 = x1 at *
  generalize (partA a m).2 = x2 at *
  generalize (partA f m).1 = y1 at *
  generalize (partA f m).2 = y2 at *
  generalize f.1 = f1 at *
  generalize f.2 = f2 at *
  generalize a.1 = a1 at *
  generalize a.2 = a2 at *
  have HK : Hid (∀ W W', (W.cell? ⟨w.heap.size, 0, none⟩ = some (.int .u32 a1) ∧ W.cell? ⟨w.heap.size, 1, none⟩ = some (.int .i64 a2) ∧ W.cell? ⟨c1, 0, none⟩ = some (.int .i64 m) ∧ W.cell? ⟨c2, 0, none⟩ = some (.int .u32 f1) ∧ W.cell? ⟨c2, 1, none⟩ = some (.int .i64 f2) ∧ SL w W) → Below W.heap.size W W' →
      (W'.cell? ⟨w.heap.size, 0, none⟩ = some (.int .u32 a1) ∧ W'.cell? ⟨w.heap.size, 1, none⟩ = some (.int .i64 a2) ∧ W'.cell? ⟨c1, 0, none⟩ = some (.int .i64 m) ∧ W'.cell? ⟨c2, 0, none⟩ = some (.int .u32 f1) ∧ W'.cell? ⟨c2, 1, none⟩ = some (.int .i64 f2) ∧ SL w W')) := Lib.hid (fun W W' h hb => by
    obtain ⟨q1, q2, q3, q4, q5, q6⟩ := h
    exact ⟨(hb.cell (World.block_lt_of_cell? W _ q1)).trans q1, (hb.cell (World.block_lt_of_cell? W _ q2)).trans q2, (hb.cell (World.block_lt_of_cell? W _ q3)).trans q3, (hb.cell (World.block_lt_of_cell? W _ q4)).trans q4, (hb.cell (World.block_lt_of_cell? W _ q5)).trans q5, ⟨q6.b.trans (hb.mono q6.b.size)⟩⟩)
  have H0 : Hid (∀ o n, ((w.alloc o).drewN n).cell? ⟨w.heap.size, 0, none⟩ = some (.int .u32 a1) → ((w.alloc o).drewN n).cell? ⟨w.heap.size, 1, none⟩ = some (.int .i64 a2) → SL w ((w.alloc o).drewN n)) := Lib.hid (fun o n _ _ => ⟨below_drw ((Below.refl _ w).alloc (Nat.le_refl _) _) _⟩)
  have HS : Hid (SL w ((w.alloc (.cells #[.int .u32 a1, .int .i64 a2] 36)).drewN 1)) := Lib.hid ⟨below_drw ((Below.refl _ w).alloc (Nat.le_refl _) _) _⟩
  go_enter Try.func55, Try.ntmps55
  go_wp2
  go_region_held3 (fun W => W.cell? ⟨w.heap.size, 0, none⟩ = some (.int .u32 a1) ∧ W.cell? ⟨w.heap.size, 1, none⟩ = some (.int .i64 a2) ∧ W.cell? ⟨c1, 0, none⟩ = some (.int .i64 m) ∧ W.cell? ⟨c2, 0, none⟩ = some (.int .u32 f1) ∧ W.cell? ⟨c2, 1, none⟩ = some (.int .i64 f2) ∧ SL w W) (first | exact ⟨by go_simp, by go_simp, by go_simp, by go_simp, by go_simp, HS.out⟩ | exact HK.out _ _ (by assumption) hb7 | exact HK.out _ _ (by assumption) hb8) (first | (go_at_call 42; (with_reducible refine (HPA.out _).mono ?_); rintro e w7 ⟨rfl, hb7⟩) | (go_at_call 42; (with_reducible refine (HPF.out _).mono ?_); rintro e w8 ⟨rfl, hb8⟩))
  all_goals
    rename_i hS
    go_wp2
    go_ret
    exact ⟨rfl, hS.2.2.2.2.2.b⟩
end Go.Proofs.Ytidhdgcmagpkgaa
