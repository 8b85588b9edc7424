/-
  Contracts of embrasure/addr's FromBytes and the document's own. Conditions: as each states.
-/
import Derived.Test.YtebgfiibcmnfnaaDoorSix
import Derived.OwnWalk
namespace Go.Proofs.YtebgfiibcmnfnaaDoor
open Go.RowKit
set_option linter.unusedVariables false


set_option maxRecDepth 100000 in
set_option maxHeartbeats 4000000 in
theorem from_short (A : Option Addr) (n c : Nat) (w : World) (hn : n ≠ 6) (hl : n ≤ maxLen) : Calls Tryd.prog 43 #[.slice A n c] w fun e w' => e = .returned refusedA ∧ Below w.heap.size w w' := by
  unfold maxLen at hl
  have t : ((n : Int) != 6) = true := by rw [bne_iff_ne]; omega
  unfold refusedA adr
  go_enter Tryd.func43, Tryd.ntmps43
  go_wp2
  refine ⟨rfl, .tuple #[.agg #[.int .u32 0, .int .i64 0], .int .i64 3], by simp [results, Tryd.results43, go_sem], rfl, (Below.refl _ _).alloc (Nat.le_refl _) _⟩
set_option maxRecDepth 100000 in
set_option maxHeartbeats 4000000 in
theorem rfrom_short (A : Option Addr) (n c : Nat) (w : World) (hn : n ≠ 6) (hl : n ≤ maxLen) : Calls Tryd.prog 32 #[.slice A n c] w fun e w' => e = .returned refusedA ∧ Below w.heap.size w w' := by
  unfold maxLen at hl
  have t : ((n : Int) != 6) = true := by rw [bne_iff_ne]; omega
  unfold refusedA adr
  go_enter Tryd.func32, Tryd.ntmps32
  go_wp2
  refine ⟨rfl, .tuple #[.agg #[.int .u32 0, .int .i64 0], .int .i64 3], by simp [results, Tryd.results32, go_sem], rfl, (Below.refl _ _).alloc (Nat.le_refl _) _⟩

end Go.Proofs.YtebgfiibcmnfnaaDoor
