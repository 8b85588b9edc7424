/-
  Contract of embrasure/addr's Compare. Conditions: none.
-/
import Derived.Test.YtkemkbaomhjnbaaDoorCmpB
import Derived.OwnWalk
import Derived.Deep.RegionWith
import Derived.StillTailTactics
import Derived.Test.YtkemkbaomhjnbaaDoorSeq
namespace Go.Proofs.YtkemkbaomhjnbaaDoor
open Go.RowKit
set_option linter.unusedVariables false

theorem or_at (a b : Int) (W : World) : Calls Tryd.prog 26 #[.slice (some ⟨W.heap.size, 0, none⟩) 2 2] (W.alloc (.cells #[.int .i64 a, .int .i64 b] 3)) fun e w' => e = .returned (.int .i64 (orV a b)) ∧ w' = W.alloc (.cells #[.int .i64 a, .int .i64 b] 3) :=
  or_any _ a b _ ((cells_of (MapKept.heap_alloc W _).1 0).1.trans (by simp)) ((cells_of (MapKept.heap_alloc W _).1 1).1.trans (by simp))

set_option maxRecDepth 100000 in
set_option maxHeartbeats 4000000 in
theorem compare_any (h p h' p' : Int) (w : World) : Calls Tryd.prog 17 #[adr h p, adr h' p'] w fun e w' => e = .returned (.int .i64 (orV (cmpV h h') (cmpV p p'))) ∧ Below w.heap.size w w' := by
  have C1 := Lib.hid cmp32
  have C2 := Lib.hid cmp64
  have C3 := Lib.hid or_at
  unfold adr
  go_enter Tryd.func17, Tryd.ntmps17
  go_wp2_with fail
  have c0 : ((w.alloc (.cells #[.int .u32 h, .int .i64 p] 24)).alloc (.cells #[.int .u32 h', .int .i64 p'] 24)).drew.cell? ⟨w.heap.size, 0, none⟩ = some (.int .u32 h) := by simp
  have c1 : ((w.alloc (.cells #[.int .u32 h, .int .i64 p] 24)).alloc (.cells #[.int .u32 h', .int .i64 p'] 24)).drew.cell? ⟨w.heap.size, 1, none⟩ = some (.int .i64 p) := by simp
  have c2 : ((w.alloc (.cells #[.int .u32 h, .int .i64 p] 24)).alloc (.cells #[.int .u32 h', .int .i64 p'] 24)).drew.cell? ⟨w.heap.size + 1, 0, none⟩ = some (.int .u32 h') := by simp
  have c3 : ((w.alloc (.cells #[.int .u32 h, .int .i64 p] 24)).alloc (.cells #[.int .u32 h', .int .i64 p'] 24)).drew.cell? ⟨w.heap.size + 1, 1, none⟩ = some (.int .i64 p') := by simp
  have HB : Hid (Below w.heap.size w ((w.alloc (.cells #[.int .u32 h, .int .i64 p] 24)).alloc (.cells #[.int .u32 h', .int .i64 p'] 24)).drew) := Lib.hid (((Below.refl _ _).alloc (Nat.le_refl _) _).alloc (by simp) _).drew
  refine wp_region_still_tail 10 (by kernel_rfl) (by kernel_rfl) ?_
  change wpStill _ _ ((w.alloc (.cells #[.int .u32 h, .int .i64 p] 24)).alloc (.cells #[.int .u32 h', .int .i64 p'] 24)).drew (fun a => wpList _ _ _ _ a ((w.alloc (.cells #[.int .u32 h, .int .i64 p] 24)).alloc (.cells #[.int .u32 h', .int .i64 p'] 24)).drew) _ _
  generalize ((w.alloc (.cells #[.int .u32 h, .int .i64 p] 24)).alloc (.cells #[.int .u32 h', .int .i64 p'] 24)).drew = W at *
  simp only [List.take_succ_cons, List.take_zero, List.drop_succ_cons, List.drop_zero]
  repeat still_step
  still_call (C1.out _ _ _)
  repeat still_step
  still_call (C2.out _ _ _)
  refine wpStill_nil ?_
  change wpList _ _ _ _ _ W
  go_wp2_with fail
  refine (C3.out _ _ _).mono ?_
  rintro e w1 ⟨rfl, rfl⟩
  go_wp2
  go_ret
  exact ⟨rfl, HB.out.alloc HB.out.size _⟩
end Go.Proofs.YtkemkbaomhjnbaaDoor
