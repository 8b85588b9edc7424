/-
  Contracts of embrasure/wire's Nums and the document's own. Conditions: the table is as the program's text lays it.
-/
import Derived.Test.YtebgfiibcmnfnaaDoorMsg
import Derived.Lib.LaidTab
namespace Go.Proofs.YtebgfiibcmnfnaaDoor
open Go.RowKit
set_option linter.unusedVariables false

/-- the table of wire.counts is as it was laid -/
def Tb (W : World) : Prop := ∀ k, k < 19 → W.cell? ⟨0, k, none⟩ = some (.int .i64 (Wi.tab.getD k 0))
theorem Tb.below {w w' : World} (h : Tb w) (hb : Below w.heap.size w w') : Tb w' := fun k hk => (hb.cell (lt_of_cell (h k hk))).trans (h k hk)
theorem Tb.pos {w : World} (h : Tb w) : 0 < w.heap.size := lt_of_cell (h 0 (by omega))
theorem countG : Tryd.prog.globalNamed "embrasure/wire.counts" = some 0 := by kernel_rfl
theorem countT : (Tryd.prog.globals[0]?).map (·.type) = some 51 := by kernel_rfl
theorem countU : Tryd.prog.underlying 51 = some (.array 19 3) := by kernel_rfl
theorem countE : Tryd.prog.underlying 3 = some (.int .i64) := by kernel_rfl
theorem countC : Tryd.prog.cellsOf 3 = 1 := by kernel_rfl
theorem countS : Tryd.prog.cellsOf 51 = 19 := by kernel_rfl
theorem tb_laid {W : World} (h : laidMet Tryd.prog Rows.wireTellsRow.laid W) : Tb W := by
  have h2 : laidMet Tryd.prog (("embrasure/wire.counts", Lib.tabData .i64 Wi.tab) :: []) W := h
  have ht := Lib.tabIs_of_head countG countT countU countE countC countS h2
  exact fun k hk => ht.cell countG k hk

set_option maxRecDepth 100000 in
set_option maxHeartbeats 2000000 in
theorem nums_any (k : Int) (w : World) (hT : Tb w) : Calls Tryd.prog 16 #[.int .i64 k] w fun e w' => e = .returned (.int .i64 (Wi.numsOf k)) ∧ w' = w := by
  by_cases h1 : k < 1
  · rw [Wi.numsOf_out (.inl h1)]
    go_enter Tryd.func16, Tryd.ntmps16
    go_wp2
    go_ret
    exact ⟨rfl, rfl⟩
  · by_cases h2 : 18 < k
    · rw [Wi.numsOf_out (.inr h2)]
      go_enter Tryd.func16, Tryd.ntmps16
      go_wp2
      go_ret
      exact ⟨rfl, rfl⟩
    · rw [(Wi.numsOf_in (by omega) (by omega)).1]
      obtain ⟨n, rfl⟩ : ∃ n : Nat, k = (n : Int) := ⟨k.toNat, by omega⟩
      have hc := hT n (by omega)
      rw [Int.toNat_natCast]
      obtain ⟨x, hx⟩ : ∃ x, Wi.tab.getD n 0 = x := ⟨_, rfl⟩
      rw [hx] at hc ⊢
      clear hT hx
      go_enter Tryd.func16, Tryd.ntmps16
      go_wp2
      go_ret
      exact ⟨rfl, rfl⟩
set_option maxRecDepth 100000 in
set_option maxHeartbeats 4000000 in
theorem rnums_any (k : Int) (w : World) : Calls Tryd.prog 17 #[.int .i64 k] w fun e w' => e = .returned (.int .i64 (Wi.numsOf k)) ∧ w' = w := by
  by_cases h1 : 1 ≤ k ∧ k ≤ 18
  · rcases (show k = 1 ∨ k = 2 ∨ k = 3 ∨ k = 4 ∨ k = 5 ∨ k = 6 ∨ k = 7 ∨ k = 8 ∨ k = 9 ∨ k = 10 ∨ k = 11 ∨ k = 12 ∨ k = 13 ∨ k = 14 ∨ k = 15 ∨ k = 16 ∨ k = 17 ∨ k = 18 by omega) with rfl | rfl | rfl | rfl | rfl | rfl | rfl | rfl | rfl | rfl | rfl | rfl | rfl | rfl | rfl | rfl | rfl | rfl
    all_goals
      go_enter Tryd.func17, Tryd.ntmps17
      go_wp2
      go_ret
      exact ⟨rfl, rfl⟩
  · rw [Wi.numsOf_out (by omega)]
    have e1 : (k == 1) = false := by simp; omega
    have e2 : (k == 2) = false := by simp; omega
    have e3 : (k == 3) = false := by simp; omega
    have e4 : (k == 4) = false := by simp; omega
    have e5 : (k == 5) = false := by simp; omega
    have e6 : (k == 6) = false := by simp; omega
    have e7 : (k == 7) = false := by simp; omega
    have e8 : (k == 8) = false := by simp; omega
    have e9 : (k == 9) = false := by simp; omega
    have e10 : (k == 10) = false := by simp; omega
    have e11 : (k == 11) = false := by simp; omega
    have e12 : (k == 12) = false := by simp; omega
    have e13 : (k == 13) = false := by simp; omega
    have e14 : (k == 14) = false := by simp; omega
    have e15 : (k == 15) = false := by simp; omega
    have e16 : (k == 16) = false := by simp; omega
    have e17 : (k == 17) = false := by simp; omega
    have e18 : (k == 18) = false := by simp; omega
    go_enter Tryd.func17, Tryd.ntmps17
    go_wp2
    go_ret
    exact ⟨rfl, rfl⟩
end Go.Proofs.YtebgfiibcmnfnaaDoor
