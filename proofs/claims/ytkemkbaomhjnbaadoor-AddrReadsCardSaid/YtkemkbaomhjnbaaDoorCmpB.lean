/-
  Contracts of embrasure/addr's Compare and of the document's own Less. Conditions: as each states.
-/
import Derived.Test.YtkemkbaomhjnbaaDoorCmp
import Derived.OwnWalk
namespace Go.Proofs.YtkemkbaomhjnbaaDoor
open Go.RowKit
set_option linter.unusedVariables false

theorem less_t {h p h' p' : Int} (c : h < h') : lessA h p h' p' = true := by simp [lessA, c]
theorem less_f {h p h' p' : Int} (c : h' < h) : lessA h p h' p' = false := by
  have a : ¬ h < h' := by omega
  have b : ¬ h = h' := by omega
  simp [lessA, a, b]
theorem less_e (h p p' : Int) : lessA h p h p' = decide (p < p') := by simp [lessA]

set_option maxHeartbeats 1000000 in
theorem rless_any (h p h' p' : Int) (w : World) : Calls Tryd.prog 18 #[adr h p, adr h' p'] w fun e w' => e = .returned (.bool (lessA h p h' p')) ∧ Below w.heap.size w w' := by
  unfold adr
  rcases Int.lt_trichotomy h h' with c | rfl | c
  · rw [less_t c]
    go_enter Tryd.func18, Tryd.ntmps18
    go_wp2
    go_ret
    exact ⟨rfl, ((Below.refl _ _).alloc (Nat.le_refl _) _).alloc (by simp) _⟩
  · rw [less_e]
    go_enter Tryd.func18, Tryd.ntmps18
    go_wp2
    go_ret
    exact ⟨rfl, ((Below.refl _ _).alloc (Nat.le_refl _) _).alloc (by simp) _⟩
  · rw [less_f c]
    have c' : ¬ h < h' := by omega
    have t : (h == h') = false := by simp; omega
    go_enter Tryd.func18, Tryd.ntmps18
    go_wp2
    go_ret
    exact ⟨rfl, ((Below.refl _ _).alloc (Nat.le_refl _) _).alloc (by simp) _⟩

set_option maxHeartbeats 1000000 in
theorem or_any (g : Nat) (a b : Int) (w : World) (c0 : w.cell? ⟨g, 0, none⟩ = some (.int .i64 a)) (c1 : w.cell? ⟨g, 1, none⟩ = some (.int .i64 b)) :
    Calls Tryd.prog 26 #[.slice (some ⟨g, 0, none⟩) 2 2] w fun e w' => e = .returned (.int .i64 (orV a b)) ∧ w' = w := by
  have hs0 : (0 : Int) + 1 = 1 := rfl
  by_cases ha : a = 0
  · subst ha
    rw [orV_0]
    by_cases hb : b = 0
    · subst hb
      go_enter Tryd.func26, Tryd.ntmps26
      go_wp2
      go_loopw [8] (fun i wr => wr = w ∧ ∃ k : Nat, k ≤ 2 ∧ i = .int .i64 k) (fun i _ => 2 - (intOf i).toNat)
      case atStart => exact ⟨rfl, 0, by omega, rfl⟩
      case round =>
        obtain ⟨rfl, k, hk, rfl⟩ := hrel
        rcases (show k = 0 ∨ k = 1 ∨ k = 2 by omega) with rfl | rfl | rfl
        · go_wp2
          go_roundw
          case rel => exact ⟨trivial, 1, by omega, rfl⟩
          case measure => simp [intOf]
        · go_wp2
          go_roundw
          case rel => exact ⟨trivial, 2, by omega, rfl⟩
          case measure => simp [intOf]
        · go_wp2
          go_ret
          exact ⟨rfl, rfl⟩
    · have tb : (b != 0) = true := by rw [bne_iff_ne]; exact hb
      go_enter Tryd.func26, Tryd.ntmps26
      go_wp2
      go_loopw [8] (fun i wr => wr = w ∧ ∃ k : Nat, k ≤ 1 ∧ i = .int .i64 k) (fun i _ => 2 - (intOf i).toNat)
      case atStart => exact ⟨rfl, 0, by omega, rfl⟩
      case round =>
        obtain ⟨rfl, k, hk, rfl⟩ := hrel
        rcases (show k = 0 ∨ k = 1 by omega) with rfl | rfl
        · go_wp2
          go_roundw
          case rel => exact ⟨trivial, 1, by omega, rfl⟩
          case measure => simp [intOf]
        · go_wp2
          go_ret
          exact ⟨rfl, rfl⟩
  · rw [orV_n ha]
    have ta : (a != 0) = true := by rw [bne_iff_ne]; exact ha
    go_enter Tryd.func26, Tryd.ntmps26
    go_wp2
    go_loopw [8] (fun i wr => wr = w ∧ i = .int .i64 0) (fun i _ => 2 - (intOf i).toNat)
    case atStart => exact ⟨rfl, rfl⟩
    case round =>
      obtain ⟨rfl, rfl⟩ := hrel
      go_wp2
      go_ret
      exact ⟨rfl, rfl⟩
end Go.Proofs.YtkemkbaomhjnbaaDoor
