/-
  The contract of the statements' own 'awake': it answers true, and writes nothing that was there. No conditions.
-/
import Derived.Test.YthdbakeafmfmpaaRef
namespace Go.Proofs.Ythdbakeafmfmpaa
open Go.RowKit
set_option linter.unusedVariables false

theorem enc300 : Uv.enc 300 = [172, 2] := by decide +kernel
theorem put300 (w : World) : Calls Try.prog 10 #[.int .u64 300] w fun e w' => ∃ g c, e = .returned (.slice (some ⟨g, 0, none⟩) 2 c) ∧
    w'.cell? ⟨g, 0, none⟩ = some (.int .u8 172) ∧ w'.cell? ⟨g, 1, none⟩ = some (.int .u8 2) ∧ g < w'.heap.size ∧ Below w.heap.size w w' := by
  refine (put_any 300 w (by omega)).mono ?_
  rintro e w' ⟨r, rfl, hown, hb⟩
  rw [enc300] at hown
  obtain ⟨A, c, rfl, _, _, _, _, h⟩ := own_form hown (by simp)
  rcases hown.2 with ⟨h', _⟩ | ⟨g, cap, cur, h', _, hg, _⟩
  · simp at h'
  · simp only [Value.slice.injEq] at h'
    obtain ⟨rfl, _, rfl⟩ := h'
    have h0 := hown.cellAt 0 (by simp)
    have h1 := hown.cellAt 1 (by simp)
    exact ⟨g, c, rfl, h0, h1, (Array.getElem?_eq_some_iff.1 hg).1, hb⟩
theorem len300 (w : World) : Calls Try.prog 13 #[.int .u64 300] w fun e w' => e = .returned (.int .i64 2) ∧ w = w' :=
  (len_any 300 w (by omega)).mono fun e w' h => ⟨h.1, h.2⟩
theorem get80 (b : Nat) (w : World) (hb : b < w.heap.size) (h0 : w.cell? ⟨b, 0, none⟩ = some (.int .u8 128)) :
    Calls Try.prog 14 #[.slice (some ⟨b, 0, none⟩) 1 1] w fun e w' => e = .returned (.tuple #[.int .u64 0, .int .i64 0, .int .i64 2]) ∧ w = w' :=
  get_any (some ⟨b, 0, none⟩) 1 1 [128] w (by omega) (by unfold maxLen; omega) ⟨rfl, by simp, fun _ => ⟨b, 0, rfl, hb, fun j hj => by
    obtain rfl : j = 0 := by omega
    simpa using h0⟩⟩
theorem get8000 (b : Nat) (w : World) (hb : b < w.heap.size) (h0 : w.cell? ⟨b, 0, none⟩ = some (.int .u8 128)) (h1 : w.cell? ⟨b, 1, none⟩ = some (.int .u8 0)) :
    Calls Try.prog 14 #[.slice (some ⟨b, 0, none⟩) 2 2] w fun e w' => e = .returned (.tuple #[.int .u64 0, .int .i64 0, .int .i64 3]) ∧ w = w' :=
  get_any (some ⟨b, 0, none⟩) 2 2 [128, 0] w (by omega) (by unfold maxLen; omega) ⟨rfl, by simp, fun _ => ⟨b, 0, rfl, hb, fun j hj => by
    rcases (show j = 0 ∨ j = 1 by omega) with rfl | rfl
    · simpa using h0
    · simpa using h1⟩⟩

set_option maxHeartbeats 1000000 in
theorem awake_any (w : World) : Calls Try.prog 9 #[] w fun e w' => e = .returned (.bool true) ∧ Below w.heap.size w w' := by
  go_enter Try.func9, Try.ntmps9
  go_wp2_with fail
  refine (put300 _).mono ?_
  rintro e w1 ⟨g, c, rfl, h0, h1, hg, hb⟩
  have HB := Lib.hid hb; clear hb
  go_wp2_with fail
  refine (get80 _ _ (by simp) (by simp)).mono ?_
  rintro e w2 ⟨rfl, rfl⟩
  go_wp2_with fail
  refine (get8000 _ _ (by simp) (by go_simp) (by go_simp)).mono ?_
  rintro e w2 ⟨rfl, rfl⟩
  go_wp2_with (go_at_call 13; refine (len300 _).mono ?_; rintro e w' ⟨rfl, rfl⟩)
  go_ret
  exact ⟨rfl, (HB.out.alloc HB.out.size _).alloc (by have := HB.out.size; simp; omega) _⟩

#print axioms awake_any
end Go.Proofs.Ythdbakeafmfmpaa
