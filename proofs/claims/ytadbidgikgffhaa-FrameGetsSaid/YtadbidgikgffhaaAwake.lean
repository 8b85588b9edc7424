/-
  The contract of the statements' own 'awake': it answers true, and writes nothing that was there. No conditions.
-/
import Derived.Test.YtadbidgikgffhaaCount
import Derived.Lib.SlBytesConst
namespace Go.Proofs.Ytadbidgikgffhaa
open Go.RowKit
set_option linter.unusedVariables false

theorem put_ab : Fr.put [97, 98] = [2, 97, 98] := by decide +kernel
theorem first_ab : Fr.row [2, 97, 98] = [97, 98] ∧ Fr.size [2, 97, 98] = 3 ∧ Fr.code [2, 97, 98] = 0 := by decide +kernel
theorem first_no : Fr.row [] = [] ∧ Fr.size [] = 0 ∧ Fr.code [] = 2 := by decide +kernel
theorem rows_ab : Fr.rows [2, 97, 98] = [[97, 98]] := by decide +kernel

theorem fput_ab (b : Nat) (w : World) (hb : b < w.heap.size) (h0 : w.cell? ⟨b, 0, none⟩ = some (.int .u8 97)) (h1 : w.cell? ⟨b, 1, none⟩ = some (.int .u8 98)) :
    Calls Try.prog 11 #[.slice (some ⟨b, 0, none⟩) 2 2] w fun e w' => ∃ g c, e = .returned (.tuple #[.slice (some ⟨g, 0, none⟩) 3 c, .int .i64 0]) ∧ w'.cell? ⟨g, 0, none⟩ = some (.int .u8 2) ∧
      Bts w' (some ⟨g, 0, none⟩) 3 [2, 97, 98] ∧ 3 ≤ c ∧ c ≤ maxLen ∧ g < w'.heap.size ∧ Below w.heap.size w w' := by
  refine (fput_ok (some ⟨b, 0, none⟩) 2 2 [97, 98] w ⟨rfl, by simp, fun _ => ⟨b, 0, rfl, hb, fun j hj => by
    rcases (show j = 0 ∨ j = 1 by omega) with rfl | rfl
    · simpa using h0
    · simpa using h1⟩⟩ (by intro h; cases h) (by omega)).mono ?_
  rintro e w' ⟨v, rfl, hown, hb⟩
  rw [put_ab] at hown
  obtain ⟨A, c, rfl, h1, h2, h3⟩ := own_form hown (by simp)
  obtain ⟨g, c', e', _, _, _⟩ := own_some hown (by simp)
  simp only [Value.slice.injEq] at e'
  obtain ⟨rfl, _, rfl⟩ := e'
  exact ⟨g, c, rfl, by simpa [B] using hown.cellAt 0 (by simp), h3, h1, h2, (hown.lt g rfl).2, hb⟩
theorem fget_ab (A : Option Addr) (c : Nat) (w : World) (h : Bts w A 3 [2, 97, 98]) (h1 : 3 ≤ c) (h2 : c ≤ maxLen) :
    Calls Try.prog 9 #[.slice A 3 c] w fun e w' => ∃ g c, e = .returned (.tuple #[.slice (some ⟨g, 0, none⟩) 2 c, .int .i64 3, .int .i64 0]) ∧ w'.cell? ⟨g, 0, none⟩ = some (.int .u8 97) ∧ w'.cell? ⟨g, 1, none⟩ = some (.int .u8 98) ∧ Below w.heap.size w w' := by
  refine (fget_any A 3 c _ w h h1 h2).mono ?_
  rintro e w' ⟨v, rfl, hown, hb⟩
  unfold ftup
  rw [first_ab.1] at hown
  rw [first_ab.2.1, first_ab.2.2]
  obtain ⟨g, c', rfl, _, _, _⟩ := own_some hown (by simp)
  exact ⟨g, c', rfl, by simpa [B] using hown.cellAt 0 (by simp), by simpa [B] using hown.cellAt 1 (by simp), hb⟩
theorem fget_no (w : World) : Calls Try.prog 9 #[.slice none 0 0] w fun e w' => ∃ v, e = .returned (.tuple #[v, .int .i64 0, .int .i64 2]) ∧ Below w.heap.size w w' := by
  refine (fget_any none 0 0 [] w ⟨rfl, by simp, fun h => by omega⟩ (Nat.le_refl _) (Nat.zero_le _)).mono ?_
  rintro e w' ⟨v, rfl, hown, hb⟩
  exact ⟨v, by unfold ftup; rw [first_no.2.1, first_no.2.2]; rfl, hb⟩
theorem count_ab (A : Option Addr) (c : Nat) (w : World) (h : Bts w A 3 [2, 97, 98]) (h1 : 3 ≤ c) (h2 : c ≤ maxLen) :
    Calls Try.prog 17 #[.slice A 3 c] w fun e w' => e = .returned (.int .i64 1) ∧ Below w.heap.size w w' := by
  refine (count_any A 3 c _ w h h1 h2 (by omega)).mono ?_
  rintro e w' ⟨rfl, hb⟩
  exact ⟨by rw [rows_ab]; rfl, hb⟩

set_option maxHeartbeats 1000000 in
theorem awake_any (w : World) : Calls Try.prog 8 #[] w fun e w' => e = .returned (.bool true) ∧ Below w.heap.size w w' := by
  have kc := fun (w : World) (C : Array Value) (n c : Nat) => Lib.run_convert_bytes_const (P := Try.prog) w 22 5 C n c Try.underlying22 Try.underlying5
  go_enter Try.func8, Try.ntmps8
  go_wp2_with fail
  refine (fput_ab _ _ (by simp) (by simp [World.cell?_alloc_mark]) (by simp [World.cell?_alloc_mark])).mono ?_
  rintro e w1 ⟨g, c, rfl, h0, hbt, hc1, hc2, hg, hb1⟩
  have HB1 := Lib.hid hb1; have HBT := Lib.hid hbt; have H0 := Lib.hid h0; clear hb1 hbt h0
  go_wp2_with fail
  refine (fget_ab _ _ _ HBT.out hc1 hc2).mono ?_
  rintro e w2 ⟨g2, c2, rfl, h20, h21, hb2⟩
  have HB2 := Lib.hid hb2; have H20 := Lib.hid h20; have H21 := Lib.hid h21; clear hb2 h20 h21
  go_wp2_with fail
  refine (fget_no _).mono ?_
  rintro e w3 ⟨v3, rfl, hb3⟩
  have h30 := (hb3.cell (lt_of_cell H20.out)).trans H20.out
  have h31 := (hb3.cell (lt_of_cell H21.out)).trans H21.out
  have ks : (convert 22 9 (.slice (some ⟨g2, 0, none⟩) 2 c2)).run Try.prog w3 = .ok (.string ⟨#[97, 98]⟩) w3 := run_convert_bytes_back (P := Try.prog) w3 22 9 5 ⟨g2, 0, none⟩ c2 [97, 98] Try.underlying22 Try.underlying5 Try.underlying9 (fun j hj => by
    rcases (show j = 0 ∨ j = 1 by simp at hj; omega) with rfl | rfl
    · simpa [Addr.add] using h30
    · simpa [Addr.add] using h31)
  have hgc := (hb3.cell (p := ⟨g, 0, none⟩) (by have := HB2.out.size; simp; omega)).trans ((HB2.out.cell (p := ⟨g, 0, none⟩) hg).trans H0.out)
  have HBT3 := Lib.hid ((HBT.out.below HB2.out).below hb3)
  have HB3 := Lib.hid hb3; clear hb3
  clear h30 h31
  go_wp2_with (go_at_call 17; refine (count_ab _ _ _ HBT3.out hc1 hc2).mono ?_; rintro e w4 ⟨rfl, hb4⟩; have HB4 := Lib.hid hb4; clear hb4)
  go_ret
  refine ⟨rfl, ?_⟩
  have h1 := ((Below.refl w.heap.size w).alloc (Nat.le_refl _) _).trans (HB1.out.mono (by simp))
  have h2 := h1.trans (HB2.out.mono h1.size)
  have h3 := h2.trans (HB3.out.mono h2.size)
  exact h3.trans (HB4.out.mono h3.size)
end Go.Proofs.Ytadbidgikgffhaa
