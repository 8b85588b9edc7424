/-
  The contract of the statements' own 'awake': it answers true, and writes nothing that was there. Conditions: the table is as it was laid.
-/
import Derived.Test.YtebgfiibcmnfnaaDoorReadB
namespace Go.Proofs.YtebgfiibcmnfnaaDoor
open Go.RowKit
set_option linter.unusedVariables false

def msgP : Wi.Msg := ⟨5, [300], [], []⟩
theorem may_P : Wi.may msgP = true := by decide +kernel
theorem wf_P : Wi.Wf msgP := ⟨by simp [msgP], by simp [msgP], by simp [msgP]⟩
theorem bytes_P : Wi.bytes msgP = [5, 172, 2, 0, 0] := by decide +kernel
theorem read_P : Wi.read [5, 172, 2, 0, 0] = some msgP := by rw [← bytes_P]; exact Wi.read_bytes wf_P may_P
theorem read_nil : Wi.read [] = none := by
  cases h : Wi.read [] with
  | none => rfl
  | some m =>
    obtain ⟨h1, h2, _⟩ := Wi.read_ok (by simp) h
    have := (Wi.bytes_len h1).1
    rw [h2] at this
    simp at this
theorem putP (b : Nat) (w : World) (hT : Tb w) (hc : w.cell? ⟨b, 0, none⟩ = some (.int .u64 300)) : Calls Tryd.prog 11 #[.agg #[.int .i64 5, .slice (some ⟨b, 0, none⟩) 1 1, .slice none 0 0, .slice none 0 0]] w fun e w' => ∃ g c, e = .returned (.slice (some ⟨g, 0, none⟩) 5 c) ∧
    w'.cell? ⟨g, 0, none⟩ = some (.int .u8 5) ∧ w'.cell? ⟨g, 1, none⟩ = some (.int .u8 172) ∧ g < w'.heap.size ∧ Hid (5 ≤ c ∧ c ≤ maxLen ∧ Bts w' (some ⟨g, 0, none⟩) 5 [5, 172, 2, 0, 0]) ∧ Hid (Below w.heap.size w w') := by
  have hv : MsgV w (.slice (some ⟨b, 0, none⟩) 1 1) (.slice none 0 0) (.slice none 0 0) msgP :=
    ⟨⟨_, 1, rfl, by simp [msgP], by decide, by simp, by simp [msgP], fun _ => ⟨b, 0, rfl, fun j hj => by
      obtain rfl : j = 0 := by simp [msgP] at hj; exact hj
      simpa [msgP] using hc⟩⟩, (msgV_no w).2.1, (msgV_no w).2.2.1, by simp [msgP], by simp [msgP]⟩
  refine (bytes_msg_ok msgP _ _ _ w hv hT may_P).mono ?_
  rintro e w' ⟨r, rfl, hown, hb⟩
  rw [bytes_P] at hown
  obtain ⟨A, c, rfl, i1, i2, hbt⟩ := own_form hown (by simp)
  rcases hown.2 with ⟨h', _⟩ | ⟨g, cap, cur, h', _, hg, _⟩
  · simp at h'
  · simp only [Value.slice.injEq] at h'
    obtain ⟨rfl, _, rfl⟩ := h'
    have h0 := hown.cellAt 0 (by simp)
    have h1 := hown.cellAt 1 (by simp)
    exact ⟨g, c, rfl, h0, h1, (Array.getElem?_eq_some_iff.1 hg).1, Lib.hid ⟨i1, i2, hbt⟩, Lib.hid hb⟩
theorem readP (g c : Nat) (w : World) (hT : Tb w) (h1 : 5 ≤ c) (h2 : c ≤ maxLen) (hb : Bts w (some ⟨g, 0, none⟩) 5 [5, 172, 2, 0, 0]) : Calls Tryd.prog 18 #[.slice (some ⟨g, 0, none⟩) 5 c] w fun e w' =>
    ∃ b off c1 A2 c2 A3 c3, e = .returned (.tuple #[.agg #[.int .i64 5, .slice (some ⟨b, off, none⟩) 1 c1, .slice A2 0 c2, .slice A3 0 c3], .int .i64 0]) ∧ w'.cell? ⟨b, off, none⟩ = some (.int .u64 300) ∧ b < w'.heap.size ∧ Hid (Below w.heap.size w w') := by
  refine (from_any _ 5 c _ w hb h1 h2 (by simp) hT (by simp)).mono ?_
  rintro e w' ⟨m, x1, x2, x3, hv, hbe, ⟨rfl, hr⟩ | ⟨_, hr, _⟩⟩
  · rw [read_P] at hr
    cases hr
    obtain ⟨⟨A1, c1, rfl, a1, a2, a3, a4, a5⟩, ⟨A2, c2, rfl, _⟩, ⟨A3, c3, rfl, _⟩, _⟩ := hv
    obtain ⟨b, off, rfl, hc⟩ := a5 (by simp [msgP])
    have h0 : w'.cell? ⟨b, off, none⟩ = some (.int .u64 300) := hc 0 (by simp [msgP])
    exact ⟨b, off, c1, A2, c2, A3, c3, rfl, h0, lt_of_cell h0, Lib.hid hbe⟩
  · rw [read_P] at hr; cases hr
theorem readNil (w : World) (hT : Tb w) : Calls Tryd.prog 18 #[.slice none 0 0] w fun e w' =>
    ∃ A1 c1 A2 c2 A3 c3, e = .returned (.tuple #[.agg #[.int .i64 0, .slice A1 0 c1, .slice A2 0 c2, .slice A3 0 c3], .int .i64 3]) ∧ Hid (Below w.heap.size w w') := by
  refine (from_any none 0 0 [] w ⟨rfl, by simp, fun h => by simp at h⟩ (Nat.le_refl _) (Nat.zero_le _) (fun _ => ⟨rfl, rfl⟩) hT (by simp)).mono ?_
  rintro e w' ⟨m, x1, x2, x3, hv, hbe, ⟨_, hr⟩ | ⟨rfl, hr, rfl⟩⟩
  · rw [read_nil] at hr; cases hr
  · obtain ⟨⟨A1, c1, rfl, _⟩, ⟨A2, c2, rfl, _⟩, ⟨A3, c3, rfl, _⟩, _⟩ := hv
    exact ⟨A1, c1, A2, c2, A3, c3, rfl, Lib.hid hbe⟩

set_option maxRecDepth 100000 in
set_option maxHeartbeats 2000000 in
theorem awake_any (w : World) (hT : Tb w) : Calls Tryd.prog 9 #[] w fun e w' => e = .returned (.bool true) ∧ Below w.heap.size w w' := by
  have HT := Lib.hid hT
  clear hT
  go_enter Tryd.func9, Tryd.ntmps9
  go_wp2_with fail
  refine (putP _ _ (HT.out.below ((Below.refl _ _).alloc (Nat.le_refl _) _)) (by go_simp)).mono ?_
  rintro e w1 ⟨g, c, rfl, h0, h1, hg, HB, HW⟩
  have HW1 : Hid (Below w.heap.size w w1) := Lib.hid (((Below.refl _ _).alloc (Nat.le_refl _) _).trans (HW.out.mono (by simp)))
  have HT1 := Lib.hid (HT.out.below HW1.out)
  go_wp2_with fail
  refine (readP _ _ _ HT1.out HB.out.1 HB.out.2.1 HB.out.2.2).mono ?_
  rintro e w2 ⟨b, off, c1, A2, c2, A3, c3, rfl, k0, hbl, HW3⟩
  have h0' := (HW3.out.cell (p := ⟨g, 0, none⟩) hg).trans h0
  have h1' := (HW3.out.cell (p := ⟨g, 1, none⟩) hg).trans h1
  have hg' : g < w2.heap.size := Nat.lt_of_lt_of_le hg HW3.out.size
  clear h0 h1 hg
  have HT2 := Lib.hid (HT1.out.below HW3.out)
  have HW2 : Hid (Below w.heap.size w w2) := Lib.hid (HW1.out.trans (HW3.out.mono HW1.out.size))
  go_wp2_with fail
  refine (readNil _ (HT2.out.below ((Below.refl _ _).alloc (Nat.le_refl _) _))).mono ?_
  rintro e w4 ⟨B1, d1, B2, d2, B3, d3, rfl, HW4⟩
  have hM0 : w4.heap[w2.heap.size]? = some (.cells #[.int .i64 5, .slice (some ⟨b, off, none⟩) 1 c1, .slice A2 0 c2, .slice A3 0 c3] 26 (0, 0)) := (HW4.out.block _ (by simp)).trans (heap_new _ _)
  obtain ⟨⟨m0, m1, _, _⟩, hML, _⟩ := MBox.mx hM0
  have HW5 : Hid (Below w2.heap.size w2 w4) := Lib.hid (((Below.refl _ _).alloc (Nat.le_refl _) _).trans (HW4.out.mono (by simp)))
  have n0 := (HW5.out.cell (p := ⟨g, 0, none⟩) hg').trans h0'
  have n1 := (HW5.out.cell (p := ⟨g, 1, none⟩) hg').trans h1'
  have n2 := (HW5.out.cell (p := ⟨b, off, none⟩) hbl).trans k0
  have hgl : g < w4.heap.size := Nat.lt_of_lt_of_le hg' HW5.out.size
  have hbl2 : b < w4.heap.size := Nat.lt_of_lt_of_le hbl HW5.out.size
  have HF : Hid (Below w.heap.size w w4) := Lib.hid (HW2.out.trans (HW5.out.mono HW2.out.size))
  have HT4 : Hid (∀ k o, Calls Tryd.prog 16 #[.int .i64 k] (w4.alloc o) fun e w' => e = .returned (.int .i64 (Wi.numsOf k)) ∧ w' = w4.alloc o) := Lib.hid (fun k o => nums_any k _ ((HT.out.below HF.out).below ((Below.refl _ _).alloc (Nat.le_refl _) _)))
  have CA := Lib.hid (HT4.out 0)
  have CB := Lib.hid (HT4.out 2)
  have z0 : Wi.numsOf 0 = -1 := by decide
  have z2 : Wi.numsOf 2 = 5 := by decide
  rw [z0] at CA
  rw [z2] at CB
  clear h0' h1' hg' k0 hbl hM0 z0 z2
  go_wp2_with fail
  refine (CA.out _).mono ?_
  rintro e w' ⟨rfl, rfl⟩
  go_wp2_with fail
  refine (CB.out _).mono ?_
  rintro e w' ⟨rfl, rfl⟩
  go_wp2_with fail
  go_ret
  exact ⟨rfl, HF.out.alloc HF.out.size _⟩
end Go.Proofs.YtebgfiibcmnfnaaDoor
