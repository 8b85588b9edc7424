/-
  Contracts of embrasure/addr's May and Bytes, and the document's own May. Conditions: as each states.
-/
import Derived.Test.YtebgfiibcmnfnaaDoorWords
import Derived.Laws.OwnMore
import Derived.Maps.AppendAt
namespace Go.Proofs.YtebgfiibcmnfnaaDoor
open Go.RowKit
set_option linter.unusedVariables false

/-- an address as a value -/
def adr (h p : Int) : Value := .agg #[.int .u32 h, .int .i64 p]
def mayA (h p : Int) : Bool := decide (h ≠ 0) && decide (1 ≤ p) && decide (p ≤ 65535)
/-- an address's bytes -/
def bytesA (h p : Int) : List Int := [h / 16777216, h / 65536 % 256, h / 256 % 256, h % 256, p / 256, p % 256]
theorem mayA_t {h p : Int} (a : ¬ h = 0) (b : 1 ≤ p) (c : p ≤ 65535) : mayA h p = true := by simp [mayA, a, b, c]
theorem mayA_f {h p : Int} (a : h = 0 ∨ p < 1 ∨ 65535 < p) : mayA h p = false := by
  unfold mayA
  rcases a with a | a | a
  · simp [a]
  · have : ¬ 1 ≤ p := Int.not_le.2 a
    simp [this]
  · have : ¬ p ≤ 65535 := Int.not_le.2 a
    simp [this]
theorem ret_b' {a b : Bool} (h : a = b) : Ending.returned (.bool a) = .returned (.bool b) := by rw [h]

set_option maxHeartbeats 1000000 in
theorem may_any (h p : Int) (w : World) (h0 : 0 ≤ h) (h1 : h < 4294967296) : Calls Tryd.prog 25 #[adr h p] w fun e w' => e = .returned (.bool (mayA h p)) ∧ Below w.heap.size w w' := by
  unfold adr
  by_cases c1 : h = 0
  · subst c1
    go_enter Tryd.func25, Tryd.ntmps25
    go_wp2
    go_ret
    exact ⟨ret_b' (by simp [mayA]), (Below.refl _ _).alloc (Nat.le_refl _) _⟩
  · have t1 : (h != 0) = true := by rw [bne_iff_ne]; exact c1
    have H1 := Lib.hid c1; clear c1
    by_cases c2 : 1 ≤ p
    · by_cases c3 : p ≤ 65535
      · go_enter Tryd.func25, Tryd.ntmps25
        go_wp2
        go_ret
        exact ⟨ret_b' (mayA_t H1.out (by omega) (by omega)).symm, (Below.refl _ _).alloc (Nat.le_refl _) _⟩
      · go_enter Tryd.func25, Tryd.ntmps25
        go_wp2
        go_ret
        exact ⟨ret_b' (mayA_f (.inr (.inr (by omega)))).symm, (Below.refl _ _).alloc (Nat.le_refl _) _⟩
    · go_enter Tryd.func25, Tryd.ntmps25
      go_wp2
      go_ret
      exact ⟨ret_b' (mayA_f (.inr (.inl (by omega)))).symm, (Below.refl _ _).alloc (Nat.le_refl _) _⟩
set_option maxHeartbeats 1000000 in
theorem rmay_any (h p : Int) (w : World) (h0 : 0 ≤ h) (h1 : h < 4294967296) : Calls Tryd.prog 26 #[adr h p] w fun e w' => e = .returned (.bool (mayA h p)) ∧ Below w.heap.size w w' := by
  unfold adr
  by_cases c1 : h = 0
  · subst c1
    go_enter Tryd.func26, Tryd.ntmps26
    go_wp2
    go_ret
    exact ⟨ret_b' (by simp [mayA]), (Below.refl _ _).alloc (Nat.le_refl _) _⟩
  · have H1 := Lib.hid c1
    have c1' : 0 < h := by omega
    by_cases c2 : 0 < p
    · by_cases c3 : p < 65536
      · go_enter Tryd.func26, Tryd.ntmps26
        go_wp2
        go_ret
        exact ⟨ret_b' (mayA_t H1.out (by omega) (by omega)).symm, (Below.refl _ _).alloc (Nat.le_refl _) _⟩
      · go_enter Tryd.func26, Tryd.ntmps26
        go_wp2
        go_ret
        exact ⟨ret_b' (mayA_f (.inr (.inr (by omega)))).symm, (Below.refl _ _).alloc (Nat.le_refl _) _⟩
    · go_enter Tryd.func26, Tryd.ntmps26
      go_wp2
      go_ret
      exact ⟨ret_b' (mayA_f (.inr (.inl (by omega)))).symm, (Below.refl _ _).alloc (Nat.le_refl _) _⟩

set_option maxHeartbeats 1000000 in
theorem bytes_no (h p : Int) (w : World) (h0 : 0 ≤ h) (h1 : h < 4294967296) (hm : mayA h p = false) : Calls Tryd.prog 22 #[adr h p] w fun e w' => e = .returned (.slice none 0 0) ∧ Below w.heap.size w w' := by
  have HM := Lib.hid (fun W => may_any h p W h0 h1)
  rw [hm] at HM
  unfold adr at *
  clear hm
  go_enter Tryd.func22, Tryd.ntmps22
  go_wp2_with fail
  refine (HM.out _).mono ?_
  rintro e w1 ⟨rfl, hb⟩
  have HB := Lib.hid hb; clear hb
  go_wp2
  go_ret
  exact ⟨rfl, ((Below.refl _ _).alloc (Nat.le_refl _) _).trans (HB.out.mono (by simp))⟩
set_option maxHeartbeats 1000000 in
theorem bytes_ok (h p : Int) (w : World) (h0 : 0 ≤ h) (h1 : h < 4294967296) (hm : mayA h p = true) : Calls Tryd.prog 22 #[adr h p] w fun e w' => ∃ g, e = .returned (.slice (some ⟨g, 0, none⟩) 6 6) ∧ w'.heap[g]? = some (.cells ((bytesA h p).map (Value.int .u8)).toArray 5 (0, 0)) ∧ w.heap.size ≤ g ∧ Below w.heap.size w w' := by
  have hp : h ≠ 0 ∧ 1 ≤ p ∧ p ≤ 65535 := by simpa [mayA, and_assoc] using hm
  obtain ⟨_, hp1, hp2⟩ := hp
  have HM := Lib.hid (fun W => may_any h p W h0 h1)
  rw [hm] at HM
  unfold adr at *
  clear hm
  go_enter Tryd.func22, Tryd.ntmps22
  go_wp2_with fail
  refine (HM.out _).mono ?_
  rintro e w1 ⟨rfl, hb⟩
  have c0 := (hb.cell (p := ⟨w.heap.size, 0, none⟩) (by simp))
  have c1 := (hb.cell (p := ⟨w.heap.size, 1, none⟩) (by simp))
  have HB := Lib.hid hb; clear hb
  go_wp2
  go_ret
  exact ⟨_, rfl, by have := (MapKept.heap_alloc w1 (.cells ((bytesA h p).map (Value.int .u8)).toArray 5)).1; simpa [bytesA] using this, by have := HB.out.size; simp at this; omega, (((Below.refl _ _).alloc (Nat.le_refl _) _).trans (HB.out.mono (by simp))).alloc (by have := HB.out.size; simp at this; omega) _⟩
end Go.Proofs.YtebgfiibcmnfnaaDoor
