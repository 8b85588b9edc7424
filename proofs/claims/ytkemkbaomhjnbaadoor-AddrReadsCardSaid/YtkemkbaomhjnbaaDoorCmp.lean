/-
  Contracts of embrasure/addr's Compare with what it calls of cmp, and of the document's own Bytes and Less. Conditions: as each states.
-/
import Derived.Test.YtkemkbaomhjnbaaDoorAdr
import Derived.OwnWalk
namespace Go.Proofs.YtkemkbaomhjnbaaDoor
open Go.RowKit
set_option linter.unusedVariables false

/-- how two numbers stand -/
def cmpV (a b : Int) : Int := if a < b then -1 else if b < a then 1 else 0
theorem cmpV_lt {a b : Int} (h : a < b) : cmpV a b = -1 := if_pos h
theorem cmpV_gt {a b : Int} (h : b < a) : cmpV a b = 1 := by rw [cmpV, if_neg (by omega), if_pos h]
theorem cmpV_eq (a : Int) : cmpV a a = 0 := by simp [cmpV]
/-- how two addresses stand -/
def orV (a b : Int) : Int := if a = 0 then b else a
theorem orV_0 (b : Int) : orV 0 b = b := rfl
theorem orV_n {a b : Int} (h : ¬ a = 0) : orV a b = a := if_neg h
theorem ret_i {a b : Int} (h : a = b) : Ending.returned (.int .i64 a) = .returned (.int .i64 b) := by rw [h]
def lessA (h p h' p' : Int) : Bool := decide (h < h') || (decide (h = h') && decide (p < p'))

set_option maxHeartbeats 1000000 in
theorem nan32 (a : Int) (w : World) : Calls Tryd.prog 37 #[.int .u32 a] w fun e w' => e = .returned (.bool false) ∧ w' = w := by
  have t : (a != a) = false := by simp
  go_enter Tryd.func37, Tryd.ntmps37
  go_wp2
  go_ret
  all_goals first | exact ⟨rfl, rfl⟩ | simp
set_option maxHeartbeats 1000000 in
theorem nan64 (a : Int) (w : World) : Calls Tryd.prog 38 #[.int .i64 a] w fun e w' => e = .returned (.bool false) ∧ w' = w := by
  have t : (a != a) = false := by simp
  go_enter Tryd.func38, Tryd.ntmps38
  go_wp2
  go_ret
  all_goals first | exact ⟨rfl, rfl⟩ | simp
set_option maxHeartbeats 1000000 in
theorem cmp32 (a b : Int) (w : World) : Calls Tryd.prog 27 #[.int .u32 a, .int .u32 b] w fun e w' => e = .returned (.int .i64 (cmpV a b)) ∧ w' = w := by
  have N := Lib.hid nan32
  rcases Int.lt_trichotomy a b with c | rfl | c
  · rw [cmpV_lt c]
    go_enter Tryd.func27, Tryd.ntmps27
    go_wp2_with fail
    refine (N.out a _).mono ?_
    rintro e w1 ⟨rfl, rfl⟩
    go_wp2_with fail
    refine (N.out b _).mono ?_
    rintro e w1 ⟨rfl, rfl⟩
    go_wp2
    go_ret
    exact ⟨rfl, rfl⟩
  · rw [cmpV_eq]
    go_enter Tryd.func27, Tryd.ntmps27
    go_wp2_with fail
    refine (N.out a _).mono ?_
    rintro e w1 ⟨rfl, rfl⟩
    go_wp2_with fail
    refine (N.out a _).mono ?_
    rintro e w1 ⟨rfl, rfl⟩
    go_wp2
    go_ret
    exact ⟨rfl, rfl⟩
  · rw [cmpV_gt c]
    have c' : ¬ a < b := by omega
    go_enter Tryd.func27, Tryd.ntmps27
    go_wp2_with fail
    refine (N.out a _).mono ?_
    rintro e w1 ⟨rfl, rfl⟩
    go_wp2_with fail
    refine (N.out b _).mono ?_
    rintro e w1 ⟨rfl, rfl⟩
    go_wp2
    go_ret
    exact ⟨rfl, rfl⟩
set_option maxHeartbeats 1000000 in
theorem cmp64 (a b : Int) (w : World) : Calls Tryd.prog 28 #[.int .i64 a, .int .i64 b] w fun e w' => e = .returned (.int .i64 (cmpV a b)) ∧ w' = w := by
  have N := Lib.hid nan64
  rcases Int.lt_trichotomy a b with c | rfl | c
  · rw [cmpV_lt c]
    go_enter Tryd.func28, Tryd.ntmps28
    go_wp2_with fail
    refine (N.out a _).mono ?_
    rintro e w1 ⟨rfl, rfl⟩
    go_wp2_with fail
    refine (N.out b _).mono ?_
    rintro e w1 ⟨rfl, rfl⟩
    go_wp2
    go_ret
    exact ⟨rfl, rfl⟩
  · rw [cmpV_eq]
    go_enter Tryd.func28, Tryd.ntmps28
    go_wp2_with fail
    refine (N.out a _).mono ?_
    rintro e w1 ⟨rfl, rfl⟩
    go_wp2_with fail
    refine (N.out a _).mono ?_
    rintro e w1 ⟨rfl, rfl⟩
    go_wp2
    go_ret
    exact ⟨rfl, rfl⟩
  · rw [cmpV_gt c]
    have c' : ¬ a < b := by omega
    go_enter Tryd.func28, Tryd.ntmps28
    go_wp2_with fail
    refine (N.out a _).mono ?_
    rintro e w1 ⟨rfl, rfl⟩
    go_wp2_with fail
    refine (N.out b _).mono ?_
    rintro e w1 ⟨rfl, rfl⟩
    go_wp2
    go_ret
    exact ⟨rfl, rfl⟩
set_option maxHeartbeats 1000000 in
theorem rbytes_no (h p : Int) (w : World) (h0 : 0 ≤ h) (h1 : h < 4294967296) (hm : mayA h p = false) : Calls Tryd.prog 16 #[adr h p] w fun e w' => e = .returned (.slice none 0 0) ∧ Below w.heap.size w w' := by
  have HM := Lib.hid (fun W => rmay_any h p W h0 h1)
  rw [hm] at HM
  unfold adr at *
  clear hm
  go_enter Tryd.func16, Tryd.ntmps16
  go_wp2_with fail
  refine (HM.out _).mono ?_
  rintro e w1 ⟨rfl, hb⟩
  have HB := Lib.hid hb; clear hb
  go_wp2
  go_ret
  exact ⟨rfl, ((Below.refl _ _).alloc (Nat.le_refl _) _).trans (HB.out.mono (by simp))⟩
set_option maxHeartbeats 1000000 in
theorem rbytes_ok (h p : Int) (w : World) (h0 : 0 ≤ h) (h1 : h < 4294967296) (hm : mayA h p = true) : Calls Tryd.prog 16 #[adr h p] w fun e w' => ∃ g, e = .returned (.slice (some ⟨g, 0, none⟩) 6 6) ∧ w'.heap[g]? = some (.cells ((bytesA h p).map (Value.int .u8)).toArray 5 (0, 0)) ∧ w.heap.size ≤ g ∧ Below w.heap.size w w' := by
  have hp : h ≠ 0 ∧ 1 ≤ p ∧ p ≤ 65535 := by simpa [mayA, and_assoc] using hm
  obtain ⟨_, hp1, hp2⟩ := hp
  have HM := Lib.hid (fun W => rmay_any h p W h0 h1)
  rw [hm] at HM
  unfold adr at *
  clear hm
  go_enter Tryd.func16, Tryd.ntmps16
  go_wp2_with fail
  refine (HM.out _).mono ?_
  rintro e w1 ⟨rfl, hb⟩
  have c0 := (hb.cell (p := ⟨w.heap.size, 0, none⟩) (by simp))
  have c1 := (hb.cell (p := ⟨w.heap.size, 1, none⟩) (by simp))
  have HB := Lib.hid hb; clear hb
  go_wp2
  go_ret
  exact ⟨_, rfl, by have := (MapKept.heap_alloc w1 (.cells ((bytesA h p).map (Value.int .u8)).toArray 5)).1; simpa [bytesA] using this, by have := HB.out.size; simp at this; omega, (((Below.refl _ _).alloc (Nat.le_refl _) _).trans (HB.out.mono (by simp))).alloc (by have := HB.out.size; simp at this; omega) _⟩
end Go.Proofs.YtkemkbaomhjnbaaDoor
