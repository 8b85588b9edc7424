/-
  Contracts of the document's own Bytes of an address. Conditions: as each states.
-/
import Derived.Test.YtebgfiibcmnfnaaDoorAdr
import Derived.OwnWalk
namespace Go.Proofs.YtebgfiibcmnfnaaDoor
open Go.RowKit
set_option linter.unusedVariables false
theorem cells_of {w : World} {b : Nat} {C : Array Value} {t : TypeId} (h : w.heap[b]? = some (.cells C t (0, 0))) (j : Nat) : w.cell? ⟨b, j, none⟩ = C[j]? ∧ w.frozen? ⟨b, j, none⟩ = false := by
  constructor
  · simp [World.cell?, h]
  · simp [World.frozen?, h]

set_option maxHeartbeats 1000000 in
theorem rbytes_no (h p : Int) (w : World) (h0 : 0 ≤ h) (h1 : h < 4294967296) (hm : mayA h p = false) : Calls Tryd.prog 28 #[adr h p] w fun e w' => e = .returned (.slice none 0 0) ∧ Below w.heap.size w w' := by
  have HM := Lib.hid (fun W => rmay_any h p W h0 h1)
  rw [hm] at HM
  unfold adr at *
  clear hm
  go_enter Tryd.func28, Tryd.ntmps28
  go_wp2_with fail
  refine (HM.out _).mono ?_
  rintro e w1 ⟨rfl, hb⟩
  have HB := Lib.hid hb; clear hb
  go_wp2
  go_ret
  exact ⟨rfl, ((Below.refl _ _).alloc (Nat.le_refl _) _).trans (HB.out.mono (by simp))⟩
set_option maxHeartbeats 1000000 in
theorem rbytes_ok (h p : Int) (w : World) (h0 : 0 ≤ h) (h1 : h < 4294967296) (hm : mayA h p = true) : Calls Tryd.prog 28 #[adr h p] w fun e w' => ∃ g, e = .returned (.slice (some ⟨g, 0, none⟩) 6 6) ∧ w'.heap[g]? = some (.cells ((bytesA h p).map (Value.int .u8)).toArray 5 (0, 0)) ∧ w.heap.size ≤ g ∧ Below w.heap.size w w' := by
  have hp : h ≠ 0 ∧ 1 ≤ p ∧ p ≤ 65535 := by simpa [mayA, and_assoc] using hm
  obtain ⟨_, hp1, hp2⟩ := hp
  have HM := Lib.hid (fun W => rmay_any h p W h0 h1)
  rw [hm] at HM
  unfold adr at *
  clear hm
  go_enter Tryd.func28, Tryd.ntmps28
  go_wp2_with fail
  refine (HM.out _).mono ?_
  rintro e w1 ⟨rfl, hb⟩
  have c0 := (hb.cell (p := ⟨w.heap.size, 0, none⟩) (by simp))
  have c1 := (hb.cell (p := ⟨w.heap.size, 1, none⟩) (by simp))
  have HB := Lib.hid hb; clear hb
  go_wp2
  go_ret
  exact ⟨_, rfl, by have := (MapKept.heap_alloc w1 (.cells ((bytesA h p).map (Value.int .u8)).toArray 5)).1; simpa [bytesA] using this, by have := HB.out.size; simp at this; omega, (((Below.refl _ _).alloc (Nat.le_refl _) _).trans (HB.out.mono (by simp))).alloc (by have := HB.out.size; simp at this; omega) _⟩
end Go.Proofs.YtebgfiibcmnfnaaDoor
