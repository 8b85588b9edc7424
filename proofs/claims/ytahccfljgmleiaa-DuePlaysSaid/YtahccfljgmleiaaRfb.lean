/-
  The contract of the document's Take. Conditions: as each lemma states.
-/
import Derived.Test.YtahccfljgmleiaaRfa
namespace Go.Proofs.Ytahccfljgmleiaa
open Go.RowKit Go.Shelf Go.Maps
attribute [local go_sem] Oper.semAt_some
set_option linter.unusedVariables false

theorem Rf.put {w : World} {rb c : Nat} {u : Value} {A : Option Addr} {L : List En} (hB : Boxed w rb 30 u) (hR : Row40 w A L c) (h1 : L.length ≤ c) (h2 : c ≤ maxLen) :
    Rf (w.setCell ⟨rb, 0, none⟩ (.slice A L.length c)) rb L ∧ Keeps (· = rb) w (w.setCell ⟨rb, 0, none⟩ (.slice A L.length c)) := by
  refine ⟨⟨A, c, hB.set _, h1, h2, ?_⟩, rfl, rfl, rfl, by simp, fun k hk hn => heap_setCell_other _ ⟨rb, 0, none⟩ k _ (fun e => hn e)⟩
  rcases hR with h | ⟨b, off, C, rfl, h3, h4⟩
  · exact .inl h
  · refine .inr ⟨b, off, C, rfl, (heap_setCell_other _ ⟨rb, 0, none⟩ b _ (fun e => ?_)).trans h3, h4⟩
    have e2 : b = rb := e
    subst e2
    have hB' : w.heap[b]? = _ := hB
    rw [h3] at hB'
    simp at hB'
theorem Rf.alloc {w : World} {rb : Nat} {L : List En} (h : Rf w rb L) (o : Obj) : Rf (w.alloc o) rb L := h.kept (.alloc w o)
theorem Keeps.alloc {w w' : World} {S : Nat → Prop} (h : Keeps S w w') (o : Obj) : Keeps S w (w'.alloc o) := h.trans (Keeps.ofBelow (n := w'.heap.size) ((Below.refl _ w').alloc (Nat.le_refl _) o) (fun k h1 h2 => by omega))
theorem Row40.tail {w : World} {b off c : Nat} {e : En} {L : List En} (h : Row40 w (some ⟨b, off, none⟩) (e :: L) c) (c' : Nat) : Row40 w (some ⟨b, off + 2, none⟩) L c' := by
  rcases h with ⟨h, _⟩ | ⟨b', off', C, h0, h1, h2⟩
  · cases h
  · cases h0
    exact .inr ⟨_, _, C, rfl, h1, fun j y hj => by rw [Nat.add_assoc, Nat.add_comm 2 j]; exact h2 _ _ (by rw [cellsL_cons]; simpa using hj)⟩
theorem Row40.nil {w : World} {b off off' c : Nat} {L : List En} (h : Row40 w (some ⟨b, off, none⟩) L c) (c' : Nat) : Row40 w (some ⟨b, off', none⟩) [] c' := by
  rcases h with ⟨h, _⟩ | ⟨b', off2, C, h0, h1, h2⟩
  · cases h
  · cases h0
    exact .inr ⟨_, _, C, rfl, h1, fun j y hj => by simp [cellsL] at hj⟩

set_option maxHeartbeats 1000000 in
theorem rtake_none (rb : Nat) (now : Int) (w : World) (h : Rf w rb []) :
    Calls Try.prog 16 #[.pointer (some ⟨rb, 0, none⟩), .int .i64 now] w fun e w' => e = .returned (.tuple #[.agg #[.string ⟨#[]⟩, .int .i64 0], .bool false]) ∧ Below w.heap.size w w' := by
  obtain ⟨A, c, c0, hlc, hcm, hR⟩ := h.look
  have hlt := h.lt
  have c1 : (w.alloc (.cells #[.string ⟨#[]⟩, .int .i64 0] 40)).cell? ⟨rb, 0, none⟩ = some (.slice A 0 c) := (((Below.refl _ w).alloc (Nat.le_refl _) _).cell (p := ⟨rb, 0, none⟩) hlt).trans c0
  clear h hR
  go_enter Try.func16, Try.ntmps16
  go_wp2
  refine bodyPost_ret (v := .tuple #[.agg #[.string ⟨#[]⟩, .int .i64 0], .bool false]) (by simp [results, Try.results16, go_sem]) rfl ?_
  exact ⟨rfl, (Below.refl _ w).alloc (Nat.le_refl _) _⟩
theorem rtake_no (rb : Nat) (now : Int) (e : En) (L : List En) (w : World) (h : Rf w rb (e :: L)) (hn : now < e.2) :
    Calls Try.prog 16 #[.pointer (some ⟨rb, 0, none⟩), .int .i64 now] w fun e w' => e = .returned (.tuple #[.agg #[.string ⟨#[]⟩, .int .i64 0], .bool false]) ∧ Below w.heap.size w w' := by
  obtain ⟨A, c, c0, hlc, hcm, hR⟩ := h.look
  obtain ⟨b, off, rfl, d0, d1⟩ := hR.at (k := 0) rfl
  simp only [Nat.zero_mul, Nat.add_zero] at d0 d1
  have hlt := h.lt
  have hltb := lt_of_cell d0
  have hb : Below w.heap.size w (w.alloc (.cells #[.string ⟨#[]⟩, .int .i64 0] 40)) := (Below.refl _ w).alloc (Nat.le_refl _) _
  have c1 := (hb.cell (p := ⟨rb, 0, none⟩) hlt).trans c0
  have c2 := (hb.cell (p := ⟨b, off + 1, none⟩) hltb).trans d1
  have l1 : (0 : Int) < ((L.length + 1 : Nat) : Int) := by omega
  have l2 : (((L.length + 1 : Nat) : Int) == 0) = false := by rw [beq_eq_false_iff_ne]; omega
  simp only [List.length_cons] at *
  clear h hR
  go_enter Try.func16, Try.ntmps16
  go_wp2
  refine bodyPost_ret (v := .tuple #[.agg #[.string ⟨#[]⟩, .int .i64 0], .bool false]) (by simp [results, Try.results16, go_sem]) rfl ?_
  exact ⟨rfl, (Below.refl _ w).alloc (Nat.le_refl _) _⟩
theorem rtake_yes (rb : Nat) (now : Int) (e : En) (L : List En) (w : World) (h : Rf w rb (e :: L)) (hn : ¬ now < e.2) :
    Calls Try.prog 16 #[.pointer (some ⟨rb, 0, none⟩), .int .i64 now] w fun e' w' => e' = .returned (.tuple #[.agg #[.string (str e.1), .int .i64 e.2], .bool true]) ∧ Rf w' rb L ∧ Keeps (· = rb) w w' := by
  obtain ⟨A, c, hB, hlc, hcm, hR⟩ := h.box
  have c0 := hB.cell
  obtain ⟨b, off, rfl, d0, d1⟩ := hR.at (k := 0) rfl
  simp only [Nat.zero_mul, Nat.add_zero] at d0 d1
  have hlt := h.lt
  have hltb := lt_of_cell d0
  have hb : Below w.heap.size w (w.alloc (.cells #[.string ⟨#[]⟩, .int .i64 0] 40)) := (Below.refl _ w).alloc (Nat.le_refl _) _
  have c1 := (hb.cell (p := ⟨rb, 0, none⟩) hlt).trans c0
  have c2 := (hb.cell (p := ⟨b, off + 1, none⟩) hltb).trans d1
  have c3 := (hb.cell (p := ⟨b, off, none⟩) hltb).trans d0
  have c4 := ((hB.alloc (.cells #[.string ⟨#[]⟩, .int .i64 0] 40)).alloc (.cells #[.string (str e.1), .int .i64 e.2] 40)).cell
  have f4 := ((hB.alloc (.cells #[.string ⟨#[]⟩, .int .i64 0] 40)).alloc (.cells #[.string (str e.1), .int .i64 e.2] 40)).frozen
  have HB := Lib.hid hB; have HR := Lib.hid hR
  have l1 : (0 : Int) < ((L.length + 1 : Nat) : Int) := by omega
  have l2 : (((L.length + 1 : Nat) : Int) == 0) = false := by rw [beq_eq_false_iff_ne]; omega
  simp only [List.length_cons] at *
  clear h hR hB
  go_enter Try.func16, Try.ntmps16
  go_wp2
  all_goals refine bodyPost_ret (v := .tuple #[.agg #[.string (str e.1), .int .i64 e.2], .bool true]) (by simp [results, Try.results16, go_sem]) rfl ?_
  · have e : L = [] := List.eq_nil_of_length_eq_zero (by omega)
    subst e
    obtain ⟨h1, h2⟩ := Rf.put HB.out (HR.out.nil (off' := off) 0) (by simp) (by simp)
    exact ⟨rfl, (h1.alloc _).alloc _, (h2.alloc _).alloc _⟩
  · obtain ⟨h1, h2⟩ := Rf.put HB.out (HR.out.tail (c - 1)) (by omega) (by omega)
    exact ⟨rfl, (h1.alloc _).alloc _, (h2.alloc _).alloc _⟩
end Go.Proofs.Ytahccfljgmleiaa
