/-
  What NetPlays' walk is told: how large a net may have grown, the marks of the loops gone through, the end. Conditions: as each states.
-/
import Derived.Test.YthfdnidcmkjmoaaPw
import Derived.Deep.RegionHeld
import Derived.BigQuiet
import Derived.Sort.CutIn
import Derived.RangeFuncLeaves
import Derived.RangeFuncRecord
namespace Go.Proofs.Ythfdnidcmkjmoaa
open Go.RowKit
set_option linter.unusedVariables false

/-- a net behind k steps -/
structure Ok2 (k : Nat) (M : List Dg) (last : Int) : Prop where
  len : M.length ≤ k
  sm : ∀ d ∈ M, d.b.length ≤ 1300
  lo : 0 ≤ last
  hi : last ≤ (k : Int)
section
variable {k : Nat} {M : List Dg} {last : Int}
theorem Ok2.nil : Ok2 0 [] 0 := ⟨by simp, by simp, by omega, by omega⟩
theorem Ok2.more (h : Ok2 k M last) : Ok2 (k + 1) M last := ⟨by have := h.len; omega, h.sm, h.lo, by have := h.hi; omega⟩
theorem Ok2.ok (h : Ok2 k M last) (hk : k ≤ 200) : OkD M last := ⟨by have := h.len; omega, fun d hd => by have := h.sm d hd; omega, by have := h.lo; omega, by have := h.hi; omega⟩
theorem Ok2.put (h : Ok2 k M last) (f t : A2) {b : List Int} (hb : b.length ≤ 1300) : Ok2 (k + 1) (putN M last f t b).2.1 (putN M last f t b).2.2 := by
  unfold putN
  split
  · refine ⟨by have := h.len; simp; omega, fun d hd => ?_, by have := h.lo; dsimp only; omega, by have := h.hi; dsimp only; omega⟩
    rcases List.mem_append.1 hd with hd | hd
    · exact h.sm d hd
    · simp at hd; subst hd; exact hb
  · exact h.more
theorem Ok2.send (h : Ok2 k M last) (f t : A2) {b : List Int} (hb : b.length ≤ 1300) : Ok2 (k + 1) (sendN M last f t b).2.1 (sendN M last f t b).2.2 := by
  unfold sendN
  split
  · exact h.put f t hb
  · exact h.more
theorem Ok2.at_ (h : Ok2 k M last) {no : Int} {j : Nat} (hj : findN M no = some j) : (M.getD j default).b.length ≤ 1300 := by
  have hl := findN_lt hj
  rw [List.getD_eq_getElem?_getD, List.getElem?_eq_getElem hl]
  exact h.sm _ (List.getElem_mem hl)
theorem Ok2.copy (h : Ok2 k M last) (no : Int) : Ok2 (k + 1) (copyN M last no).2.1 (copyN M last no).2.2 := by
  unfold copyN
  split
  · exact h.more
  · rename_i j hj
    exact h.put _ _ (h.at_ hj)
theorem Ok2.take (h : Ok2 k M last) (no : Int) : Ok2 (k + 1) (takeN M no).2 last := by
  unfold takeN
  split
  · exact h.more
  · rename_i j hj
    refine ⟨?_, fun d hd => h.sm d (List.mem_of_mem_eraseIdx hd), h.lo, by have := h.hi; omega⟩
    have := List.length_eraseIdx_le M j
    have := h.len
    dsimp only
    omega
theorem Ok2.taken (h : Ok2 k M last) (no : Int) : (takeN M no).1.1.b.length ≤ 1300 := by
  unfold takeN
  split
  · show (default : Dg).b.length ≤ 1300
    exact Nat.zero_le _
  · rename_i j hj
    exact h.at_ hj
end

/-- the marks of the loops gone through -/
def markO (D : Nat) : Nat × Obj := (D, .deferred (some []))
def marks (Ds : List Nat) : List (Nat × Obj) := Ds.map markO
def defs (Ds : List Nat) : List Deferred := Ds.map fun D => { target := .collected D, args := #[] }
def MarksOk (B : Nat) (Ds : List Nat) : Prop := Ds.Nodup ∧ ∀ D ∈ Ds, B ≤ D
theorem MarksOk.nil (B : Nat) : MarksOk B [] := ⟨List.nodup_nil, by simp⟩
theorem MarksOk.cons {B D : Nat} {Ds : List Nat} (h : MarksOk B Ds) (h1 : B ≤ D) (h2 : D ∉ Ds) : MarksOk B (D :: Ds) :=
  ⟨List.nodup_cons.2 ⟨h2, h.1⟩, fun k hk => by
    rcases List.mem_cons.1 hk with rfl | hk
    · exact h1
    · exact h.2 k hk⟩
theorem leaves_marks {F : Fence} {n : Nat} {fn : Func} {tmps : Array Value} {R : Ending → World → Prop} : ∀ (Ds : List Nat) (W : World), Ds.Nodup → (∀ D ∈ Ds, W.heap[D]? = some (.deferred (some []))) →
    (∀ W', Keeps (· ∈ Ds) W W' → LeavesInM F n Try.prog fn tmps R [] .returning W') → LeavesInM F n Try.prog fn tmps R (defs Ds) .returning W
  | [], W, _, _, h => h W (Keeps.refl _ _)
  | D :: Ds, W, hn, hm, h => by
    have hk : Keeps (· = D) W (W.putObj D (.deferred none)) := Keeps.grown (grownBy_putObj' W D (.deferred none)) (fun g e => (Option.some.inj e).symm)
    refine ⟨by simp, .inl ⟨D, _, rfl, run_takeDeferred (hm D (by simp)), ?_⟩⟩
    refine leaves_marks Ds _ (List.nodup_cons.1 hn).2 (fun D' hD' => ?_) (fun W' hk' => h W' ?_)
    · have h1 := hm D' (List.mem_cons_of_mem _ hD')
      refine (hk.block D' (Array.getElem?_eq_some_iff.1 h1).1 (fun e => ?_)).trans h1
      have e2 : D' = D := e
      rw [e2] at hD'
      exact (List.nodup_cons.1 hn).1 hD'
    · exact (hk.mono (fun k _ e => by rw [e]; simp)).trans (hk'.mono (fun k _ e => List.mem_cons_of_mem _ e))
/-- what is held between the rounds: the answer's cell, the document's net's, and the marks -/
def osW (r br rb : Nat) (Ds : List Nat) : List (Nat × Obj) := (r, .cells #[.bool false] 4 (0, 0)) :: (br, .cells #[.pointer (some ⟨rb, 0, none⟩)] 27 (0, 0)) :: marks Ds
theorem osW_r {r br rb : Nat} {Ds : List Nat} : (r, Obj.cells #[.bool false] 4 (0, 0)) ∈ osW r br rb Ds := by simp [osW]
theorem osW_b {r br rb : Nat} {Ds : List Nat} : (br, Obj.cells #[.pointer (some ⟨rb, 0, none⟩)] 27 (0, 0)) ∈ osW r br rb Ds := by simp [osW]
theorem osW_d {r br rb D : Nat} {Ds : List Nat} (h : D ∈ Ds) : markO D ∈ osW r br rb Ds := by
  simp only [osW, List.mem_cons]
  exact .inr (.inr (List.mem_map.2 ⟨D, h, rfl⟩))
section
variable {w0 V : World} {nb rb br : Nat} {la lb : Int} {M RM : List Dg} {Ds : List Nat}
theorem plays_end {F : Fence} {n : Nat} {fn : Func} {tmps : Array Value} (h : Pw w0 nb rb la M lb RM (osW w0.heap.size br rb Ds) V) (hn : MarksOk w0.heap.size Ds)
    (hres : ∀ W', W'.cell? ⟨w0.heap.size, 0, none⟩ = some (.bool true) → (results fn tmps).run Try.prog W' = .ok (.bool true) W') :
    LeavesInM F n Try.prog fn tmps (fun e w' => e = .returned (.bool true) ∧ Below w0.heap.size w0 w') (defs Ds) .returning (V.setCell ⟨w0.heap.size, 0, none⟩ (.bool true)) := by
  have hB := h.held _ osW_r
  have hne : ∀ D ∈ Ds, D ≠ w0.heap.size := fun D hD e => by
    have h1 : V.heap[D]? = _ := h.held _ (osW_d hD)
    have h2 : V.heap[w0.heap.size]? = _ := hB
    rw [e, h2] at h1; cases h1
  have h3 := heap_setCell_same V w0.heap.size 0 #[.bool false] 4 (.bool true) hB
  refine leaves_marks Ds _ hn.1 (fun D hD => (heap_setCell_other _ ⟨w0.heap.size, 0, none⟩ D _ (hne D hD)).trans (h.held _ (osW_d hD))) (fun W' hk => ?_)
  have h4 := (hk.block _ (Array.getElem?_eq_some_iff.1 h3).1 (fun e => hne _ e rfl)).trans h3
  exact ⟨.bool true, hres W' (cells_of h4 0).1, rfl, (h.low.setCell (p := ⟨w0.heap.size, 0, none⟩) (Nat.le_refl _) _).trans (hk.below (fun k e => hn.2 k e) (by simpa using h.low.size))⟩
/-- the document's own net as the law reads it -/
theorem Pw.rform {os : List (Nat × Obj)} (h : Pw w0 nb rb la M lb RM os V) : ∃ A c, V.cell? ⟨rb, 0, none⟩ = some (.slice A RM.length c) ∧ rb < V.heap.size ∧ RM.length ≤ c ∧ c ≤ maxLen ∧
    ∀ k d, RM[k]? = some d → ∃ g A2 c2, A = some ⟨g, 0, none⟩ ∧ g < V.heap.size ∧ V.cell? ⟨g, k * 6, none⟩ = some (.int .i64 d.no) ∧ V.cell? ⟨g, k * 6 + 1, none⟩ = some (.int .u32 d.f.1) ∧ V.cell? ⟨g, k * 6 + 2, none⟩ = some (.int .i64 d.f.2) ∧
      V.cell? ⟨g, k * 6 + 3, none⟩ = some (.int .u32 d.t.1) ∧ V.cell? ⟨g, k * 6 + 4, none⟩ = some (.int .i64 d.t.2) ∧ V.cell? ⟨g, k * 6 + 5, none⟩ = some (.slice A2 d.b.length c2) ∧ Bts V A2 d.b.length d.b := by
  obtain ⟨kv, L, rkv, RL, k1, k2, k3, k4, k5, k6, k7⟩ := h.bo
  subst k4
  obtain ⟨A, c, rfl, f1, f2, f3, f4⟩ := k3.form
  rw [List.length_map]
  refine ⟨A, c, k3.cells.1, k3.lt, f1, f2, fun k d hk => ?_⟩
  rw [List.getElem?_map] at hk
  obtain ⟨m, hm, rfl⟩ := Option.map_eq_some_iff.1 hk
  obtain ⟨g, e, hg, _, c0, c1, c2, c3, c4, c5⟩ := f4 k m hm
  exact ⟨g, m.A, m.c, e, hg, c0, c1, c2, c3, c4, c5, (k3.mds m (List.mem_of_getElem? hm)).bts.1⟩
end
end Go.Proofs.Ythfdnidcmkjmoaa
