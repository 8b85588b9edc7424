/-
  Contracts of a binding's see and lets. Conditions: the binding lies in memory, with at most sixteen seen ones.
-/
import Derived.Test.YtidhdgcmagpkgaaDl1
import Derived.Test.YtidhdgcmagpkgaaGos
namespace Go.Proofs.Ytidhdgcmagpkgaa
open Go.RowKit
attribute [local go_sem] Oper.semAt_some
set_option linter.unusedVariables false

/-- who is seen, when one more is, as the last one -/
def cut16 (l : List A2) : List A2 := if l.length = 16 then l.drop 1 else l
def seeL (l : List A2) (a : A2) : List A2 := cut16 (l.filter (fun p => !decide (p = a))) ++ [a]
theorem cut16_len {l : List A2} (h : l.length ≤ 16) : (cut16 l).length ≤ 15 := by
  unfold cut16
  split
  · rw [List.length_drop]; omega
  · omega
theorem seeL_len {l : List A2} (h : l.length ≤ 16) (a : A2) : (seeL l a).length ≤ 16 := by
  have h1 := List.length_filter_le (fun p => !decide (p = a)) l
  have h2 := cut16_len (l := l.filter (fun p => !decide (p = a))) (by omega)
  unfold seeL
  rw [List.length_append]
  simp only [List.length_cons, List.length_nil]
  omega
theorem put_seen {w : World} {p : Nat} {b : Bn} {sv v : Value} {l : List A2} (hp : w.heap[p]? = some (.cells (bnCells b sv) 75 (0, 0))) (hr : w.ownsRow 0 36 2 v l.length (cellsA l)) :
    NdAt (w.setCell ⟨p, 7, none⟩ v) ⟨p, { b with seen := l }, v⟩ := by
  refine ⟨heap_setCell_same w p 7 _ 75 v hp, own_at hr (fun g hg => heap_setCell_other w ⟨p, 7, none⟩ g v (fun e => ?_))⟩
  have e2 : g = p := e
  obtain ⟨C, hC⟩ := own_obj hr hg
  rw [e2] at hC
  exact clash hp hC (by decide)
/-- what see leaves -/
def Saw (w : World) (d : Nd) (l : List A2) : Ending → World → Prop := fun e w' => e = .returned (.tuple #[]) ∧
  ∃ sv', NdAt w' ⟨d.p, { d.b with seen := l }, sv'⟩ ∧ (∀ g, sv'.ownBlock = some g → d.sv.ownBlock = some g ∨ w.heap.size ≤ g) ∧ Keeps (fun k => k = d.p ∨ d.sv.ownBlock = some k) w w'
theorem cut_run {w : World} {v : Value} {l : List A2} (hr : w.ownsRow 0 36 2 v l.length (cellsA l)) (hl : l.length = 16) :
    ∃ g c, v = .slice (some ⟨g, 0, none⟩) 16 c ∧ Calls Try.prog 62 #[.slice (some ⟨g, 0, none⟩) 16 c, .int .i64 0, .int .i64 1] w fun e w' => ∃ v', e = .returned v' ∧ v'.ownBlock = v.ownBlock ∧ w'.ownsRow 0 36 2 v' 15 (cellsA (l.drop 1)) ∧ Keeps (fun k => k = g) w w' := by
  rcases hr.2 with ⟨rfl, h0⟩ | ⟨g, cap, cur, rfl, hb, hg, hn, hm, hsz, htake⟩
  · omega
  · rw [hl] at htake hn
    refine ⟨g, cap, by rw [hl], (delete1 g cap cur l w hg hl hn hm hsz htake).mono ?_⟩
    rintro e w' ⟨rfl, h1, h2⟩
    exact ⟨_, rfl, rfl, h1, h2⟩

set_option maxRecDepth 100000 in
set_option maxHeartbeats 2000000 in
/-- the end of see: one more is laid behind -/
theorem see_end {w : World} {v : Value} {l : List A2} {a : A2} (hr : w.ownsRow 0 36 2 v l.length (cellsA l)) (hl : l.length ≤ 15) :
    ∃ v' w', (∀ ty, (Builtin.append_ #[73, 73] ty #[v, .slice (some ⟨w.heap.size, 0, none⟩) 1 1]).run Try.prog (w.alloc (.cells #[.int .u32 a.1, .int .i64 a.2] 36)) = .ok v' w') ∧ (∃ A n c, v' = .slice A n c) ∧
      w'.ownsRow 0 36 2 v' (l ++ [a]).length (cellsA (l ++ [a])) ∧ (∀ g, v'.ownBlock = some g → v.ownBlock = some g ∨ w.heap.size ≤ g) ∧ Keeps (fun k => v.ownBlock = some k) w w' := by
  obtain ⟨i0, hi0, hz0, hz1, hz2⟩ := info_parts info38
  have h1 : (w.alloc (.cells #[.int .u32 a.1, .int .i64 a.2] 36)).ownsRow 0 36 2 v l.length (cellsA l) := hr.alloc _
  have hc : ∀ j u, (cellsA [a])[j]? = some u → (w.alloc (.cells #[.int .u32 a.1, .int .i64 a.2] 36)).cell? ((⟨w.heap.size, 0, none⟩ : Addr).add j) = some u := by
    intro j u hj
    rw [add_spot, Nat.zero_add, (cells_of (World.alloc_heap_new w _) j).1]
    simpa [cellsA] using hj
  have hrun := fun ty => run_append_own_at (P := Try.prog) (w.alloc (.cells #[.int .u32 a.1, .int .i64 a.2] 36)) 0 73 ty 36 i0 (.agg #[.int .u32 0, .int .i64 0]) 2 16 Try.underlying73 hi0 hz0 hz1 hz2 rfl (by decide) v l.length (cellsA l) h1 ⟨w.heap.size, 0, none⟩ 1 1 (cellsA [a]) rfl hc (cellsA_one _) (by unfold maxLen; omega) (by omega) (Nat.zero_le _)
  obtain ⟨v', w', r0, r1, r2, r3, r4⟩ := hrun 73
  refine ⟨v', w', fun ty => ?_, ?_, ?_, ?_, ?_⟩
  · rw [← r0]; rfl
  · obtain ⟨A, m, c, e⟩ := own_slice r1
    exact ⟨A, m, c, e⟩
  · rw [List.length_append, cellsA_append]; exact r1
  · intro g hg
    rcases r4 with e | e
    · exact .inl (by rw [← e]; exact hg)
    · rw [e] at hg
      simp at hg
      exact .inr (by omega)
  · exact ((Keeps.refl _ w).alloc _).trans (Keeps.grown r2 (fun g hg => hg))
end Go.Proofs.Ytidhdgcmagpkgaa
