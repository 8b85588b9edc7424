/-
  Contracts of the document's own ReadAsk and ReadAnswer. Conditions: the slice reads as bytes.
-/
import Derived.Test.YtfaekiopmfnpkaaQWds
namespace Go.Proofs.Ytfaekiopmfnpkaa.Pp
open Go.RowKit
attribute [local go_sem] Oper.semAt_some
set_option linter.unusedVariables false
set_option linter.unusedSimpArgs false

theorem Bts.mid {w : World} {b off n : Nat} {zs : List Int} (h : Bts w (some ⟨b, off, none⟩) n zs) (k m : Nat) (hk : k + m ≤ n) (hm : 0 < m) : Bts w (some ⟨b, off + k, none⟩) m ((zs.drop k).take m) := by
  obtain ⟨h1, h2, h3⟩ := h
  refine ⟨by simp; omega, fun z hz => h2 z (List.mem_of_mem_drop (List.mem_of_mem_take hz)), fun hn => ?_⟩
  obtain ⟨b', off', e, hlt, hc⟩ := h3 (by omega)
  cases e
  refine ⟨b, off + k, rfl, hlt, fun j hj => ?_⟩
  rw [Nat.add_assoc, hc (k + j) (by omega)]
  simp [List.getD, hj]
/-- the answer's cell and the lease's -/
structure Dn (w W : World) (l : Le) : Prop where
  low : Below w.heap.size w W
  res : LeAt W w.heap.size zeroL
  box : LeAt W (w.heap.size + 1) l
theorem Dn.start (w : World) : Dn w ((w.alloc (.cells (leA zeroL) 36)).alloc (.cells (leA zeroL) 36)) zeroL := by
  have a1 : Below w.heap.size w (w.alloc (.cells (leA zeroL) 36)) := (Below.refl _ w).alloc (Nat.le_refl _) _
  have b2 : Below (w.heap.size + 1) (w.alloc (.cells (leA zeroL) 36)) ((w.alloc (.cells (leA zeroL) 36)).alloc (.cells (leA zeroL) 36)) := (Below.refl _ _).alloc (by simp) _
  have n2 := LeAt.new (w.alloc (.cells (leA zeroL) 36)) zeroL
  rw [World.size_alloc] at n2
  exact ⟨a1.alloc (by simp) _, (LeAt.new w zeroL).below b2 (by omega), n2⟩
theorem Dn.start2 (w : World) (l : Le) : Dn w ((w.alloc (.cells (leA zeroL) 36)).alloc (.cells (leA l) 36)) l := by
  have a1 : Below w.heap.size w (w.alloc (.cells (leA zeroL) 36)) := (Below.refl _ w).alloc (Nat.le_refl _) _
  have b2 : Below (w.heap.size + 1) (w.alloc (.cells (leA zeroL) 36)) ((w.alloc (.cells (leA zeroL) 36)).alloc (.cells (leA l) 36)) := (Below.refl _ _).alloc (by simp) _
  have n2 := LeAt.new (w.alloc (.cells (leA zeroL) 36)) l
  rw [World.size_alloc] at n2
  exact ⟨a1.alloc (by simp) _, (LeAt.new w zeroL).below b2 (by omega), n2⟩
theorem Dn.start3 (w : World) (l : Le) : Dn w ((w.alloc (.cells (leA zeroL) 36)).drew.alloc (.cells (leA l) 36)) l := by
  have a1 : Below w.heap.size w (w.alloc (.cells (leA zeroL) 36)).drew := below_drewN' ((Below.refl _ w).alloc (Nat.le_refl _) _) 1
  have b2 : Below (w.heap.size + 1) (w.alloc (.cells (leA zeroL) 36)).drew ((w.alloc (.cells (leA zeroL) 36)).drew.alloc (.cells (leA l) 36)) := (Below.refl _ _).alloc (by show w.heap.size + 1 ≤ (w.alloc (.cells (leA zeroL) 36)).heap.size; simp) _
  have n2 := LeAt.new (w.alloc (.cells (leA zeroL) 36)).drew l
  have e : (w.alloc (.cells (leA zeroL) 36)).drew.heap.size = w.heap.size + 1 := by show (w.alloc (.cells (leA zeroL) 36)).heap.size = _; simp
  rw [e] at n2
  exact ⟨a1.alloc (by rw [e]; omega) _, LeAt.below (w := (w.alloc (.cells (leA zeroL) 36)).drew) (LeAt.new w zeroL) b2 (by omega), n2⟩
theorem Dn.drewN {w W : World} {l : Le} (h : Dn w W l) (q : Nat) : Dn w (W.drewN q) l := ⟨below_drewN' h.low q, h.res, h.box⟩
theorem Dn.drew {w W : World} {l : Le} (h : Dn w W l) : Dn w W.drew l := ⟨below_drewN' h.low 1, h.res, h.box⟩
theorem Dn.below {w W W' : World} {l : Le} (h : Dn w W l) (hb : Below W.heap.size W W') : Dn w W' l := ⟨h.low.trans (hb.mono h.low.size), h.res.below hb h.res.lt, h.box.below hb h.box.lt⟩
theorem Dn.put {w W : World} {l : Le} (h : Dn w W l) (l' : Le) : Dn w (put8 W (w.heap.size + 1) l') l' := ⟨put8_below h.low (by omega), (put8_other (by omega)).trans h.res, put8_res h.box⟩
theorem Dn.set {w W : World} {l : Le} (h : Dn w W l) (k : Nat) (v : Value) (l' : Le) (hl : (leA l).setIfInBounds k v = leA l') (hk : k < 8) : Dn w (W.setCell ⟨w.heap.size + 1, k, none⟩ v) l' := by
  refine ⟨h.low.setCell (p := ⟨w.heap.size + 1, k, none⟩) (by show w.heap.size ≤ w.heap.size + 1; omega) _, (Below.heap_setCell _ _ _ _ (by show w.heap.size ≠ w.heap.size + 1; omega)).trans h.res, ?_⟩
  have := heap_mod h.box (k := k) (by exact hk) v
  rw [hl] at this
  exact this
theorem Dn.fin {w W : World} {l : Le} (h : Dn w W l) (l' : Le) : Below w.heap.size w (put8 W w.heap.size l') ∧ LeAt (put8 W w.heap.size l') w.heap.size l' := ⟨put8_below h.low (Nat.le_refl _), put8_res h.res⟩
theorem Dn.cells {w W : World} {l : Le} (h : Dn w W l) : w.heap.size + 1 < W.heap.size ∧ ∀ k, W.frozen? ⟨w.heap.size + 1, k, none⟩ = false ∧ W.frozen? ⟨w.heap.size, k, none⟩ = false := ⟨h.box.lt, fun k => ⟨(cells_of h.box k).2, (cells_of h.res k).2⟩⟩

end Go.Proofs.Ytfaekiopmfnpkaa.Pp
