/-
  What NetPlays' walk is told: how both nets begin; a datagram handed over in a round; reads in a round. Conditions: as each states.
-/
import Derived.Test.YthfdnidcmkjmoaaPx
import Derived.Test.YthfdnidcmkjmoaaRnd
namespace Go.Proofs.Ythfdnidcmkjmoaa
open Go.RowKit
set_option linter.unusedVariables false
section
variable {w0 V V0 V1 W0 : World} {nb rb : Nat} {la lb : Int} {M RM : List Dg} {os : List (Nat × Obj)}
theorem pw_start (h : Pn w0 nb 0 [] os V) (hr : rb = V.heap.size) : Pw w0 nb rb 0 [] 0 [] os (V.alloc (.cells #[.slice none 0 0, .int .i64 0] 30)) := by
  subst hr
  have h' := h.alloc (.cells #[.slice none 0 0, .int .i64 0] 30)
  obtain ⟨kv, L, h1, h2, h3, h4⟩ := h.bo
  refine ⟨⟨kv, L, .slice none 0 0, [], h1.alloc _, h2, ⟨.inr rfl, World.alloc_heap_new V _, World.ownsRow_nil _ _ _ _, by simp⟩, rfl, fun k hk => hk.elim (h3 k) (fun hf => ?_), fun p hp hf => hf.elim (h4 p hp) (fun hf => ?_), fun g hg e => by cases e⟩, h'.held, h'.low⟩
  · rcases hf with (rfl | hf) | ⟨m, hm, _⟩
    · exact h.low.size
    · cases hf
    · cases hm
  · have := h.lt hp
    rcases hf with (e | hf) | ⟨m, hm, _⟩
    · omega
    · cases hf
    · cases hm
/-- a datagram is handed over, and laid in a cell of its own -/
theorem Pw.handed {L pre : List Md} {z : Md} {d g : Nat} {o o' : Obj} {B : Nat} (h : Pw w0 nb rb la M lb RM os V0) (hb : Below V0.heap.size V0 V1) (hok : OkM L pre z V0 V1) (hd : V1.heap[d]? = some o') (ho : o'.isCells = false) (hBd : B ≤ d) (hos : ∀ p ∈ os, p.1 < B) (hw : w0.heap.size ≤ B) (hg : V1.heap.size = g) (cs : Array Value) (t : TypeId) :
    Pw w0 nb rb la M lb RM ((g, .cells cs t (0, 0)) :: os) ((V1.alloc (.cells cs t)).putObj d o) ∧ Bts ((V1.alloc (.cells cs t)).putObj d o) z.A z.d.b.length z.d.b := by
  subst hg
  have hdl := (Array.getElem?_eq_some_iff.1 hd).1
  have hbx : Below V1.heap.size V1 (V1.alloc (.cells cs t)) := (Below.refl _ _).alloc (Nat.le_refl _) _
  have hd2 : (V1.alloc (.cells cs t)).heap[d]? = some o' := (Below.heap_alloc _ _ _ hdl).trans hd
  have hp := h.below hb
  refine ⟨(hp.fresh hbx (World.alloc_heap_new V1 _) (Nat.le_refl _)).put hd2 ho (Nat.le_trans hw hBd) (fun p hp' => ?_), ?_⟩
  · rcases List.mem_cons.1 hp' with rfl | hp'
    · simp only; omega
    · have := hos p hp'; omega
  · have h1 := hok.2.1.below hbx
    have h2 : MdAt ((V1.alloc (.cells cs t)).putObj d o) z := h1.kept (fun g hg => by
      obtain ⟨C, e⟩ := own_obj h1.row hg
      refine World.putObj_heap_other (fun e2 => ?_)
      subst e2
      rw [hd2] at e; cases e; cases ho)
    exact h2.bts.1
/-- what is no cells is none of theirs -/
theorem Pw.hold {g : Nat} {o : Obj} (h : Pw w0 nb rb la M lb RM os V) (hg : V.heap[g]? = some o) (ho : o.isCells = false) : Pw w0 nb rb la M lb RM ((g, o) :: os) V := by
  obtain ⟨kv, L, rkv, RL, k1, k2, k3, k4, k5, k6, k7⟩ := h.bo
  refine ⟨⟨kv, L, rkv, RL, k1, k2, k3, k4, k5, fun p hp hf => ?_, k7⟩, fun p hp => ?_, h.low⟩
  · rcases List.mem_cons.1 hp with rfl | hp
    · obtain ⟨C, t, e⟩ := hf.elim (foot_cells k1) (foot_cells k3)
      simp only at e
      rw [hg] at e; cases e; cases ho
    · exact k6 p hp hf
  · rcases List.mem_cons.1 hp with rfl | hp
    · exact hg
    · exact h.held p hp
/-- cells of what is held -/
theorem Pw.c1 {k : Nat} {v : Value} {t : TypeId} (h : Pw w0 nb rb la M lb RM os V) (hp : (k, Obj.cells #[v] t (0, 0)) ∈ os) : V.cell? ⟨k, 0, none⟩ = some v ∧ V.frozen? ⟨k, 0, none⟩ = false ∧ k < V.heap.size := ⟨(h.cells hp 0).1, (h.cells hp 0).2, h.lt hp⟩
theorem Pw.c6 {k : Nat} {v0 v1 v2 v3 v4 v5 : Value} {t : TypeId} (h : Pw w0 nb rb la M lb RM os V) (hp : (k, Obj.cells #[v0, v1, v2, v3, v4, v5] t (0, 0)) ∈ os) :
    V.cell? ⟨k, 0, none⟩ = some v0 ∧ V.cell? ⟨k, 1, none⟩ = some v1 ∧ V.cell? ⟨k, 2, none⟩ = some v2 ∧ V.cell? ⟨k, 3, none⟩ = some v3 ∧ V.cell? ⟨k, 4, none⟩ = some v4 ∧ V.cell? ⟨k, 5, none⟩ = some v5 :=
  ⟨(h.cells hp 0).1, (h.cells hp 1).1, (h.cells hp 2).1, (h.cells hp 3).1, (h.cells hp 4).1, (h.cells hp 5).1⟩
theorem Pw.c7 {k : Nat} {v0 v1 v2 v3 v4 v5 v6 : Value} {t : TypeId} (h : Pw w0 nb rb la M lb RM os V) (hp : (k, Obj.cells #[v0, v1, v2, v3, v4, v5, v6] t (0, 0)) ∈ os) :
    V.cell? ⟨k, 0, none⟩ = some v0 ∧ V.cell? ⟨k, 1, none⟩ = some v1 ∧ V.cell? ⟨k, 2, none⟩ = some v2 ∧ V.cell? ⟨k, 3, none⟩ = some v3 ∧ V.cell? ⟨k, 4, none⟩ = some v4 ∧ V.cell? ⟨k, 5, none⟩ = some v5 ∧ V.cell? ⟨k, 6, none⟩ = some v6 :=
  ⟨(h.cells hp 0).1, (h.cells hp 1).1, (h.cells hp 2).1, (h.cells hp 3).1, (h.cells hp 4).1, (h.cells hp 5).1, (h.cells hp 6).1⟩
end
/-- a step, laid in a cell of its own -/
def stepO (g : Nat) (d : Dn) (A : Option Addr) (c : Nat) : Nat × Obj := (g, .cells #[.int .i64 d.kind, .int .i64 d.no, .int .u32 d.f.1, .int .i64 d.f.2, .int .u32 d.t.1, .int .i64 d.t.2, .slice A d.zs.length c] 36 (0, 0))
end Go.Proofs.Ythfdnidcmkjmoaa
