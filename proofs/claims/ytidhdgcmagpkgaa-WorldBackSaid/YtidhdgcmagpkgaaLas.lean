/-
  What NatLasts' and NatOne's walks are told: a box with one binding, as times go on. Conditions: as each lemma states.
-/
import Derived.Test.YtidhdgcmagpkgaaOin
namespace Go.Proofs.Ytidhdgcmagpkgaa
open Go.RowKit
set_option linter.unusedVariables false

/-- these objects are held -/
structure Hs (w0 : World) (os : List (Nat × Obj)) (V : World) : Prop where
  held : ∀ p ∈ os, V.heap[p.1]? = some p.2
  low : Below w0.heap.size w0 V
section
variable {w0 V V' : World} {os : List (Nat × Obj)}
theorem Hs.below (h : Hs w0 os V) (hb : Below V.heap.size V V') : Hs w0 os V' := ⟨fun p hp => (hb.block _ (Array.getElem?_eq_some_iff.1 (h.held p hp)).1).trans (h.held p hp), h.low.trans (hb.mono h.low.size)⟩
theorem Hs.box {k : Nat} (h : Hs w0 os V) (cs : Array Value) (t : TypeId) (hk : k = V.heap.size) : Hs w0 ((k, .cells cs t (0, 0)) :: os) (V.alloc (.cells cs t)) := by
  refine ⟨fun p hp => ?_, (h.below ((Below.refl _ V).alloc (Nat.le_refl _) _)).low⟩
  rcases List.mem_cons.1 hp with rfl | hp
  · rw [hk]; exact World.alloc_heap_new V _
  · exact (h.below ((Below.refl _ V).alloc (Nat.le_refl _) _)).held p hp
theorem Hs.cells {b : Nat} {C : Array Value} {t : TypeId} (h : Hs w0 os V) (hp : (b, Obj.cells C t (0, 0)) ∈ os) (j : Nat) : V.cell? ⟨b, j, none⟩ = C[j]? ∧ V.frozen? ⟨b, j, none⟩ = false := cells_of (h.held _ hp) j
theorem Hs.sub_nil (h : Hs w0 os V) : Hs w0 [] V := ⟨by simp, h.low⟩
theorem Hs.nil (w : World) : Hs w [] w := ⟨by simp, Below.refl _ _⟩
theorem new_hs (x : Bx) (hx : isBx x) (hb : box2 x = true) (h : Hs w0 os V) : Calls Try.prog 15 #[.agg (boxCells x)] V fun e V' => ∃ g, e = .returned (.tuple #[.pointer (some ⟨g, 0, none⟩), .int .i64 0]) ∧ Pl w0 g x 0 [] os V' := new_pl x hx hb os h.low h.held
end
theorem choose_nil {x : Bx} (h : x.lo ≤ x.hi) (s : Int) : chooseM x [] s = some (wish0 x s) := choose_some (k := 0) (by omega) rfl (fun j hj => by omega)
theorem add_nil {x : Bx} (h : x.lo ≤ x.hi) (hm : 1 ≤ x.most) (s : Int) : addM x [] s = some (wish0 x s) := by
  unfold addM
  rw [choose_nil h]
  show (if (0 : Int) < x.most then _ else _) = _
  rw [if_pos (by omega)]
/-- the one binding, till u -/
def bL (x : Bx) (a b : A2) (u : Int) : Bn := ⟨a, partA b x.map, wish0 x a.2, u, false, [b]⟩
theorem sent_new {x : Bx} {t : Int} (a b : A2) (p : Int) (hl : t + x.life ≤ 1099511627776) : sentB x t b (newB x a b p) = ⟨a, partA b x.map, p, t + x.life, false, [b]⟩ := by
  unfold sentB newB
  rw [if_neg (by simp), Int.min_eq_left hl]
  rfl
theorem seeL_self (b : A2) : seeL [b] b = [b] := by simp [seeL, cut16]
theorem find_nil {x : Bx} (a b : A2) : ([] : List Bn).find? (wayF x [] a b) = none := rfl
theorem live_one {x : Bx} {a b : A2} {u t : Int} (h : t < u) : liveM [bL x a b u] t = [bL x a b u] := by
  have : ¬ (bL x a b u).until_ ≤ t := by show ¬ u ≤ t; omega
  simp [liveM, this]
theorem live_none {x : Bx} {a b : A2} {u t : Int} (h : u ≤ t) : liveM [bL x a b u] t = [] := by
  have : (bL x a b u).until_ ≤ t := h
  simp [liveM, this]
section
variable {x : Bx} {now t : Int} {a b : A2} {u : Int}
theorem las_bad (hg : goes now t = true) (hm : ¬ (mayA a = true ∧ mayA b = true)) : outS x now [] t a b = ((0, 0), 1, t, []) := by
  unfold outS
  rw [if_pos hg]
  unfold outM
  rw [if_neg hm]; rfl
theorem las_new (hx : OkB x) (hm : 1 ≤ x.most) (hg : goes now t = true) (ha : mayA a = true) (hb : mayA b = true) (hl : t + x.life ≤ 1099511627776) : outS x now [] t a b = ((x.host, wish0 x a.2), 0, t, [bL x a b (t + x.life)]) := by
  unfold outS
  rw [if_pos hg]
  have h0 : liveM [] t = [] := rfl
  rw [h0]
  unfold outM
  rw [if_pos ⟨ha, hb⟩, find_nil]
  simp only [add_nil hx.lh hm, sent_new a b _ hl]
  rfl
theorem las_out (hg : goes now t = true) (ha : mayA a = true) (hb : mayA b = true) (hu : t < u) (hl : t + x.life ≤ 1099511627776) : outS x now [bL x a b u] t a b = ((x.host, wish0 x a.2), 0, t, [bL x a b (t + x.life)]) := by
  unfold outS
  rw [if_pos hg, live_one hu]
  unfold outM
  have h1 : wayF x [bL x a b u] a b = toF x a b := by
    unfold wayF
    rw [if_neg (by simp [askF, bL])]
  have h2 : toF x a b (bL x a b u) = true := by simp [toF, bL]
  rw [if_pos ⟨ha, hb⟩, h1]
  have h3 : [bL x a b u].find? (toF x a b) = some (bL x a b u) := by simp [h2]
  have h4 : updF (toF x a b) (sentB x t b) [bL x a b u] = [bL x a b (t + x.life)] := by
    unfold updF
    rw [if_pos h2]
    congr 1
    unfold sentB bL
    dsimp only
    rw [if_neg (by simp), Int.min_eq_left hl, seeL_self]
  rw [h3]
  simp only [h4]
  rfl
theorem las_in (hg : goes now t = true) (hb : mayA b = true) (hu : t < u) : inS x now [bL x a b u] t (wish0 x a.2) b = (a, 0, t, [bL x a b u]) := by
  unfold inS
  rw [if_pos hg, live_one hu]
  have h1 : comesF x (wish0 x a.2) b (bL x a b u) = true := by simp [comesF, letsB, bL]
  have h2 : inM x [bL x a b u] (wish0 x a.2) b = (a, 0) := by
    unfold inM
    rw [if_pos hb]
    have : [bL x a b u].find? (comesF x (wish0 x a.2) b) = some (bL x a b u) := by simp [h1]
    rw [this]; rfl
  rw [h2]
theorem las_gone (hg : goes now t = true) (hb : mayA b = true) (hu : u ≤ t) (p : Int) : inS x now [bL x a b u] t p b = ((0, 0), 8, t, []) := by
  unfold inS
  rw [if_pos hg, live_none hu]
  have h2 : inM x [] p b = ((0, 0), 8) := by
    unfold inM
    rw [if_pos hb]; rfl
  rw [h2]
theorem ok_bL : OkM [bL x a b u] := ⟨by simp, fun c hc => by simp at hc; subst hc; simp [bL]⟩
end
theorem goes_nat {N T : Nat} (h : N ≤ T) (h2 : T ≤ 100000) : goes (N : Int) (T : Int) = true := by
  unfold goes
  rw [Bool.and_eq_true, decide_eq_true_eq, decide_eq_true_eq]
  omega
theorem IsBys.below {w w' : World} {v : Value} {zs : List Int} (h : IsBys w v zs) (hb : Below w.heap.size w w') : IsBys w' v zs := by
  obtain ⟨A, c, h1, h2, h3, h4, h5⟩ := h
  refine ⟨A, c, h1, h2, h3, fun hp => ?_, h5⟩
  obtain ⟨b, off, e, hlt, hc⟩ := h4 hp
  exact ⟨b, off, e, Nat.lt_of_lt_of_le hlt hb.size, fun j z hj => (hb.cell (p := ⟨b, off + j, none⟩) hlt).trans (hc j z hj)⟩
theorem IsAdrs.below {w w' : World} {v : Value} {l : List A2} (h : IsAdrs w v l) (hb : Below w.heap.size w w') : IsAdrs w' v l := by
  obtain ⟨A, c, h1, h2, h3, h4, h5⟩ := h
  refine ⟨A, c, h1, h2, h3, fun hp => ?_, h5⟩
  obtain ⟨b, off, e, hlt, hc⟩ := h4 hp
  exact ⟨b, off, e, Nat.lt_of_lt_of_le hlt hb.size, fun j z hj => ⟨(hb.cell (p := ⟨b, off + j * 2, none⟩) hlt).trans (hc j z hj).1, (hb.cell (p := ⟨b, off + j * 2 + 1, none⟩) hlt).trans (hc j z hj).2⟩⟩
theorem las_wish (x : Bx) (h : x.lo ≤ x.hi) (s : Int) : x.lo ≤ wish0 x s ∧ wish0 x s ≤ x.hi := by unfold wish0; split <;> omega
end Go.Proofs.Ytidhdgcmagpkgaa
