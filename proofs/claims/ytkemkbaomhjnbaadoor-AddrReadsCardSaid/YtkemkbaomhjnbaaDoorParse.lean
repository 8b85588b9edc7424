/-
  The contract of embrasure/addr's Parse: the place of a text, or none. Conditions: the text has a million bytes at most.
-/
import Derived.Test.YtkemkbaomhjnbaaDoorHost
namespace Go.Proofs.YtkemkbaomhjnbaaDoor
open Go.RowKit Go.Shelf
attribute [local go_sem] Oper.semAt_some
set_option linter.unusedVariables false

theorem ret_b {a b : Bool} (h : a = b) : Ending.returned (.bool a) = .returned (.bool b) := by rw [h]
/-- how far a text has been read: how many parts, was the last one right, and what of the place is known -/
structure PS where
  n : Nat
  ok : Bool
  h : Nat
  p : Int
  i : Int
  v : Bool
/-- the place after a further part, and whether the part is right -/
def put (s : PS) (z : List UInt8) : PS := match s.n with
  | 0 => { s with ok := decide (z = []) }
  | 1 => { s with ok := decide (z = [105, 112, 52]) }
  | 2 => { s with h := (hostV z).1, ok := (hostV z).2 }
  | 3 => { s with ok := decide (z = [117, 100, 112]) }
  | 4 => { s with p := (numV 1 65535 z).1, ok := (numV 1 65535 z).2 }
  | 5 => { s with ok := decide (z = [112, 50, 112]) }
  | 6 => { s with i := (numV 1 2147483647 z).1, ok := (numV 1 2147483647 z).2 }
  | 7 => { s with v := true, ok := decide (z = [112, 50, 112, 45, 99, 105, 114, 99, 117, 105, 116]) }
  | _ => { s with ok := false }
def stepP (s : Option PS) (z : List UInt8) : Option PS := match s with
  | none => none
  | some s => if (put s z).ok = true then some { put s z with n := s.n + 1 } else none
def foldP (ps : List (List UInt8)) : Option PS := ps.foldl stepP (some ⟨0, false, 0, 0, 0, false⟩)
theorem foldP_snoc (ps : List (List UInt8)) (z : List UInt8) : foldP (ps ++ [z]) = stepP (foldP ps) z := by simp [foldP]
theorem foldP_none : ∀ (ps : List (List UInt8)), ps.foldl stepP none = none
  | [] => rfl
  | _ :: ps => foldP_none ps
theorem foldP_prefix {pre ps : List (List UInt8)} (h : pre <+: ps) (h0 : foldP pre = none) : foldP ps = none := by
  obtain ⟨t, rfl⟩ := h
  unfold foldP at *
  rw [List.foldl_append, h0, foldP_none]
/-- the place of a text -/
def parseL (l : List UInt8) : Option PS := match foldP (parts 47 l) with
  | none => none
  | some s => if s.n = 5 ∨ s.n = 7 ∨ s.n = 8 then some s else none

/-- the cells of a call of Parse -/
structure ParseAt (w V : World) (s : PS) : Prop where
  below : Below w.heap.size w V
  size : w.heap.size + 7 ≤ V.heap.size
  c0 : V.heap[w.heap.size]? = some (.cells #[.int .u32 0, .int .i64 0, .int .i64 0, .bool false] 37 (0, 0))
  c1 : V.heap[w.heap.size + 1]? = some (.cells #[.int .u32 (s.h : Int), .int .i64 s.p, .int .i64 s.i, .bool s.v] 37 (0, 0))
  c2 : V.heap[w.heap.size + 2]? = some (.cells #[.int .i64 (s.n : Int)] 3 (0, 0))
  c3 : V.heap[w.heap.size + 3]? = some (.cells #[.bool s.ok] 4 (0, 0))
theorem ParseAt.turn {w V V' : World} {s : PS} {row : Option Nat} (h : ParseAt w V s) (hg : V.grownBy V' row) (hr : ∀ r, row = some r → w.heap.size + 4 ≤ r) : ParseAt w V' s := by
  have hs := h.size
  have old : ∀ j, j < w.heap.size + 4 → V'.heap[j]? = V.heap[j]? := fun j hj => hg.block j (by omega) (fun e => by have := hr j e.symm; omega)
  exact ⟨h.below.grown hg h.below.size (fun r e => by have := hr r e; omega), by have := hg.size; omega, (old _ (by omega)).trans h.c0, (old _ (by omega)).trans h.c1, (old _ (by omega)).trans h.c2, (old _ (by omega)).trans h.c3⟩
theorem ParseAt.below' {w V V' : World} {s : PS} (h : ParseAt w V s) (hb : Below V.heap.size V V') : ParseAt w V' s :=
  h.turn (row := none) ⟨hb.os, hb.tape, hb.output, hb.size, fun i hi _ => hb.block i hi⟩ (by simp)
theorem parse_start (w : World) (l : List UInt8) (W0 : World) (h : ((((((w.alloc (.cells #[.int .u32 0, .int .i64 0, .int .i64 0, .bool false] 37)).alloc (.cells #[.int .u32 0, .int .i64 0, .int .i64 0, .bool false] 37)).alloc (.cells #[.int .i64 0] 3)).alloc (.cells #[.bool false] 4)).alloc (.cells #[.string (st l)] 9)).alloc (.cells #[.string ⟨#[47]⟩] 9)).alloc (.cells #[.int .i64 0] 3) = W0) :
    ParseAt w W0 ⟨0, false, 0, 0, 0, false⟩ ∧ Cells W0 (w.heap.size + 4) l 47 ∧ W0.heap.size = w.heap.size + 7 := by
  subst h
  have at_ : ∀ (V : World) (o : Obj) (n : Nat), n = V.heap.size → (V.alloc o).heap[n]? = some o := fun V o n e => by subst e; exact (MapKept.heap_alloc V o).1
  have up : ∀ (V : World) (o x : Obj) (n : Nat), V.heap[n]? = some x → (V.alloc o).heap[n]? = some x := fun V o x n e => (Below.heap_alloc V o n (Array.getElem?_eq_some_iff.1 e).1).trans e
  refine ⟨⟨?_, by simp, ?_, ?_, ?_, ?_⟩, ⟨?_, ?_, ?_⟩, by simp⟩
  · exact (((((((Below.refl _ w).alloc (Nat.le_refl _) _).alloc (by simp) _).alloc (by simp; omega) _).alloc (by simp; omega) _).alloc (by simp; omega) _).alloc (by simp; omega) _).alloc (by simp; omega) _
  · exact up _ _ _ _ (up _ _ _ _ (up _ _ _ _ (up _ _ _ _ (up _ _ _ _ (up _ _ _ _ (at_ _ _ _ rfl))))))
  · exact up _ _ _ _ (up _ _ _ _ (up _ _ _ _ (up _ _ _ _ (up _ _ _ _ (at_ _ _ _ (by simp))))))
  · exact up _ _ _ _ (up _ _ _ _ (up _ _ _ _ (up _ _ _ _ (at_ _ _ _ (by simp)))))
  · exact up _ _ _ _ (up _ _ _ _ (up _ _ _ _ (at_ _ _ _ (by simp))))
  · exact up _ _ _ _ (up _ _ _ _ (at_ _ _ _ (by simp)))
  · exact up _ _ _ _ (at_ _ _ _ (by simp))
  · exact at_ _ _ _ (by simp)

theorem parts_ne (c : UInt8) : ∀ l : List UInt8, parts c l ≠ []
  | [] => by simp [parts]
  | b :: l => by
    rw [parts_cons]
    split
    · simp
    · split <;> simp
/-- what the store of a place leaves, behind the loop's end -/
theorem res4 {w W : World} {D : Nat} (x0 x1 x2 x3 : Value) {a b c d : Value} (h0 : W.heap[w.heap.size]? = some (.cells #[a, b, c, d] 37 (0, 0))) (hD : w.heap.size + 1 ≤ D) (hK : W.heap[D]? = some (.deferred (some []))) (hB : Below w.heap.size w W) :
    ((((W.setCell ⟨w.heap.size, 0, none⟩ x0).setCell ⟨w.heap.size, 1, none⟩ x1).setCell ⟨w.heap.size, 2, none⟩ x2).setCell ⟨w.heap.size, 3, none⟩ x3).heap[D]? = some (.deferred (some [])) ∧
    (∀ j, (((((W.setCell ⟨w.heap.size, 0, none⟩ x0).setCell ⟨w.heap.size, 1, none⟩ x1).setCell ⟨w.heap.size, 2, none⟩ x2).setCell ⟨w.heap.size, 3, none⟩ x3).putObj D (.deferred none)).cell? ⟨w.heap.size, j, none⟩ = #[x0, x1, x2, x3][j]?) ∧
    Below w.heap.size w (((((W.setCell ⟨w.heap.size, 0, none⟩ x0).setCell ⟨w.heap.size, 1, none⟩ x1).setCell ⟨w.heap.size, 2, none⟩ x2).setCell ⟨w.heap.size, 3, none⟩ x3).putObj D (.deferred none)) := by
  have hk : ((((W.setCell ⟨w.heap.size, 0, none⟩ x0).setCell ⟨w.heap.size, 1, none⟩ x1).setCell ⟨w.heap.size, 2, none⟩ x2).setCell ⟨w.heap.size, 3, none⟩ x3).heap[D]? = some (.deferred (some [])) := by
    refine (Below.heap_setCell _ _ _ _ ?_).trans ((Below.heap_setCell _ _ _ _ ?_).trans ((Below.heap_setCell _ _ _ _ ?_).trans ((Below.heap_setCell _ _ _ _ ?_).trans hK))) <;> (simp; omega)
  have h4 : ((((W.setCell ⟨w.heap.size, 0, none⟩ x0).setCell ⟨w.heap.size, 1, none⟩ x1).setCell ⟨w.heap.size, 2, none⟩ x2).setCell ⟨w.heap.size, 3, none⟩ x3).heap[w.heap.size]? = some (.cells #[x0, x1, x2, x3] 37 (0, 0)) := by
    simp [World.setCell, Array.getElem?_modify, h0]
  refine ⟨hk, fun j => ?_, ((((hB.setCell (Nat.le_refl _) _).setCell (Nat.le_refl _) _).setCell (Nat.le_refl _) _).setCell (Nat.le_refl _) _).trans (belowK_b (w := w) (Nat.le_refl _) _ D _ _ (by omega) hk rfl rfl)⟩
  exact (cells_of ((World.putObj_heap_other (by omega)).trans h4) j).1
theorem kept_setj {gs : List Nat} {B b j : Nat} {W : World} (hb : b < B) (hgs : b ∉ gs) (v : Value) : Kept gs false B W (W.setCell ⟨b, j, none⟩ v) :=
  ⟨by simp [World.setCell], fun g hg => Below.heap_setCell _ _ _ _ (fun e => by have e2 : g = b := e; exact hgs (e2 ▸ hg)), fun k o h1 h2 _ => (Below.heap_setCell _ _ _ _ (fun e => by have e2 : k = b := e; omega)).trans h2⟩
section
variable {w V : World} {s : PS}
theorem ParseAt.setOk (h : ParseAt w V s) (b : Bool) : ParseAt w (V.setCell ⟨w.heap.size + 3, 0, none⟩ (.bool b)) { s with ok := b } :=
  ⟨h.below.setCell (by simp) _, by have := h.size; simp [World.setCell]; omega, (Below.heap_setCell _ _ _ _ (by simp)).trans h.c0, (Below.heap_setCell _ _ _ _ (by simp)).trans h.c1, (Below.heap_setCell _ _ _ _ (by simp)).trans h.c2, heap_set0 h.c3⟩
theorem ParseAt.setN (h : ParseAt w V s) (n : Nat) : ParseAt w (V.setCell ⟨w.heap.size + 2, 0, none⟩ (.int .i64 (n : Int))) { s with n := n } :=
  ⟨h.below.setCell (by simp) _, by have := h.size; simp [World.setCell]; omega, (Below.heap_setCell _ _ _ _ (by simp)).trans h.c0, (Below.heap_setCell _ _ _ _ (by simp)).trans h.c1, heap_set0 h.c2, (Below.heap_setCell _ _ _ _ (by simp)).trans h.c3⟩
theorem ParseAt.setH (h : ParseAt w V s) (x : Nat) : ParseAt w (V.setCell ⟨w.heap.size + 1, 0, none⟩ (.int .u32 (x : Int))) { s with h := x } :=
  ⟨h.below.setCell (by simp) _, by have := h.size; simp [World.setCell]; omega, (Below.heap_setCell _ _ _ _ (by simp)).trans h.c0, by simp [World.setCell, Array.getElem?_modify, h.c1], (Below.heap_setCell _ _ _ _ (by simp)).trans h.c2, (Below.heap_setCell _ _ _ _ (by simp)).trans h.c3⟩
theorem ParseAt.setP (h : ParseAt w V s) (x : Int) : ParseAt w (V.setCell ⟨w.heap.size + 1, 1, none⟩ (.int .i64 x)) { s with p := x } :=
  ⟨h.below.setCell (by simp) _, by have := h.size; simp [World.setCell]; omega, (Below.heap_setCell _ _ _ _ (by simp)).trans h.c0, by simp [World.setCell, Array.getElem?_modify, h.c1], (Below.heap_setCell _ _ _ _ (by simp)).trans h.c2, (Below.heap_setCell _ _ _ _ (by simp)).trans h.c3⟩
theorem ParseAt.setI (h : ParseAt w V s) (x : Int) : ParseAt w (V.setCell ⟨w.heap.size + 1, 2, none⟩ (.int .i64 x)) { s with i := x } :=
  ⟨h.below.setCell (by simp) _, by have := h.size; simp [World.setCell]; omega, (Below.heap_setCell _ _ _ _ (by simp)).trans h.c0, by simp [World.setCell, Array.getElem?_modify, h.c1], (Below.heap_setCell _ _ _ _ (by simp)).trans h.c2, (Below.heap_setCell _ _ _ _ (by simp)).trans h.c3⟩
theorem ParseAt.setV (h : ParseAt w V s) (x : Bool) : ParseAt w (V.setCell ⟨w.heap.size + 1, 3, none⟩ (.bool x)) { s with v := x } :=
  ⟨h.below.setCell (by simp) _, by have := h.size; simp [World.setCell]; omega, (Below.heap_setCell _ _ _ _ (by simp)).trans h.c0, by simp [World.setCell, Array.getElem?_modify, h.c1], (Below.heap_setCell _ _ _ _ (by simp)).trans h.c2, (Below.heap_setCell _ _ _ _ (by simp)).trans h.c3⟩
end

set_option maxHeartbeats 400000 in
theorem mayEnd_any (n : Nat) (w : World) (b : Bool) (hb : decide (n = 5 ∨ n = 7 ∨ n = 8) = b) : Calls Tryd.prog 34 #[.int .i64 (n : Int)] w fun e w' => e = .returned (.bool b) ∧ w = w' := by
  have t5 : ((n : Int) == 5) = decide (n = 5) := by rw [Bool.eq_iff_iff]; simp; omega
  have t7 : ((n : Int) == 7) = decide (n = 7) := by rw [Bool.eq_iff_iff]; simp; omega
  have t8 : ((n : Int) == 8) = decide (n = 8) := by rw [Bool.eq_iff_iff]; simp; omega
  have hb' : b = (decide (n = 5) || decide (n = 7) || decide (n = 8)) := by rw [← hb]; by_cases h1 : n = 5 <;> by_cases h2 : n = 7 <;> by_cases h3 : n = 8 <;> simp [h1, h2, h3]
  have HB := Lib.hid hb'; clear hb hb'
  by_cases h1 : n = 5
  · subst h1
    go_enter Tryd.func34, Tryd.ntmps34
    go_wp2
    go_ret
    exact ⟨ret_b (by rw [HB.out]; rfl), rfl⟩
  · have u5 : decide (n = 5) = false := by simpa using h1
    rw [u5] at t5 HB
    by_cases h2 : n = 7
    · subst h2
      clear t5
      go_enter Tryd.func34, Tryd.ntmps34
      go_wp2
      go_ret
      exact ⟨ret_b (by rw [HB.out]; rfl), rfl⟩
    · have u7 : decide (n = 7) = false := by simpa using h2
      rw [u7] at t7 HB
      go_enter Tryd.func34, Tryd.ntmps34
      go_wp2
      go_ret
      exact ⟨ret_b (by rw [HB.out]; simp), rfl⟩

theorem hostV_bd (l : List UInt8) : (hostV l).1 < 4294967296 := by
  unfold hostV
  cases h : hostFold (parts 46 l) with
  | none => simp
  | some x => exact (hostFold_bd _ _ x.1 x.2 rfl h).1
structure Good (s : PS) : Prop where
  n : s.n ≤ 8
  h : s.h < 4294967296
  p : 0 ≤ s.p ∧ s.p ≤ 65535
  i : 0 ≤ s.i ∧ s.i ≤ 2147483647
theorem put_good {s : PS} (h : Good s) (z : List UInt8) (hok : (put s z).ok = true) : Good { put s z with n := s.n + 1 } := by
  obtain ⟨n, ok, hh, p, i, v⟩ := s
  obtain ⟨h1, h2, h3, h4⟩ := h
  simp only at h1 h2 h3 h4
  rcases (show n = 0 ∨ n = 1 ∨ n = 2 ∨ n = 3 ∨ n = 4 ∨ n = 5 ∨ n = 6 ∨ n = 7 ∨ n = 8 by omega) with rfl | rfl | rfl | rfl | rfl | rfl | rfl | rfl | rfl
  · exact ⟨by simp, h2, h3, h4⟩
  · exact ⟨by simp, h2, h3, h4⟩
  · exact ⟨by simp, hostV_bd z, h3, h4⟩
  · exact ⟨by simp, h2, h3, h4⟩
  · exact ⟨by simp, h2, numV_bd 1 65535 z (by omega), h4⟩
  · exact ⟨by simp, h2, h3, h4⟩
  · exact ⟨by simp, h2, h3, numV_bd 1 2147483647 z (by omega)⟩
  · exact ⟨by simp, h2, h3, h4⟩
  · cases hok
theorem foldP_good : ∀ (n : Nat) (ps : List (List UInt8)) (s : PS), ps.length = n → foldP ps = some s → Good s ∧ s.n = ps.length ∧ (0 < ps.length → s.ok = true)
  | 0, ps, s, hn, h => by
    obtain rfl : ps = [] := List.eq_nil_of_length_eq_zero hn
    have : s = ⟨0, false, 0, 0, 0, false⟩ := by simpa [foldP] using h.symm
    subst this
    exact ⟨⟨by simp, by simp, by simp, by simp⟩, rfl, by simp⟩
  | n + 1, ps, s, hn, h => by
    obtain ⟨qs, z, rfl⟩ : ∃ qs z, ps = qs ++ [z] := ⟨ps.dropLast, ps.getLast (by intro e; rw [e] at hn; simp at hn), (List.dropLast_concat_getLast _).symm⟩
    have hq : qs.length = n := by simp at hn; omega
    rw [foldP_snoc] at h
    cases hs : foldP qs with
    | none => rw [hs] at h; cases h
    | some t =>
      rw [hs] at h
      obtain ⟨g1, g2, _⟩ := foldP_good n qs t hq hs
      simp only [stepP] at h
      split at h
      · rename_i hok
        simp only [Option.some.injEq] at h
        subst h
        exact ⟨put_good g1 z hok, by simp [g2], fun _ => hok⟩
      · cases h

set_option maxRecDepth 100000 in
set_option maxHeartbeats 8000000 in
theorem parse_any (l : List UInt8) (w : World) (hl : l.length ≤ 1000000) :
    Calls Tryd.prog 23 #[.string (st l)] w fun e w' => e = .returned (match parseL l with
      | some s => .tuple #[.agg #[.int .u32 (s.h : Int), .int .i64 s.p, .int .i64 s.i, .bool s.v], .int .i64 0]
      | none => .tuple #[.agg #[.int .u32 0, .int .i64 0, .int .i64 0, .bool false], .int .i64 3]) ∧ Below w.heap.size w w' := by
  refine (callsIn_wide (n := 6)).1 ?_
  refine callsIn_of_wp_marks Tryd.func23 rfl trivial ?_ rfl
  refine wpIn_wide.2 ?_
  simp only [Tryd.ntmps23, List.size_toArray, List.length_cons, List.length_nil, Nat.reduceAdd, Nat.reduceSub, Array.replicate_succ, Array.replicate_zero, List.push_toArray, List.append_toArray, List.nil_append, List.cons_append]
  go_wp2
  go_step3
  go_wp2
  go_step3
  go_wp2_with (go_at_call 31; refine (seq_any _ _ _).mono ?_; rintro e w' ⟨rfl, rfl⟩)
  simp only [Nat.add_assoc, Nat.reduceAdd]
  obtain ⟨W0, hW0⟩ : ∃ W0, ((((((w.alloc (.cells #[.int .u32 0, .int .i64 0, .int .i64 0, .bool false] 37)).alloc (.cells #[.int .u32 0, .int .i64 0, .int .i64 0, .bool false] 37)).alloc (.cells #[.int .i64 0] 3)).alloc (.cells #[.bool false] 4)).alloc (.cells #[.string (st l)] 9)).alloc (.cells #[.string ⟨#[47]⟩] 9)).alloc (.cells #[.int .i64 0] 3) = W0 := ⟨_, rfl⟩
  obtain ⟨hH, hC, hZ⟩ := parse_start w l W0 hW0
  rw [hW0]
  have HZ := Lib.hid hZ
  have hgs : ∀ g ∈ [w.heap.size + 4, w.heap.size + 5, w.heap.size + 6], g < W0.heap.size := by simp; omega
  have hst := seq_tells 5 (by omega) (w.heap.size + 4) [w.heap.size + 4, w.heap.size + 5, w.heap.size + 6] 47 l W0 (by omega) hC (by simp) (by simp) (by simp) (by unfold maxLen; omega)
  clear hW0 hC hZ
  refine (wpIn_wide (n := 6)).1 ?_
  apply range_told (F := Fence.wide) (n := 6) (f := 46) (own := #[.pointer (some ⟨w.heap.size + 5, 0, none⟩), .pointer (some ⟨w.heap.size + 4, 0, none⟩), .pointer (some ⟨w.heap.size + 6, 0, none⟩)]) ⟨rfl, by omega, trivial, enters_of Tryd.func46 (by kernel_rfl) rfl, hst⟩ rfl (Below.refl _ _) hgs (by simp; have := HZ.out; omega) (fun _ => rfl)
    (fun (pre : List (List UInt8)) W => ∃ s, foldP pre = some s ∧ ParseAt w W s)
    (fun c pre W => c = .exit 0 ∧ foldP pre = none ∧ ∃ s : PS, s.ok = false ∧ ParseAt w W s)
    ⟨(fun s X Y row ⟨v, h1, h2⟩ hg hr => ⟨v, h1, h2.turn hg (fun r e => by have := (hr r e).1; have := HZ.out; omega)⟩),
    (fun s X Y g hm ⟨v, h1, h2⟩ hg => ⟨v, h1, h2.turn hg (fun r e => by simp at hm e; omega)⟩),
    (fun c s X Y row ⟨h0, h1, v, h3, h2⟩ hg hr => ⟨h0, h1, v, h3, h2.turn hg (fun r e => by have := (hr r e).1; have := HZ.out; omega)⟩),
    (fun pre x s X Y row h _ _ => h)⟩
    ⟨_, rfl, hH⟩
  case hassign =>
    intro l x W K hK
    simp only [encS]
    gi_wp2
    exact hK
  case hbody =>
    rintro l' pre z W hWs ⟨s, hf, hP⟩ hok
    obtain ⟨hG, hn, _⟩ := foldP_good _ pre s rfl hf
    have hzl : z.length ≤ 1000000 := by
      have h1 := parts_mem 47 l z (hok.subset (by simp))
      omega
    have HF : Hid (foldP (pre ++ [z]) = stepP (some s) z) := Lib.hid (by rw [foldP_snoc, hf])
    have HH := Lib.hid hP
    have HGW : Hid (∀ g ∈ [w.heap.size + 4, w.heap.size + 5, w.heap.size + 6], g < W.heap.size) := Lib.hid (fun g hg => by have := hP.size; simp at hg; omega)
    have d1 : ∀ j, W.cell? ⟨w.heap.size + 1, j, none⟩ = #[Value.int .u32 (s.h : Int), .int .i64 s.p, .int .i64 s.i, .bool s.v][j]? := fun j => (cells_of hP.c1 j).1
    have d2 := (cells_of hP.c2 0).1
    have d3 := (cells_of hP.c3 0).1
    have f2 := (cells_of hP.c2 0).2
    have f3 := (cells_of hP.c3 0).2
    simp at d2 d3
    obtain ⟨n, ok, hh, p, i, v⟩ := s
    have hn8 : n ≤ 8 := hG.n
    have d13 := d1 3
    have f13 := (cells_of hP.c1 3).2
    simp at d13
    clear hP hf hok hn hG d1
    simp only at d2 d3 d13
    rcases (show n = 0 ∨ n = 1 ∨ n = 2 ∨ n = 3 ∨ n = 4 ∨ n = 5 ∨ n = 6 ∨ n = 7 ∨ n = 8 by omega) with rfl | rfl | rfl | rfl | rfl | rfl | rfl | rfl | rfl
    --CASES
    · by_cases hz : z = []
      · subst hz
        have t1 : (st []).toList.isEmpty = true := by rw [ByteArray.toList_eq, st_list]; rfl
        gi_wp2
        exact ⟨(kept_setj (by have := HZ.out; omega) (by simp) _).trans (kept_setj (by have := HZ.out; omega) (by simp) _), _, HF.out, (HH.out.setOk true).setN 1⟩
      · have t1 : (st z).toList.isEmpty = false := by rw [ByteArray.toList_eq, st_list, List.isEmpty_eq_false_iff]; exact hz
        have HZZ := Lib.hid hz; clear hz
        gi_wp2
        exact ⟨(kept_setj (by have := HZ.out; omega) (by simp) _), rfl, by rw [HF.out]; simp [stepP, put, HZZ.out], _, rfl, HH.out.setOk false⟩
    · have ht : (st z).toList = z := by rw [ByteArray.toList_eq, st_list]
      by_cases hz : z = [105, 112, 52]
      · have t1 : (z == [105, 112, 52]) = true := by rw [hz]; rfl
        have HZZ := Lib.hid hz; clear hz
        gi_wp2
        exact ⟨(kept_setj (by have := HZ.out; omega) (by simp) _).trans (kept_setj (by have := HZ.out; omega) (by simp) _), _, by rw [HF.out, HZZ.out]; rfl, (HH.out.setOk true).setN 2⟩
      · have t1 : (z == [105, 112, 52]) = false := by rw [beq_eq_false_iff_ne]; exact hz
        have HZZ := Lib.hid hz
        gi_wp2
        exact ⟨(kept_setj (by have := HZ.out; omega) (by simp) _), rfl, by rw [HF.out]; simp [stepP, put, HZZ.out], _, rfl, HH.out.setOk false⟩
    · have HN := Lib.hid (host_any z W (by omega))
      obtain ⟨⟨a, b⟩, hab⟩ : ∃ x, hostV z = x := ⟨_, rfl⟩
      rw [hab] at HN
      have HAB := Lib.hid hab; clear hab
      cases b
      · gi_wp2_with fail
        refine ⟨trivial, (CallsIn.inRound l' (callsIn_wide.2 HN.out)).mono ?_⟩
        rintro e W3 ⟨rfl, hb3⟩
        have hH3 := HH.out.below' hb3
        have HH3 := Lib.hid hH3
        have c1 : ∀ j, W3.cell? ⟨w.heap.size + 1, j, none⟩ = #[Value.int .u32 (hh : Int), .int .i64 p, .int .i64 i, .bool v][j]? := fun j => (cells_of hH3.c1 j).1
        have c10 := c1 0
        have c11 := c1 1
        have c12 := c1 2
        have g10 := (cells_of hH3.c1 0).2
        have g11 := (cells_of hH3.c1 1).2
        have g12 := (cells_of hH3.c1 2).2
        have c3 := (cells_of hH3.c3 0).1
        have g3 := (cells_of hH3.c3 0).2
        have c2 := (cells_of hH3.c2 0).1
        have g2 := (cells_of hH3.c2 0).2
        simp at c10 c11 c12 c3 c2
        have HK3 : Hid (Kept [w.heap.size + 4, w.heap.size + 5, w.heap.size + 6] false W0.heap.size W W3) := Lib.hid (kept_below hb3 HGW.out)
        clear hb3 hH3 c1
        gi_wp2
        exact ⟨HK3.out.trans ((kept_setj (by have := HZ.out; omega) (by simp) _).trans (kept_setj (by have := HZ.out; omega) (by simp) _)), rfl, by rw [HF.out]; simp [stepP, put, HAB.out], _, rfl, (HH3.out.setH a).setOk false⟩
      · gi_wp2_with fail
        refine ⟨trivial, (CallsIn.inRound l' (callsIn_wide.2 HN.out)).mono ?_⟩
        rintro e W3 ⟨rfl, hb3⟩
        have hH3 := HH.out.below' hb3
        have HH3 := Lib.hid hH3
        have c1 : ∀ j, W3.cell? ⟨w.heap.size + 1, j, none⟩ = #[Value.int .u32 (hh : Int), .int .i64 p, .int .i64 i, .bool v][j]? := fun j => (cells_of hH3.c1 j).1
        have c10 := c1 0
        have c11 := c1 1
        have c12 := c1 2
        have g10 := (cells_of hH3.c1 0).2
        have g11 := (cells_of hH3.c1 1).2
        have g12 := (cells_of hH3.c1 2).2
        have c3 := (cells_of hH3.c3 0).1
        have g3 := (cells_of hH3.c3 0).2
        have c2 := (cells_of hH3.c2 0).1
        have g2 := (cells_of hH3.c2 0).2
        simp at c10 c11 c12 c3 c2
        have HK3 : Hid (Kept [w.heap.size + 4, w.heap.size + 5, w.heap.size + 6] false W0.heap.size W W3) := Lib.hid (kept_below hb3 HGW.out)
        clear hb3 hH3 c1
        gi_wp2
        exact ⟨HK3.out.trans ((kept_setj (by have := HZ.out; omega) (by simp) _).trans ((kept_setj (by have := HZ.out; omega) (by simp) _).trans (kept_setj (by have := HZ.out; omega) (by simp) _))), _, by rw [HF.out]; simp [stepP, put, HAB.out], ((HH3.out.setH a).setOk true).setN 3⟩
    · have ht : (st z).toList = z := by rw [ByteArray.toList_eq, st_list]
      by_cases hz : z = [117, 100, 112]
      · have t1 : (z == [117, 100, 112]) = true := by rw [hz]; rfl
        have HZZ := Lib.hid hz; clear hz
        gi_wp2
        exact ⟨(kept_setj (by have := HZ.out; omega) (by simp) _).trans (kept_setj (by have := HZ.out; omega) (by simp) _), _, by rw [HF.out, HZZ.out]; rfl, (HH.out.setOk true).setN 4⟩
      · have t1 : (z == [117, 100, 112]) = false := by rw [beq_eq_false_iff_ne]; exact hz
        have HZZ := Lib.hid hz
        gi_wp2
        exact ⟨(kept_setj (by have := HZ.out; omega) (by simp) _), rfl, by rw [HF.out]; simp [stepP, put, HZZ.out], _, rfl, HH.out.setOk false⟩
    · have HN := Lib.hid (number_any (st z) 1 65535 W (by rw [st_size]; unfold maxLen; omega) (by omega) (by omega) (by omega) (by omega))
      rw [st_list] at HN
      obtain ⟨⟨a, b⟩, hab⟩ : ∃ x, numV 1 65535 z = x := ⟨_, rfl⟩
      rw [hab] at HN
      have HAB := Lib.hid hab; clear hab
      cases b
      · gi_wp2_with fail
        refine ⟨trivial, (CallsIn.inRound l' (callsIn_wide.2 HN.out)).mono ?_⟩
        rintro e W3 ⟨rfl, hb3⟩
        have hH3 := HH.out.below' hb3
        have HH3 := Lib.hid hH3
        have c1 : ∀ j, W3.cell? ⟨w.heap.size + 1, j, none⟩ = #[Value.int .u32 (hh : Int), .int .i64 p, .int .i64 i, .bool v][j]? := fun j => (cells_of hH3.c1 j).1
        have c10 := c1 0
        have c11 := c1 1
        have c12 := c1 2
        have g10 := (cells_of hH3.c1 0).2
        have g11 := (cells_of hH3.c1 1).2
        have g12 := (cells_of hH3.c1 2).2
        have c3 := (cells_of hH3.c3 0).1
        have g3 := (cells_of hH3.c3 0).2
        have c2 := (cells_of hH3.c2 0).1
        have g2 := (cells_of hH3.c2 0).2
        simp at c10 c11 c12 c3 c2
        have HK3 : Hid (Kept [w.heap.size + 4, w.heap.size + 5, w.heap.size + 6] false W0.heap.size W W3) := Lib.hid (kept_below hb3 HGW.out)
        clear hb3 hH3 c1
        gi_wp2
        exact ⟨HK3.out.trans ((kept_setj (by have := HZ.out; omega) (by simp) _).trans (kept_setj (by have := HZ.out; omega) (by simp) _)), rfl, by rw [HF.out]; simp [stepP, put, HAB.out], _, rfl, (HH3.out.setP a).setOk false⟩
      · gi_wp2_with fail
        refine ⟨trivial, (CallsIn.inRound l' (callsIn_wide.2 HN.out)).mono ?_⟩
        rintro e W3 ⟨rfl, hb3⟩
        have hH3 := HH.out.below' hb3
        have HH3 := Lib.hid hH3
        have c1 : ∀ j, W3.cell? ⟨w.heap.size + 1, j, none⟩ = #[Value.int .u32 (hh : Int), .int .i64 p, .int .i64 i, .bool v][j]? := fun j => (cells_of hH3.c1 j).1
        have c10 := c1 0
        have c11 := c1 1
        have c12 := c1 2
        have g10 := (cells_of hH3.c1 0).2
        have g11 := (cells_of hH3.c1 1).2
        have g12 := (cells_of hH3.c1 2).2
        have c3 := (cells_of hH3.c3 0).1
        have g3 := (cells_of hH3.c3 0).2
        have c2 := (cells_of hH3.c2 0).1
        have g2 := (cells_of hH3.c2 0).2
        simp at c10 c11 c12 c3 c2
        have HK3 : Hid (Kept [w.heap.size + 4, w.heap.size + 5, w.heap.size + 6] false W0.heap.size W W3) := Lib.hid (kept_below hb3 HGW.out)
        clear hb3 hH3 c1
        gi_wp2
        exact ⟨HK3.out.trans ((kept_setj (by have := HZ.out; omega) (by simp) _).trans ((kept_setj (by have := HZ.out; omega) (by simp) _).trans (kept_setj (by have := HZ.out; omega) (by simp) _))), _, by rw [HF.out]; simp [stepP, put, HAB.out], ((HH3.out.setP a).setOk true).setN 5⟩
    · have ht : (st z).toList = z := by rw [ByteArray.toList_eq, st_list]
      by_cases hz : z = [112, 50, 112]
      · have t1 : (z == [112, 50, 112]) = true := by rw [hz]; rfl
        have HZZ := Lib.hid hz; clear hz
        gi_wp2
        exact ⟨(kept_setj (by have := HZ.out; omega) (by simp) _).trans (kept_setj (by have := HZ.out; omega) (by simp) _), _, by rw [HF.out, HZZ.out]; rfl, (HH.out.setOk true).setN 6⟩
      · have t1 : (z == [112, 50, 112]) = false := by rw [beq_eq_false_iff_ne]; exact hz
        have HZZ := Lib.hid hz
        gi_wp2
        exact ⟨(kept_setj (by have := HZ.out; omega) (by simp) _), rfl, by rw [HF.out]; simp [stepP, put, HZZ.out], _, rfl, HH.out.setOk false⟩
    · have HN := Lib.hid (number_any (st z) 1 2147483647 W (by rw [st_size]; unfold maxLen; omega) (by omega) (by omega) (by omega) (by omega))
      rw [st_list] at HN
      obtain ⟨⟨a, b⟩, hab⟩ : ∃ x, numV 1 2147483647 z = x := ⟨_, rfl⟩
      rw [hab] at HN
      have HAB := Lib.hid hab; clear hab
      cases b
      · gi_wp2_with fail
        refine ⟨trivial, (CallsIn.inRound l' (callsIn_wide.2 HN.out)).mono ?_⟩
        rintro e W3 ⟨rfl, hb3⟩
        have hH3 := HH.out.below' hb3
        have HH3 := Lib.hid hH3
        have c1 : ∀ j, W3.cell? ⟨w.heap.size + 1, j, none⟩ = #[Value.int .u32 (hh : Int), .int .i64 p, .int .i64 i, .bool v][j]? := fun j => (cells_of hH3.c1 j).1
        have c10 := c1 0
        have c11 := c1 1
        have c12 := c1 2
        have g10 := (cells_of hH3.c1 0).2
        have g11 := (cells_of hH3.c1 1).2
        have g12 := (cells_of hH3.c1 2).2
        have c3 := (cells_of hH3.c3 0).1
        have g3 := (cells_of hH3.c3 0).2
        have c2 := (cells_of hH3.c2 0).1
        have g2 := (cells_of hH3.c2 0).2
        simp at c10 c11 c12 c3 c2
        have HK3 : Hid (Kept [w.heap.size + 4, w.heap.size + 5, w.heap.size + 6] false W0.heap.size W W3) := Lib.hid (kept_below hb3 HGW.out)
        clear hb3 hH3 c1
        gi_wp2
        exact ⟨HK3.out.trans ((kept_setj (by have := HZ.out; omega) (by simp) _).trans (kept_setj (by have := HZ.out; omega) (by simp) _)), rfl, by rw [HF.out]; simp [stepP, put, HAB.out], _, rfl, (HH3.out.setI a).setOk false⟩
      · gi_wp2_with fail
        refine ⟨trivial, (CallsIn.inRound l' (callsIn_wide.2 HN.out)).mono ?_⟩
        rintro e W3 ⟨rfl, hb3⟩
        have hH3 := HH.out.below' hb3
        have HH3 := Lib.hid hH3
        have c1 : ∀ j, W3.cell? ⟨w.heap.size + 1, j, none⟩ = #[Value.int .u32 (hh : Int), .int .i64 p, .int .i64 i, .bool v][j]? := fun j => (cells_of hH3.c1 j).1
        have c10 := c1 0
        have c11 := c1 1
        have c12 := c1 2
        have g10 := (cells_of hH3.c1 0).2
        have g11 := (cells_of hH3.c1 1).2
        have g12 := (cells_of hH3.c1 2).2
        have c3 := (cells_of hH3.c3 0).1
        have g3 := (cells_of hH3.c3 0).2
        have c2 := (cells_of hH3.c2 0).1
        have g2 := (cells_of hH3.c2 0).2
        simp at c10 c11 c12 c3 c2
        have HK3 : Hid (Kept [w.heap.size + 4, w.heap.size + 5, w.heap.size + 6] false W0.heap.size W W3) := Lib.hid (kept_below hb3 HGW.out)
        clear hb3 hH3 c1
        gi_wp2
        exact ⟨HK3.out.trans ((kept_setj (by have := HZ.out; omega) (by simp) _).trans ((kept_setj (by have := HZ.out; omega) (by simp) _).trans (kept_setj (by have := HZ.out; omega) (by simp) _))), _, by rw [HF.out]; simp [stepP, put, HAB.out], ((HH3.out.setI a).setOk true).setN 7⟩
    · have ht : (st z).toList = z := by rw [ByteArray.toList_eq, st_list]
      by_cases hz : z = [112, 50, 112, 45, 99, 105, 114, 99, 117, 105, 116]
      · have t1 : (z == [112, 50, 112, 45, 99, 105, 114, 99, 117, 105, 116]) = true := by rw [hz]; rfl
        have HZZ := Lib.hid hz; clear hz
        gi_wp2
        exact ⟨(kept_setj (by have := HZ.out; omega) (by simp) _).trans ((kept_setj (by have := HZ.out; omega) (by simp) _).trans (kept_setj (by have := HZ.out; omega) (by simp) _)), _, by rw [HF.out, HZZ.out]; rfl, ((HH.out.setV true).setOk true).setN 8⟩
      · have t1 : (z == [112, 50, 112, 45, 99, 105, 114, 99, 117, 105, 116]) = false := by rw [beq_eq_false_iff_ne]; exact hz
        have HZZ := Lib.hid hz
        gi_wp2
        exact ⟨(kept_setj (by have := HZ.out; omega) (by simp) _).trans (kept_setj (by have := HZ.out; omega) (by simp) _), rfl, by rw [HF.out]; simp [stepP, put, HZZ.out], _, rfl, (HH.out.setV true).setOk false⟩
    · gi_wp2
      exact ⟨(kept_setj (by have := HZ.out; omega) (by simp) _), rfl, by rw [HF.out]; rfl, _, rfl, HH.out.setOk false⟩
  case hstop =>
    rintro D c pre W hD hpre ⟨rfl, hf, s, hs, hH⟩ hK
    have HV : Hid (parseL l = none) := Lib.hid (by unfold parseL; rw [foldP_prefix hpre hf])
    have HK := Lib.hid hK
    have HH := Lib.hid hH
    have d0 : ∀ j, W.cell? ⟨w.heap.size, j, none⟩ = #[Value.int .u32 0, .int .i64 0, .int .i64 0, .bool false][j]? := fun j => (cells_of hH.c0 j).1
    have f0 : ∀ j, W.frozen? ⟨w.heap.size, j, none⟩ = false := fun j => (cells_of hH.c0 j).2
    have d00 := d0 0; have d01 := d0 1; have d02 := d0 2; have d03 := d0 3
    have f00 := f0 0; have f01 := f0 1; have f02 := f0 2; have f03 := f0 3
    have d2 := (cells_of hH.c2 0).1
    have d3 := (cells_of hH.c3 0).1
    rw [hs] at d3
    simp at d00 d01 d02 d03 d2 d3
    clear hK hH hf hpre d0 f0 hs
    gi_wp2
    go_wp2
    obtain ⟨q1, q2, q3⟩ := res4 (.int .u32 0) (.int .i64 0) (.int .i64 0) (.bool false) HH.out.c0 (by have := HZ.out; omega : w.heap.size + 1 ≤ D) HK.out HH.out.below
    have r0 := q2 0; have r1 := q2 1; have r2 := q2 2; have r3 := q2 3
    simp at r0 r1 r2 r3
    rw [Exit.noGoto_ret]
    refine ⟨by simp, .inl ⟨_, _, rfl, run_takeDeferred q1, ?_⟩⟩
    exact ⟨.tuple #[.agg #[.int .u32 0, .int .i64 0, .int .i64 0, .bool false], .int .i64 3], by simp [results, Tryd.results23, go_sem, r0, r1, r2, r3], by rw [HV.out], q3⟩
  case hdone =>
    rintro D xs W hD hxs ⟨s, hf, hH⟩ hK
    have hxs : xs = parts 47 l := hxs
    subst hxs
    obtain ⟨hG, -, hok⟩ := foldP_good _ _ s rfl hf
    have hok := hok (by
      cases hp : parts 47 l with
      | nil => exact absurd hp (parts_ne 47 l)
      | cons a b => simp)
    have HK := Lib.hid hK
    have HH := Lib.hid hH
    have d0 : ∀ j, W.cell? ⟨w.heap.size, j, none⟩ = #[Value.int .u32 0, .int .i64 0, .int .i64 0, .bool false][j]? := fun j => (cells_of hH.c0 j).1
    have f0 : ∀ j, W.frozen? ⟨w.heap.size, j, none⟩ = false := fun j => (cells_of hH.c0 j).2
    have d00 := d0 0; have d01 := d0 1; have d02 := d0 2; have d03 := d0 3
    have f00 := f0 0; have f01 := f0 1; have f02 := f0 2; have f03 := f0 3
    have d1 : ∀ j, W.cell? ⟨w.heap.size + 1, j, none⟩ = #[Value.int .u32 (s.h : Int), .int .i64 s.p, .int .i64 s.i, .bool s.v][j]? := fun j => (cells_of hH.c1 j).1
    have d10 := d1 0; have d11 := d1 1; have d12 := d1 2; have d13 := d1 3
    have d2 := (cells_of hH.c2 0).1
    have d3 := (cells_of hH.c3 0).1
    rw [hok] at d3
    simp at d00 d01 d02 d03 d10 d11 d12 d13 d2 d3
    have HG := Lib.hid hG
    by_cases hend : s.n = 5 ∨ s.n = 7 ∨ s.n = 8
    · have HV : Hid (parseL l = some s) := Lib.hid (by unfold parseL; rw [hf]; exact if_pos hend)
      have HM := Lib.hid (mayEnd_any s.n W true (by simpa using hend))
      clear hK hH hf d0 f0 d1 hok hG hend
      obtain ⟨n, ok, hh, p, i, v⟩ := s
      simp only at d10 d11 d12 d13 d2 HM
      go_wp2_with fail
      refine HM.out.mono ?_
      rintro e W1 ⟨rfl, rfl⟩
      go_wp2
      obtain ⟨q1, q2, q3⟩ := res4 (.int .u32 (hh : Int)) (.int .i64 p) (.int .i64 i) (.bool v) HH.out.c0 (by have := HZ.out; omega : w.heap.size + 1 ≤ D) HK.out HH.out.below
      have r0 := q2 0; have r1 := q2 1; have r2 := q2 2; have r3 := q2 3
      simp at r0 r1 r2 r3
      rw [Exit.noGoto_ret]
      refine ⟨by simp, .inl ⟨_, _, rfl, run_takeDeferred q1, ?_⟩⟩
      exact ⟨.tuple #[.agg #[.int .u32 (hh : Int), .int .i64 p, .int .i64 i, .bool v], .int .i64 0], by simp [results, Tryd.results23, go_sem, r0, r1, r2, r3], by rw [HV.out], q3⟩
    · have HV : Hid (parseL l = none) := Lib.hid (by unfold parseL; rw [hf]; exact if_neg hend)
      have HM := Lib.hid (mayEnd_any s.n W false (by simpa using hend))
      clear hK hH hf d0 f0 d1 hok hG hend
      obtain ⟨n, ok, hh, p, i, v⟩ := s
      simp only at d10 d11 d12 d13 d2 HM
      go_wp2_with fail
      refine HM.out.mono ?_
      rintro e W1 ⟨rfl, rfl⟩
      go_wp2
      obtain ⟨q1, q2, q3⟩ := res4 (.int .u32 0) (.int .i64 0) (.int .i64 0) (.bool false) HH.out.c0 (by have := HZ.out; omega : w.heap.size + 1 ≤ D) HK.out HH.out.below
      have r0 := q2 0; have r1 := q2 1; have r2 := q2 2; have r3 := q2 3
      simp at r0 r1 r2 r3
      rw [Exit.noGoto_ret]
      refine ⟨by simp, .inl ⟨_, _, rfl, run_takeDeferred q1, ?_⟩⟩
      exact ⟨.tuple #[.agg #[.int .u32 0, .int .i64 0, .int .i64 0, .bool false], .int .i64 3], by simp [results, Tryd.results23, go_sem, r0, r1, r2, r3], by rw [HV.out], q3⟩

end Go.Proofs.YtkemkbaomhjnbaaDoor
