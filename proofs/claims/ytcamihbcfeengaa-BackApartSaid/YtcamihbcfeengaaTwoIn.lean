/-
  What the walks of BackTimes and BackApart are told: two numbers that came in, an array in a box, rows of ints. Conditions: as each lemma states.
-/
import Derived.WalkKit
import Derived.ProofKit
import Derived.OpenShut
import Derived.ShutString
import Derived.ChangeOld
import Derived.Test.YtcamihbcfeengaaItr
namespace Go.Proofs.Ytcamihbcfeengaa
open Go.RowKit Go.Shelf Go.ChangeShapes
set_option linter.unusedVariables false

/-- two numbers that came in -/
def IsTwo (w : World) (v : Value) (s : Int × Int) : Prop := v = .agg #[.int .i64 s.1, .int .i64 s.2] ∧ (-9223372036854775808 ≤ s.1 ∧ s.1 ≤ 9223372036854775807) ∧ (-9223372036854775808 ≤ s.2 ∧ s.2 ≤ 9223372036854775807)
section
variable {H : Type} {enc : TypeId × Value → H} {W : World}
theorem okWide_arr {P : Program} {t e : TypeId} {n : Nat} {w : World} {r : Reach} {b : Nat} {v : Value} (ht : P.underlying t = some (.array n e)) (h : Value.okWide P w r b t v) : ∃ cs, v = .agg cs ∧ cs.size = P.cellsOf t := by
  simp only [Value.okWide, ht] at h
  obtain ⟨cs, h1, h2, _⟩ := h
  exact ⟨cs, h1, h2⟩
set_option maxRecDepth 100000 in
theorem open_two {r : Reach} {b0 : Nat} {v : Value} {d : DataW H} {p : List MemPlace} (hv : Value.okWide Try.prog W r b0 27 v) (h : DataW.Trod enc Try.prog W 0 (fun _ => true) true 27 v d p) : ∃ s, IsTwo W v s := by
  obtain ⟨cs, rfl, hsz⟩ := okWide_arr Try.underlying27 hv
  have hsz2 : cs.toList.length = 2 := by rw [Array.length_toList]; exact hsz.trans (by kernel_rfl)
  obtain ⟨c0, c1, rfl⟩ : ∃ c0 c1, cs = #[c0, c1] := by
    match h : cs.toList, hsz2 with
    | [c0, c1], _ => exact ⟨c0, c1, by rw [← Array.toArray_toList (xs := cs), h]⟩
  obtain ⟨fuel, hf⟩ := h
  obtain ⟨xs, m, rfl, _, _, hx, hel⟩ := DataW.trod_array Try.underlying27 hf
  have c5 : Try.prog.cellsOf 3 = 1 := by kernel_rfl
  have e0 := hel 0 (by omega)
  have e1 := hel 1 (by omega)
  match xs, hx with
  | [x0, x1], _ =>
    rw [c5] at e0 e1
    simp only [Value.cells, Nat.zero_mul, List.drop_zero, List.take_succ_cons, List.take_zero, Nat.one_mul, List.drop_succ_cons, List.getElem?_cons_zero, List.getElem?_cons_succ] at e0 e1
    obtain ⟨a, q0, _, ha⟩ := DataW.trod_int Try.underlying3 e0
    obtain ⟨b, q1, _, hb⟩ := DataW.trod_int Try.underlying3 e1
    simp only [List.cons.injEq, and_true] at q0 q1
    subst q0; subst q1
    have ha' := bounds_i64 ha
    have hb' := bounds_i64 hb
    exact ⟨(a, b), rfl, ha', hb'⟩
end
theorem Kept.set {gs : List Nat} {t : Bool} {B b : Nat} {W : World} (hb : b < B) (hgs : b ∉ gs) (v : Value) : Kept gs t B W (W.setCell ⟨b, 0, none⟩ v) :=
  ⟨by simp, fun g hg => heap_setCell_other W ⟨b, 0, none⟩ g v (fun e => by have e : g = b := e; exact hgs (e ▸ hg)), fun k o h1 h2 _ => (heap_setCell_other W ⟨b, 0, none⟩ k v (fun e => by have : k = b := e; omega)).trans h2⟩
theorem grown_set {A W : World} {b : Nat} (h : A.grownBy W (some b)) (v : Value) : A.grownBy (W.setCell ⟨b, 0, none⟩ v) (some b) :=
  ⟨h.os, h.tape, h.output, by have := h.size; simp; omega, fun k hk hne => (heap_setCell_other W ⟨b, 0, none⟩ k v (fun e => hne (by rw [e]))).trans (h.block k hk hne)⟩
theorem grown_then {A W W' : World} {b : Nat} {row : Option Nat} (h : A.grownBy W (some b)) (hg : W.grownBy W' row) (hr : ∀ r, row = some r → A.heap.size ≤ r) : A.grownBy W' (some b) :=
  ⟨hg.os.trans h.os, hg.tape.trans h.tape, hg.output.trans h.output, Nat.le_trans h.size hg.size, fun k hk hne =>
    (hg.block k (Nat.lt_of_lt_of_le hk h.size) (fun e => by have := hr k e.symm; omega)).trans (h.block k hk hne)⟩
theorem Boxed.below {W W' : World} {B t : Nat} {v : Value} {n : Nat} (h : Boxed W B t v) (hb : Below n W W') (hB : B < n) : Boxed W' B t v := (hb.block B hB).trans h

theorem own_shape {w : World} {base n : Nat} {e : TypeId} {v : Value} {xs : List Value} (h : w.ownsRow base e 1 v n xs) : ∃ A c, v = .slice A n c ∧ n ≤ c ∧ c ≤ maxLen := by
  rcases h.2 with ⟨rfl, rfl⟩ | ⟨g, cap, cur, rfl, _, _, h2, h3, _⟩
  · exact ⟨none, 0, rfl, Nat.le_refl _, Nat.zero_le _⟩
  · exact ⟨_, cap, rfl, h2, h3⟩
theorem own_cell {w : World} {base n c : Nat} {e : TypeId} {A : Option Addr} {xs : List Value} (h : w.ownsRow base e 1 (.slice A n c) n xs) {j : Nat} (hj : j < n) : ∃ g, A = some ⟨g, 0, none⟩ ∧ base ≤ g ∧ g < w.heap.size ∧ w.cell? ⟨g, j, none⟩ = xs[j]? := by
  rcases h.2 with ⟨e, _⟩ | ⟨g, cap, cur, e, hb, hg, _⟩
  · simp only [Value.slice.injEq] at e; omega
  · simp only [Value.slice.injEq] at e
    obtain ⟨rfl, _, rfl⟩ := e
    exact ⟨g, rfl, hb, (Array.getElem?_eq_some_iff.1 hg).1, h.cellAt j (by omega)⟩

theorem own_below' {w w' : World} {base n : Nat} {e : TypeId} {v : Value} {xs : List Value} (h : w.ownsRow base e 1 v n xs) (hb : Below w.heap.size w w') : w'.ownsRow base e 1 v n xs := by
  refine ⟨h.1, ?_⟩
  rcases h.2 with hn | ⟨g, cap, cur, rfl, h1, hgg, rest⟩
  · exact .inl hn
  · exact .inr ⟨g, cap, cur, rfl, h1, (hb.block g (Array.getElem?_eq_some_iff.1 hgg).1).trans hgg, rest⟩

theorem lt_of_cell {w : World} {a : Addr} {v : Value} (h : w.cell? a = some v) : a.block < w.heap.size := by
  rcases Nat.lt_or_ge a.block w.heap.size with h' | h'
  · exact h'
  · unfold World.cell? at h
    rw [Array.getElem?_eq_none h'] at h
    simp at h
theorem grown_cell {A W : World} {b : Nat} (h : A.grownBy W (some b)) {a : Addr} {v : Value} (hc : A.cell? a = some v) (hb : a.block ≠ b) : W.cell? a = some v :=
  (World.cell?_of_block (w := A) (h.block a.block (lt_of_cell hc) (fun e => hb (by injection e)))).trans hc
theorem grown_box {A W : World} {b g t : Nat} {v : Value} (h : A.grownBy W (some b)) (hc : Boxed A g t v) (hb : g ≠ b) : Boxed W g t v := hc.kept h (fun e => hb (by injection e))

/-- the document's own Times -/
theorem rTimes_k (f m t K : Int) (many : Nat) (w : World) (hK : K = (many : Int)) (hmany : many ≤ 100) :
    Calls Try.prog 13 #[.int .i64 f, .int .i64 m, .int .i64 t, .int .i64 K] w fun e w' => ∃ A k c, e = .returned (.slice A k c) ∧ Bk.cnt f m t many k ∧ w'.ownsRow w.heap.size 3 1 (.slice A k c) k (Bk.Ts f m t k) ∧ Below w.heap.size w w' := by
  subst hK
  refine (rTimes_any f m t many w hmany).mono ?_
  rintro e w' ⟨r, k, rfl, h1, h2, h3⟩
  obtain ⟨A, c, rfl, _, _⟩ := own_shape h2
  exact ⟨A, k, c, rfl, h1, h2, h3⟩
end Go.Proofs.Ytcamihbcfeengaa
