/-
  A step of a script that came in, by value and in a slice, read as plain data; and what 'small' says of a script. Conditions: as each states.
-/
import Derived.Test.YtahccfljgmleiaaRfl
import Derived.Lib.SmallJoins
import Derived.Deep.Slices
import Derived.OpenShut
namespace Go.Proofs.Ytahccfljgmleiaa
open Go.RowKit Go.Shelf Go.Maps
set_option linter.unusedVariables false

/-- a step, as plain data -/
structure Step where
  kind : Int
  name : Ky
  at_ : Int
  most : Int
  again : Int
instance : Inhabited Step := ⟨⟨0, ⟨[], Nat.zero_le _⟩, 0, 0, 0⟩⟩
/-- a word of 64 bits -/
def W64 (n : Int) : Prop := -9223372036854775808 ≤ n ∧ n ≤ 9223372036854775807
/-- a step's five values -/
def Vals (xs : List Value) (d : Step) : Prop := xs = [.int .i64 d.kind, .string (str d.name), .int .i64 d.at_, .int .i64 d.most, .int .i64 d.again] ∧ W64 d.kind ∧ W64 d.at_ ∧ W64 d.most ∧ W64 d.again
def DoAt (w : World) (b off : Nat) (d : Step) : Prop := ∃ xs, Vals xs d ∧ ∀ i, i < 5 → w.cell? ⟨b, off + i, none⟩ = xs[i]?
def IsDos (w : World) (v : Value) (ds : List Step) : Prop := ∃ A cap, v = .slice A ds.length cap ∧ ds.length ≤ cap ∧ cap ≤ maxLen ∧ (0 < ds.length → ∃ b off, A = some ⟨b, off, none⟩ ∧ b < w.heap.size ∧ ∀ j, j < ds.length → DoAt w b (off + j * 5) (ds.getD j default))

theorem add_spot (b o k : Nat) : (⟨b, o, none⟩ : Addr).add k = ⟨b, o + k, none⟩ := by unfold Addr.add; split <;> simp_all
theorem str_of' (s : ByteArray) (h : s.size ≤ maxLen) : ∃ x : Ky, s = str x := ⟨⟨s.data.toList, by rw [Array.length_toList]; exact h⟩, by unfold str; simp only [Array.toArray_toList]⟩
section
variable {H : Type} {enc : TypeId × Value → H} {W : World}
theorem trod_struct5 {P : Program} {w : World} {base : Nat} {spare : Nat → Bool} {held : Bool} {t : TypeId} {f0 f1 f2 f3 f4 : Field} {fuel : Nat} {cs : List Value} {x : DataW H × List MemPlace} (ht : P.underlying t = some (.struct #[f0, f1, f2, f3, f4])) (h : DataW.trod enc P w base spare held fuel t cs = some x) :
    ∃ y0 y1 y2 y3 y4 n, cs.length = P.cellsOf t ∧ DataW.trod enc P w base spare held n f0.type ((cs.drop f0.offset).take (P.cellsOf f0.type)) = some y0 ∧
      DataW.trod enc P w base spare held n f1.type ((cs.drop f1.offset).take (P.cellsOf f1.type)) = some y1 ∧ DataW.trod enc P w base spare held n f2.type ((cs.drop f2.offset).take (P.cellsOf f2.type)) = some y2 ∧
      DataW.trod enc P w base spare held n f3.type ((cs.drop f3.offset).take (P.cellsOf f3.type)) = some y3 ∧ DataW.trod enc P w base spare held n f4.type ((cs.drop f4.offset).take (P.cellsOf f4.type)) = some y4 := by
  obtain ⟨xs, n, _, rfl, hl, hlen, hf⟩ := DataW.trod_struct ht h
  match xs, hlen with
  | [y0, y1, y2, y3, y4], _ => exact ⟨y0, y1, y2, y3, y4, n, hl, by simpa using hf 0 f0 rfl, by simpa using hf 1 f1 rfl, by simpa using hf 2 f2 rfl, by simpa using hf 3 f3 rfl, by simpa using hf 4 f4 rfl⟩
theorem vals_of {n : Nat} {x0 x1 x2 x3 x4 : Value} {y0 y1 y2 y3 y4 : DataW H × List MemPlace} (h0 : DataW.trod enc Try.prog W 0 (fun _ => true) true n 3 [x0] = some y0) (h1 : DataW.trod enc Try.prog W 0 (fun _ => true) true n 9 [x1] = some y1)
    (h2 : DataW.trod enc Try.prog W 0 (fun _ => true) true n 3 [x2] = some y2) (h3 : DataW.trod enc Try.prog W 0 (fun _ => true) true n 3 [x3] = some y3) (h4 : DataW.trod enc Try.prog W 0 (fun _ => true) true n 3 [x4] = some y4) : ∃ d, Vals [x0, x1, x2, x3, x4] d := by
  obtain ⟨b0, e0, _, p0⟩ := DataW.trod_int Try.underlying3 h0
  obtain ⟨s, e1, _, p1⟩ := DataW.trod_string Try.underlying9 h1
  obtain ⟨b2, e2, _, p2⟩ := DataW.trod_int Try.underlying3 h2
  obtain ⟨b3, e3, _, p3⟩ := DataW.trod_int Try.underlying3 h3
  obtain ⟨b4, e4, _, p4⟩ := DataW.trod_int Try.underlying3 h4
  simp only [List.cons.injEq, and_true] at e0 e1 e2 e3 e4
  subst e0; subst e1; subst e2; subst e3; subst e4
  obtain ⟨x, rfl⟩ := str_of' s p1
  exact ⟨⟨b0, x, b2, b3, b4⟩, rfl, bounds_i64 p0, bounds_i64 p2, bounds_i64 p3, bounds_i64 p4⟩
set_option maxRecDepth 100000 in
theorem open_dos {r : Reach} {b0 : Nat} {v : Value} {d : DataW H} {p : List MemPlace} (hv : Value.okWide Try.prog W r b0 22 v) (h : DataW.Trod enc Try.prog W 0 (fun _ => true) true 22 v d p) : ∃ ds, IsDos W v ds := by
  obtain ⟨A, l, c, rfl⟩ := WideShapes.okWide_slice Try.underlying22 hv
  obtain ⟨fuel, hf⟩ := h
  rcases Deep.open_slice Try.underlying22 hf with ⟨hcs, _⟩ | ⟨a, len, cap, m, n, D, Pl, hcs, _, hl, hm, hmm, _, hi⟩
  · simp [Value.cells] at hcs
    obtain ⟨rfl, rfl, rfl⟩ := hcs
    exact ⟨[], none, 0, rfl, Nat.le_refl _, Nat.zero_le _, fun h => by simp at h⟩
  · simp [Value.cells] at hcs
    obtain ⟨rfl, rfl, rfl⟩ := hcs
    have hmc : m = c := by simpa using hmm
    subst hmc
    have hall : ∀ j, ∃ s, j < l → ∃ xs, (∀ i, i < 5 → W.cell? ((a.add (j * 5)).add i) = xs[i]?) ∧ Vals xs s := fun j => by
      by_cases hj : j < l
      · obtain ⟨cs, hc, ht⟩ := hi j (by omega)
        obtain ⟨_, hlen, hat⟩ := World.cells?_some hc
        have h4 : Try.prog.cellsOf 32 = 5 := by kernel_rfl
        rw [h4] at hlen hat
        obtain ⟨y0, y1, y2, y3, y4, n', _, h0, h1, h2, h3, h5⟩ := trod_struct5 Try.underlying32 ht
        have c3 : Try.prog.cellsOf 3 = 1 := by kernel_rfl
        have c9 : Try.prog.cellsOf 9 = 1 := by kernel_rfl
        match cs, hlen with
        | [x0, x1, x2, x3, x4], _ =>
          simp only [c3, c9, List.drop_zero, List.drop_succ_cons, List.take_succ_cons, List.take_zero] at h0 h1 h2 h3 h5
          obtain ⟨s, hs⟩ := vals_of h0 h1 h2 h3 h5
          exact ⟨s, fun _ => ⟨_, hat, hs⟩⟩
      · exact ⟨default, fun h => absurd h hj⟩
    obtain ⟨f, hf⟩ := Classical.axiomOfChoice hall
    refine ⟨(List.range l).map f, some a, m, by simp, by simpa using hl, hm, fun hpos => ?_⟩
    have hl0 : 0 < l := by simpa using hpos
    obtain ⟨b, off, spot⟩ := a
    obtain ⟨xs, hat, hs⟩ := hf 0 hl0
    have hx0 : ∃ x0, xs[0]? = some x0 := by rw [hs.1]; exact ⟨_, rfl⟩
    obtain ⟨x0, hx0⟩ := hx0
    have h8 := World.cell?_spot ((hat 0 (by omega)).trans hx0)
    have hspot : spot = none := by simpa [Addr.add] using h8
    subst hspot
    have hb : b < W.heap.size := by
      have h9 := (hat 0 (by omega)).trans hx0
      rw [add_spot, add_spot] at h9
      exact lt_of_cell h9
    refine ⟨b, off, rfl, hb, fun j hj => ?_⟩
    have hjl : j < l := by simpa using hj
    obtain ⟨xs, hat, hs⟩ := hf j hjl
    have e : ∀ i, ((⟨b, off, none⟩ : Addr).add (j * 5)).add i = ⟨b, off + j * 5 + i, none⟩ := fun i => by rw [add_spot, add_spot]
    have hg : ((List.range l).map f).getD j default = f j := by simp [List.getD, hjl]
    rw [hg]
    exact ⟨xs, hs, fun i hi => by rw [← e]; exact hat i hi⟩
end
/-- a step in a slice, in the walk's words -/
theorem DoAt.parts {w : World} {b off : Nat} {d : Step} (h : DoAt w b off d) : w.cell? ⟨b, off, none⟩ = some (.int .i64 d.kind) ∧ w.cell? ⟨b, off + 1, none⟩ = some (.string (str d.name)) ∧ w.cell? ⟨b, off + 2, none⟩ = some (.int .i64 d.at_) ∧ w.cell? ⟨b, off + 3, none⟩ = some (.int .i64 d.most) ∧ w.cell? ⟨b, off + 4, none⟩ = some (.int .i64 d.again) ∧ W64 d.kind ∧ W64 d.at_ ∧ W64 d.most ∧ W64 d.again := by
  obtain ⟨xs, ⟨rfl, h1⟩, h2⟩ := h
  exact ⟨h2 0 (by omega), h2 1 (by omega), h2 2 (by omega), h2 3 (by omega), h2 4 (by omega), h1⟩
theorem DoAt.below {w w' : World} {b off : Nat} {d : Step} (h : DoAt w b off d) (hb : Below w.heap.size w w') : DoAt w' b off d := by
  have hl := lt_of_cell h.parts.1
  obtain ⟨xs, h1, h2⟩ := h
  exact ⟨xs, h1, fun i hi => (hb.cell (p := ⟨b, off + i, none⟩) hl).trans (h2 i hi)⟩
theorem IsDos.below {w w' : World} {v : Value} {ds : List Step} (h : IsDos w v ds) (hb : Below w.heap.size w w') : IsDos w' v ds := by
  obtain ⟨A, c, rfl, h1, h2, h3⟩ := h
  refine ⟨A, c, rfl, h1, h2, fun h => ?_⟩
  obtain ⟨b, off, rfl, h4, h5⟩ := h3 h
  exact ⟨b, off, rfl, Nat.lt_of_lt_of_le h4 hb.size, fun j hj => (h5 j hj).below hb⟩

/-- are the steps small enough? -/
def smallL (ds : List Step) : Bool := (ds.take 60).all fun d => decide (d.name.1.length ≤ 60)
def SmallTo (ds : List Step) (k : Nat) : Prop := ∀ j, j < k → (ds.getD j default).name.1.length ≤ 60
theorem SmallTo.zero (ds : List Step) : SmallTo ds 0 := fun j h => by omega
theorem SmallTo.succ {ds : List Step} {k : Nat} (h : SmallTo ds k) (hk : (ds.getD k default).name.1.length ≤ 60) : SmallTo ds (k + 1) := fun j hj => by
  rcases Nat.lt_or_ge j k with h' | h'
  · exact h j h'
  · obtain rfl : j = k := by omega
    exact hk
theorem small_true {ds : List Step} {k : Nat} (h : SmallTo ds k) (hk : ds.length ≤ k ∨ 60 ≤ k) : smallL ds = true := by
  unfold smallL
  rw [List.all_eq_true]
  intro d hd
  obtain ⟨j, hj, rfl⟩ := List.getElem_of_mem hd
  rw [List.length_take] at hj
  have := h j (by omega)
  simp only [List.getD, List.getElem?_eq_getElem (show j < ds.length by omega), Option.getD_some] at this
  simpa using this
theorem small_false {ds : List Step} {k : Nat} (hk : k < ds.length) (h1 : k < 60) (h : ¬ (ds.getD k default).name.1.length ≤ 60) : smallL ds = false := by
  unfold smallL
  rw [List.all_eq_false]
  refine ⟨ds[k], List.mem_take_iff_getElem.2 ⟨k, by omega, rfl⟩, ?_⟩
  simp only [List.getD, List.getElem?_eq_getElem hk, Option.getD_some] at h
  simpa using h

set_option maxHeartbeats 1000000 in
theorem small_some (b off c : Nat) (ds : List Step) (w : World) (hb : b < w.heap.size) (hc : ds.length ≤ c) (hm : c ≤ maxLen) (h : ∀ j, j < ds.length → DoAt w b (off + j * 5) (ds.getD j default)) :
    Calls Try.prog 9 #[.slice (some ⟨b, off, none⟩) ds.length c] w fun e w' => e = .returned (.bool (smallL ds)) ∧ w = w' := by
  unfold maxLen at hm
  have H := Lib.hid h; clear h
  go_enter Try.func9, Try.ntmps9
  go_wp2
  go_loop [3] (fun i => ∃ k : Nat, k ≤ ds.length ∧ k ≤ 60 ∧ i = .int .i64 k ∧ SmallTo ds k) (fun i => ds.length - (intOf i).toNat)
  case atStart => exact ⟨0, by omega, by omega, rfl, SmallTo.zero _⟩
  case round =>
    obtain ⟨k, hk, hk2, rfl, hS⟩ := hrel
    have HS := Lib.hid hS; clear hS
    by_cases h1 : k < ds.length
    · by_cases h2 : k < 60
      · obtain ⟨d0, d1, d2, d3, d4, _⟩ := (H.out k h1).parts
        have hz := str_size (ds.getD k default).name
        have hzm := (ds.getD k default).name.2
        unfold maxLen at hzm
        obtain ⟨S, hS⟩ : ∃ S, S = str (ds.getD k default).name := ⟨_, rfl⟩
        obtain ⟨m, hmm⟩ : ∃ m, m = (ds.getD k default).name.1.length := ⟨_, rfl⟩
        rw [← hmm] at hz hzm
        rw [← hS] at hz d1
        have HM := Lib.hid hmm
        clear hS hmm d0 d2 d3 d4
        by_cases h3 : m ≤ 60
        · have HD := Lib.hid (show (ds.getD k default).name.1.length ≤ 60 by have := HM.out; omega)
          have h4 : ¬ (60 : Int) < (S.size : Int) := by omega
          clear hz
          go_wp2
          go_round
          case rel => exact ⟨k + 1, by omega, by omega, by go_num, HS.out.succ HD.out⟩
          case measure => simp [intOf]; omega
        · have HD := Lib.hid (small_false h1 h2 (by have := HM.out; omega))
          have h4 : (60 : Int) < (S.size : Int) := by omega
          clear hz
          go_wp2
          go_ret
          exact ⟨ret_bool HD.out.symm, rfl⟩
      · have HD := Lib.hid (small_true HS.out (.inr (by omega)))
        go_wp2
        go_ret
        exact ⟨ret_bool HD.out.symm, rfl⟩
    · have HD := Lib.hid (small_true HS.out (.inl (by omega)))
      go_wp2
      go_ret
      exact ⟨ret_bool HD.out.symm, rfl⟩

set_option maxHeartbeats 400000 in
theorem small_none (A : Option Addr) (c : Nat) (w : World) :
    Calls Try.prog 9 #[.slice A 0 c] w fun e w' => e = .returned (.bool true) ∧ w = w' := by
  go_enter Try.func9, Try.ntmps9
  go_wp2
  refine wp_loop_rounds 1 ?_
  rw [rounds_succ]
  go_wp2
  go_ret
  exact ⟨rfl, rfl⟩
theorem small_any (v : Value) (ds : List Step) (w : World) (h : IsDos w v ds) (r : Bool) (hr : smallL ds = r) :
    Calls Try.prog 9 #[v] w fun e w' => e = .returned (.bool r) ∧ w = w' := by
  subst hr
  obtain ⟨A, c, rfl, h1, h2, h3⟩ := h
  rcases Nat.eq_zero_or_pos ds.length with h0 | h0
  · obtain rfl : ds = [] := List.eq_nil_of_length_eq_zero h0
    exact small_none A c w
  · obtain ⟨b, off, rfl, h4, h5⟩ := h3 h0
    exact small_some b off c ds w h4 h1 h2 h5
end Go.Proofs.Ytahccfljgmleiaa
