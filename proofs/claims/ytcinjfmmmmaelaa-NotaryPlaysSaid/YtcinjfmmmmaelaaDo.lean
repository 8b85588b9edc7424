/-
  A step of a script that came in, by value and in a slice, read as plain data; and what 'small' says of a script. Conditions: as each states.
-/
import Derived.Test.YtcinjfmmmmaelaaAwake
import Derived.Lib.SmallJoins
import Derived.Deep.Slices
import Derived.StillTailTactics
import Derived.OpenShut
namespace Go.Proofs.Ytcinjfmmmmaelaa
open Go.RowKit Go.Maps
set_option linter.unusedVariables false

/-- a step, as plain data -/
structure Step where
  chk : Bool
  peer : Int
  text : List Int
  tag : Nat
instance : Inhabited Step := ⟨⟨false, 0, [], 0⟩⟩
def Step.item (d : Step) : Item := (d.peer, d.text)

/-- the slice value reads as bytes, in w -/
def Txt (w : World) (v : Value) (zs : List Int) : Prop := ∃ A n c, v = .slice A n c ∧ Bts w A n zs ∧ n ≤ c ∧ c ≤ maxLen
/-- a step's four values -/
def Vals (w : World) (x0 x1 x2 x3 : Value) (d : Step) : Prop := x0 = .bool d.chk ∧ x1 = .int .i64 d.peer ∧ Txt w x2 d.text ∧ x3 = .int .u64 (d.tag : Int) ∧ (Lit.int .i64 d.peer).wf = true ∧ d.tag < 18446744073709551616
def IsDo (w : World) (v : Value) (d : Step) : Prop := ∃ x0 x1 x2 x3, v = .agg #[x0, x1, x2, x3] ∧ Vals w x0 x1 x2 x3 d
def DoAt (w : World) (b off : Nat) (d : Step) : Prop := ∃ x0 x1 x2 x3, w.cell? ⟨b, off, none⟩ = some x0 ∧ w.cell? ⟨b, off + 1, none⟩ = some x1 ∧ w.cell? ⟨b, off + 2, none⟩ = some x2 ∧ w.cell? ⟨b, off + 3, none⟩ = some x3 ∧ Vals w x0 x1 x2 x3 d
def IsDos (w : World) (v : Value) (ds : List Step) : Prop := ∃ A cap, v = .slice A ds.length cap ∧ ds.length ≤ cap ∧ cap ≤ maxLen ∧ (0 < ds.length → ∃ b off, A = some ⟨b, off, none⟩ ∧ b < w.heap.size ∧ ∀ j, j < ds.length → DoAt w b (off + j * 4) (ds.getD j default))

theorem add_spot (b o k : Nat) : (⟨b, o, none⟩ : Addr).add k = ⟨b, o + k, none⟩ := by unfold Addr.add; split <;> simp_all
section
variable {H : Type} {enc : TypeId × Value → H} {W : World}
theorem txt_of {n : Nat} {v : Value} {y : DataW H × List MemPlace} (h : DataW.trod enc Try.prog W 0 (fun _ => true) true n 31 [v] = some y) : ∃ zs, Txt W v zs := by
  rcases Go.ChangeShapes.open_ints Try.underlying31 Try.underlying5 (by kernel_rfl) h with ⟨hcs, _⟩ | ⟨x, l, c, zs, hcs, _, hl, hm, hz, _, hcell, hwz⟩
  · simp at hcs
    subst hcs
    exact ⟨[], none, 0, 0, rfl, ⟨rfl, by simp, fun h => by omega⟩, Nat.le_refl _, Nat.zero_le _⟩
  · simp at hcs
    subst hcs
    have hr : IsRow .u8 W (some x) l c zs := .inr ⟨_, rfl, hl, hm, by simpa using hz, hcell, hwz⟩
    obtain ⟨h1, h2, h3⟩ := bts_of_row hr
    exact ⟨_, _, _, _, rfl, h1, h2, h3⟩
theorem vals_of {n : Nat} {x0 x1 x2 x3 : Value} {y0 y1 y2 y3 : DataW H × List MemPlace} (h0 : DataW.trod enc Try.prog W 0 (fun _ => true) true n 4 [x0] = some y0) (h1 : DataW.trod enc Try.prog W 0 (fun _ => true) true n 3 [x1] = some y1)
    (h2 : DataW.trod enc Try.prog W 0 (fun _ => true) true n 31 [x2] = some y2) (h3 : DataW.trod enc Try.prog W 0 (fun _ => true) true n 32 [x3] = some y3) : ∃ d, Vals W x0 x1 x2 x3 d := by
  obtain ⟨b, e0, _⟩ := DataW.trod_bool Try.underlying4 h0
  obtain ⟨p, e1, _, hp⟩ := DataW.trod_int Try.underlying3 h1
  obtain ⟨zs, hz⟩ := txt_of h2
  obtain ⟨t, e3, _, ht⟩ := DataW.trod_int Try.underlying32 h3
  simp only [List.cons.injEq, and_true] at e0 e1 e3
  subst e0; subst e1; subst e3
  have hb := bounds_u64 ht
  refine ⟨⟨b, p, zs, t.toNat⟩, rfl, rfl, hz, ?_, hp, by show t.toNat < _; omega⟩
  show Value.int .u64 t = .int .u64 (t.toNat : Int)
  rw [Int.toNat_of_nonneg (by omega)]
theorem open_do {r : Reach} {b0 : Nat} {v : Value} {d : DataW H} {p : List MemPlace} (hv : Value.okWide Try.prog W r b0 34 v) (h : DataW.Trod enc Try.prog W 0 (fun _ => true) true 34 v d p) : ∃ s, IsDo W v s := by
  obtain ⟨x0, x1, x2, x3, y0, y1, y2, y3, n, rfl, _, _, h0, h1, h2, h3⟩ := Joins.open_agg4 Try.underlying34 (by kernel_rfl) (by kernel_rfl) hv h
  obtain ⟨s, hs⟩ := vals_of h0 h1 h2 h3
  exact ⟨s, x0, x1, x2, x3, rfl, hs⟩
theorem open_dos {r : Reach} {b0 : Nat} {v : Value} {d : DataW H} {p : List MemPlace} (hv : Value.okWide Try.prog W r b0 22 v) (h : DataW.Trod enc Try.prog W 0 (fun _ => true) true 22 v d p) : ∃ ds, IsDos W v ds := by
  obtain ⟨A, l, c, rfl⟩ := WideShapes.okWide_slice Try.underlying22 hv
  obtain ⟨fuel, hf⟩ := h
  rcases Deep.open_slice Try.underlying22 hf with ⟨hcs, _⟩ | ⟨a, len, cap, m, n, D, Pl, hcs, _, hl, hm, hmm, _, hi⟩
  · simp [Value.cells] at hcs
    obtain ⟨rfl, rfl, rfl⟩ := hcs
    exact ⟨[], none, 0, rfl, Nat.le_refl _, Nat.zero_le _, fun h => by simp at h⟩
  · simp [Value.cells] at hcs
    obtain ⟨rfl, rfl, rfl⟩ := hcs
    have hmc : m = c := by simpa using hmm
    subst hmc
    have hall : ∀ j, ∃ s, j < l → ∃ x0 x1 x2 x3, (∀ i, i < 4 → W.cell? ((a.add (j * 4)).add i) = [x0, x1, x2, x3][i]?) ∧ Vals W x0 x1 x2 x3 s := fun j => by
      by_cases hj : j < l
      · obtain ⟨cs, hc, ht⟩ := hi j (by omega)
        obtain ⟨_, hlen, hat⟩ := World.cells?_some hc
        have h4 : Try.prog.cellsOf 34 = 4 := by kernel_rfl
        rw [h4] at hlen hat
        obtain ⟨y0, y1, y2, y3, n', _, _, h0, h1, h2, h3⟩ := Joins.trod_struct4 Try.underlying34 ht
        have c4 : Try.prog.cellsOf 4 = 1 := by kernel_rfl
        have c3 : Try.prog.cellsOf 3 = 1 := by kernel_rfl
        have c31 : Try.prog.cellsOf 31 = 1 := by kernel_rfl
        have c32 : Try.prog.cellsOf 32 = 1 := by kernel_rfl
        match cs, hlen with
        | [x0, x1, x2, x3], _ =>
          simp only [c4, c3, c31, c32, List.drop_zero, List.drop_succ_cons, List.take_succ_cons, List.take_zero] at h0 h1 h2 h3
          obtain ⟨s, hs⟩ := vals_of h0 h1 h2 h3
          exact ⟨s, fun _ => ⟨x0, x1, x2, x3, hat, hs⟩⟩
      · exact ⟨default, fun h => absurd h hj⟩
    obtain ⟨f, hf⟩ := Classical.axiomOfChoice hall
    refine ⟨(List.range l).map f, some a, m, by simp, by simpa using hl, hm, fun hpos => ?_⟩
    have hl0 : 0 < l := by simpa using hpos
    obtain ⟨b, off, spot⟩ := a
    obtain ⟨x0, x1, x2, x3, hat, hs⟩ := hf 0 hl0
    have h8 := World.cell?_spot (hat 0 (by omega))
    have hspot : spot = none := by simpa [Addr.add] using h8
    subst hspot
    have hb : b < W.heap.size := by
      have := lt_of_cell (hat 0 (by omega))
      simpa [Addr.add] using this
    refine ⟨b, off, rfl, hb, fun j hj => ?_⟩
    have hjl : j < l := by simpa using hj
    obtain ⟨x0, x1, x2, x3, hat, hs⟩ := hf j hjl
    have e : ∀ i, ((⟨b, off, none⟩ : Addr).add (j * 4)).add i = ⟨b, off + j * 4 + i, none⟩ := fun i => by rw [add_spot, add_spot]
    have hg : ((List.range l).map f).getD j default = f j := by simp [List.getD, hjl]
    rw [hg]
    refine ⟨x0, x1, x2, x3, ?_, ?_, ?_, ?_, hs⟩
    · have := hat 0 (by omega); rw [e] at this; simpa using this
    · have := hat 1 (by omega); rw [e] at this; simpa using this
    · have := hat 2 (by omega); rw [e] at this; simpa using this
    · have := hat 3 (by omega); rw [e] at this; simpa using this
end

theorem Txt.below {w w' : World} {v : Value} {zs : List Int} (h : Txt w v zs) (hb : Below w.heap.size w w') : Txt w' v zs := by
  obtain ⟨A, n, c, rfl, h1, h2⟩ := h
  exact ⟨A, n, c, rfl, h1.below hb, h2⟩
theorem Vals.below {w w' : World} {x0 x1 x2 x3 : Value} {d : Step} (h : Vals w x0 x1 x2 x3 d) (hb : Below w.heap.size w w') : Vals w' x0 x1 x2 x3 d := ⟨h.1, h.2.1, h.2.2.1.below hb, h.2.2.2⟩
theorem DoAt.below {w w' : World} {b off : Nat} {d : Step} (h : DoAt w b off d) (hb : Below w.heap.size w w') : DoAt w' b off d := by
  obtain ⟨x0, x1, x2, x3, h0, h1, h2, h3, h4⟩ := h
  have hl := lt_of_cell h0
  exact ⟨x0, x1, x2, x3, (hb.cell (p := ⟨b, off, none⟩) hl).trans h0, (hb.cell (p := ⟨b, off + 1, none⟩) hl).trans h1, (hb.cell (p := ⟨b, off + 2, none⟩) hl).trans h2, (hb.cell (p := ⟨b, off + 3, none⟩) hl).trans h3, h4.below hb⟩
/-- a step in a slice, in the walk's words -/
theorem DoAt.parts {w : World} {b off : Nat} {d : Step} (h : DoAt w b off d) : ∃ A n c, w.cell? ⟨b, off, none⟩ = some (.bool d.chk) ∧ w.cell? ⟨b, off + 1, none⟩ = some (.int .i64 d.peer) ∧ w.cell? ⟨b, off + 2, none⟩ = some (.slice A n c) ∧ w.cell? ⟨b, off + 3, none⟩ = some (.int .u64 (d.tag : Int)) ∧
    Bts w A n d.text ∧ n ≤ c ∧ c ≤ maxLen ∧ (Lit.int .i64 d.peer).wf = true ∧ d.tag < 18446744073709551616 ∧ b < w.heap.size := by
  obtain ⟨x0, x1, x2, x3, h0, h1, h2, h3, rfl, rfl, ⟨A, n, c, rfl, h5, h6, h7⟩, rfl, h8, h9⟩ := h
  exact ⟨A, n, c, h0, h1, h2, h3, h5, h6, h7, h8, h9, lt_of_cell h0⟩

/-- are the steps small enough? -/
def smallL (ds : List Step) : Bool := (ds.take 100).all fun d => decide (d.text.length ≤ 200)
def SmallTo (ds : List Step) (k : Nat) : Prop := ∀ j, j < k → (ds.getD j default).text.length ≤ 200
theorem SmallTo.zero (ds : List Step) : SmallTo ds 0 := fun j h => by omega
theorem SmallTo.succ {ds : List Step} {k : Nat} (h : SmallTo ds k) (hk : (ds.getD k default).text.length ≤ 200) : SmallTo ds (k + 1) := fun j hj => by
  rcases Nat.lt_or_ge j k with h' | h'
  · exact h j h'
  · obtain rfl : j = k := by omega
    exact hk
theorem small_true {ds : List Step} {k : Nat} (h : SmallTo ds k) (hk : ds.length ≤ k ∨ 100 ≤ k) : smallL ds = true := by
  unfold smallL
  rw [List.all_eq_true]
  intro d hd
  obtain ⟨j, hj, rfl⟩ := List.getElem_of_mem hd
  rw [List.length_take] at hj
  have := h j (by omega)
  simp only [List.getD, List.getElem?_eq_getElem (show j < ds.length by omega), Option.getD_some] at this
  simpa using this
theorem small_false {ds : List Step} {k : Nat} (hk : k < ds.length) (h1 : k < 100) (h : ¬ (ds.getD k default).text.length ≤ 200) : smallL ds = false := by
  unfold smallL
  rw [List.all_eq_false]
  refine ⟨ds[k], List.mem_take_iff_getElem.2 ⟨k, by omega, rfl⟩, ?_⟩
  simp only [List.getD, List.getElem?_eq_getElem hk, Option.getD_some] at h
  simpa using h
theorem small_at {ds : List Step} (h : smallL ds = true) {k : Nat} (hk : k < ds.length) (h1 : k < 100) : (ds.getD k default).text.length ≤ 200 := by
  rcases Nat.lt_or_ge 200 (ds.getD k default).text.length with h2 | h2
  · rw [small_false hk h1 (by omega)] at h; cases h
  · exact h2

set_option maxHeartbeats 1000000 in
theorem small_some (b off c : Nat) (ds : List Step) (w : World) (hb : b < w.heap.size) (hc : ds.length ≤ c) (hm : c ≤ maxLen) (h : ∀ j, j < ds.length → DoAt w b (off + j * 4) (ds.getD j default)) :
    Calls Try.prog 8 #[.slice (some ⟨b, off, none⟩) ds.length c] w fun e w' => e = .returned (.bool (smallL ds)) ∧ w = w' := by
  unfold maxLen at hm
  have H := Lib.hid h; clear h
  go_enter Try.func8, Try.ntmps8
  go_wp2
  go_loop [3] (fun i => ∃ k : Nat, k ≤ ds.length ∧ k ≤ 100 ∧ i = .int .i64 k ∧ SmallTo ds k) (fun i => ds.length - (intOf i).toNat)
  case atStart => exact ⟨0, by omega, by omega, rfl, SmallTo.zero _⟩
  case round =>
    obtain ⟨k, hk, hk2, rfl, hS⟩ := hrel
    have HS := Lib.hid hS; clear hS
    by_cases h1 : k < ds.length
    · by_cases h2 : k < 100
      · obtain ⟨A, n, c', d0, d1, d2, d3, hbt, _⟩ := (H.out k h1).parts
        have hl := hbt.len
        by_cases h3 : n ≤ 200
        · have HD := Lib.hid (show (ds.getD k default).text.length ≤ 200 by omega)
          clear hbt hl
          go_wp2
          go_round
          case rel => exact ⟨k + 1, by omega, by omega, by go_num, HS.out.succ HD.out⟩
          case measure => simp [intOf]; omega
        · have HD := Lib.hid (small_false h1 h2 (by omega))
          clear hbt hl
          go_wp2
          go_ret
          exact ⟨ret_bool HD.out.symm, rfl⟩
      · have HD := Lib.hid (small_true HS.out (.inr (by omega)))
        go_wp2
        go_ret
        exact ⟨ret_bool HD.out.symm, rfl⟩
    · have HD := Lib.hid (small_true HS.out (.inl (by omega)))
      go_wp2
      go_ret
      exact ⟨ret_bool HD.out.symm, rfl⟩

set_option maxHeartbeats 400000 in
theorem small_none (A : Option Addr) (c : Nat) (w : World) :
    Calls Try.prog 8 #[.slice A 0 c] w fun e w' => e = .returned (.bool true) ∧ w = w' := by
  go_enter Try.func8, Try.ntmps8
  go_wp2
  refine wp_loop_rounds 1 ?_
  rw [rounds_succ]
  go_wp2
  go_ret
  exact ⟨rfl, rfl⟩
theorem small_any (v : Value) (ds : List Step) (w : World) (h : IsDos w v ds) (r : Bool) (hr : smallL ds = r) :
    Calls Try.prog 8 #[v] w fun e w' => e = .returned (.bool r) ∧ w = w' := by
  subst hr
  obtain ⟨A, c, rfl, h1, h2, h3⟩ := h
  rcases Nat.eq_zero_or_pos ds.length with h0 | h0
  · obtain rfl : ds = [] := List.eq_nil_of_length_eq_zero h0
    exact small_none A c w
  · obtain ⟨b, off, rfl, h4, h5⟩ := h3 h0
    exact small_some b off c ds w h4 h1 h2 h5
theorem IsDos.below {w w' : World} {v : Value} {ds : List Step} (h : IsDos w v ds) (hb : Below w.heap.size w w') : IsDos w' v ds := by
  obtain ⟨A, c, rfl, h1, h2, h3⟩ := h
  refine ⟨A, c, rfl, h1, h2, fun h => ?_⟩
  obtain ⟨b, off, rfl, h4, h5⟩ := h3 h
  exact ⟨b, off, rfl, Nat.lt_of_lt_of_le h4 hb.size, fun j hj => (h5 j hj).below hb⟩

end Go.Proofs.Ytcinjfmmmmaelaa
