/-
  A script of net's laws, a row of bytes, and a row of such rows, that came in, read as plain data; what 'small' says of a script. Conditions: as each states.
-/
import Derived.Test.YthfdnidcmkjmoaaNw
import Derived.ProofKit
import Derived.OpenShut
import Derived.ChangeOld
import Derived.Lib.SmallJoins
import Derived.Deep.Slices
namespace Go.Proofs.Ythfdnidcmkjmoaa
open Go.RowKit Go.Maps
set_option linter.unusedVariables false

def W64 (z : Int) : Prop := -9223372036854775808 ≤ z ∧ z ≤ 9223372036854775807
/-- a step, as plain data -/
structure Dn where
  kind : Int
  no : Int
  f : A2
  t : A2
  zs : List Int
instance : Inhabited Dn := ⟨⟨0, 0, (0, 0), (0, 0), []⟩⟩
/-- the value reads as bytes, in w -/
def IsTxt (w : World) (u : Value) (zs : List Int) : Prop := ∃ A c, u = .slice A zs.length c ∧ Bts w A zs.length zs ∧ zs.length ≤ c ∧ c ≤ maxLen ∧ (A = none → zs.length = 0 ∧ c = 0)
def ValsD (w : World) (xs : List Value) (d : Dn) : Prop := ∃ u, xs = [.int .i64 d.kind, .int .i64 d.no, .int .u32 d.f.1, .int .i64 d.f.2, .int .u32 d.t.1, .int .i64 d.t.2, u] ∧ IsTxt w u d.zs ∧ W64 d.kind ∧ W64 d.no ∧ isA d.f ∧ isA d.t
def DnAt (w : World) (b off : Nat) (d : Dn) : Prop := ∃ xs, ValsD w xs d ∧ ∀ i, i < 7 → w.cell? ⟨b, off + i, none⟩ = xs[i]?
def IsDos (w : World) (v : Value) (ds : List Dn) : Prop := ∃ A cap, v = .slice A ds.length cap ∧ ds.length ≤ cap ∧ cap ≤ maxLen ∧ (0 < ds.length → ∃ b off, A = some ⟨b, off, none⟩ ∧ b < w.heap.size ∧ ∀ j, j < ds.length → DnAt w b (off + j * 7) (ds.getD j default))
def IsRws (w : World) (v : Value) (ds : List (List Int)) : Prop := ∃ A cap, v = .slice A ds.length cap ∧ ds.length ≤ cap ∧ cap ≤ maxLen ∧ (0 < ds.length → ∃ b off, A = some ⟨b, off, none⟩ ∧ b < w.heap.size ∧ ∀ j, j < ds.length → ∃ u, w.cell? ⟨b, off + j, none⟩ = some u ∧ IsTxt w u (ds.getD j default))
theorem IsTxt.below {w w' : World} {u : Value} {zs : List Int} (h : IsTxt w u zs) (hb : Below w.heap.size w w') : IsTxt w' u zs := by
  obtain ⟨A, c, rfl, h1, h2⟩ := h
  exact ⟨A, c, rfl, h1.below hb, h2⟩
section
variable {H : Type} {enc : TypeId × Value → H} {W : World}
theorem addG_at (b o k : Nat) : (⟨b, o, none⟩ : Addr).add k = ⟨b, o + k, none⟩ := by unfold Addr.add; split <;> simp_all
theorem trod_struct2 {P : Program} {w : World} {base : Nat} {spare : Nat → Bool} {held : Bool} {t : TypeId} {f0 f1 : Field} {fuel : Nat} {cs : List Value} {x : DataW H × List MemPlace} (ht : P.underlying t = some (.struct #[f0, f1])) (h : DataW.trod enc P w base spare held fuel t cs = some x) :
    ∃ y0 y1 n, DataW.trod enc P w base spare held n f0.type ((cs.drop f0.offset).take (P.cellsOf f0.type)) = some y0 ∧ DataW.trod enc P w base spare held n f1.type ((cs.drop f1.offset).take (P.cellsOf f1.type)) = some y1 := by
  obtain ⟨xs, n, _, rfl, hl, hlen, hf⟩ := DataW.trod_struct ht h
  match xs, hlen with
  | [y0, y1], _ => exact ⟨y0, y1, n, by simpa using hf 0 f0 rfl, by simpa using hf 1 f1 rfl⟩
theorem trod_struct5 {P : Program} {w : World} {base : Nat} {spare : Nat → Bool} {held : Bool} {t : TypeId} {f0 f1 f2 f3 f4 : Field} {fuel : Nat} {cs : List Value} {x : DataW H × List MemPlace} (ht : P.underlying t = some (.struct #[f0, f1, f2, f3, f4])) (h : DataW.trod enc P w base spare held fuel t cs = some x) :
    ∃ y0 y1 y2 y3 y4 n, DataW.trod enc P w base spare held n f0.type ((cs.drop f0.offset).take (P.cellsOf f0.type)) = some y0 ∧
      DataW.trod enc P w base spare held n f1.type ((cs.drop f1.offset).take (P.cellsOf f1.type)) = some y1 ∧ DataW.trod enc P w base spare held n f2.type ((cs.drop f2.offset).take (P.cellsOf f2.type)) = some y2 ∧
      DataW.trod enc P w base spare held n f3.type ((cs.drop f3.offset).take (P.cellsOf f3.type)) = some y3 ∧ DataW.trod enc P w base spare held n f4.type ((cs.drop f4.offset).take (P.cellsOf f4.type)) = some y4 := by
  obtain ⟨xs, n, _, rfl, hl, hlen, hf⟩ := DataW.trod_struct ht h
  match xs, hlen with
  | [y0, y1, y2, y3, y4], _ => exact ⟨y0, y1, y2, y3, y4, n, by simpa using hf 0 f0 rfl, by simpa using hf 1 f1 rfl, by simpa using hf 2 f2 rfl, by simpa using hf 3 f3 rfl, by simpa using hf 4 f4 rfl⟩
theorem adrG_trod {n : Nat} {x0 x1 : Value} {y : DataW H × List MemPlace} (h : DataW.trod enc Try.prog W 0 (fun _ => true) true n 33 [x0, x1] = some y) : ∃ a : A2, x0 = .int .u32 a.1 ∧ x1 = .int .i64 a.2 ∧ isA a := by
  obtain ⟨y0, y1, n', h0, h1⟩ := trod_struct2 Try.underlying33 h
  have c3 : Try.prog.cellsOf 3 = 1 := by kernel_rfl
  have c22 : Try.prog.cellsOf 31 = 1 := by kernel_rfl
  simp only [c3, c22, List.drop_zero, List.drop_succ_cons, List.take_succ_cons, List.take_zero] at h0 h1
  obtain ⟨a, e0, _, p0⟩ := DataW.trod_int Try.underlying31 h0
  obtain ⟨b, e1, _, p1⟩ := DataW.trod_int Try.underlying3 h1
  simp only [List.cons.injEq, and_true] at e0 e1
  have ha := bounds_u32 p0
  have hb := bounds_i64 p1
  exact ⟨(a, b), e0, e1, ⟨ha.1, by simp only; omega⟩, hb.1, hb.2⟩
theorem intG_trod {n : Nat} {x0 : Value} {y : DataW H × List MemPlace} (h : DataW.trod enc Try.prog W 0 (fun _ => true) true n 3 [x0] = some y) : ∃ z : Int, x0 = .int .i64 z ∧ W64 z := by
  obtain ⟨b0, e0, _, p0⟩ := DataW.trod_int Try.underlying3 h
  simp only [List.cons.injEq, and_true] at e0
  subst e0
  exact ⟨b0, rfl, bounds_i64 p0⟩
theorem btsG_trod {n : Nat} {x0 : Value} {y : DataW H × List MemPlace} (h : DataW.trod enc Try.prog W 0 (fun _ => true) true n 34 [x0] = some y) : ∃ zs, IsTxt W x0 zs := by
  rcases Go.ChangeShapes.open_ints Try.underlying34 Try.underlying5 (by kernel_rfl) h with ⟨hcs, _⟩ | ⟨x, l, c, zs, hcs, _, hl, hm, hz, _, hcell, hwz⟩
  · simp at hcs
    subst hcs
    exact ⟨[], none, 0, rfl, ⟨rfl, by simp, fun h => by simp at h⟩, Nat.le_refl _, Nat.zero_le _, fun _ => ⟨rfl, rfl⟩⟩
  · simp at hcs
    subst hcs
    have hr : IsRow .u8 W (some x) _ _ zs := .inr ⟨_, rfl, hl, hm, by simpa using hz, hcell, hwz⟩
    obtain ⟨h1, h2, h3⟩ := bts_of_row hr
    have e := h1.len
    exact ⟨_, some x, _, by rw [e], by rw [e]; exact h1, by rw [e]; exact h2, h3, by intro h; cases h⟩
theorem open_txt {r : Reach} {b0 : Nat} {v : Value} {d : DataW H} {p : List MemPlace} (hv : Value.okWide Try.prog W r b0 34 v) (h : DataW.Trod enc Try.prog W 0 (fun _ => true) true 34 v d p) : ∃ zs, IsTxt W v zs := by
  obtain ⟨A, l, c, rfl⟩ := WideShapes.okWide_slice Try.underlying34 hv
  obtain ⟨fuel, hf⟩ := h
  exact btsG_trod (by simpa [Value.cells] using hf)
set_option maxRecDepth 100000 in
theorem open_rws {r : Reach} {b0 : Nat} {v : Value} {d : DataW H} {p : List MemPlace} (hv : Value.okWide Try.prog W r b0 55 v) (h : DataW.Trod enc Try.prog W 0 (fun _ => true) true 55 v d p) : ∃ ds, IsRws W v ds := by
  obtain ⟨A, l, c, rfl⟩ := WideShapes.okWide_slice Try.underlying55 hv
  obtain ⟨fuel, hf⟩ := h
  rcases Deep.open_slice Try.underlying55 hf with ⟨hcs, _⟩ | ⟨a, len, cap, m, n, D, Pl, hcs, _, hl, hm, hmm, _, hi⟩
  · simp [Value.cells] at hcs
    obtain ⟨rfl, rfl, rfl⟩ := hcs
    exact ⟨[], none, 0, rfl, Nat.le_refl _, Nat.zero_le _, fun h => by simp at h⟩
  · simp [Value.cells] at hcs
    obtain ⟨rfl, rfl, rfl⟩ := hcs
    have hmc : m = c := by simpa using hmm
    subst hmc
    have hall : ∀ j, ∃ s, j < l → ∃ u, W.cell? (a.add j) = some u ∧ IsTxt W u s := fun j => by
      by_cases hj : j < l
      · obtain ⟨cs, hc, ht⟩ := hi j (by omega)
        obtain ⟨_, hlen, hat⟩ := World.cells?_some hc
        have h4 : Try.prog.cellsOf 34 = 1 := by kernel_rfl
        rw [h4] at hlen hat
        match cs, hlen with
        | [u], _ =>
          obtain ⟨zs, p4⟩ := btsG_trod ht
          refine ⟨zs, fun _ => ⟨u, ?_, p4⟩⟩
          have := hat 0 (by omega)
          rw [Nat.mul_one] at this
          have e0 : (a.add j).add 0 = a.add j := by
            cases h : a.add j with
            | mk b o s => cases s <;> simp [Addr.add]
          rw [e0] at this
          simpa using this
      · exact ⟨default, fun h => absurd h hj⟩
    obtain ⟨f, hf⟩ := Classical.axiomOfChoice hall
    refine ⟨(List.range l).map f, some a, m, by simp, by simpa using hl, hm, fun hpos => ?_⟩
    have hl0 : 0 < l := by simpa using hpos
    obtain ⟨b, off, spot⟩ := a
    obtain ⟨u, hat, hs⟩ := hf 0 hl0
    have h8 := World.cell?_spot hat
    have hspot : spot = none := by simpa [Addr.add] using h8
    subst hspot
    have hb : b < W.heap.size := by
      rw [addG_at] at hat
      exact World.block_lt_of_cell? W _ hat
    refine ⟨b, off, rfl, hb, fun j hj => ?_⟩
    have hjl : j < l := by simpa using hj
    obtain ⟨u, hat, hs⟩ := hf j hjl
    have hg : ((List.range l).map f).getD j default = f j := by simp [List.getD, hjl]
    rw [hg]
    exact ⟨u, by rw [← addG_at]; exact hat, hs⟩
set_option maxRecDepth 100000 in
theorem open_dos {r : Reach} {b0 : Nat} {v : Value} {d : DataW H} {p : List MemPlace} (hv : Value.okWide Try.prog W r b0 22 v) (h : DataW.Trod enc Try.prog W 0 (fun _ => true) true 22 v d p) : ∃ ds, IsDos W v ds := by
  obtain ⟨A, l, c, rfl⟩ := WideShapes.okWide_slice Try.underlying22 hv
  obtain ⟨fuel, hf⟩ := h
  rcases Deep.open_slice Try.underlying22 hf with ⟨hcs, _⟩ | ⟨a, len, cap, m, n, D, Pl, hcs, _, hl, hm, hmm, _, hi⟩
  · simp [Value.cells] at hcs
    obtain ⟨rfl, rfl, rfl⟩ := hcs
    exact ⟨[], none, 0, rfl, Nat.le_refl _, Nat.zero_le _, fun h => by simp at h⟩
  · simp [Value.cells] at hcs
    obtain ⟨rfl, rfl, rfl⟩ := hcs
    have hmc : m = c := by simpa using hmm
    subst hmc
    have hall : ∀ j, ∃ s, j < l → ∃ xs, (∀ i, i < 7 → W.cell? ((a.add (j * 7)).add i) = xs[i]?) ∧ ValsD W xs s := fun j => by
      by_cases hj : j < l
      · obtain ⟨cs, hc, ht⟩ := hi j (by omega)
        obtain ⟨_, hlen, hat⟩ := World.cells?_some hc
        have h4 : Try.prog.cellsOf 36 = 7 := by kernel_rfl
        rw [h4] at hlen hat
        obtain ⟨y0, y1, y2, y3, y4, n', h0, h1, h2, h3, h5⟩ := trod_struct5 Try.underlying36 ht
        have c3 : Try.prog.cellsOf 3 = 1 := by kernel_rfl
        have c38 : Try.prog.cellsOf 33 = 2 := by kernel_rfl
        have c60 : Try.prog.cellsOf 34 = 1 := by kernel_rfl
        match cs, hlen with
        | [x0, x1, x2, x3, x4, x5, x6], _ =>
          simp only [c3, c38, c60, List.drop_zero, List.drop_succ_cons, List.take_succ_cons, List.take_zero] at h0 h1 h2 h3 h5
          obtain ⟨z0, rfl, p0⟩ := intG_trod h0
          obtain ⟨z1, rfl, p1⟩ := intG_trod h1
          obtain ⟨z2, rfl, rfl, p2⟩ := adrG_trod h2
          obtain ⟨z3, rfl, rfl, p3⟩ := adrG_trod h3
          obtain ⟨zs, p4⟩ := btsG_trod h5
          exact ⟨⟨z0, z1, z2, z3, zs⟩, fun _ => ⟨_, hat, x6, rfl, p4, p0, p1, p2, p3⟩⟩
      · exact ⟨default, fun h => absurd h hj⟩
    obtain ⟨f, hf⟩ := Classical.axiomOfChoice hall
    refine ⟨(List.range l).map f, some a, m, by simp, by simpa using hl, hm, fun hpos => ?_⟩
    have hl0 : 0 < l := by simpa using hpos
    obtain ⟨b, off, spot⟩ := a
    obtain ⟨xs, hat, hs⟩ := hf 0 hl0
    have hx0 : ∃ x0, xs[0]? = some x0 := by obtain ⟨u, e, _⟩ := hs; rw [e]; exact ⟨_, rfl⟩
    obtain ⟨x0, hx0⟩ := hx0
    have h8 := World.cell?_spot ((hat 0 (by omega)).trans hx0)
    have hspot : spot = none := by simpa [Addr.add] using h8
    subst hspot
    have hb : b < W.heap.size := by
      have h9 := (hat 0 (by omega)).trans hx0
      rw [addG_at, addG_at] at h9
      exact World.block_lt_of_cell? W _ h9
    refine ⟨b, off, rfl, hb, fun j hj => ?_⟩
    have hjl : j < l := by simpa using hj
    obtain ⟨xs, hat, hs⟩ := hf j hjl
    have e : ∀ i, ((⟨b, off, none⟩ : Addr).add (j * 7)).add i = ⟨b, off + j * 7 + i, none⟩ := fun i => by rw [addG_at, addG_at]
    have hg : ((List.range l).map f).getD j default = f j := by simp [List.getD, hjl]
    rw [hg]
    exact ⟨xs, hs, fun i hi => by rw [← e]; exact hat i hi⟩
end
/-- a step in a slice, in the walk's words -/
theorem DnAt.parts {w W : World} {b off : Nat} {d : Dn} (h : DnAt w b off d) (hb : Below w.heap.size w W) : ∃ A c, (W.cell? ⟨b, off, none⟩ = some (.int .i64 d.kind) ∧ W.cell? ⟨b, off + 1, none⟩ = some (.int .i64 d.no) ∧ W.cell? ⟨b, off + 2, none⟩ = some (.int .u32 d.f.1) ∧ W.cell? ⟨b, off + 3, none⟩ = some (.int .i64 d.f.2) ∧ W.cell? ⟨b, off + 4, none⟩ = some (.int .u32 d.t.1) ∧ W.cell? ⟨b, off + 5, none⟩ = some (.int .i64 d.t.2) ∧ W.cell? ⟨b, off + 6, none⟩ = some (.slice A d.zs.length c)) ∧
    Bts W A d.zs.length d.zs ∧ d.zs.length ≤ c ∧ c ≤ maxLen ∧ (A = none → d.zs.length = 0 ∧ c = 0) ∧ W64 d.kind ∧ W64 d.no ∧ isA d.f ∧ isA d.t := by
  obtain ⟨xs, ⟨u, rfl, ⟨A, c, rfl, k1, k2, k3, k4⟩, h1, h2, h5, h6⟩, h3⟩ := h
  have hl := World.block_lt_of_cell? w _ ((h3 0 (by omega)).trans (by rfl))
  have e := fun i hi => (hb.cell (p := ⟨b, off + i, none⟩) hl).trans (h3 i hi)
  exact ⟨A, c, ⟨e 0 (by omega), e 1 (by omega), e 2 (by omega), e 3 (by omega), e 4 (by omega), e 5 (by omega), e 6 (by omega)⟩, k1.below hb, k2, k3, k4, h1, h2, h5, h6⟩
/-- are the steps small enough? -/
def SmallTo (ds : List Dn) (k : Nat) : Prop := ∀ j, j < k → j < ds.length → (ds.getD j default).zs.length ≤ 1300
def smallL (ds : List Dn) : Bool := (ds.take 100).all fun d => decide (d.zs.length ≤ 1300)
theorem SmallTo.succ {ds : List Dn} {k : Nat} (h : SmallTo ds k) (hk : (ds.getD k default).zs.length ≤ 1300) : SmallTo ds (k + 1) := fun j hj hl => by
  rcases Nat.lt_or_ge j k with h' | h'
  · exact h j h' hl
  · obtain rfl : j = k := by omega
    exact hk
theorem small_true {ds : List Dn} {k : Nat} (h : SmallTo ds k) (hk : ds.length ≤ k ∨ 100 ≤ k) : smallL ds = true := by
  unfold smallL
  rw [List.all_eq_true]
  intro d hd
  obtain ⟨j, hj, rfl⟩ := List.getElem_of_mem hd
  rw [List.length_take] at hj
  have := h j (by omega) (by omega)
  simp only [List.getD, List.getElem?_eq_getElem (show j < ds.length by omega), Option.getD_some] at this
  simpa using this
theorem small_false {ds : List Dn} {k : Nat} (hk : k < ds.length) (h1 : k < 100) (h : ¬ (ds.getD k default).zs.length ≤ 1300) : smallL ds = false := by
  unfold smallL
  rw [List.all_eq_false]
  refine ⟨ds[k], List.mem_take_iff_getElem.2 ⟨k, by omega, rfl⟩, ?_⟩
  simp only [List.getD, List.getElem?_eq_getElem hk, Option.getD_some] at h
  simpa using h
theorem small_at {ds : List Dn} (h : smallL ds = true) {k : Nat} (hk : k < ds.length) (h1 : k < 100) : (ds.getD k default).zs.length ≤ 1300 := by
  rcases Nat.lt_or_ge 1300 (ds.getD k default).zs.length with h2 | h2
  · rw [small_false hk h1 (by omega)] at h; cases h
  · exact h2

set_option maxHeartbeats 2000000 in
theorem small_n (v : Value) (ds : List Dn) (w : World) (h : IsDos w v ds) : Calls Try.prog 8 #[v] w fun e w' => e = .returned (.bool (smallL ds)) ∧ w' = w := by
  obtain ⟨A, cap, rfl, hlc, hcm, hat⟩ := h
  have HAT := Lib.hid hat; clear hat
  unfold maxLen at hcm
  go_enter Try.func8, Try.ntmps8
  go_wp2
  go_loopw [3] (fun i wr => ∃ k : Nat, k ≤ ds.length ∧ k ≤ 100 ∧ i = .int .i64 k ∧ wr = w ∧ Hid (SmallTo ds k)) (fun i _ => 100 - (intOf i).toNat)
  case atStart => exact ⟨0, Nat.zero_le _, Nat.zero_le _, rfl, rfl, Lib.hid (fun j hj => by omega)⟩
  case round =>
    obtain ⟨k, hk, hk1, rfl, rfl, HS⟩ := hrel
    by_cases hlt : k < ds.length
    · have hz : (k : Int) < (ds.length : Int) := by omega
      by_cases hlt1 : k < 100
      · have hz1 : (k : Int) < 100 := by omega
        obtain ⟨b, off, rfl, hb, hd⟩ := HAT.out (by omega)
        obtain ⟨A', c', ⟨-, -, -, -, -, -, d6⟩, -⟩ := (hd k hlt).parts (Below.refl _ _)
        clear hd
        by_cases hs : (ds.getD k default).zs.length ≤ 1300
        · have hsz : ((ds.getD k default).zs.length : Int) ≤ 1300 := by omega
          have HS2 := Lib.hid (HS.out.succ hs)
          clear hs
          generalize (ds.getD k default).zs.length = n at *
          go_wp2
          go_roundw
          case rel => exact ⟨k + 1, by omega, by omega, by go_num, (by first | trivial | rfl), HS2⟩
          case measure => simp [intOf]; omega
        · have hsz : ¬ ((ds.getD k default).zs.length : Int) ≤ 1300 := by omega
          have HR := Lib.hid (small_false hlt hlt1 hs)
          clear hs
          generalize (ds.getD k default).zs.length = n at *
          go_wp2
          go_ret
          exact ⟨ret_bool HR.out.symm, (by first | rfl | trivial)⟩
      · have hz1 : ¬ (k : Int) < 100 := by omega
        have HR := Lib.hid (small_true HS.out (.inr (by omega)))
        go_wp2
        go_ret
        exact ⟨ret_bool HR.out.symm, (by first | rfl | trivial)⟩
    · have hz : ¬ (k : Int) < (ds.length : Int) := by omega
      have HR := Lib.hid (small_true HS.out (.inl (by omega)))
      go_wp2
      go_ret
      exact ⟨ret_bool HR.out.symm, (by first | rfl | trivial)⟩
end Go.Proofs.Ythfdnidcmkjmoaa
