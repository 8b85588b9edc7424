/-
  A step of a script that came in, in a slice, read as plain data. Conditions: as each states.
-/
import Derived.Test.YtcfbnepcinlheaaOin
import Derived.Test.YtcfbnepcinlheaaBkw
namespace Go.Proofs.Ytcfbnepcinlheaa
open Go.RowKit Go.Shelf Go.Maps
set_option linter.unusedVariables false

/-- a step, as plain data -/
structure Dz where
  kind : Int
  wait : Int
  a : A2
  b : A2
  port : Int
  till : Int
instance : Inhabited Dz := ⟨⟨0, 0, (0, 0), (0, 0), 0, 0⟩⟩
/-- a step's eight values -/
def Vals8 (xs : List Value) (d : Dz) : Prop := xs = [.int .i64 d.kind, .int .i64 d.wait, .int .u32 d.a.1, .int .i64 d.a.2, .int .u32 d.b.1, .int .i64 d.b.2, .int .i64 d.port, .int .i64 d.till] ∧ W64 d.kind ∧ W64 d.wait ∧ isA d.a ∧ isA d.b ∧ W64 d.port ∧ W64 d.till
def DzAt (w : World) (b off : Nat) (d : Dz) : Prop := ∃ xs, Vals8 xs d ∧ ∀ i, i < 8 → w.cell? ⟨b, off + i, none⟩ = xs[i]?
def IsDzs (w : World) (v : Value) (ds : List Dz) : Prop := ∃ A cap, v = .slice A ds.length cap ∧ ds.length ≤ cap ∧ cap ≤ maxLen ∧ (0 < ds.length → ∃ b off, A = some ⟨b, off, none⟩ ∧ b < w.heap.size ∧ ∀ j, j < ds.length → DzAt w b (off + j * 8) (ds.getD j default))
section
variable {H : Type} {enc : TypeId × Value → H} {W : World}
theorem add_at (b o k : Nat) : (⟨b, o, none⟩ : Addr).add k = ⟨b, o + k, none⟩ := by unfold Addr.add; split <;> simp_all
theorem lt_at {w : World} {a : Addr} {v : Value} (h : w.cell? a = some v) : a.block < w.heap.size := World.block_lt_of_cell? w a h
theorem trod_struct6 {P : Program} {w : World} {base : Nat} {spare : Nat → Bool} {held : Bool} {t : TypeId} {f0 f1 f2 f3 f4 f5 : Field} {fuel : Nat} {cs : List Value} {x : DataW H × List MemPlace} (ht : P.underlying t = some (.struct #[f0, f1, f2, f3, f4, f5])) (h : DataW.trod enc P w base spare held fuel t cs = some x) :
    ∃ y0 y1 y2 y3 y4 y5 n, DataW.trod enc P w base spare held n f0.type ((cs.drop f0.offset).take (P.cellsOf f0.type)) = some y0 ∧
      DataW.trod enc P w base spare held n f1.type ((cs.drop f1.offset).take (P.cellsOf f1.type)) = some y1 ∧ DataW.trod enc P w base spare held n f2.type ((cs.drop f2.offset).take (P.cellsOf f2.type)) = some y2 ∧
      DataW.trod enc P w base spare held n f3.type ((cs.drop f3.offset).take (P.cellsOf f3.type)) = some y3 ∧ DataW.trod enc P w base spare held n f4.type ((cs.drop f4.offset).take (P.cellsOf f4.type)) = some y4 ∧
      DataW.trod enc P w base spare held n f5.type ((cs.drop f5.offset).take (P.cellsOf f5.type)) = some y5 := by
  obtain ⟨xs, n, _, rfl, hl, hlen, hf⟩ := DataW.trod_struct ht h
  match xs, hlen with
  | [y0, y1, y2, y3, y4, y5], _ => exact ⟨y0, y1, y2, y3, y4, y5, n, by simpa using hf 0 f0 rfl, by simpa using hf 1 f1 rfl, by simpa using hf 2 f2 rfl, by simpa using hf 3 f3 rfl, by simpa using hf 4 f4 rfl, by simpa using hf 5 f5 rfl⟩
theorem adr_trod {n : Nat} {x0 x1 : Value} {y : DataW H × List MemPlace} (h : DataW.trod enc Try.prog W 0 (fun _ => true) true n 38 [x0, x1] = some y) : ∃ a : A2, x0 = .int .u32 a.1 ∧ x1 = .int .i64 a.2 ∧ isA a := by
  obtain ⟨y0, y1, n', h0, h1⟩ := trod_struct2 Try.underlying38 h
  have c3 : Try.prog.cellsOf 3 = 1 := by kernel_rfl
  have c22 : Try.prog.cellsOf 22 = 1 := by kernel_rfl
  simp only [c3, c22, List.drop_zero, List.drop_succ_cons, List.take_succ_cons, List.take_zero] at h0 h1
  exact adr_of h0 h1
theorem int_trod {n : Nat} {x0 : Value} {y : DataW H × List MemPlace} (h : DataW.trod enc Try.prog W 0 (fun _ => true) true n 3 [x0] = some y) : ∃ z : Int, x0 = .int .i64 z ∧ W64 z := by
  obtain ⟨b0, e0, _, p0⟩ := DataW.trod_int Try.underlying3 h
  simp only [List.cons.injEq, and_true] at e0
  subst e0
  exact ⟨b0, rfl, bounds_i64 p0⟩
set_option maxRecDepth 100000 in
theorem open_dzs {r : Reach} {b0 : Nat} {v : Value} {d : DataW H} {p : List MemPlace} (hv : Value.okWide Try.prog W r b0 25 v) (h : DataW.Trod enc Try.prog W 0 (fun _ => true) true 25 v d p) : ∃ ds, IsDzs W v ds := by
  obtain ⟨A, l, c, rfl⟩ := WideShapes.okWide_slice Try.underlying25 hv
  obtain ⟨fuel, hf⟩ := h
  rcases Deep.open_slice Try.underlying25 hf with ⟨hcs, _⟩ | ⟨a, len, cap, m, n, D, Pl, hcs, _, hl, hm, hmm, _, hi⟩
  · simp [Value.cells] at hcs
    obtain ⟨rfl, rfl, rfl⟩ := hcs
    exact ⟨[], none, 0, rfl, Nat.le_refl _, Nat.zero_le _, fun h => by simp at h⟩
  · simp [Value.cells] at hcs
    obtain ⟨rfl, rfl, rfl⟩ := hcs
    have hmc : m = c := by simpa using hmm
    subst hmc
    have hall : ∀ j, ∃ s, j < l → ∃ xs, (∀ i, i < 8 → W.cell? ((a.add (j * 8)).add i) = xs[i]?) ∧ Vals8 xs s := fun j => by
      by_cases hj : j < l
      · obtain ⟨cs, hc, ht⟩ := hi j (by omega)
        obtain ⟨_, hlen, hat⟩ := World.cells?_some hc
        have h4 : Try.prog.cellsOf 40 = 8 := by kernel_rfl
        rw [h4] at hlen hat
        obtain ⟨y0, y1, y2, y3, y4, y5, n', h0, h1, h2, h3, h5, h6⟩ := trod_struct6 Try.underlying40 ht
        have c3 : Try.prog.cellsOf 3 = 1 := by kernel_rfl
        have c38 : Try.prog.cellsOf 38 = 2 := by kernel_rfl
        match cs, hlen with
        | [x0, x1, x2, x3, x4, x5, x6, x7], _ =>
          simp only [c3, c38, List.drop_zero, List.drop_succ_cons, List.take_succ_cons, List.take_zero] at h0 h1 h2 h3 h5 h6
          obtain ⟨z0, rfl, p0⟩ := int_trod h0
          obtain ⟨z1, rfl, p1⟩ := int_trod h1
          obtain ⟨z2, rfl, rfl, p2⟩ := adr_trod h2
          obtain ⟨z3, rfl, rfl, p3⟩ := adr_trod h3
          obtain ⟨z4, rfl, p4⟩ := int_trod h5
          obtain ⟨z5, rfl, p5⟩ := int_trod h6
          exact ⟨⟨z0, z1, z2, z3, z4, z5⟩, fun _ => ⟨_, hat, rfl, p0, p1, p2, p3, p4, p5⟩⟩
      · exact ⟨default, fun h => absurd h hj⟩
    obtain ⟨f, hf⟩ := Classical.axiomOfChoice hall
    refine ⟨(List.range l).map f, some a, m, by simp, by simpa using hl, hm, fun hpos => ?_⟩
    have hl0 : 0 < l := by simpa using hpos
    obtain ⟨b, off, spot⟩ := a
    obtain ⟨xs, hat, hs⟩ := hf 0 hl0
    have hx0 : ∃ x0, xs[0]? = some x0 := by rw [hs.1]; exact ⟨_, rfl⟩
    obtain ⟨x0, hx0⟩ := hx0
    have h8 := World.cell?_spot ((hat 0 (by omega)).trans hx0)
    have hspot : spot = none := by simpa [Addr.add] using h8
    subst hspot
    have hb : b < W.heap.size := by
      have h9 := (hat 0 (by omega)).trans hx0
      rw [add_at, add_at] at h9
      exact lt_at h9
    refine ⟨b, off, rfl, hb, fun j hj => ?_⟩
    have hjl : j < l := by simpa using hj
    obtain ⟨xs, hat, hs⟩ := hf j hjl
    have e : ∀ i, ((⟨b, off, none⟩ : Addr).add (j * 8)).add i = ⟨b, off + j * 8 + i, none⟩ := fun i => by rw [add_at, add_at]
    have hg : ((List.range l).map f).getD j default = f j := by simp [List.getD, hjl]
    rw [hg]
    exact ⟨xs, hs, fun i hi => by rw [← e]; exact hat i hi⟩
end
/-- a step in a slice, in the walk's words -/
theorem DzAt.parts {w : World} {b off : Nat} {d : Dz} (h : DzAt w b off d) : (w.cell? ⟨b, off, none⟩ = some (.int .i64 d.kind) ∧ w.cell? ⟨b, off + 1, none⟩ = some (.int .i64 d.wait) ∧ w.cell? ⟨b, off + 2, none⟩ = some (.int .u32 d.a.1) ∧ w.cell? ⟨b, off + 3, none⟩ = some (.int .i64 d.a.2) ∧ w.cell? ⟨b, off + 4, none⟩ = some (.int .u32 d.b.1) ∧ w.cell? ⟨b, off + 5, none⟩ = some (.int .i64 d.b.2) ∧ w.cell? ⟨b, off + 6, none⟩ = some (.int .i64 d.port) ∧ w.cell? ⟨b, off + 7, none⟩ = some (.int .i64 d.till)) ∧ W64 d.kind ∧ W64 d.wait ∧ isA d.a ∧ isA d.b ∧ W64 d.port ∧ W64 d.till := by
  obtain ⟨xs, ⟨rfl, h1⟩, h2⟩ := h
  exact ⟨⟨h2 0 (by omega), h2 1 (by omega), h2 2 (by omega), h2 3 (by omega), h2 4 (by omega), h2 5 (by omega), h2 6 (by omega), h2 7 (by omega)⟩, h1⟩
theorem DzAt.below {w w' : World} {b off : Nat} {d : Dz} (h : DzAt w b off d) (hb : Below w.heap.size w w') : DzAt w' b off d := by
  have hl := lt_at h.parts.1.1
  obtain ⟨xs, h1, h2⟩ := h
  exact ⟨xs, h1, fun i hi => (hb.cell (p := ⟨b, off + i, none⟩) hl).trans (h2 i hi)⟩
theorem IsDzs.below {w w' : World} {v : Value} {ds : List Dz} (h : IsDzs w v ds) (hb : Below w.heap.size w w') : IsDzs w' v ds := by
  obtain ⟨A, c, rfl, h1, h2, h3⟩ := h
  refine ⟨A, c, rfl, h1, h2, fun h => ?_⟩
  obtain ⟨b, off, rfl, h4, h5⟩ := h3 h
  exact ⟨b, off, rfl, Nat.lt_of_lt_of_le h4 hb.size, fun j hj => (h5 j hj).below hb⟩
end Go.Proofs.Ytcfbnepcinlheaa
