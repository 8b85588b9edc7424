/-
  Inputs of the laws read as plain data: a plan, a step, a row of steps, two ints, two numbers of 16 bits. Conditions: as each lemma states.
-/
import Derived.Test.YtidhdgcmagpkgaaWz
import Derived.Test.YtidhdgcmagpkgaaOin
namespace Go.Proofs.Ytidhdgcmagpkgaa
open Go.RowKit Go.ChangeShapes
set_option linter.unusedVariables false

/-- a plan, as plain data -/
structure Pn where
  bx : List Bx
  bh : List Int
  hs : List St
/-- a plan's three values -/
structure PlanV (w : World) (p : Pn) (A0 A1 A2 : Option Addr) (c0 c1 c2 : Nat) : Prop where
  b : BAt w A0 p.bx
  i : IAt w A1 p.bh
  s : SAt w A2 p.hs
  nil : A2 = none → p.hs = [] ∧ c2 = 0
  lb : p.bx.length ≤ c0 ∧ c0 ≤ maxLen
  li : p.bh.length ≤ c1 ∧ c1 ≤ maxLen
  ls : p.hs.length ≤ c2 ∧ c2 ≤ maxLen
  ib : ∀ x ∈ p.bx, isBx x
  is : ∀ s ∈ p.hs, isS s
def IsPlan (w : World) (v : Value) (p : Pn) : Prop := ∃ A0 A1 A2 c0 c1 c2, v = .agg #[.slice A0 p.bx.length c0, .slice A1 p.bh.length c1, .slice A2 p.hs.length c2] ∧ PlanV w p A0 A1 A2 c0 c1 c2
section
variable {H : Type} {enc : TypeId × Value → H} {W : World}
theorem trod_i {n : Nat} {x0 : Value} {y : DataW H × List MemPlace} (h : DataW.trod enc Try.prog W 0 (fun _ => true) true n 3 [x0] = some y) : ∃ z : Int, x0 = .int .i64 z ∧ W64 z := by
  obtain ⟨b0, e0, _, p0⟩ := DataW.trod_int Try.underlying3 h
  simp only [List.cons.injEq, and_true] at e0
  subst e0
  exact ⟨b0, rfl, bounds_i64 p0⟩
theorem trod_u {n : Nat} {x0 : Value} {y : DataW H × List MemPlace} (h : DataW.trod enc Try.prog W 0 (fun _ => true) true n 34 [x0] = some y) : ∃ z : Int, x0 = .int .u32 z ∧ 0 ≤ z ∧ z < 4294967296 := by
  obtain ⟨b0, e0, _, p0⟩ := DataW.trod_int Try.underlying34 h
  simp only [List.cons.injEq, and_true] at e0
  subst e0
  have := bounds_u32 p0
  exact ⟨b0, rfl, this.1, by omega⟩
theorem cell1 : Try.prog.cellsOf 3 = 1 ∧ Try.prog.cellsOf 34 = 1 := ⟨by kernel_rfl, by kernel_rfl⟩
set_option maxRecDepth 100000 in
theorem open_bs {n : Nat} {v : Value} {y : DataW H × List MemPlace} (h : DataW.trod enc Try.prog W 0 (fun _ => true) true n 22 [v] = some y) : ∃ A l c, v = .slice A l.length c ∧ BAt W A l ∧ (l.length ≤ c ∧ c ≤ maxLen) ∧ ∀ x ∈ l, isBx x := by
  rcases Deep.open_slice Try.underlying22 h with ⟨hcs, _⟩ | ⟨a, l, c, m, n, D, Pl, hcs, _, hl, hm, hmm, _, hi⟩
  · simp at hcs
    subst hcs
    exact ⟨none, [], 0, rfl, fun h => by simp at h, ⟨Nat.le_refl _, Nat.zero_le _⟩, by simp⟩
  · simp at hcs
    subst hcs
    have hmc : m = c := by simpa using hmm
    subst hmc
    have hall : ∀ j, ∃ s : Bx, isBx s ∧ (j < l → ∀ i, i < 7 → W.cell? ((a.add (j * 7)).add i) = (boxCells s)[i]?) := fun j => by
      by_cases hj : j < l
      · obtain ⟨cs, hc, ht⟩ := hi j (by omega)
        obtain ⟨_, hlen, hat⟩ := World.cells?_some hc
        have h2 : Try.prog.cellsOf 55 = 7 := by kernel_rfl
        rw [h2] at hlen hat
        obtain ⟨e3, e22⟩ := cell1
        match cs, hlen with
        | [x0, x1, x2, x3, x4, x5, x6], _ =>
          obtain ⟨ys, k, _, _, _, hlen2, hel2⟩ := DataW.trod_struct Try.underlying55 ht
          match ys, hlen2 with
          | [z0, z1, z2, z3, z4, z5, z6], _ =>
            have f0 : DataW.trod enc Try.prog W 0 (fun _ => true) true k 34 (([x0, x1, x2, x3, x4, x5, x6].drop 0).take (Try.prog.cellsOf 34)) = some z0 := hel2 0 _ rfl
            have f1 : DataW.trod enc Try.prog W 0 (fun _ => true) true k 3 (([x0, x1, x2, x3, x4, x5, x6].drop 1).take (Try.prog.cellsOf 3)) = some z1 := hel2 1 _ rfl
            have f2 : DataW.trod enc Try.prog W 0 (fun _ => true) true k 3 (([x0, x1, x2, x3, x4, x5, x6].drop 2).take (Try.prog.cellsOf 3)) = some z2 := hel2 2 _ rfl
            have f3 : DataW.trod enc Try.prog W 0 (fun _ => true) true k 3 (([x0, x1, x2, x3, x4, x5, x6].drop 3).take (Try.prog.cellsOf 3)) = some z3 := hel2 3 _ rfl
            have f4 : DataW.trod enc Try.prog W 0 (fun _ => true) true k 3 (([x0, x1, x2, x3, x4, x5, x6].drop 4).take (Try.prog.cellsOf 3)) = some z4 := hel2 4 _ rfl
            have f5 : DataW.trod enc Try.prog W 0 (fun _ => true) true k 3 (([x0, x1, x2, x3, x4, x5, x6].drop 5).take (Try.prog.cellsOf 3)) = some z5 := hel2 5 _ rfl
            have f6 : DataW.trod enc Try.prog W 0 (fun _ => true) true k 3 (([x0, x1, x2, x3, x4, x5, x6].drop 6).take (Try.prog.cellsOf 3)) = some z6 := hel2 6 _ rfl
            rw [e22] at f0; rw [e3] at f1 f2 f3 f4 f5 f6
            obtain ⟨b0, rfl, p0⟩ := trod_u f0
            obtain ⟨b1, rfl, p1⟩ := trod_i f1
            obtain ⟨b2, rfl, p2⟩ := trod_i f2
            obtain ⟨b3, rfl, p3⟩ := trod_i f3
            obtain ⟨b4, rfl, p4⟩ := trod_i f4
            obtain ⟨b5, rfl, p5⟩ := trod_i f5
            obtain ⟨b6, rfl, p6⟩ := trod_i f6
            refine ⟨⟨b0, b1, b2, b3, b4, b5, b6⟩, ⟨p0, p1, p2, p3, p4, p5, p6⟩, fun _ i hi => ?_⟩
            rw [hat i hi]
            match i, hi with
            | 0, _ => rfl
            | 1, _ => rfl
            | 2, _ => rfl
            | 3, _ => rfl
            | 4, _ => rfl
            | 5, _ => rfl
            | 6, _ => rfl
      · exact ⟨⟨0, 0, 0, 0, 0, 0, 0⟩, by unfold isBx W64; simp, fun h => absurd h hj⟩
    obtain ⟨f, hf⟩ := Classical.axiomOfChoice hall
    have e : ((List.range l).map f).length = l := by simp
    refine ⟨some a, (List.range l).map f, m, by rw [e], fun hp => ?_, ⟨by rw [e]; simpa using hl, hm⟩, fun x hx => ?_⟩
    · rw [e] at hp
      obtain ⟨b, off, spot⟩ := a
      have h9 : W.cell? (((⟨b, off, spot⟩ : Addr).add (0 * 7)).add 0) = some (.int .u32 (f 0).host) := (hf 0).2 hp 0 (by omega)
      have h8 := World.cell?_spot h9
      have hspot : spot = none := by simpa [Addr.add] using h8
      subst hspot
      refine ⟨b, off, rfl, ?_, fun j x hj i hi => ?_⟩
      · rw [add_spot, add_spot] at h9
        exact lt_of_cell h9
      · have hjl : j < l := by have := (List.getElem?_eq_some_iff.1 hj).1; simpa using this
        have hz : x = f j := by
          rw [List.getElem?_map, List.getElem?_range hjl] at hj
          simpa using hj.symm
        have h1 := (hf j).2 hjl i hi
        rw [add_spot, add_spot] at h1
        rw [hz, h1]
    · obtain ⟨j, _, rfl⟩ := List.mem_map.1 hx
      exact (hf j).1
set_option maxRecDepth 100000 in
theorem open_ss {n : Nat} {v : Value} {y : DataW H × List MemPlace} (h : DataW.trod enc Try.prog W 0 (fun _ => true) true n 24 [v] = some y) : ∃ A l c, v = .slice A l.length c ∧ SAt W A l ∧ (l.length ≤ c ∧ c ≤ maxLen) ∧ (A = none → l = [] ∧ c = 0) ∧ ∀ x ∈ l, isS x := by
  rcases Deep.open_slice Try.underlying24 h with ⟨hcs, _⟩ | ⟨a, l, c, m, n, D, Pl, hcs, _, hl, hm, hmm, _, hi⟩
  · simp at hcs
    subst hcs
    exact ⟨none, [], 0, rfl, fun h => by simp at h, ⟨Nat.le_refl _, Nat.zero_le _⟩, fun _ => ⟨rfl, rfl⟩, by simp⟩
  · simp at hcs
    subst hcs
    have hmc : m = c := by simpa using hmm
    subst hmc
    have hall : ∀ j, ∃ s : St, isS s ∧ (j < l → (W.cell? ((a.add (j * 2)).add 0) = some (.int .u32 s.1) ∧ W.cell? ((a.add (j * 2)).add 1) = some (.int .i64 s.2))) := fun j => by
      by_cases hj : j < l
      · obtain ⟨cs, hc, ht⟩ := hi j (by omega)
        obtain ⟨_, hlen, hat⟩ := World.cells?_some hc
        have h2 : Try.prog.cellsOf 42 = 2 := by kernel_rfl
        rw [h2] at hlen hat
        obtain ⟨e3, e22⟩ := cell1
        match cs, hlen with
        | [x0, x1], _ =>
          obtain ⟨ys, k, _, _, _, hlen2, hel2⟩ := DataW.trod_struct Try.underlying42 ht
          match ys, hlen2 with
          | [z0, z1], _ =>
            have f0 : DataW.trod enc Try.prog W 0 (fun _ => true) true k 34 (([x0, x1].drop 0).take (Try.prog.cellsOf 34)) = some z0 := hel2 0 _ rfl
            have f1 : DataW.trod enc Try.prog W 0 (fun _ => true) true k 3 (([x0, x1].drop 1).take (Try.prog.cellsOf 3)) = some z1 := hel2 1 _ rfl
            rw [e22] at f0; rw [e3] at f1
            obtain ⟨b0, rfl, p0⟩ := trod_u f0
            obtain ⟨b1, rfl, p1⟩ := trod_i f1
            exact ⟨(b0, b1), ⟨p0, p1⟩, fun _ => ⟨by rw [hat 0 (by omega)]; rfl, by rw [hat 1 (by omega)]; rfl⟩⟩
      · exact ⟨(0, 0), ⟨⟨by simp, by simp⟩, by simp, by simp⟩, fun h => absurd h hj⟩
    obtain ⟨f, hf⟩ := Classical.axiomOfChoice hall
    have e : ((List.range l).map f).length = l := by simp
    refine ⟨some a, (List.range l).map f, m, by rw [e], fun hp => ?_, ⟨by rw [e]; simpa using hl, hm⟩, (by intro h; cases h), fun x hx => ?_⟩
    · rw [e] at hp
      obtain ⟨b, off, spot⟩ := a
      have h9 := ((hf 0).2 hp).1
      have h8 := World.cell?_spot h9
      have hspot : spot = none := by simpa [Addr.add] using h8
      subst hspot
      refine ⟨b, off, rfl, ?_, fun j x hj => ?_⟩
      · rw [add_spot, add_spot] at h9
        exact lt_of_cell h9
      · have hjl : j < l := by have := (List.getElem?_eq_some_iff.1 hj).1; simpa using this
        have hz : x = f j := by
          rw [List.getElem?_map, List.getElem?_range hjl] at hj
          simpa using hj.symm
        have h1 := (hf j).2 hjl
        rw [add_spot, add_spot, add_spot] at h1
        rw [hz]
        exact h1
    · obtain ⟨j, _, rfl⟩ := List.mem_map.1 hx
      exact (hf j).1
theorem open_is {n : Nat} {v : Value} {y : DataW H × List MemPlace} (h : DataW.trod enc Try.prog W 0 (fun _ => true) true n 23 [v] = some y) : ∃ A l c, v = .slice A l.length c ∧ IAt W A l ∧ (l.length ≤ c ∧ c ≤ maxLen) := by
  rcases Go.ChangeShapes.open_ints Try.underlying23 Try.underlying3 (by kernel_rfl) h with ⟨hcs, _⟩ | ⟨x, l, c, zs, hcs, _, hl, hm, hz, _, hcell, hwz⟩
  · simp at hcs
    subst hcs
    exact ⟨none, [], 0, rfl, fun h => by simp at h, Nat.le_refl _, Nat.zero_le _⟩
  · simp at hcs
    subst hcs
    have hzl : zs.length = c := by simpa using hz
    have e : (zs.take l).length = l := by simp; omega
    refine ⟨some x, zs.take l, c, by rw [e], fun hp => ?_, by rw [e]; exact hl, hm⟩
    rw [e] at hp
    obtain ⟨b, off, spot⟩ := x
    have h9 := hcell 0 (by omega)
    have h8 := World.cell?_spot h9
    have hspot : spot = none := by simpa [Addr.add] using h8
    subst hspot
    refine ⟨b, off, rfl, ?_, fun j z hj => ?_⟩
    · rw [add_spot] at h9
      exact lt_of_cell h9
    · have hjl : j < l := by have := (List.getElem?_eq_some_iff.1 hj).1; omega
      have hc := hcell j (by omega)
      rw [add_spot] at hc
      rw [hc]
      rw [List.getElem?_take_of_lt hjl] at hj
      simp [List.getD, hj]
set_option maxRecDepth 100000 in
theorem open_plan {r : Reach} {b0 : Nat} {v : Value} {d : DataW H} {p : List MemPlace} (hv : Value.okWide Try.prog W r b0 26 v) (h : DataW.Trod enc Try.prog W 0 (fun _ => true) true  26 v d p) : ∃ s, IsPlan W v s := by
  obtain ⟨x0, x1, x2, y0, y1, y2, n, rfl, _, _, h0, h1, h2⟩ := Joins.open_agg3 Try.underlying26 (by kernel_rfl) (by kernel_rfl) hv h
  obtain ⟨A0, l0, c0, rfl, a1, a2, a3⟩ := open_bs h0
  obtain ⟨A1, l1, c1, rfl, b1, b2⟩ := open_is h1
  obtain ⟨A2, l2, c2, rfl, d1, d2, d3, d4⟩ := open_ss h2
  exact ⟨⟨l0, l1, l2⟩, A0, A1, A2, c0, c1, c2, rfl, a1, b1, d1, d3, a2, b2, d2, a3, d4⟩
end
end Go.Proofs.Ytidhdgcmagpkgaa
