/-
  Inputs of the laws read as plain data: an address, two addresses, a row of addresses, a row of bytes. Conditions: as each lemma states.
-/
import Derived.WalkKit
import Derived.ProofKit
import Derived.OpenShut
import Derived.ShutString
import Derived.ChangeOld
import Derived.Lib.SmallJoins
import Derived.Deep.Slices
import Derived.Test.YtidhdgcmagpkgaaAwk
namespace Go.Proofs.Ytidhdgcmagpkgaa
open Go.RowKit Go.ChangeShapes
set_option linter.unusedVariables false

def IsAdr (w : World) (v : Value) (a : A2) : Prop := v = adr a ∧ isA a
def IsEnd (w : World) (v : Value) (s : A2 × A2) : Prop := v = .agg #[.int .u32 s.1.1, .int .i64 s.1.2, .int .u32 s.2.1, .int .i64 s.2.2] ∧ isA s.1 ∧ isA s.2
def IsBys (w : World) (v : Value) (zs : List Int) : Prop := ∃ A cap, v = .slice A zs.length cap ∧ zs.length ≤ cap ∧ cap ≤ maxLen ∧ (0 < zs.length → ∃ b off, A = some ⟨b, off, none⟩ ∧ b < w.heap.size ∧ ∀ (j : Nat) (z : Int), zs[j]? = some z → w.cell? ⟨b, off + j, none⟩ = some (.int .u8 z)) ∧ ∀ z ∈ zs, 0 ≤ z ∧ z ≤ 255
def IsAdrs (w : World) (v : Value) (l : List A2) : Prop := ∃ A cap, v = .slice A l.length cap ∧ l.length ≤ cap ∧ cap ≤ maxLen ∧ (0 < l.length → ∃ b off, A = some ⟨b, off, none⟩ ∧ b < w.heap.size ∧ ∀ (j : Nat) (a : A2), l[j]? = some a → w.cell? ⟨b, off + j * 2, none⟩ = some (.int .u32 a.1) ∧ w.cell? ⟨b, off + j * 2 + 1, none⟩ = some (.int .i64 a.2)) ∧ ∀ a ∈ l, isA a
section
variable {H : Type} {enc : TypeId × Value → H} {W : World}
theorem adr_of {n : Nat} {x0 x1 : Value} {y0 y1 : DataW H × List MemPlace} (h0 : DataW.trod enc Try.prog W 0 (fun _ => true) true n 34 [x0] = some y0) (h1 : DataW.trod enc Try.prog W 0 (fun _ => true) true n 3 [x1] = some y1) : ∃ a : A2, x0 = .int .u32 a.1 ∧ x1 = .int .i64 a.2 ∧ isA a := by
  obtain ⟨a, e0, _, p0⟩ := DataW.trod_int Try.underlying34 h0
  obtain ⟨b, e1, _, p1⟩ := DataW.trod_int Try.underlying3 h1
  simp only [List.cons.injEq, and_true] at e0 e1
  have ha := bounds_u32 p0
  have hb := bounds_i64 p1
  exact ⟨(a, b), e0, e1, ⟨ha.1, by simp only; omega⟩, hb.1, hb.2⟩
set_option maxRecDepth 100000 in
theorem open_adr {r : Reach} {b0 : Nat} {v : Value} {d : DataW H} {p : List MemPlace} (hv : Value.okWide Try.prog W r b0 36 v) (h : DataW.Trod enc Try.prog W 0 (fun _ => true) true  36 v d p) : ∃ s, IsAdr W v s := by
  obtain ⟨x0, x1, y0, y1, n, rfl, _, _, h0, h1⟩ := Joins.open_agg2 Try.underlying36 (by kernel_rfl) (by kernel_rfl) hv h
  obtain ⟨a, e0, e1, ha⟩ := adr_of h0 h1
  exact ⟨a, by rw [e0, e1]; rfl, ha⟩
theorem trod_struct2 {P : Program} {w : World} {base : Nat} {spare : Nat → Bool} {held : Bool} {t : TypeId} {f0 f1 : Field} {fuel : Nat} {cs : List Value} {x : DataW H × List MemPlace} (ht : P.underlying t = some (.struct #[f0, f1])) (h : DataW.trod enc P w base spare held fuel t cs = some x) :
    ∃ y0 y1 n, DataW.trod enc P w base spare held n f0.type ((cs.drop f0.offset).take (P.cellsOf f0.type)) = some y0 ∧ DataW.trod enc P w base spare held n f1.type ((cs.drop f1.offset).take (P.cellsOf f1.type)) = some y1 := by
  obtain ⟨xs, n, _, rfl, hl, hlen, hf⟩ := DataW.trod_struct ht h
  match xs, hlen with
  | [y0, y1], _ => exact ⟨y0, y1, n, by simpa using hf 0 f0 rfl, by simpa using hf 1 f1 rfl⟩
theorem okWide_arr {P : Program} {t e : TypeId} {n : Nat} {w : World} {r : Reach} {b : Nat} {v : Value} (ht : P.underlying t = some (.array n e)) (h : Value.okWide P w r b t v) : ∃ cs, v = .agg cs ∧ cs.size = P.cellsOf t := by
  simp only [Value.okWide, ht] at h
  obtain ⟨cs, h1, h2, _⟩ := h
  exact ⟨cs, h1, h2⟩
set_option maxRecDepth 100000 in
theorem open_adrs {r : Reach} {b0 : Nat} {v : Value} {d : DataW H} {p : List MemPlace} (hv : Value.okWide Try.prog W r b0 73 v) (h : DataW.Trod enc Try.prog W 0 (fun _ => true) true  73 v d p) : ∃ ds, IsAdrs W v ds := by
  obtain ⟨A, l, c, rfl⟩ := WideShapes.okWide_slice Try.underlying73 hv
  obtain ⟨fuel, hf⟩ := h
  rcases Deep.open_slice Try.underlying73 hf with ⟨hcs, _⟩ | ⟨a, len, cap, m, n, D, Pl, hcs, _, hl, hm, hmm, _, hi⟩
  · simp [Value.cells] at hcs
    obtain ⟨rfl, rfl, rfl⟩ := hcs
    exact ⟨[], none, 0, rfl, Nat.le_refl _, Nat.zero_le _, fun h => by simp at h, by simp⟩
  · simp [Value.cells] at hcs
    obtain ⟨rfl, rfl, rfl⟩ := hcs
    have hmc : m = c := by simpa using hmm
    subst hmc
    have hall : ∀ j, ∃ s : A2, isA s ∧ (j < l → (W.cell? ((a.add (j * 2)).add 0) = some (.int .u32 s.1) ∧ W.cell? ((a.add (j * 2)).add 1) = some (.int .i64 s.2))) := fun j => by
      by_cases hj : j < l
      · obtain ⟨cs, hc, ht⟩ := hi j (by omega)
        obtain ⟨_, hlen, hat⟩ := World.cells?_some hc
        have h4 : Try.prog.cellsOf 36 = 2 := by kernel_rfl
        rw [h4] at hlen hat
        match cs, hlen with
        | [x0, x1], _ =>
          obtain ⟨y0, y1, n', h0, h1⟩ := trod_struct2 Try.underlying36 ht
          have c3 : Try.prog.cellsOf 3 = 1 := by kernel_rfl
          have c22 : Try.prog.cellsOf 34 = 1 := by kernel_rfl
          simp only [c3, c22, List.drop_zero, List.drop_succ_cons, List.take_succ_cons, List.take_zero] at h0 h1
          obtain ⟨z, e0, e1, hz⟩ := adr_of h0 h1
          exact ⟨z, hz, fun _ => ⟨by rw [hat 0 (by omega), e0]; rfl, by rw [hat 1 (by omega), e1]; rfl⟩⟩
      · exact ⟨(0, 0), ⟨⟨by simp, by simp⟩, by simp, by simp⟩, fun h => absurd h hj⟩
    obtain ⟨f, hf⟩ := Classical.axiomOfChoice hall
    refine ⟨(List.range l).map f, some a, m, by simp, by simpa using hl, hm, fun hpos => ?_, fun z hz => ?_⟩
    · have hl0 : 0 < l := by simpa using hpos
      obtain ⟨b, off, spot⟩ := a
      have h0 := (hf 0).2 hl0
      have h9 := h0.1
      have h8 := World.cell?_spot h9
      have hspot : spot = none := by simpa [Addr.add] using h8
      subst hspot
      have hb : b < W.heap.size := by
        rw [add_spot, add_spot] at h9
        exact lt_of_cell h9
      refine ⟨b, off, rfl, hb, fun j z hj => ?_⟩
      have hjl : j < l := by have := (List.getElem?_eq_some_iff.1 hj).1; simpa using this
      have hz : z = f j := by
        rw [List.getElem?_map, List.getElem?_range hjl] at hj
        simpa using hj.symm
      have h1 := (hf j).2 hjl
      rw [hz]
      rw [add_spot, add_spot, add_spot] at h1
      exact h1
    · obtain ⟨j, _, rfl⟩ := List.mem_map.1 hz
      exact (hf j).1
end
end Go.Proofs.Ytidhdgcmagpkgaa
