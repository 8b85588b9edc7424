/-
  Inputs of the laws read as plain data: a lease, a bool, two bools, bytes. Conditions: as each lemma states.
-/
import Derived.Test.YtfaekiopmfnpkaaQAwk
import Derived.Test.YtfaekiopmfnpkaaQRred
import Derived.ShutString
namespace Go.Proofs.Ytfaekiopmfnpkaa.Pp
open Go.RowKit Go.ChangeShapes
set_option linter.unusedVariables false

def IsLe (w : World) (v : Value) (l : Le) : Prop := v = leV l ∧ isL l
def IsTxt (w : World) (v : Value) (zs : List Int) : Prop := Row w v zs
def IsFlag (w : World) (v : Value) (b : Bool) : Prop := v = .bool b
def IsFlags (w : World) (v : Value) (b : Bool × Bool) : Prop := v = .agg #[.bool b.1, .bool b.2]
section
variable {H : Type} {enc : TypeId × Value → H} {W : World}
set_option maxRecDepth 100000 in
theorem open_flag {r : Reach} {b0 : Nat} {v : Value} {d : DataW H} {p : List MemPlace} (hv : Value.okWide Try.prog W r b0 4 v) (h : DataW.Trod enc Try.prog W 0 (fun _ => true) true 4 v d p) : ∃ s, IsFlag W v s := by
  obtain ⟨b, rfl, _⟩ := open_bool Try.underlying4 hv h
  exact ⟨b, rfl⟩
set_option maxRecDepth 100000 in
set_option maxHeartbeats 1000000 in
theorem open_le {r : Reach} {b0 : Nat} {v : Value} {d : DataW H} {p : List MemPlace} (hv : Value.okWide Try.prog W r b0 36 v) (h : DataW.Trod enc Try.prog W 0 (fun _ => true) true  36 v d p) : ∃ s, IsLe W v s := by
  obtain ⟨cs, rfl, hsz⟩ := Go.WideShapes.okWide_struct Try.underlying36 hv
  have hsz2 : cs.toList.length = 8 := by rw [Array.length_toList]; exact hsz.trans (by kernel_rfl)
  obtain ⟨c0, c1, c2, c3, c4, c5, c6, c7, rfl⟩ : ∃ c0 c1 c2 c3 c4 c5 c6 c7, cs = #[c0, c1, c2, c3, c4, c5, c6, c7] := by
    match h : cs.toList, hsz2 with
    | [c0, c1, c2, c3, c4, c5, c6, c7], _ => exact ⟨c0, c1, c2, c3, c4, c5, c6, c7, by rw [← Array.toArray_toList (xs := cs), h]⟩
  obtain ⟨fuel, hf⟩ := h
  obtain ⟨xs, n, _, _, hl, hlen, hx⟩ := DataW.trod_struct Try.underlying36 hf
  have k3 : Try.prog.cellsOf 3 = 1 := by kernel_rfl
  have k22 : Try.prog.cellsOf 23 = 1 := by kernel_rfl
  have k23 : Try.prog.cellsOf 22 = 1 := by kernel_rfl
  match xs, hlen with
  | [y0, y1, y2, y3, y4, y5, y6, y7], _ =>
    have h0 : DataW.trod enc Try.prog W 0 (fun _ => true) true n 3 [c0] = some y0 := by simpa [k3, Value.cells] using hx 0 _ rfl
    have h1 : DataW.trod enc Try.prog W 0 (fun _ => true) true n 3 [c1] = some y1 := by simpa [k3, Value.cells] using hx 1 _ rfl
    have h2 : DataW.trod enc Try.prog W 0 (fun _ => true) true n 3 [c2] = some y2 := by simpa [k3, Value.cells] using hx 2 _ rfl
    have h3 : DataW.trod enc Try.prog W 0 (fun _ => true) true n 3 [c3] = some y3 := by simpa [k3, Value.cells] using hx 3 _ rfl
    have h4 : DataW.trod enc Try.prog W 0 (fun _ => true) true n 23 [c4] = some y4 := by simpa [k22, Value.cells] using hx 4 _ rfl
    have h5 : DataW.trod enc Try.prog W 0 (fun _ => true) true n 3 [c5] = some y5 := by simpa [k3, Value.cells] using hx 5 _ rfl
    have h6 : DataW.trod enc Try.prog W 0 (fun _ => true) true n 3 [c6] = some y6 := by simpa [k3, Value.cells] using hx 6 _ rfl
    have h7 : DataW.trod enc Try.prog W 0 (fun _ => true) true n 22 [c7] = some y7 := by simpa [k23, Value.cells] using hx 7 _ rfl
    obtain ⟨a0, e0, _, p0⟩ := DataW.trod_int Try.underlying3 h0
    obtain ⟨a1, e1, _, p1⟩ := DataW.trod_int Try.underlying3 h1
    obtain ⟨a2, e2, _, p2⟩ := DataW.trod_int Try.underlying3 h2
    obtain ⟨a3, e3, _, p3⟩ := DataW.trod_int Try.underlying3 h3
    obtain ⟨a4, e4, _, p4⟩ := DataW.trod_int Try.underlying23 h4
    obtain ⟨a5, e5, _, p5⟩ := DataW.trod_int Try.underlying3 h5
    obtain ⟨a6, e6, _, p6⟩ := DataW.trod_int Try.underlying3 h6
    obtain ⟨a7, e7, _, p7⟩ := DataW.trod_int Try.underlying22 h7
    simp only [List.cons.injEq, and_true] at e0 e1 e2 e3 e4 e5 e6 e7
    refine ⟨⟨a0, a1, a2, a3, a4, a5, a6, a7⟩, by rw [e0, e1, e2, e3, e4, e5, e6, e7]; rfl, ?_⟩
    have q0 := bounds_i64 p0
    have q1 := bounds_i64 p1
    have q2 := bounds_i64 p2
    have q3 := bounds_i64 p3
    have q4 := bounds_u64 p4
    have q5 := bounds_i64 p5
    have q6 := bounds_i64 p6
    have q7 := bounds_u32 p7
    constructor <;> simp only [W64] <;> omega
theorem okWide_arr {P : Program} {t e : TypeId} {n : Nat} {w : World} {r : Reach} {b : Nat} {v : Value} (ht : P.underlying t = some (.array n e)) (h : Value.okWide P w r b t v) : ∃ cs, v = .agg cs ∧ cs.size = P.cellsOf t := by
  simp only [Value.okWide, ht] at h
  obtain ⟨cs, h1, h2, _⟩ := h
  exact ⟨cs, h1, h2⟩
set_option maxRecDepth 100000 in
theorem open_txt {r : Reach} {b0 : Nat} {v : Value} {d : DataW H} {p : List MemPlace} (hv : Value.okWide Try.prog W r b0 38 v) (h : DataW.Trod enc Try.prog W 0 (fun _ => true) true  38 v d p) : ∃ zs, IsTxt W v zs := by
  obtain ⟨A, l, c, rfl⟩ := WideShapes.okWide_slice Try.underlying38 hv
  obtain ⟨fuel, hf⟩ := h
  rcases Go.ChangeShapes.open_ints Try.underlying38 Try.underlying5 (by kernel_rfl) hf with ⟨hcs, _⟩ | ⟨x, l, c, zs, hcs, _, hl, hm, hz, _, hcell, hwz⟩
  · simp [Value.cells] at hcs
    obtain ⟨rfl, rfl, rfl⟩ := hcs
    exact ⟨[], none, 0, rfl, ⟨rfl, by simp, fun h => by simp at h⟩, Nat.le_refl _, Nat.zero_le _, fun _ => ⟨rfl, rfl⟩⟩
  · simp [Value.cells] at hcs
    obtain ⟨rfl, rfl, rfl⟩ := hcs
    have hr : IsRow .u8 W (some x) _ _ zs := .inr ⟨_, rfl, hl, hm, by simpa using hz, hcell, hwz⟩
    obtain ⟨h1, h2, h3⟩ := bts_of_row hr
    have e := h1.len
    exact ⟨_, some x, _, by rw [e], by rw [e]; exact h1, by rw [e]; exact h2, h3, by intro h; cases h⟩
/-- a slice that came in reads as bytes -/
theorem row_of {w : World} {a : Option Addr} {len cap : Nat} {zs : List Int} (h : IsRow .u8 w a len cap zs) : Row w (.slice a len cap) (zs.take len) := by
  obtain ⟨h1, h2, h3⟩ := bts_of_row h
  have hl := h1.len
  exact ⟨a, cap, by rw [hl], by rw [hl]; exact h1, by omega, h3, fun e => by rw [hl]; exact nil_of_row h e⟩
end
end Go.Proofs.Ytfaekiopmfnpkaa.Pp
