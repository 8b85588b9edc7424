/-
  Bytes that came in. Conditions: as each states.
-/
import Derived.Test.YtebgfiibcmnfnaaDoorRFrom
namespace Go.Proofs.YtebgfiibcmnfnaaDoor
open Go.RowKit
set_option linter.unusedVariables false

def IsTxt (w : World) (v : Value) (zs : List Int) : Prop := ∃ A n c, v = .slice A n c ∧ Bts w A n zs ∧ n ≤ c ∧ c ≤ maxLen ∧ (A = none → n = 0 ∧ c = 0)
section
variable {H : Type} {enc : TypeId × Value → H} {W : World}
theorem open_txt {r : Reach} {b0 : Nat} {v : Value} {d : DataW H} {p : List MemPlace} (hv : Value.okWide Tryd.prog W r b0 24 v) (h : DataW.Trod enc Tryd.prog W 0 (fun _ => true) true 24 v d p) : ∃ zs, IsTxt W v zs := by
  obtain ⟨A, l, c, rfl⟩ := WideShapes.okWide_slice Tryd.underlying24 hv
  obtain ⟨fuel, hf⟩ := h
  rcases Go.ChangeShapes.open_ints Tryd.underlying24 Tryd.underlying5 (by kernel_rfl) hf with ⟨hcs, _⟩ | ⟨x, l, c, zs, hcs, _, hl, hm, hz, _, hcell, hwz⟩
  · simp [Value.cells] at hcs
    obtain ⟨rfl, rfl, rfl⟩ := hcs
    exact ⟨[], none, 0, 0, rfl, ⟨rfl, by simp, fun h => by omega⟩, Nat.le_refl _, Nat.zero_le _, fun _ => ⟨rfl, rfl⟩⟩
  · simp [Value.cells] at hcs
    obtain ⟨rfl, rfl, rfl⟩ := hcs
    have hr : IsRow .u8 W (some x) _ _ zs := .inr ⟨_, rfl, hl, hm, by simpa using hz, hcell, hwz⟩
    obtain ⟨h1, h2, h3⟩ := bts_of_row hr
    exact ⟨_, _, _, _, rfl, h1, h2, h3, by intro h; cases h⟩
end
theorem ans_none {w w' : World} {zs : List Int} {e : Ending} (h : ReadAns w zs e w') (hr : Wi.read zs = none) : ∃ x1 x2 x3, e = .returned (.tuple #[.agg #[.int .i64 noMsg.kind, x1, x2, x3], .int .i64 3]) ∧ MsgV w' x1 x2 x3 noMsg ∧ Below w.heap.size w w' := by
  obtain ⟨m, x1, x2, x3, hv, hb, ⟨_, h2⟩ | ⟨rfl, _, rfl⟩⟩ := h
  · rw [hr] at h2; cases h2
  · exact ⟨x1, x2, x3, rfl, hv, hb⟩
theorem ans_some {w w' : World} {zs : List Int} {e : Ending} {m : Wi.Msg} (h : ReadAns w zs e w') (hr : Wi.read zs = some m) : ∃ x1 x2 x3, e = .returned (.tuple #[.agg #[.int .i64 m.kind, x1, x2, x3], .int .i64 0]) ∧ MsgV w' x1 x2 x3 m ∧ Below w.heap.size w w' := by
  obtain ⟨m', x1, x2, x3, hv, hb, ⟨rfl, h2⟩ | ⟨_, h2, _⟩⟩ := h
  · rw [hr] at h2; cases h2
    exact ⟨x1, x2, x3, rfl, hv, hb⟩
  · rw [hr] at h2; cases h2
end Go.Proofs.YtebgfiibcmnfnaaDoor
