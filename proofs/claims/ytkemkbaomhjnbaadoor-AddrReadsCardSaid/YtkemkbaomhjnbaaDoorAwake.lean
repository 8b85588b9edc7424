/-
  The contract of the statements' own 'awake': it answers true, and writes nothing that was there. No conditions.
-/
import Derived.Test.YtkemkbaomhjnbaaDoorPlace
import Derived.Test.YtkemkbaomhjnbaaDoorParse
namespace Go.Proofs.YtkemkbaomhjnbaaDoor
open Go.RowKit
set_option linter.unusedVariables false

def long1 : List UInt8 := [47, 105, 112, 52, 47, 49, 48, 46, 48, 46, 48, 46, 49, 47, 117, 100, 112, 47, 52, 48, 48, 49, 47, 112, 50, 112, 47, 55, 47, 112, 50, 112, 45, 99, 105, 114, 99, 117, 105, 116]
def long2 : List UInt8 := [47, 105, 112, 52, 47, 49, 48, 46, 48, 46, 48, 46, 49, 47, 117, 100, 112, 47, 48]
theorem long1_is : (parseL long1).map (fun s => (s.h, s.p, s.i, s.v)) = some (167772161, 4001, 7, true) := by decide +kernel
theorem long2_is : (parseL long2).isNone = true := by decide +kernel
theorem parse1 (w : World) : Calls Tryd.prog 23 #[.string ⟨#[47, 105, 112, 52, 47, 49, 48, 46, 48, 46, 48, 46, 49, 47, 117, 100, 112, 47, 52, 48, 48, 49, 47, 112, 50, 112, 47, 55, 47, 112, 50, 112, 45, 99, 105, 114, 99, 117, 105, 116]⟩] w fun e w' => e = .returned (.tuple #[.agg #[.int .u32 167772161, .int .i64 4001, .int .i64 7, .bool true], .int .i64 0]) ∧ Below w.heap.size w w' := by
  refine (parse_any long1 w (by decide)).mono fun e w' h => ⟨?_, h.2⟩
  rw [h.1]
  have := long1_is
  cases h1 : parseL long1 with
  | none => rw [h1] at this; cases this
  | some s =>
    rw [h1] at this
    simp only [Option.map_some, Option.some.injEq, Prod.mk.injEq] at this
    obtain ⟨a, b, c, d⟩ := this
    simp only [a, b, c, d]
    rfl
theorem parse2 (w : World) : Calls Tryd.prog 23 #[.string ⟨#[47, 105, 112, 52, 47, 49, 48, 46, 48, 46, 48, 46, 49, 47, 117, 100, 112, 47, 48]⟩] w fun e w' => e = .returned (.tuple #[.agg #[.int .u32 0, .int .i64 0, .int .i64 0, .bool false], .int .i64 3]) ∧ Below w.heap.size w w' := by
  refine (parse_any long2 w (by decide)).mono fun e w' h => ⟨?_, h.2⟩
  rw [h.1]
  have := long2_is
  cases h1 : parseL long2 with
  | none => rfl
  | some s => rw [h1] at this; cases this
theorem text12 (w : World) : Calls Tryd.prog 19 #[.agg #[.int .u32 1, .int .i64 2, .int .i64 0, .bool false]] w fun e w' => e = .returned (.string ⟨#[47, 105, 112, 52, 47, 48, 46, 48, 46, 48, 46, 49, 47, 117, 100, 112, 47, 50]⟩) ∧ Below w.heap.size w w' := by
  refine (text_ok 1 2 0 false w (by omega) (by omega) (by decide) ?_ (itoa_small w 2 (by omega) (by omega)) (fun h => (h rfl).elim)).mono fun e w' h => ⟨?_, h.2⟩
  · intro c hc
    have hc' : c = 0 ∨ c = 0 ∨ c = 0 ∨ c = 1 := by simpa [bytesA] using hc
    exact itoa_small w c (by omega) (by omega)
  · rw [h.1]
    have : textL 1 2 0 false = [47, 105, 112, 52, 47, 48, 46, 48, 46, 48, 46, 49, 47, 117, 100, 112, 47, 50] := by decide +kernel
    rw [this]
    rfl

set_option maxRecDepth 100000 in
set_option maxHeartbeats 2000000 in
theorem awake_any (w : World) : Calls Tryd.prog 9 #[] w fun e w' => e = .returned (.bool true) ∧ Below w.heap.size w w' := by
  go_enter Tryd.func9, Tryd.ntmps9
  go_wp2_with fail
  refine (parse1 _).mono ?_
  rintro e w1 ⟨rfl, hb1⟩
  have HB1 := Lib.hid hb1; clear hb1
  go_wp2_with fail
  refine (parse2 _).mono ?_
  rintro e w2 ⟨rfl, hb2⟩
  have HB2 := Lib.hid hb2
  have HS : Hid (w1.heap.size < w2.heap.size) := Lib.hid (by have := hb2.size; simp at this; omega)
  have c1 : (w2.alloc (.cells #[.int .u32 0, .int .i64 0, .int .i64 0, .bool false] 37)).cell? ⟨w1.heap.size, 1, none⟩ = some (.int .i64 4001) := (World.cell?_alloc_lt _ _ _ HS.out).trans ((hb2.cell (p := ⟨w1.heap.size, 1, none⟩) (by simp)).trans (by simp))
  have c2 : (w2.alloc (.cells #[.int .u32 0, .int .i64 0, .int .i64 0, .bool false] 37)).cell? ⟨w1.heap.size, 2, none⟩ = some (.int .i64 7) := (World.cell?_alloc_lt _ _ _ HS.out).trans ((hb2.cell (p := ⟨w1.heap.size, 2, none⟩) (by simp)).trans (by simp))
  have c3 : (w2.alloc (.cells #[.int .u32 0, .int .i64 0, .int .i64 0, .bool false] 37)).cell? ⟨w1.heap.size, 3, none⟩ = some (.bool true) := (World.cell?_alloc_lt _ _ _ HS.out).trans ((hb2.cell (p := ⟨w1.heap.size, 3, none⟩) (by simp)).trans (by simp))
  clear hb2
  go_wp2_with (go_at_call 19; refine (text12 _).mono ?_; rintro e w3 ⟨rfl, hb3⟩; have HB3 := Lib.hid hb3; clear hb3)
  go_ret
  refine ⟨rfl, ?_⟩
  have h1 := HB1.out.alloc HB1.out.size (.cells #[.int .u32 167772161, .int .i64 4001, .int .i64 7, .bool true] 37)
  have h2 := h1.trans (HB2.out.mono h1.size)
  have h3 := h2.alloc h2.size (.cells #[.int .u32 0, .int .i64 0, .int .i64 0, .bool false] 37)
  exact h3.trans (HB3.out.mono h3.size)
end Go.Proofs.YtkemkbaomhjnbaaDoor
