/-
  What Bytes gives of any message, and a walk's facts behind it. Conditions: as each states.
-/
import Derived.Test.YtebgfiibcmnfnaaDoorLawSame
namespace Go.Proofs.YtebgfiibcmnfnaaDoor
open Go.RowKit
set_option linter.unusedVariables false

/-- what Bytes gives -/
def outB (m : Wi.Msg) : List Int := if Wi.may m = true then Wi.bytes m else []
theorem outB_len (m : Wi.Msg) : (outB m).length ≤ 1200 := by
  unfold outB
  split
  · exact (Wi.bytes_len (by assumption)).2
  · simp
theorem bts_nil (w : World) : Bts w none 0 [] := ⟨rfl, by simp, fun h => by simp at h⟩
theorem any_bytes (m : Wi.Msg) (x1 x2 x3 : Value) (w : World) (hv : MsgV w x1 x2 x3 m) (hT : Tb w) :
    Calls Tryd.prog 11 #[.agg #[.int .i64 m.kind, x1, x2, x3]] w fun e w' => ∃ A c, e = .returned (.slice A (outB m).length c) ∧ (outB m).length ≤ c ∧ c ≤ maxLen ∧ (A = none → (outB m).length = 0 ∧ c = 0) ∧ Bts w' A (outB m).length (outB m) ∧ Below w.heap.size w w' := by
  unfold outB
  cases hm : Wi.may m with
  | true =>
    rw [if_pos rfl]
    refine (law_bytes m x1 x2 x3 w hv hT hm).mono ?_
    rintro e w' ⟨g, c, rfl, h1, h2, _, _, _, h3, h4⟩
    exact ⟨_, c, rfl, h1, h2, (fun h => by cases h), h3, h4⟩
  | false =>
    rw [if_neg (by simp)]
    refine (bytes_msg_no m x1 x2 x3 w hv hT hm).mono ?_
    rintro e w' ⟨rfl, hb⟩
    exact ⟨none, 0, rfl, Nat.le_refl _, Nat.zero_le _, fun _ => ⟨rfl, rfl⟩, bts_nil _, hb⟩
theorem any_rbytes (m : Wi.Msg) (x1 x2 x3 : Value) (w : World) (hv : MsgV w x1 x2 x3 m) :
    Calls Tryd.prog 15 #[.agg #[.int .i64 m.kind, x1, x2, x3]] w fun e w' => ∃ A c, e = .returned (.slice A (outB m).length c) ∧ Bts w' A (outB m).length (outB m) ∧ Below w.heap.size w w' := by
  unfold outB
  cases hm : Wi.may m with
  | true =>
    rw [if_pos rfl]
    refine (rbytes_msg_ok m x1 x2 x3 w hv hm).mono ?_
    rintro e w' ⟨r, rfl, ho, hb⟩
    obtain ⟨A, c, rfl, _, _, hbt⟩ := own_form ho (Wi.bytes_bd hv.wf hm)
    exact ⟨A, c, rfl, hbt, hb⟩
  | false =>
    rw [if_neg (by simp)]
    refine (rbytes_msg_no m x1 x2 x3 w hv hm).mono ?_
    rintro e w' ⟨rfl, hb⟩
    exact ⟨none, 0, rfl, bts_nil _, hb⟩
/-- a message's box, and a row of bytes -/
structure U3 (w W : World) (kd : Int) (x1 x2 x3 : Value) (A : Option Addr) (n : Nat) (xs : List Int) : Prop where
  mx : Mx W w.heap.size kd x1 x2 x3
  bel : Below w.heap.size w W
  row : Bts W A n xs
theorem U3.call {w W W' : World} {kd : Int} {x1 x2 x3 : Value} {A : Option Addr} {n : Nat} {xs : List Int} (h : U3 w W kd x1 x2 x3 A n xs) (hb : Below W.heap.size W W') : U3 w W' kd x1 x2 x3 A n xs :=
  ⟨h.mx.call hb, h.bel.trans (hb.mono h.bel.size), h.row.below hb⟩
theorem U3.five {w W : World} {kd : Int} {x1 x2 x3 : Value} {A : Option Addr} {n : Nat} {xs : List Int} (h : U3 w W kd x1 x2 x3 A n xs) :
    W.cell? ⟨w.heap.size, 0, none⟩ = some (.int .i64 kd) ∧ W.cell? ⟨w.heap.size, 1, none⟩ = some x1 ∧ W.cell? ⟨w.heap.size, 2, none⟩ = some x2 ∧ W.cell? ⟨w.heap.size, 3, none⟩ = some x3 ∧ U3 w W kd x1 x2 x3 A n xs := ⟨h.mx.c0, h.mx.c1, h.mx.c2, h.mx.c3, h⟩
end Go.Proofs.YtebgfiibcmnfnaaDoor
