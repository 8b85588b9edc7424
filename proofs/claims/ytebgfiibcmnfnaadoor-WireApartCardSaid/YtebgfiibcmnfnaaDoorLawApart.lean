/-
  Two messages' boxes and a row of bytes, in a walk. Conditions: as each states.
-/
import Derived.Test.YtebgfiibcmnfnaaDoorLawBytes
namespace Go.Proofs.YtebgfiibcmnfnaaDoor
open Go.RowKit
set_option linter.unusedVariables false

structure U4 (w W : World) (k1 : Int) (x1 x2 x3 : Value) (k2 : Int) (y1 y2 y3 : Value) : Prop where
  mx : Mx W w.heap.size k1 x1 x2 x3
  my : Mx W (w.heap.size + 1) k2 y1 y2 y3
  bel : Below w.heap.size w W
theorem U4.call {w W W' : World} {k1 k2 : Int} {x1 x2 x3 y1 y2 y3 : Value} (h : U4 w W k1 x1 x2 x3 k2 y1 y2 y3) (hb : Below W.heap.size W W') : U4 w W' k1 x1 x2 x3 k2 y1 y2 y3 :=
  ⟨h.mx.call hb, h.my.call hb, h.bel.trans (hb.mono h.bel.size)⟩
theorem U4.start (w : World) (k1 k2 : Int) (x1 x2 x3 y1 y2 y3 : Value) : U4 w ((w.alloc (.cells #[.int .i64 k1, x1, x2, x3] 26)).alloc (.cells #[.int .i64 k2, y1, y2, y3] 26)) k1 x1 x2 x3 k2 y1 y2 y3 := by
  have h := Mx.new (w.alloc (.cells #[.int .i64 k1, x1, x2, x3] 26)) k2 y1 y2 y3
  rw [World.size_alloc] at h
  exact ⟨(Mx.new w k1 x1 x2 x3).call ((Below.refl _ _).alloc (Nat.le_refl _) _), h, ((Below.refl _ _).alloc (Nat.le_refl _) _).alloc (by simp) _⟩
structure U5 (w W : World) (k1 : Int) (x1 x2 x3 : Value) (k2 : Int) (y1 y2 y3 : Value) (A : Option Addr) (n : Nat) (xs : List Int) : Prop where
  u : U4 w W k1 x1 x2 x3 k2 y1 y2 y3
  row : Bts W A n xs
theorem U5.call {w W W' : World} {k1 k2 : Int} {x1 x2 x3 y1 y2 y3 : Value} {A : Option Addr} {n : Nat} {xs : List Int} (h : U5 w W k1 x1 x2 x3 k2 y1 y2 y3 A n xs) (hb : Below W.heap.size W W') : U5 w W' k1 x1 x2 x3 k2 y1 y2 y3 A n xs := ⟨h.u.call hb, h.row.below hb⟩
theorem U5.nine {w W : World} {k1 k2 : Int} {x1 x2 x3 y1 y2 y3 : Value} {A : Option Addr} {n : Nat} {xs : List Int} (h : U5 w W k1 x1 x2 x3 k2 y1 y2 y3 A n xs) :
    W.cell? ⟨w.heap.size, 0, none⟩ = some (.int .i64 k1) ∧ W.cell? ⟨w.heap.size, 1, none⟩ = some x1 ∧ W.cell? ⟨w.heap.size, 2, none⟩ = some x2 ∧ W.cell? ⟨w.heap.size, 3, none⟩ = some x3 ∧
    W.cell? ⟨w.heap.size + 1, 0, none⟩ = some (.int .i64 k2) ∧ W.cell? ⟨w.heap.size + 1, 1, none⟩ = some y1 ∧ W.cell? ⟨w.heap.size + 1, 2, none⟩ = some y2 ∧ W.cell? ⟨w.heap.size + 1, 3, none⟩ = some y3 ∧ U5 w W k1 x1 x2 x3 k2 y1 y2 y3 A n xs :=
  ⟨h.u.mx.c0, h.u.mx.c1, h.u.mx.c2, h.u.mx.c3, h.u.my.c0, h.u.my.c1, h.u.my.c2, h.u.my.c3, h⟩
/-- a message's contracts, over any world behind -/
structure MsgC (w : World) (m : Wi.Msg) (kd : Int) (x1 x2 x3 : Value) : Prop where
  small : ∀ W, Below w.heap.size w W → Calls Tryd.prog 10 #[.agg #[.int .i64 kd, x1, x2, x3]] W fun e w' => e = .returned (.bool (small m)) ∧ Below W.heap.size W w'
  rmay : ∀ W, Below w.heap.size w W → Calls Tryd.prog 13 #[.agg #[.int .i64 kd, x1, x2, x3]] W fun e w' => e = .returned (.bool (Wi.may m)) ∧ Below W.heap.size W w'
  bytes : Wi.may m = true → ∀ W, Below w.heap.size w W → Calls Tryd.prog 11 #[.agg #[.int .i64 kd, x1, x2, x3]] W fun e w' => ∃ g c, e = .returned (.slice (some ⟨g, 0, none⟩) (Wi.bytes m).length c) ∧ (Wi.bytes m).length ≤ c ∧ c ≤ maxLen ∧ Bts w' (some ⟨g, 0, none⟩) (Wi.bytes m).length (Wi.bytes m) ∧ Below W.heap.size W w'
theorem MsgC.of {w : World} {m : Wi.Msg} {x1 x2 x3 : Value} (hv : MsgV w x1 x2 x3 m) (hT : Tb w) : MsgC w m m.kind x1 x2 x3 :=
  ⟨fun W hb => small_msg m _ _ _ W (hv.below hb), fun W hb => rmay_msg m _ _ _ W (hv.below hb), fun hm W hb => by
    refine (law_bytes m _ _ _ W (hv.below hb) (hT.below hb) hm).mono ?_
    rintro e w' ⟨g, c, rfl, i1, i2, _, _, _, i3, i4⟩
    exact ⟨g, c, rfl, i1, i2, i3, i4⟩⟩
end Go.Proofs.YtebgfiibcmnfnaaDoor
