/-
  The statement AddrTexts holds: every place as a text is what the document says, and is read again; no other place has it. Conditions: none beyond the row's own (package-level variables that the row lists, tied to the program's text by the card).
-/

import Derived.Deep.RegionHeld3
import Derived.Test.YtkemkbaomhjnbaaDoorReadB
import Derived.Test.YtkemkbaomhjnbaaDoorRows
import Derived.Test.YtkemkbaomhjnbaaDoorCards
import Derived.Test.YtkemkbaomhjnbaaDoorTie
import Derived.WalkKit
import Derived.ProofKit
import Derived.OpenShut
import Derived.ShutString
import Derived.ChangeOld
import Derived.Below
import Derived.Lay
import Derived.LaidMore
import Derived.LaidOnce
import Derived.SevenTiedAt
namespace Go.Proofs.YtkemkbaomhjnbaaDoor.addrTexts
open Go.ChangeShapes Go.WideShapes Go.ChangeAt Go.RowKit
open Go.ChangeMaps (open_string shut_string)
set_option linter.unusedVariables false

theorem own : ownKnob Tryd.prog.godebug = none := by kernel_rfl
theorem laidOut : laidOutB Tryd.prog = true := by kernel_rfl

/-- a place's box -/
structure Bx4 (W : World) (g : Nat) (h p i : Int) (v : Bool) : Prop where
  c0 : W.cell? ⟨g, 0, none⟩ = some (.int .u32 h)
  c1 : W.cell? ⟨g, 1, none⟩ = some (.int .i64 p)
  c2 : W.cell? ⟨g, 2, none⟩ = some (.int .i64 i)
  c3 : W.cell? ⟨g, 3, none⟩ = some (.bool v)
theorem Bx4.call {W W' : World} {g : Nat} {h p i : Int} {v : Bool} (b : Bx4 W g h p i v) (k : Below W.heap.size W W') : Bx4 W' g h p i v :=
  ⟨(k.cell (p := ⟨g, 0, none⟩) (lt_of_cell b.c0)).trans b.c0, (k.cell (p := ⟨g, 1, none⟩) (lt_of_cell b.c1)).trans b.c1, (k.cell (p := ⟨g, 2, none⟩) (lt_of_cell b.c2)).trans b.c2, (k.cell (p := ⟨g, 3, none⟩) (lt_of_cell b.c3)).trans b.c3⟩
theorem Bx4.new (W : World) (h p i : Int) (v : Bool) : Bx4 (W.alloc (.cells #[.int .u32 h, .int .i64 p, .int .i64 i, .bool v] 37)) W.heap.size h p i v := ⟨by go_simp, by go_simp, by go_simp, by go_simp⟩
theorem eq_st (a : ByteArray) (W : World) : (binOp .eql 9 (.string a) (.string a)).run Tryd.prog W = .ok (.bool true) W := by go_simp
theorem ne_st (a : ByteArray) (W : World) : (binOp .neq 9 (.string a) (.string a)).run Tryd.prog W = .ok (.bool false) W := by go_simp
theorem eq_no (a : List UInt8) (h : a ≠ []) (W : World) : (binOp .eql 9 (.string (st a)) (.string ⟨#[]⟩)).run Tryd.prog W = .ok (.bool false) W := by
  have e : ((st a).toList == (⟨#[]⟩ : ByteArray).toList) = false := by
    rw [ByteArray.toList_eq, ByteArray.toList_eq, beq_eq_false_iff_ne]
    simpa [st] using h
  rw [binOp_string_eql, e]
  rfl
theorem noGuard37 : Tryd.prog.eqGuardType Tryd.prog.depth 37 = false := by kernel_rfl
theorem eql_plc (h p i : Int) (v : Bool) (h' p' i' : Int) (v' : Bool) (b : Bool) (hb : decide (h = h' ∧ p = p' ∧ i = i' ∧ v = v') = b) (W : World) : (binOp .eql 37 (.agg #[.int .u32 h, .int .i64 p, .int .i64 i, .bool v]) (.agg #[.int .u32 h', .int .i64 p', .int .i64 i', .bool v'])).run Tryd.prog W = .ok (.bool b) W := by
  subst hb
  have hm := noGuard37
  have hm2 := noGuard24
  by_cases h1 : h = h' <;> by_cases h2 : p = p' <;> by_cases h3 : i = i' <;> by_cases h4 : v = v' <;> go_simp <;> simp [h1, h2, h3, h4]
theorem eq_lst (a b : List UInt8) (r : Bool) (hr : decide (a = b) = r) : ((st a).toList == (st b).toList) = r := by
  rw [ByteArray.toList_eq, ByteArray.toList_eq, ← hr, Bool.eq_iff_iff]
  simp [st]
theorem eq_txt (a b : List UInt8) (r : Bool) (hr : decide (a = b) = r) (W : World) : (binOp .eql 9 (.string (st a)) (.string (st b))).run Tryd.prog W = .ok (.bool r) W := by
  have e : ((st a).toList == (st b).toList) = r := by
    rw [ByteArray.toList_eq, ByteArray.toList_eq, ← hr, Bool.eq_iff_iff]
    simp [st]
  rw [binOp_string_eql, e]
  rfl
/-- the two places' boxes -/
structure W2 (w W : World) (a b : Plc) : Prop where
  x : Bx4 W w.heap.size a.h a.p a.i a.v
  y : Bx4 W (w.heap.size + 1) b.h b.p b.i b.v
  below : Below w.heap.size w W
theorem W2.call {w W W' : World} {a b : Plc} (h : W2 w W a b) (k : Below W.heap.size W W') : W2 w W' a b := ⟨h.x.call k, h.y.call k, h.below.trans (k.mono h.below.size)⟩
theorem W2.start (w : World) (a b : Plc) : W2 w ((w.alloc (.cells #[.int .u32 a.h, .int .i64 a.p, .int .i64 a.i, .bool a.v] 37)).alloc (.cells #[.int .u32 b.h, .int .i64 b.p, .int .i64 b.i, .bool b.v] 37)) a b :=
  ⟨⟨by go_simp, by go_simp, by go_simp, by go_simp⟩, ⟨by go_simp, by go_simp, by go_simp, by go_simp⟩, ((Below.refl _ _).alloc (Nat.le_refl _) _).alloc (by simp) _⟩
theorem W2.five {w W : World} {a b : Plc} (h : W2 w W a b) : W.cell? ⟨w.heap.size, 0, none⟩ = some (.int .u32 a.h) ∧ W.cell? ⟨w.heap.size, 1, none⟩ = some (.int .i64 a.p) ∧ W.cell? ⟨w.heap.size, 2, none⟩ = some (.int .i64 a.i) ∧ W.cell? ⟨w.heap.size, 3, none⟩ = some (.bool a.v) ∧ W2 w W a b := ⟨h.x.c0, h.x.c1, h.x.c2, h.x.c3, h⟩
theorem W2.nine {w W : World} {a b : Plc} {g : Nat} (h : W2 w W a b) (z : Bx4 W g a.h a.p a.i a.v) : W.cell? ⟨w.heap.size, 0, none⟩ = some (.int .u32 a.h) ∧ W.cell? ⟨w.heap.size, 1, none⟩ = some (.int .i64 a.p) ∧ W.cell? ⟨w.heap.size, 2, none⟩ = some (.int .i64 a.i) ∧ W.cell? ⟨w.heap.size, 3, none⟩ = some (.bool a.v) ∧
    W.cell? ⟨w.heap.size + 1, 0, none⟩ = some (.int .u32 b.h) ∧ W.cell? ⟨w.heap.size + 1, 1, none⟩ = some (.int .i64 b.p) ∧ W.cell? ⟨w.heap.size + 1, 2, none⟩ = some (.int .i64 b.i) ∧ W.cell? ⟨w.heap.size + 1, 3, none⟩ = some (.bool b.v) ∧
    W.cell? ⟨g, 0, none⟩ = some (.int .u32 a.h) ∧ W.cell? ⟨g, 1, none⟩ = some (.int .i64 a.p) ∧ W.cell? ⟨g, 2, none⟩ = some (.int .i64 a.i) ∧ W.cell? ⟨g, 3, none⟩ = some (.bool a.v) ∧ W2 w W a b ∧ Bx4 W g a.h a.p a.i a.v := ⟨h.x.c0, h.x.c1, h.x.c2, h.x.c3, h.y.c0, h.y.c1, h.y.c2, h.y.c3, z.c0, z.c1, z.c2, z.c3, h, z⟩
theorem may_at (s : Plc) (M : Bool) (hm : s.may = M) (h0 : 0 ≤ s.h) (h1 : s.h < 4294967296) (W : World) : Calls Tryd.prog 21 #[.agg #[.int .u32 s.h, .int .i64 s.p, .int .i64 s.i, .bool s.v]] W fun e w' => e = .returned (.bool M) ∧ Below W.heap.size W w' := by
  subst hm; exact mayplace_any s.h s.p s.i s.v W h0 h1
theorem place_at (s : Plc) (M : Bool) (hm : s.may = M) (h0 : 0 ≤ s.h) (h1 : s.h < 4294967296) (W : World) : Calls Tryd.prog 22 #[.agg #[.int .u32 s.h, .int .i64 s.p, .int .i64 s.i, .bool s.v]] W fun e w' => e = .returned (.bool M) ∧ Below W.heap.size W w' := by
  subst hm; exact rplace_any s.h s.p s.i s.v W h0 h1
theorem text_at (s : Plc) (h0 : 0 ≤ s.h) (h1 : s.h < 4294967296) (W : World) (hT : Lib.TabIs Tryd.prog W "internal/strconv.uint64pow10" .u64 Lib.pow10Tab) :
    Calls Tryd.prog 19 #[.agg #[.int .u32 s.h, .int .i64 s.p, .int .i64 s.i, .bool s.v]] W fun e w' => e = .returned (.string (st s.text)) ∧ Below W.heap.size W w' := text_any s W h0 h1 hT
theorem rtext_at (s : Plc) (h0 : 0 ≤ s.h) (h1 : s.h < 4294967296) (W : World) : Calls Tryd.prog 20 #[.agg #[.int .u32 s.h, .int .i64 s.p, .int .i64 s.i, .bool s.v]] W fun e w' => e = .returned (.string (st s.text)) ∧ Below W.heap.size W w' := rtext_any s W h0 h1
theorem parse_at (s : Plc) (h0 : 0 ≤ s.h) (h1 : s.h < 4294967296) (hm : s.may = true) (W : World) : Calls Tryd.prog 23 #[.string (st s.text)] W fun e w' => e = .returned (.tuple #[.agg #[.int .u32 s.h, .int .i64 s.p, .int .i64 s.i, .bool s.v], .int .i64 0]) ∧ Below W.heap.size W w' := by
  have hl : s.text = textL s.h s.p s.i s.v := by unfold Plc.text; rw [if_pos hm]
  have hm' := hm
  unfold Plc.may mayP at hm'
  simp only [Bool.and_eq_true, decide_eq_true_eq] at hm'
  have hp : s.h ≠ 0 ∧ 1 ≤ s.p ∧ s.p ≤ 65535 := by simpa [mayA, and_assoc] using hm'.2.1.1
  obtain ⟨t, e, a, b, c, d⟩ := parse_text h0 h1 hm
  refine (parse_any s.text W ?_).mono fun e' w' h => ⟨?_, h.2⟩
  · have a1 := hostL_short s.h s.p h0 h1
    have a2 := dig_short s.p (by omega)
    have a3 := dig_short s.i hm'.2.2
    rw [hl]
    unfold textL
    split <;> split <;> simp <;> omega
  · rw [h.1, hl, e]
    simp only [a, b, c, d]
theorem same_text {a b : Plc} (h0 : 0 ≤ a.h) (h1 : a.h < 4294967296) (h2 : 0 ≤ b.h) (h3 : b.h < 4294967296) (hm : a.may = true) : decide (b.text = a.text) = decide (a.h = b.h ∧ a.p = b.p ∧ a.i = b.i ∧ a.v = b.v) := by
  have ha : a.text = textL a.h a.p a.i a.v := by unfold Plc.text; rw [if_pos hm]
  rw [decide_eq_decide, ha]
  by_cases hb : b.may = true
  · have hb' : b.text = textL b.h b.p b.i b.v := by unfold Plc.text; rw [if_pos hb]
    rw [hb']
    exact text_inj h0 h1 h2 h3 hm hb
  · have hb' : b.text = [] := by unfold Plc.text; rw [if_neg hb]
    rw [hb']
    constructor
    · intro e; simp [textL] at e
    · rintro ⟨e1, e2, e3, e4⟩
      exact absurd (by unfold Plc.may; rw [← e1, ← e2, ← e3, ← e4]; exact hm) hb

set_option maxRecDepth 100000 in
set_option maxHeartbeats 4000000 in
theorem walk (v0 : Value) (s0 : Plc) (v1 : Value) (s1 : Plc) (w : World) (w0 : IsPlc w v0 s0) (w1 : IsPlc w v1 s1) (hL : laidMet Tryd.prog Rows.addrTextsRow.laid w) :
    Calls Tryd.prog 4 #[v0, v1] w fun e w' => e = .returned (.bool true) ∧ Below w.heap.size w w' := by
  obtain ⟨rfl, p00, p01, _, _⟩ := w0
  obtain ⟨rfl, p10, p11, _, _⟩ := w1
  have HTB := Lib.hid (tab_laid hL)
  clear hL
  obtain ⟨M, hM⟩ : ∃ M, s0.may = M := ⟨_, rfl⟩
  have C1 := Lib.hid (text_at s0 p00 p01); have C2 := Lib.hid (rtext_at s0 p00 p01); have C3 := Lib.hid (may_at s0 M hM p00 p01); have C4 := Lib.hid (place_at s0 M hM p00 p01); have C5 := Lib.hid (text_at s1 p10 p11)
  have HE0 : Hid (M = false → st s0.text = ⟨#[]⟩) := Lib.hid (fun h => by unfold Plc.text; rw [if_neg (by rw [hM, h]; simp)]; rfl)
  have HP : Hid (M = true → ∀ W, Calls Tryd.prog 23 #[.string (st s0.text)] W fun e w' => e = .returned (.tuple #[.agg #[.int .u32 s0.h, .int .i64 s0.p, .int .i64 s0.i, .bool s0.v], .int .i64 0]) ∧ Below W.heap.size W w') := Lib.hid (fun h => parse_at s0 p00 p01 (by rw [hM, h]))
  have HR : Hid (M = true → ∃ r, decide (s0.h = s1.h ∧ s0.p = s1.p ∧ s0.i = s1.i ∧ s0.v = s1.v) = r ∧ ((st s1.text).toList == (st s0.text).toList) = r) := Lib.hid (fun h => ⟨_, rfl, eq_lst _ _ _ (same_text p00 p01 p10 p11 (by rw [hM, h]))⟩)
  have n1 := ne_st (st s0.text)
  have m1 : (M != M) = false := by simp
  clear hM
  generalize st s0.text = S at *
  generalize st s1.text = SQ at *
  unfold Plc.val plc
  go_enter Tryd.func4, Tryd.ntmps4
  go_wp2_with fail
  have hB := W2.start w s0 s1
  generalize (w.alloc (.cells #[.int .u32 s0.h, .int .i64 s0.p, .int .i64 s0.i, .bool s0.v] 37)).alloc (.cells #[.int .u32 s1.h, .int .i64 s1.p, .int .i64 s1.i, .bool s1.v] 37) = W0 at *
  refine (awake_any _).mono ?_
  rintro e w1 ⟨rfl, hb1⟩
  have hB1 := hB.call hb1
  have B1 := Lib.hid hB1
  clear hb1 hB
  have a0 := hB1.x.c0
  have a1 := hB1.x.c1
  have a2 := hB1.x.c2
  have a3 := hB1.x.c3
  clear hB1
  go_wp2_with fail
  refine (C1.out _ (tab_below HTB.out B1.out.below)).mono ?_
  rintro e w2 ⟨rfl, hb2⟩
  have B2 := Lib.hid (B1.out.call hb2)
  clear hb2 a0 a1 a2 a3
  have hU : W2 w w2.drew s0 s1 := B2.out.call ⟨rfl, rfl, rfl, Nat.le_refl _, fun _ _ => rfl⟩
  have H5 := hU.five
  go_wp2
  go_region_held3 (fun W => W.cell? ⟨w.heap.size, 0, none⟩ = some (.int .u32 s0.h) ∧ W.cell? ⟨w.heap.size, 1, none⟩ = some (.int .i64 s0.p) ∧ W.cell? ⟨w.heap.size, 2, none⟩ = some (.int .i64 s0.i) ∧ W.cell? ⟨w.heap.size, 3, none⟩ = some (.bool s0.v) ∧ W2 w W s0 s1) (first | exact H5 | exact (W2.call (by assumption : _ ∧ _ ∧ _ ∧ _ ∧ W2 w _ s0 s1).2.2.2.2 hb5).five) (first | (go_at_call 20; refine (C2.out _).mono ?_; rintro e w5 ⟨rfl, hb5⟩) | (go_at_call 21; refine (C3.out _).mono ?_; rintro e w5 ⟨rfl, hb5⟩) | (go_at_call 22; refine (C4.out _).mono ?_; rintro e w5 ⟨rfl, hb5⟩))
  rename_i hX
  have B3 := Lib.hid hX.2.2.2.2
  have a0 := hX.1
  have a1 := hX.2.1
  have a2 := hX.2.2.1
  have a3 := hX.2.2.2.1
  clear hX H5 hU
  go_wp2_with fail
  refine (C4.out _).mono ?_
  rintro e w6 ⟨rfl, hb6⟩
  have B4 := Lib.hid (B3.out.call hb6)
  clear hb6 a0 a1 a2 a3
  cases M with
  | false =>
    obtain rfl := HE0.out rfl
    have n2 := eq_st ⟨#[]⟩
    go_wp2
    go_ret
    exact ⟨rfl, B4.out.below⟩
  | true =>
    have HP' := Lib.hid (HP.out rfl)
    obtain ⟨r, hr, kr⟩ := HR.out rfl
    have k1 := eql_plc s0.h s0.p s0.i s0.v s0.h s0.p s0.i s0.v true (by simp)
    have k2 := eql_plc s0.h s0.p s0.i s0.v s1.h s1.p s1.i s1.v r hr
    have m2 : (r == r) = true := by simp
    clear hr
    go_wp2_with fail
    refine (HP'.out _).mono ?_
    rintro e w7 ⟨rfl, hb7⟩
    have q : Below w7.heap.size w7 (w7.alloc (.cells #[.int .u32 s0.h, .int .i64 s0.p, .int .i64 s0.i, .bool s0.v] 37)) := (Below.refl _ _).alloc (Nat.le_refl _) _
    have B5 : Hid (W2 w (w7.alloc (.cells #[.int .u32 s0.h, .int .i64 s0.p, .int .i64 s0.i, .bool s0.v] 37)).drew s0 s1) := Lib.hid (((B4.out.call hb7).call q).call ⟨rfl, rfl, rfl, Nat.le_refl _, fun _ _ => rfl⟩)
    have Z5 : Hid (Bx4 (w7.alloc (.cells #[.int .u32 s0.h, .int .i64 s0.p, .int .i64 s0.i, .bool s0.v] 37)).drew w7.heap.size s0.h s0.p s0.i s0.v) := Lib.hid ((Bx4.new w7 s0.h s0.p s0.i s0.v).call ⟨rfl, rfl, rfl, Nat.le_refl _, fun _ _ => rfl⟩)
    have H9 := B5.out.nine Z5.out
    clear hb7 q
    go_wp2
    go_region_held3 (fun W => W.cell? ⟨w.heap.size, 0, none⟩ = some (.int .u32 s0.h) ∧ W.cell? ⟨w.heap.size, 1, none⟩ = some (.int .i64 s0.p) ∧ W.cell? ⟨w.heap.size, 2, none⟩ = some (.int .i64 s0.i) ∧ W.cell? ⟨w.heap.size, 3, none⟩ = some (.bool s0.v) ∧
      W.cell? ⟨w.heap.size + 1, 0, none⟩ = some (.int .u32 s1.h) ∧ W.cell? ⟨w.heap.size + 1, 1, none⟩ = some (.int .i64 s1.p) ∧ W.cell? ⟨w.heap.size + 1, 2, none⟩ = some (.int .i64 s1.i) ∧ W.cell? ⟨w.heap.size + 1, 3, none⟩ = some (.bool s1.v) ∧
      W.cell? ⟨w7.heap.size, 0, none⟩ = some (.int .u32 s0.h) ∧ W.cell? ⟨w7.heap.size, 1, none⟩ = some (.int .i64 s0.p) ∧ W.cell? ⟨w7.heap.size, 2, none⟩ = some (.int .i64 s0.i) ∧ W.cell? ⟨w7.heap.size, 3, none⟩ = some (.bool s0.v) ∧ W2 w W s0 s1 ∧ Bx4 W w7.heap.size s0.h s0.p s0.i s0.v) (first | exact H9 | exact (W2.call (by assumption : _ ∧ _ ∧ _ ∧ _ ∧ _ ∧ _ ∧ _ ∧ _ ∧ _ ∧ _ ∧ _ ∧ _ ∧ W2 w _ s0 s1 ∧ Bx4 _ w7.heap.size s0.h s0.p s0.i s0.v).2.2.2.2.2.2.2.2.2.2.2.2.1 hb5).nine (Bx4.call (by assumption : _ ∧ _ ∧ _ ∧ _ ∧ _ ∧ _ ∧ _ ∧ _ ∧ _ ∧ _ ∧ _ ∧ _ ∧ W2 w _ s0 s1 ∧ Bx4 _ w7.heap.size s0.h s0.p s0.i s0.v).2.2.2.2.2.2.2.2.2.2.2.2.2 hb5)) (first | (go_at_call 19; refine (C5.out _ (tab_below HTB.out (by assumption : _ ∧ _ ∧ _ ∧ _ ∧ _ ∧ _ ∧ _ ∧ _ ∧ _ ∧ _ ∧ _ ∧ _ ∧ W2 w _ s0 s1 ∧ Bx4 _ w7.heap.size s0.h s0.p s0.i s0.v).2.2.2.2.2.2.2.2.2.2.2.2.1.below)).mono ?_; rintro e w5 ⟨rfl, hb5⟩))
    rename_i hX
    have B6 := Lib.hid hX.2.2.2.2.2.2.2.2.2.2.2.2.1
    clear hX
    go_wp2
    go_ret
    exact ⟨rfl, B6.out.below⟩


/-! ### the row, under what it lists -/
set_option maxRecDepth 100000 in
theorem lifted (os : Os) (started : os.Started) (H : Type) (enc : TypeId × Value → H) :
    ReturnsInHanded {} Tryd.checked os 4 .any (fun w args => (Rows.addrTextsSpec.pre enc Tryd.prog Tryd.f4 [] false w args ∧ laidMetH Tryd.prog Rows.addrTextsRow.laid w) ∧ sizedMet enc Tryd.prog Tryd.f4 (OpenSpec.ofChange Rows.addrTextsSpec) false w args)
      (Rows.addrTextsSpec.post enc Tryd.prog Tryd.f4 false true false false) := by
  refine returnsInHanded_of_change_and (C := Tryd.checked) (X := fun w _ => laidMetH Tryd.prog Rows.addrTextsRow.laid w) (fun _ _ _ hh h => h.of_heap hh) own started (by kernel_rfl) Tryd.func4
    (ChangeSpec.witness_shaped (enc := enc) (C := Tryd.checked) (os := os) (X := fun w _ => laidMetH Tryd.prog Rows.addrTextsRow.laid w) false (World.laidAll Tryd.prog os Rows.addrTextsRow.laid) #[.agg #[.int .u32 0, .int .i64 0, .int .i64 0, .bool false], .agg #[.int .u32 0, .int .i64 0, .int .i64 0, .bool false]] 8 (World.laidAll_os _ _ _)
      (World.shaped_of_ZipB (by kernel_rfl) (by kernel_rfl)) (by kernel_rfl) (by kernel_rfl) (by kernel_rfl)
      (by rw [MakeChecks.laidMetH_plain _ _ _ (by kernel_rfl)]; exact laidMet_laidAll _ (by kernel_rfl) (by kernel_rfl))) ?_
  intro W base args ds gs before hval0 hW _ _ hL _
  have hval : ∀ (j : Nat) t v, Tryd.f4.params[j]? = some t → args[j]? = some v → Value.okWide Tryd.prog W .any base t v := hval0
  have hW' := hW
  obtain ⟨p, q, hA0, hV, rfl, hfz, hnd⟩ := hW
  have hA : DataW.TrodAll enc Tryd.prog W 0 (fun _ => true) true Tryd.f4.params.toList args.toList ds p := hA0
  rw [Tryd.params4] at hA hval
  obtain ⟨v0, vs0, d0, ds0, p0, q0, hargs, rfl, rfl, h0, r0⟩ := trodAll_cons hA
  obtain ⟨v1, vs1, d1, ds1, p1, q1, rfl, rfl, rfl, h1, r1⟩ := trodAll_cons r0
  obtain ⟨rfl, rfl, rfl⟩ := trodAll_nil r1
  obtain rfl : args = #[v0, v1] := by cases args; simp_all
  obtain ⟨rfl, rfl⟩ := trodVars_none hV
  rw [MakeChecks.laidMetH_plain _ _ _ (by kernel_rfl)] at hL
  have k0 := h0
  have lt0 : ∀ x ∈ p0, x.block < W.heap.size := by obtain ⟨m, hm⟩ := k0; exact DataW.trod_lt m _ _ _ hm
  obtain ⟨s0, w0⟩ := open_plc (hval 0 37 v0 rfl rfl) h0
  have k1 := h1
  have lt1 : ∀ x ∈ p1, x.block < W.heap.size := by obtain ⟨m, hm⟩ := k1; exact DataW.trod_lt m _ _ _ hm
  obtain ⟨s1, w1⟩ := open_plc (hval 1 37 v1 rfl rfl) h1
  clear hA0 hval0
  refine (walk v0 s0 v1 s1 W w0 w1 hL).mono fun e W' ⟨he, bel⟩ => ?_
  subst he
  exact ⟨_, rfl, _, _, _, [], _, [], hW', trodAll_mk1 (shut_bool Tryd.underlying4 _), (trodAll_cons_mk (Below.trod laidOut (by kernel_rfl) (of_decide_eq_true (by kernel_rfl)) k0 bel lt0) (trodAll_cons_mk (Below.trod laidOut (by kernel_rfl) (of_decide_eq_true (by kernel_rfl)) k1 bel lt1) trodAll_mk0)), rfl, bel.frame _, fun h => by cases h⟩

theorem over : Rows.AddrTextsSaid :=
  OpenClaim.holds_of_wide 4 Tryd.f4 rfl rfl rfl rfl rfl rfl rfl ⟨rfl, rfl, rfl, rfl, rfl⟩ rfl rfl rfl rfl rfl (by kernel_rfl) Tryd.func4 (by kernel_rfl)
    (of_decide_eq_true (by kernel_rfl)) (by unfold Func.isWrapper; first | (rw [if_pos (by decide +kernel)]; kernel_rfl) | (rw [if_neg (by decide +kernel)]; exact ⟨rfl, rfl⟩))
    (fun os started H enc _ => lifted os started H enc)

/-- ████ THE STATEMENT ████ -/
theorem proved : Rows.AddrTextsCardSaid :=
  Claim7.holds_tied_plain_at .later [] [.data, .data, .data, .data, .pinned] true (true, "6600dbd36e6c3681de327bc575fdf2ac5dfcb119ea77f8ab8ad1fdcf17430c65") false
    over (fun _ h => by cases h) (by kernel_rfl) (fun _ h => by cases h) addrTexts_row_tie rfl ⟨rfl, rfl⟩ (by kernel_rfl) rfl
    (fun f fn hf hfn => by
      obtain rfl : f = 4 := Option.some.inj ((show Tryd.prog.funcNamed "embrasure/embrasurelaw03.AddrTexts" = some 4 by kernel_rfl).symm.trans hf) |>.symm
      obtain rfl : fn = Tryd.f4 := (Option.some.inj (Tryd.func4.symm.trans hfn)).symm
      exact ⟨by kernel_rfl, fun j t ht => by
        rw [Tryd.params4] at ht
        have hm : t ∈ [37, 37] := by simpa using Array.mem_of_getElem? ht
        have hall : ([37, 37].all fun u => !Tryd.prog.wantsStandIn u) = true := by kernel_rfl
        exact (show Tryd.prog.wantsStandIn t = false by simpa using List.all_eq_true.1 hall t hm)⟩)
    (by kernel_rfl)
#print axioms proved
end Go.Proofs.YtkemkbaomhjnbaaDoor.addrTexts
