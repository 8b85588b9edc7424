/-
  The statement AddrParts holds: a place without its peer, and without its relay, is a place, whose text is the beginning of its own; put together they are its text. Conditions: none beyond the row's own (package-level variables that the row lists, tied to the program's text by the card).
-/

import Derived.Test.YtkemkbaomhjnbaaDoorPlcIn
import Derived.Test.YtkemkbaomhjnbaaDoorRows
import Derived.Test.YtkemkbaomhjnbaaDoorCards
import Derived.Test.YtkemkbaomhjnbaaDoorTie
import Derived.WalkKit
import Derived.ProofKit
import Derived.OpenShut
import Derived.ShutString
import Derived.ChangeOld
import Derived.Below
import Derived.Lay
import Derived.LaidMore
import Derived.LaidOnce
import Derived.SevenTiedAt
namespace Go.Proofs.YtkemkbaomhjnbaaDoor.addrParts
open Go.ChangeShapes Go.WideShapes Go.ChangeAt Go.RowKit
open Go.ChangeMaps (open_string shut_string)
set_option linter.unusedVariables false

theorem own : ownKnob Tryd.prog.godebug = none := by kernel_rfl
theorem laidOut : laidOutB Tryd.prog = true := by kernel_rfl

/-- a place's box -/
structure Bx4 (W : World) (g : Nat) (h p i : Int) (v : Bool) : Prop where
  c0 : W.cell? ⟨g, 0, none⟩ = some (.int .u32 h)
  c1 : W.cell? ⟨g, 1, none⟩ = some (.int .i64 p)
  c2 : W.cell? ⟨g, 2, none⟩ = some (.int .i64 i)
  c3 : W.cell? ⟨g, 3, none⟩ = some (.bool v)
theorem Bx4.call {W W' : World} {g : Nat} {h p i : Int} {v : Bool} (b : Bx4 W g h p i v) (k : Below W.heap.size W W') : Bx4 W' g h p i v :=
  ⟨(k.cell (p := ⟨g, 0, none⟩) (lt_of_cell b.c0)).trans b.c0, (k.cell (p := ⟨g, 1, none⟩) (lt_of_cell b.c1)).trans b.c1, (k.cell (p := ⟨g, 2, none⟩) (lt_of_cell b.c2)).trans b.c2, (k.cell (p := ⟨g, 3, none⟩) (lt_of_cell b.c3)).trans b.c3⟩
theorem Bx4.new (W : World) (h p i : Int) (v : Bool) : Bx4 (W.alloc (.cells #[.int .u32 h, .int .i64 p, .int .i64 i, .bool v] 37)) W.heap.size h p i v := ⟨by go_simp, by go_simp, by go_simp, by go_simp⟩
theorem take_st (a b : List UInt8) : (st (a ++ b)).extract 0 a.length = st a := by
  apply ByteArray.ext
  simp [st]
theorem slice_st (a b : List UInt8) (W : World) : (Instr.slice 9 (.string (st (a ++ b))) none (some (.int .i64 ((st a).size : Int))) none).run Tryd.prog W = .ok (.string (st a)) W := by
  rw [run_slice_string_h (P := Tryd.prog) W 9 (st (a ++ b)) Tryd.underlying9 .i64 ((st a).size : Int) (by omega) (by rw [st_size, st_size, List.length_append]; omega)]
  rw [st_size, Int.toNat_natCast, take_st]
theorem eq_st (a : ByteArray) (W : World) : (binOp .eql 9 (.string a) (.string a)).run Tryd.prog W = .ok (.bool true) W := by go_simp
theorem ne_st (a : ByteArray) (W : World) : (binOp .neq 9 (.string a) (.string a)).run Tryd.prog W = .ok (.bool false) W := by go_simp
theorem eq_no (a : List UInt8) (h : a ≠ []) (W : World) : (binOp .eql 9 (.string (st a)) (.string ⟨#[]⟩)).run Tryd.prog W = .ok (.bool false) W := by
  have e : ((st a).toList == (⟨#[]⟩ : ByteArray).toList) = false := by
    rw [ByteArray.toList_eq, ByteArray.toList_eq, beq_eq_false_iff_ne]
    simpa [st] using h
  rw [binOp_string_eql, e]
  rfl
theorem place_at (s : Plc) (M : Bool) (hm : s.may = M) (h0 : 0 ≤ s.h) (h1 : s.h < 4294967296) (W : World) : Calls Tryd.prog 22 #[.agg #[.int .u32 s.h, .int .i64 s.p, .int .i64 s.i, .bool s.v]] W fun e w' => e = .returned (.bool M) ∧ Below W.heap.size W w' := by
  subst hm; exact rplace_any s.h s.p s.i s.v W h0 h1
theorem text_at (h p i : Int) (v : Bool) (L : List UInt8) (hl : (⟨h, p, i, v⟩ : Plc).text = L) (h0 : 0 ≤ h) (h1 : h < 4294967296) (W : World) (hT : Lib.TabIs Tryd.prog W "internal/strconv.uint64pow10" .u64 Lib.pow10Tab) :
    Calls Tryd.prog 19 #[.agg #[.int .u32 h, .int .i64 p, .int .i64 i, .bool v]] W fun e w' => e = .returned (.string (st L)) ∧ Below W.heap.size W w' := by
  subst hl; exact text_any ⟨h, p, i, v⟩ W h0 h1 hT
theorem textL_ne (h p i : Int) (v : Bool) : textL h p i v ≠ [] := by simp [textL]
theorem text_may {h p i : Int} {v : Bool} (hm : mayP h p i v = true) : (⟨h, p, i, v⟩ : Plc).text = textL h p i v := by unfold Plc.text Plc.may; rw [if_pos hm]
theorem textL_mid (h p i : Int) (hi : ¬ i = 0) : textL h p i false = textL h p 0 false ++ ([47, 112, 50, 112, 47] ++ dig i) := by simp [textL, hi]
theorem textL_via (h p i : Int) : textL h p i true = textL h p i false ++ [47, 112, 50, 112, 45, 99, 105, 114, 99, 117, 105, 116] := by simp [textL]
theorem textL_len {h p i : Int} {v : Bool} (h0 : 0 ≤ h) (h1 : h < 4294967296) (hp : p ≤ 65535) (hi : i ≤ 2147483647) : (textL h p i v).length ≤ 100 := by
  have a := hostL_short h p h0 h1
  have b := dig_short p (by omega)
  have c := dig_short i hi
  unfold textL
  split <;> split <;> simp <;> omega

set_option maxRecDepth 100000 in
set_option maxHeartbeats 4000000 in
theorem walk (v0 : Value) (s0 : Plc) (w : World) (w0 : IsPlc w v0 s0) (hL : laidMet Tryd.prog Rows.addrPartsRow.laid w) :
    Calls Tryd.prog 7 #[v0] w fun e w' => e = .returned (.bool true) ∧ Below w.heap.size w w' := by
  obtain ⟨h, p, i, v⟩ := s0
  obtain ⟨rfl, h0, h1, _, _⟩ := w0
  have HTB := Lib.hid (tab_laid hL)
  clear hL
  change 0 ≤ h at h0
  change h < 4294967296 at h1
  unfold Plc.val plc
  cases hm : mayP h p i v with
  | false =>
    have C1 := Lib.hid (place_at ⟨h, p, i, v⟩ false hm h0 h1)
    have C2 := Lib.hid (text_at h p i v [] (by unfold Plc.text Plc.may; rw [if_neg (by simp [hm])]) h0 h1)
    have ke := eq_st ⟨#[]⟩
    have HS : Hid (st [] = ⟨#[]⟩) := Lib.hid rfl
    rw [HS.out] at C2
    clear hm
    go_enter Tryd.func7, Tryd.ntmps7
    go_wp2_with fail
    have hB := Bx4.new w h p i v
    have HB0 : Hid (Below w.heap.size w (w.alloc (.cells #[.int .u32 h, .int .i64 p, .int .i64 i, .bool v] 37))) := Lib.hid ((Below.refl _ _).alloc (Nat.le_refl _) _)
    generalize w.alloc (.cells #[.int .u32 h, .int .i64 p, .int .i64 i, .bool v] 37) = W0 at *
    refine (awake_any _).mono ?_
    rintro e w1 ⟨rfl, hb1⟩
    have hB1 := hB.call hb1
    have B1 := Lib.hid hB1
    have E1 := Lib.hid (HB0.out.trans (hb1.mono HB0.out.size))
    obtain ⟨c0, c1, c2, c3⟩ := hB1
    clear hb1 hB
    go_wp2_with fail
    refine (C1.out _).mono ?_
    rintro e w2 ⟨rfl, hb2⟩
    have hB2 := B1.out.call hb2
    have E2 := Lib.hid (E1.out.trans (hb2.mono E1.out.size))
    clear c0 c1 c2 c3 hb2
    obtain ⟨c0, c1, c2, c3⟩ := hB2
    go_wp2_with fail
    refine (C2.out _ (tab_below HTB.out E2.out)).mono ?_
    rintro e w3 ⟨rfl, hb3⟩
    have E3 := Lib.hid (E2.out.trans (hb3.mono E2.out.size))
    clear hb3
    go_wp2
    go_ret
    exact ⟨rfl, E3.out⟩
  | true =>
    have hm' := hm
    unfold mayP at hm'
    simp only [Bool.and_eq_true, decide_eq_true_eq] at hm'
    obtain ⟨hvi, ⟨hma, hi0⟩, hi1⟩ := hm'
    have hp : p ≤ 65535 := by
      have : h ≠ 0 ∧ 1 ≤ p ∧ p ≤ 65535 := by simpa [mayA, and_assoc] using hma
      exact this.2.2
    have hmb : mayP h p 0 false = true := by simp [mayP, hma]
    have hmm : mayP h p i false = true := by simp [mayP, hma, hi0, hi1]
    have C1 := Lib.hid (place_at ⟨h, p, i, v⟩ true hm h0 h1)
    have C2 := Lib.hid (text_at h p i v _ (text_may hm) h0 h1)
    have C3 := Lib.hid (text_at h p i false _ (text_may hmm) h0 h1)
    have C4 := Lib.hid (text_at h p 0 false _ (text_may hmb) h0 h1)
    have C5 := Lib.hid (digits_at i hi0 hi1)
    have ke : (st (textL h p 0 false)).toList.isEmpty = false := by rw [ByteArray.toList_eq]; simpa [st] using textL_ne h p 0 false
    have ke2 : ¬ (st (textL h p 0 false)).toList = [] := by rw [ByteArray.toList_eq]; simpa [st] using textL_ne h p 0 false
    have l1 := textL_len (i := i) (v := v) h0 h1 hp hi1
    have l2 := textL_len (i := i) (v := false) h0 h1 hp hi1
    have l3 := textL_len (i := 0) (v := false) h0 h1 hp (by omega)
    have l4 := dig_short i hi1
    by_cases hi : i = 0
    · skip
      obtain rfl := hi
      have hv : v = false := by cases v <;> simp_all
      subst hv
      have t0 : decide ((0 : Int) < 0) = false := by decide
      have k1 := slice_st (textL h p 0 false) []
      rw [List.append_nil] at k1
      clear hm hmb hmm hma hvi hi0 hi1 l1 l2 l3 l4
      generalize st (textL h p 0 false) = U at *
      have n1 := ne_st U
      have n2 := eq_st U
      have z1 : decide ((U.size : Int) < (U.size : Int)) = false := by simp
      go_enter Tryd.func7, Tryd.ntmps7
      go_wp2_with fail
      have hB := Bx4.new w h p 0 false
      have HB0 : Hid (Below w.heap.size w (w.alloc (.cells #[.int .u32 h, .int .i64 p, .int .i64 0, .bool false] 37))) := Lib.hid ((Below.refl _ _).alloc (Nat.le_refl _) _)
      generalize w.alloc (.cells #[.int .u32 h, .int .i64 p, .int .i64 0, .bool false] 37) = W0 at *
      refine (awake_any _).mono ?_
      rintro e w1 ⟨rfl, hb1⟩
      have hB1 := hB.call hb1
      have B1 := Lib.hid hB1
      have E1 := Lib.hid (HB0.out.trans (hb1.mono HB0.out.size))
      obtain ⟨c0, c1, c2, c3⟩ := hB1
      clear hb1 hB
      go_wp2_with fail
      refine (C1.out _).mono ?_
      rintro e w2 ⟨rfl, hb2⟩
      have hB2 := B1.out.call hb2
      have B2 := Lib.hid hB2
      have E2 := Lib.hid (E1.out.trans (hb2.mono E1.out.size))
      clear c0 c1 c2 c3 hb2
      have u1 : Below w2.heap.size w2 (w2.alloc (.cells #[.int .u32 h, .int .i64 p, .int .i64 0, .bool false] 37)) := (Below.refl _ _).alloc (Nat.le_refl _) _
      have u2 : Below (w2.alloc (.cells #[.int .u32 h, .int .i64 p, .int .i64 0, .bool false] 37)).heap.size (w2.alloc (.cells #[.int .u32 h, .int .i64 p, .int .i64 0, .bool false] 37)) ((w2.alloc (.cells #[.int .u32 h, .int .i64 p, .int .i64 0, .bool false] 37)).alloc (.cells #[.int .u32 h, .int .i64 p, .int .i64 0, .bool false] 37)) := (Below.refl _ _).alloc (Nat.le_refl _) _
      have HP := Lib.hid ((hB2.call u1).call u2)
      have HBB := Lib.hid ((Bx4.new w2 h p 0 false).call u2)
      have HMM := Lib.hid (Bx4.new (w2.alloc (.cells #[.int .u32 h, .int .i64 p, .int .i64 0, .bool false] 37)) h p 0 false)
      have E3 := Lib.hid ((E2.out.trans (u1.mono E2.out.size)).trans (u2.mono (Nat.le_trans E2.out.size u1.size)))
      have x0 := (hB2.call u1).c0
      have x1 := (hB2.call u1).c1
      have x2 := (hB2.call u1).c2
      have x3 := (hB2.call u1).c3
      obtain ⟨c0, c1, c2, c3⟩ := hB2
      have y0 := HP.out.c0
      have y1 := HP.out.c1
      have y2 := HP.out.c2
      have y3 := HP.out.c3
      clear u1 u2
      go_wp2_with fail
      refine (C2.out _ (tab_below HTB.out E3.out)).mono ?_
      rintro e w3 ⟨rfl, hb3⟩
      have P3 := Lib.hid (HP.out.call hb3)
      have BB3 := Lib.hid (HBB.out.call hb3)
      have hM3 := HMM.out.call hb3
      have E4 := Lib.hid (E3.out.trans (hb3.mono E3.out.size))
      clear hb3 c0 c1 c2 c3 x0 x1 x2 x3 y0 y1 y2 y3
      have m0 := hM3.c0
      have m1 := hM3.c1
      have m2 := hM3.c2
      have m3 := hM3.c3
      simp only [World.size_alloc] at m0 m1 m2 m3
      go_wp2_with fail
      refine (C3.out _ (tab_below HTB.out E4.out)).mono ?_
      rintro e w4 ⟨rfl, hb4⟩
      have P4 := Lib.hid (P3.out.call hb4)
      have hB4 := BB3.out.call hb4
      have E5 := Lib.hid (E4.out.trans (hb4.mono E4.out.size))
      clear hb4 m0 m1 m2 m3 hM3
      obtain ⟨m0, m1, m2, m3⟩ := hB4
      go_wp2_with fail
      refine (C4.out _ (tab_below HTB.out E5.out)).mono ?_
      rintro e w5 ⟨rfl, hb5⟩
      have P5 := Lib.hid (P4.out.call hb5)
      have E6 := Lib.hid (E5.out.trans (hb5.mono E5.out.size))
      clear hb5 m0 m1 m2 m3
      have c2 := P5.out.c2
      have c3 := P5.out.c3
      go_wp2
      go_ret
      exact ⟨rfl, E6.out⟩
    · by_cases hv : v = false
      · skip
        have e1 := textL_mid h p i hi
        subst hv
        have t0 : decide (0 < i) = true := by simp; omega
        have k1 := slice_st (textL h p 0 false) ([47, 112, 50, 112, 47] ++ dig i)
        rw [← e1] at k1
        have k2 := slice_st (textL h p i false) []
        rw [List.append_nil] at k2
        have a1 := fun W => add_st (textL h p 0 false) [47, 112, 50, 112, 47] (by simp; omega) W
        have a2 := fun W => add_st (textL h p 0 false ++ [47, 112, 50, 112, 47]) (dig i) (by simp; omega) W
        rw [List.append_assoc, ← e1] at a2
        have zz1 : (textL h p 0 false).length ≤ (textL h p i false).length := by rw [e1]; simp
        have z1 : (st (textL h p 0 false)).size ≤ (st (textL h p i false)).size := by rw [st_size, st_size]; omega
        have q3 : st [47, 112, 50, 112, 47] = ⟨#[47, 112, 50, 112, 47]⟩ := rfl
        rw [q3] at a1
        clear e1 q3 hm hmb hmm hma hvi l1 l2 l3 l4 zz1
        generalize st (textL h p 0 false ++ [47, 112, 50, 112, 47]) = R at *
        generalize st (textL h p 0 false) = U at *
        generalize st (textL h p i false) = T at *
        generalize st (dig i) = D at *
        have n1 := ne_st U
        have n2 := ne_st T
        have n3 := eq_st T
        go_enter Tryd.func7, Tryd.ntmps7
        go_wp2_with fail
        have hB := Bx4.new w h p i false
        have HB0 : Hid (Below w.heap.size w (w.alloc (.cells #[.int .u32 h, .int .i64 p, .int .i64 i, .bool false] 37))) := Lib.hid ((Below.refl _ _).alloc (Nat.le_refl _) _)
        generalize w.alloc (.cells #[.int .u32 h, .int .i64 p, .int .i64 i, .bool false] 37) = W0 at *
        refine (awake_any _).mono ?_
        rintro e w1 ⟨rfl, hb1⟩
        have hB1 := hB.call hb1
        have B1 := Lib.hid hB1
        have E1 := Lib.hid (HB0.out.trans (hb1.mono HB0.out.size))
        obtain ⟨c0, c1, c2, c3⟩ := hB1
        clear hb1 hB
        go_wp2_with fail
        refine (C1.out _).mono ?_
        rintro e w2 ⟨rfl, hb2⟩
        have hB2 := B1.out.call hb2
        have B2 := Lib.hid hB2
        have E2 := Lib.hid (E1.out.trans (hb2.mono E1.out.size))
        clear c0 c1 c2 c3 hb2
        have u1 : Below w2.heap.size w2 (w2.alloc (.cells #[.int .u32 h, .int .i64 p, .int .i64 0, .bool false] 37)) := (Below.refl _ _).alloc (Nat.le_refl _) _
        have u2 : Below (w2.alloc (.cells #[.int .u32 h, .int .i64 p, .int .i64 0, .bool false] 37)).heap.size (w2.alloc (.cells #[.int .u32 h, .int .i64 p, .int .i64 0, .bool false] 37)) ((w2.alloc (.cells #[.int .u32 h, .int .i64 p, .int .i64 0, .bool false] 37)).alloc (.cells #[.int .u32 h, .int .i64 p, .int .i64 i, .bool false] 37)) := (Below.refl _ _).alloc (Nat.le_refl _) _
        have HP := Lib.hid ((hB2.call u1).call u2)
        have HBB := Lib.hid ((Bx4.new w2 h p 0 false).call u2)
        have HMM := Lib.hid (Bx4.new (w2.alloc (.cells #[.int .u32 h, .int .i64 p, .int .i64 0, .bool false] 37)) h p i false)
        have E3 := Lib.hid ((E2.out.trans (u1.mono E2.out.size)).trans (u2.mono (Nat.le_trans E2.out.size u1.size)))
        have x0 := (hB2.call u1).c0
        have x1 := (hB2.call u1).c1
        have x2 := (hB2.call u1).c2
        have x3 := (hB2.call u1).c3
        obtain ⟨c0, c1, c2, c3⟩ := hB2
        have y0 := HP.out.c0
        have y1 := HP.out.c1
        have y2 := HP.out.c2
        have y3 := HP.out.c3
        clear u1 u2
        go_wp2_with fail
        refine (C2.out _ (tab_below HTB.out E3.out)).mono ?_
        rintro e w3 ⟨rfl, hb3⟩
        have P3 := Lib.hid (HP.out.call hb3)
        have BB3 := Lib.hid (HBB.out.call hb3)
        have hM3 := HMM.out.call hb3
        have E4 := Lib.hid (E3.out.trans (hb3.mono E3.out.size))
        clear hb3 c0 c1 c2 c3 x0 x1 x2 x3 y0 y1 y2 y3
        have m0 := hM3.c0
        have m1 := hM3.c1
        have m2 := hM3.c2
        have m3 := hM3.c3
        simp only [World.size_alloc] at m0 m1 m2 m3
        go_wp2_with fail
        refine (C3.out _ (tab_below HTB.out E4.out)).mono ?_
        rintro e w4 ⟨rfl, hb4⟩
        have P4 := Lib.hid (P3.out.call hb4)
        have hB4 := BB3.out.call hb4
        have E5 := Lib.hid (E4.out.trans (hb4.mono E4.out.size))
        clear hb4 m0 m1 m2 m3 hM3
        obtain ⟨m0, m1, m2, m3⟩ := hB4
        go_wp2_with fail
        refine (C4.out _ (tab_below HTB.out E5.out)).mono ?_
        rintro e w5 ⟨rfl, hb5⟩
        have P5 := Lib.hid (P4.out.call hb5)
        have E6 := Lib.hid (E5.out.trans (hb5.mono E5.out.size))
        clear hb5 m0 m1 m2 m3
        have c2 := P5.out.c2
        have c3 := P5.out.c3
        go_wp2_with fail
        refine (C5.out _).mono ?_
        rintro e w6 ⟨rfl, hb6⟩
        have P6 := Lib.hid (P5.out.call hb6)
        have E7 := Lib.hid (E6.out.trans (hb6.mono E6.out.size))
        clear hb6 c2 c3
        have c3 := P6.out.c3
        go_wp2
        go_ret
        exact ⟨rfl, E7.out⟩
      · skip
        have e1 := textL_mid h p i hi
        have hv : v = true := by simpa using hv
        subst hv
        have e2 := textL_via h p i
        have t0 : decide (0 < i) = true := by simp; omega
        have k1 := slice_st (textL h p 0 false) ([47, 112, 50, 112, 47] ++ dig i)
        rw [← e1] at k1
        have k2 := slice_st (textL h p i false) [47, 112, 50, 112, 45, 99, 105, 114, 99, 117, 105, 116]
        rw [← e2] at k2
        have a1 := fun W => add_st (textL h p 0 false) [47, 112, 50, 112, 47] (by simp; omega) W
        have a2 := fun W => add_st (textL h p 0 false ++ [47, 112, 50, 112, 47]) (dig i) (by simp; omega) W
        rw [List.append_assoc, ← e1] at a2
        have zz1 : (textL h p 0 false).length ≤ (textL h p i false).length := by rw [e1]; simp
        have a3 := fun W => add_st (textL h p i false) [47, 112, 50, 112, 45, 99, 105, 114, 99, 117, 105, 116] (by simp; omega) W
        rw [← e2] at a3
        have zz2 : (textL h p i false).length ≤ (textL h p i true).length := by rw [e2]; simp
        have z1 : (st (textL h p 0 false)).size ≤ (st (textL h p i false)).size := by rw [st_size, st_size]; omega
        have z2 : (st (textL h p i false)).size ≤ (st (textL h p i true)).size := by rw [st_size, st_size]; omega
        have q3 : st [47, 112, 50, 112, 47] = ⟨#[47, 112, 50, 112, 47]⟩ := rfl
        rw [q3] at a1
        have q4 : st [47, 112, 50, 112, 45, 99, 105, 114, 99, 117, 105, 116] = ⟨#[47, 112, 50, 112, 45, 99, 105, 114, 99, 117, 105, 116]⟩ := rfl
        rw [q4] at a3
        clear e1 q3 hm hmb hmm hma hvi l1 l2 l3 l4 zz1 e2 q4 zz2
        generalize st (textL h p 0 false ++ [47, 112, 50, 112, 47]) = R at *
        generalize st (textL h p 0 false) = U at *
        generalize st (textL h p i false) = T at *
        generalize st (textL h p i true) = S at *
        generalize st (dig i) = D at *
        have n1 := ne_st U
        have n2 := ne_st T
        have n3 := eq_st S
        go_enter Tryd.func7, Tryd.ntmps7
        go_wp2_with fail
        have hB := Bx4.new w h p i true
        have HB0 : Hid (Below w.heap.size w (w.alloc (.cells #[.int .u32 h, .int .i64 p, .int .i64 i, .bool true] 37))) := Lib.hid ((Below.refl _ _).alloc (Nat.le_refl _) _)
        generalize w.alloc (.cells #[.int .u32 h, .int .i64 p, .int .i64 i, .bool true] 37) = W0 at *
        refine (awake_any _).mono ?_
        rintro e w1 ⟨rfl, hb1⟩
        have hB1 := hB.call hb1
        have B1 := Lib.hid hB1
        have E1 := Lib.hid (HB0.out.trans (hb1.mono HB0.out.size))
        obtain ⟨c0, c1, c2, c3⟩ := hB1
        clear hb1 hB
        go_wp2_with fail
        refine (C1.out _).mono ?_
        rintro e w2 ⟨rfl, hb2⟩
        have hB2 := B1.out.call hb2
        have B2 := Lib.hid hB2
        have E2 := Lib.hid (E1.out.trans (hb2.mono E1.out.size))
        clear c0 c1 c2 c3 hb2
        have u1 : Below w2.heap.size w2 (w2.alloc (.cells #[.int .u32 h, .int .i64 p, .int .i64 0, .bool false] 37)) := (Below.refl _ _).alloc (Nat.le_refl _) _
        have u2 : Below (w2.alloc (.cells #[.int .u32 h, .int .i64 p, .int .i64 0, .bool false] 37)).heap.size (w2.alloc (.cells #[.int .u32 h, .int .i64 p, .int .i64 0, .bool false] 37)) ((w2.alloc (.cells #[.int .u32 h, .int .i64 p, .int .i64 0, .bool false] 37)).alloc (.cells #[.int .u32 h, .int .i64 p, .int .i64 i, .bool false] 37)) := (Below.refl _ _).alloc (Nat.le_refl _) _
        have HP := Lib.hid ((hB2.call u1).call u2)
        have HBB := Lib.hid ((Bx4.new w2 h p 0 false).call u2)
        have HMM := Lib.hid (Bx4.new (w2.alloc (.cells #[.int .u32 h, .int .i64 p, .int .i64 0, .bool false] 37)) h p i false)
        have E3 := Lib.hid ((E2.out.trans (u1.mono E2.out.size)).trans (u2.mono (Nat.le_trans E2.out.size u1.size)))
        have x0 := (hB2.call u1).c0
        have x1 := (hB2.call u1).c1
        have x2 := (hB2.call u1).c2
        have x3 := (hB2.call u1).c3
        obtain ⟨c0, c1, c2, c3⟩ := hB2
        have y0 := HP.out.c0
        have y1 := HP.out.c1
        have y2 := HP.out.c2
        have y3 := HP.out.c3
        clear u1 u2
        go_wp2_with fail
        refine (C2.out _ (tab_below HTB.out E3.out)).mono ?_
        rintro e w3 ⟨rfl, hb3⟩
        have P3 := Lib.hid (HP.out.call hb3)
        have BB3 := Lib.hid (HBB.out.call hb3)
        have hM3 := HMM.out.call hb3
        have E4 := Lib.hid (E3.out.trans (hb3.mono E3.out.size))
        clear hb3 c0 c1 c2 c3 x0 x1 x2 x3 y0 y1 y2 y3
        have m0 := hM3.c0
        have m1 := hM3.c1
        have m2 := hM3.c2
        have m3 := hM3.c3
        simp only [World.size_alloc] at m0 m1 m2 m3
        go_wp2_with fail
        refine (C3.out _ (tab_below HTB.out E4.out)).mono ?_
        rintro e w4 ⟨rfl, hb4⟩
        have P4 := Lib.hid (P3.out.call hb4)
        have hB4 := BB3.out.call hb4
        have E5 := Lib.hid (E4.out.trans (hb4.mono E4.out.size))
        clear hb4 m0 m1 m2 m3 hM3
        obtain ⟨m0, m1, m2, m3⟩ := hB4
        go_wp2_with fail
        refine (C4.out _ (tab_below HTB.out E5.out)).mono ?_
        rintro e w5 ⟨rfl, hb5⟩
        have P5 := Lib.hid (P4.out.call hb5)
        have E6 := Lib.hid (E5.out.trans (hb5.mono E5.out.size))
        clear hb5 m0 m1 m2 m3
        have c2 := P5.out.c2
        have c3 := P5.out.c3
        go_wp2_with fail
        refine (C5.out _).mono ?_
        rintro e w6 ⟨rfl, hb6⟩
        have P6 := Lib.hid (P5.out.call hb6)
        have E7 := Lib.hid (E6.out.trans (hb6.mono E6.out.size))
        clear hb6 c2 c3
        have c3 := P6.out.c3
        go_wp2
        go_ret
        exact ⟨rfl, E7.out⟩


/-! ### the row, under what it lists -/
set_option maxRecDepth 100000 in
theorem lifted (os : Os) (started : os.Started) (H : Type) (enc : TypeId × Value → H) :
    ReturnsInHanded {} Tryd.checked os 7 .any (fun w args => (Rows.addrPartsSpec.pre enc Tryd.prog Tryd.f7 [] false w args ∧ laidMetH Tryd.prog Rows.addrPartsRow.laid w) ∧ sizedMet enc Tryd.prog Tryd.f7 (OpenSpec.ofChange Rows.addrPartsSpec) false w args)
      (Rows.addrPartsSpec.post enc Tryd.prog Tryd.f7 false true false false) := by
  refine returnsInHanded_of_change_and (C := Tryd.checked) (X := fun w _ => laidMetH Tryd.prog Rows.addrPartsRow.laid w) (fun _ _ _ hh h => h.of_heap hh) own started (by kernel_rfl) Tryd.func7
    (ChangeSpec.witness_shaped (enc := enc) (C := Tryd.checked) (os := os) (X := fun w _ => laidMetH Tryd.prog Rows.addrPartsRow.laid w) false (World.laidAll Tryd.prog os Rows.addrPartsRow.laid) #[.agg #[.int .u32 0, .int .i64 0, .int .i64 0, .bool false]] 8 (World.laidAll_os _ _ _)
      (World.shaped_of_ZipB (by kernel_rfl) (by kernel_rfl)) (by kernel_rfl) (by kernel_rfl) (by kernel_rfl)
      (by rw [MakeChecks.laidMetH_plain _ _ _ (by kernel_rfl)]; exact laidMet_laidAll _ (by kernel_rfl) (by kernel_rfl))) ?_
  intro W base args ds gs before hval0 hW _ _ hL _
  have hval : ∀ (j : Nat) t v, Tryd.f7.params[j]? = some t → args[j]? = some v → Value.okWide Tryd.prog W .any base t v := hval0
  have hW' := hW
  obtain ⟨p, q, hA0, hV, rfl, hfz, hnd⟩ := hW
  have hA : DataW.TrodAll enc Tryd.prog W 0 (fun _ => true) true Tryd.f7.params.toList args.toList ds p := hA0
  rw [Tryd.params7] at hA hval
  obtain ⟨v0, vs0, d0, ds0, p0, q0, hargs, rfl, rfl, h0, r0⟩ := trodAll_cons hA
  obtain ⟨rfl, rfl, rfl⟩ := trodAll_nil r0
  obtain rfl : args = #[v0] := by cases args; simp_all
  obtain ⟨rfl, rfl⟩ := trodVars_none hV
  rw [MakeChecks.laidMetH_plain _ _ _ (by kernel_rfl)] at hL
  have k0 := h0
  have lt0 : ∀ x ∈ p0, x.block < W.heap.size := by obtain ⟨m, hm⟩ := k0; exact DataW.trod_lt m _ _ _ hm
  obtain ⟨s0, w0⟩ := open_plc (hval 0 37 v0 rfl rfl) h0
  clear hA0 hval0
  refine (walk v0 s0 W w0 hL).mono fun e W' ⟨he, bel⟩ => ?_
  subst he
  exact ⟨_, rfl, _, _, _, [], _, [], hW', trodAll_mk1 (shut_bool Tryd.underlying4 _), (trodAll_cons_mk (Below.trod laidOut (by kernel_rfl) (of_decide_eq_true (by kernel_rfl)) k0 bel lt0) trodAll_mk0), rfl, bel.frame _, fun h => by cases h⟩

theorem over : Rows.AddrPartsSaid :=
  OpenClaim.holds_of_wide 7 Tryd.f7 rfl rfl rfl rfl rfl rfl rfl ⟨rfl, rfl, rfl, rfl, rfl⟩ rfl rfl rfl rfl rfl (by kernel_rfl) Tryd.func7 (by kernel_rfl)
    (of_decide_eq_true (by kernel_rfl)) (by unfold Func.isWrapper; first | (rw [if_pos (by decide +kernel)]; kernel_rfl) | (rw [if_neg (by decide +kernel)]; exact ⟨rfl, rfl⟩))
    (fun os started H enc _ => lifted os started H enc)

/-- ████ THE STATEMENT ████ -/
theorem proved : Rows.AddrPartsCardSaid :=
  Claim7.holds_tied_plain_at .later [] [.data, .data, .data, .data, .pinned] true (true, "6600dbd36e6c3681de327bc575fdf2ac5dfcb119ea77f8ab8ad1fdcf17430c65") false
    over (fun _ h => by cases h) (by kernel_rfl) (fun _ h => by cases h) addrParts_row_tie rfl ⟨rfl, rfl⟩ (by kernel_rfl) rfl
    (fun f fn hf hfn => by
      obtain rfl : f = 7 := Option.some.inj ((show Tryd.prog.funcNamed "embrasure/embrasurelaw03.AddrParts" = some 7 by kernel_rfl).symm.trans hf) |>.symm
      obtain rfl : fn = Tryd.f7 := (Option.some.inj (Tryd.func7.symm.trans hfn)).symm
      exact ⟨by kernel_rfl, fun j t ht => by
        rw [Tryd.params7] at ht
        have hm : t ∈ [37] := by simpa using Array.mem_of_getElem? ht
        have hall : ([37].all fun u => !Tryd.prog.wantsStandIn u) = true := by kernel_rfl
        exact (show Tryd.prog.wantsStandIn t = false by simpa using List.all_eq_true.1 hall t hm)⟩)
    (by kernel_rfl)
#print axioms proved
end Go.Proofs.YtkemkbaomhjnbaaDoor.addrParts
