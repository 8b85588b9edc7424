/-
  The statement AddrOrder holds: how addresses stand is an order, as their bytes stand; two that are alike stand alike. Conditions: none beyond the row's own (package-level variables that the row lists, tied to the program's text by the card).
-/

import Derived.Test.YtkemkbaomhjnbaaDoorAdrIn
import Derived.Test.YtkemkbaomhjnbaaDoorRows
import Derived.Test.YtkemkbaomhjnbaaDoorCards
import Derived.Test.YtkemkbaomhjnbaaDoorTie
import Derived.WalkKit
import Derived.ProofKit
import Derived.OpenShut
import Derived.ShutString
import Derived.ChangeOld
import Derived.Below
import Derived.Lay
import Derived.LaidMore
import Derived.LaidOnce
import Derived.SevenTiedAt
namespace Go.Proofs.YtkemkbaomhjnbaaDoor.addrOrder
open Go.ChangeShapes Go.WideShapes Go.ChangeAt Go.RowKit
open Go.ChangeMaps (open_string shut_string)
set_option linter.unusedVariables false

theorem own : ownKnob Tryd.prog.godebug = none := by kernel_rfl
theorem laidOut : laidOutB Tryd.prog = true := by kernel_rfl

/-- three addresses' boxes, and what was below -/
structure B3 (w W : World) (a b c : Int × Int) : Prop where
  a0 : W.cell? ⟨w.heap.size, 0, none⟩ = some (.int .u32 a.1)
  a1 : W.cell? ⟨w.heap.size, 1, none⟩ = some (.int .i64 a.2)
  b0 : W.cell? ⟨w.heap.size + 1, 0, none⟩ = some (.int .u32 b.1)
  b1 : W.cell? ⟨w.heap.size + 1, 1, none⟩ = some (.int .i64 b.2)
  c0 : W.cell? ⟨w.heap.size + 1 + 1, 0, none⟩ = some (.int .u32 c.1)
  c1 : W.cell? ⟨w.heap.size + 1 + 1, 1, none⟩ = some (.int .i64 c.2)
  lt : w.heap.size + 2 < W.heap.size
  below : Below w.heap.size w W
theorem B3.start (w : World) (a b c : Int × Int) : B3 w (((w.alloc (.cells #[.int .u32 a.1, .int .i64 a.2] 24)).alloc (.cells #[.int .u32 b.1, .int .i64 b.2] 24)).alloc (.cells #[.int .u32 c.1, .int .i64 c.2] 24)) a b c :=
  ⟨by go_simp, by go_simp, by go_simp, by go_simp, by go_simp, by go_simp, by simp, (((Below.refl _ _).alloc (Nat.le_refl _) _).alloc (by simp) _).alloc (by simp; omega) _⟩
theorem B3.call {w W W' : World} {a b c : Int × Int} (h : B3 w W a b c) (k : Below W.heap.size W W') : B3 w W' a b c :=
  ⟨(k.cell (p := ⟨w.heap.size, 0, none⟩) (by have := h.lt; simp; omega)).trans h.a0, (k.cell (p := ⟨w.heap.size, 1, none⟩) (by have := h.lt; simp; omega)).trans h.a1, (k.cell (p := ⟨w.heap.size + 1, 0, none⟩) (by have := h.lt; simp; omega)).trans h.b0, (k.cell (p := ⟨w.heap.size + 1, 1, none⟩) (by have := h.lt; simp; omega)).trans h.b1, (k.cell (p := ⟨w.heap.size + 1 + 1, 0, none⟩) h.lt).trans h.c0, (k.cell (p := ⟨w.heap.size + 1 + 1, 1, none⟩) h.lt).trans h.c1, Nat.lt_of_lt_of_le h.lt k.size, h.below.trans (k.mono h.below.size)⟩
theorem cv_at (h p h' p' x : Int) (hx : cv h p h' p' = x) (w : World) : Calls Tryd.prog 17 #[.agg #[.int .u32 h, .int .i64 p], .agg #[.int .u32 h', .int .i64 p']] w fun e w' => e = .returned (.int .i64 x) ∧ Below w.heap.size w w' := by
  subst hx
  exact compare_any h p h' p' w
theorem bytesT_len (h p : Int) : (bytesT h p).length = 6 := by simp [bytesT, bytesA]
theorem bytes_text (h p : Int) (w : World) (g : Nat) (h0 : 0 ≤ h) (h1 : h < 4294967296) (hm : mayA h p = true) (hg : w.heap[g]? = some (.cells ((bytesA h p).map (Value.int .u8)).toArray 5 (0, 0))) :
    (convert 25 9 (.slice (some ⟨g, 0, none⟩) 6 6)).run Tryd.prog w = .ok (.string ⟨(bytesT h p).toArray⟩) w := by
  have hp : h ≠ 0 ∧ 1 ≤ p ∧ p ≤ 65535 := by simpa [mayA, and_assoc] using hm
  have := run_convert_bytes_back (P := Tryd.prog) w 25 9 5 ⟨g, 0, none⟩ 6 (bytesT h p) Tryd.underlying25 Tryd.underlying5 Tryd.underlying9 (fun j hj => by
    rw [bytesT_len] at hj
    have e := (cells_of hg j).1
    rcases (show j = 0 ∨ j = 1 ∨ j = 2 ∨ j = 3 ∨ j = 4 ∨ j = 5 by omega) with rfl | rfl | rfl | rfl | rfl | rfl <;> simp [Addr.add, bytesA, bytesT] at e ⊢ <;> rw [e] <;> simp <;> omega)
  rw [bytesT_len] at this
  exact this
theorem toL (l : List UInt8) : (⟨l.toArray⟩ : ByteArray).toList = l := by rw [ByteArray.toList_eq]

set_option maxRecDepth 100000 in
set_option maxHeartbeats 4000000 in
theorem walk (v0 : Value) (s0 : Int × Int) (v1 : Value) (s1 : Int × Int) (v2 : Value) (s2 : Int × Int) (w : World) (w0 : IsAdr w v0 s0) (w1 : IsAdr w v1 s1) (w2 : IsAdr w v2 s2) :
    Calls Tryd.prog 6 #[v0, v1, v2] w fun e w' => e = .returned (.bool true) ∧ Below w.heap.size w w' := by
  obtain ⟨rfl, p00, p01, _, _⟩ := w0
  obtain ⟨rfl, p10, p11, _, _⟩ := w1
  obtain ⟨rfl, p20, p21, _, _⟩ := w2
  obtain ⟨X, hX⟩ : ∃ X, cv s0.1 s0.2 s1.1 s1.2 = X := ⟨_, rfl⟩
  obtain ⟨Y, hY⟩ : ∃ X, cv s1.1 s1.2 s0.1 s0.2 = X := ⟨_, rfl⟩
  obtain ⟨Z, hZ⟩ : ∃ X, cv s1.1 s1.2 s2.1 s2.2 = X := ⟨_, rfl⟩
  obtain ⟨V, hV⟩ : ∃ X, cv s0.1 s0.2 s2.1 s2.2 = X := ⟨_, rfl⟩
  have hU : cv s0.1 s0.2 s0.1 s0.2 = 0 := by have := cv_cases s0.1 s0.2 s0.1 s0.2; omega
  have C1 := Lib.hid (cv_at _ _ _ _ X hX); have C2 := Lib.hid (cv_at _ _ _ _ Y hY); have C3 := Lib.hid (cv_at _ _ _ _ Z hZ); have C4 := Lib.hid (cv_at _ _ _ _ V hV); have C5 := Lib.hid (cv_at _ _ _ _ 0 hU)
  have q1 := cv_cases s0.1 s0.2 s1.1 s1.2
  have q2 := cv_cases s1.1 s1.2 s0.1 s0.2
  have q3 := cv_cases s1.1 s1.2 s2.1 s2.2
  have q4 := cv_cases s0.1 s0.2 s2.1 s2.2
  rw [hX] at q1; rw [hY] at q2; rw [hZ] at q3; rw [hV] at q4
  have hX1 : -1 ≤ X ∧ X ≤ 1 := by omega
  have hYX : Y = -X := by omega
  have t1 : (Y != -X) = false := by rw [bne_eq_false_iff_eq]; omega
  have HVZ : Hid (X ≤ 0 → Z ≤ 0 → V ≤ 0) := Lib.hid (by omega)
  have HL : Hid (mayA s0.1 s0.2 = true → mayA s1.1 s1.2 = true → Op.bytesLess (bytesT s0.1 s0.2) (bytesT s1.1 s1.2) = decide (X < 0) ∧ (bytesT s0.1 s0.2 == bytesT s1.1 s1.2) = decide (X = 0)) := Lib.hid (fun a b => by
    rw [← hX]; exact ⟨bytes_less p00 p01 p10 p11 a b, bytes_eq p00 p01 p10 p11 a b⟩)
  have HM0 := Lib.hid (fun W => may_any s0.1 s0.2 W p00 p01)
  have HM1 := Lib.hid (fun W => may_any s1.1 s1.2 W p10 p11)
  have HB0 := Lib.hid (fun W => bytes_ok s0.1 s0.2 W p00 p01)
  have HB1 := Lib.hid (fun W => bytes_ok s1.1 s1.2 W p10 p11)
  have HT0 := Lib.hid (fun W g => bytes_text s0.1 s0.2 W g p00 p01)
  have HT1 := Lib.hid (fun W g => bytes_text s1.1 s1.2 W g p10 p11)
  clear hX hY hZ hV hU q1 q2 q3 q4 hYX
  unfold adr at *
  have tail : True := trivial
  go_enter Tryd.func6, Tryd.ntmps6
  go_wp2_with fail
  have hB := B3.start w s0 s1 s2
  generalize ((w.alloc (.cells #[.int .u32 s0.1, .int .i64 s0.2] 24)).alloc (.cells #[.int .u32 s1.1, .int .i64 s1.2] 24)).alloc (.cells #[.int .u32 s2.1, .int .i64 s2.2] 24) = W0 at *
  refine (awake_any _).mono ?_
  rintro e w1 ⟨rfl, hb1⟩
  have hB1 := hB.call hb1
  have B1 := Lib.hid hB1
  obtain ⟨a10, a11, b10, b11, c10, c11, _, _⟩ := hB1
  clear hb1 hB
  go_wp2_with fail
  refine (C1.out _).mono ?_
  rintro e w2 ⟨rfl, hb2⟩
  have hB2 := B1.out.call hb2
  have B2 := Lib.hid hB2
  obtain ⟨a20, a21, b20, b21, c20, c21, _, _⟩ := hB2
  clear hb2 a10 a11 b10 b11 c10 c11
  go_wp2_with fail
  refine (C2.out _).mono ?_
  rintro e w3 ⟨rfl, hb3⟩
  have hB3 := B2.out.call hb3
  have B3 := Lib.hid hB3
  obtain ⟨a30, a31, b30, b31, c30, c31, _, _⟩ := hB3
  clear hb3 a20 a21 b20 b21 c20 c21
  go_wp2_with fail
  refine (C5.out _).mono ?_
  rintro e w4 ⟨rfl, hb4⟩
  have hB4 := B3.out.call hb4
  have B4 := Lib.hid hB4
  obtain ⟨a40, a41, b40, b41, c40, c41, _, _⟩ := hB4
  clear hb4 a30 a31 b30 b31 c30 c31
  by_cases hx : X ≤ 0
  · by_cases hz : Z ≤ 0
    · have hv := HVZ.out hx hz
      go_wp2_with fail
      refine (C3.out _).mono ?_
      rintro e w5 ⟨rfl, hb5⟩
      have hB5 := B4.out.call hb5
      have B5 := Lib.hid hB5
      obtain ⟨a50, a51, b50, b51, c50, c51, _, _⟩ := hB5
      clear hb5 a40 a41 b40 b41 c40 c41
      go_wp2_with fail
      refine (C4.out _).mono ?_
      rintro e w6 ⟨rfl, hb6⟩
      have hB6 := B5.out.call hb6
      have B6 := Lib.hid hB6
      obtain ⟨a60, a61, b60, b61, c60, c61, _, _⟩ := hB6
      clear hb6 a50 a51 b50 b51 c50 c51
      cases hm0 : mayA s0.1 s0.2 with
      | false =>
        rw [hm0] at HM0
        clear hm0
        go_wp2_with fail
        refine (HM0.out _).mono ?_
        rintro e w7 ⟨rfl, hb7⟩
        have hB7 := B6.out.call hb7
        have B7 := Lib.hid hB7
        obtain ⟨a70, a71, b70, b71, c70, c71, _, _⟩ := hB7
        clear hb7 a60 a61 b60 b61 c60 c61
        go_wp2
        go_ret
        exact ⟨rfl, B7.out.below⟩
      | true =>
        rw [hm0] at HM0
        have HB0' := Lib.hid (fun W => HB0.out W hm0)
        have HT0' := Lib.hid (fun W g => HT0.out W g hm0)
        have HL0 := Lib.hid (HL.out hm0)
        clear hm0 HB0 HT0 HL
        cases hm1 : mayA s1.1 s1.2 with
        | false =>
          rw [hm1] at HM1
          clear hm1
          go_wp2_with fail
          refine (HM0.out _).mono ?_
          rintro e w7 ⟨rfl, hb7⟩
          have hB7 := B6.out.call hb7
          have B7 := Lib.hid hB7
          obtain ⟨a70, a71, b70, b71, c70, c71, _, _⟩ := hB7
          clear hb7 a60 a61 b60 b61 c60 c61
          go_wp2_with fail
          refine (HM1.out _).mono ?_
          rintro e w8 ⟨rfl, hb8⟩
          have hB8 := B7.out.call hb8
          have B8 := Lib.hid hB8
          obtain ⟨a80, a81, b80, b81, c80, c81, _, _⟩ := hB8
          clear hb8 a70 a71 b70 b71 c70 c71
          go_wp2
          go_ret
          exact ⟨rfl, B8.out.below⟩
        | true =>
          rw [hm1] at HM1
          have HB1' := Lib.hid (fun W => HB1.out W hm1)
          have HT1' := Lib.hid (fun W g => HT1.out W g hm1)
          have hl := HL0.out hm1
          obtain ⟨hl1, hl2⟩ := hl
          clear hm1 HB1 HT1 HL0
          generalize bytesT s0.1 s0.2 = T0 at *
          generalize bytesT s1.1 s1.2 = T1 at *
          have g1 : Op.bytesLess (⟨T0.toArray⟩ : ByteArray).toList (⟨T1.toArray⟩ : ByteArray).toList = decide (X < 0) := by rw [toL, toL]; exact hl1
          have g2 : ((⟨T0.toArray⟩ : ByteArray).toList == (⟨T1.toArray⟩ : ByteArray).toList) = decide (X = 0) := by rw [toL, toL]; exact hl2
          have g3 : (X == 0) = decide (X = 0) := by rw [Bool.eq_iff_iff]; simp
          clear hl1 hl2
          generalize (⟨T0.toArray⟩ : ByteArray) = S0 at *
          generalize (⟨T1.toArray⟩ : ByteArray) = S1 at *
          go_wp2_with fail
          refine (HM0.out _).mono ?_
          rintro e w7 ⟨rfl, hb7⟩
          have hB7 := B6.out.call hb7
          have B7 := Lib.hid hB7
          obtain ⟨a70, a71, b70, b71, c70, c71, _, _⟩ := hB7
          clear hb7 a60 a61 b60 b61 c60 c61
          go_wp2_with fail
          refine (HM1.out _).mono ?_
          rintro e w8 ⟨rfl, hb8⟩
          have hB8 := B7.out.call hb8
          have B8 := Lib.hid hB8
          obtain ⟨a80, a81, b80, b81, c80, c81, _, _⟩ := hB8
          clear hb8 a70 a71 b70 b71 c70 c71
          go_wp2_with fail
          refine (HB0'.out _).mono ?_
          rintro e w9 ⟨g9, rfl, hg9, _, hb9⟩
          have hT9 := HT0'.out _ _ hg9
          have hB9 := B8.out.call hb9
          have B9 := Lib.hid hB9
          obtain ⟨a90, a91, b90, b91, c90, c91, _, _⟩ := hB9
          clear hb9 hg9 a80 a81 b80 b81 c80 c81
          go_wp2_with fail
          refine (HB1'.out _).mono ?_
          rintro e w10 ⟨g10, rfl, hg10, _, hb10⟩
          have hT10 := HT1'.out _ _ hg10
          have hB10 := B9.out.call hb10
          have B10 := Lib.hid hB10
          obtain ⟨a100, a101, b100, b101, c100, c101, _, _⟩ := hB10
          clear hb10 hg10 a90 a91 b90 b91 c90 c91
          go_wp2
          go_ret
          exact ⟨ret_b' (by cases hd : decide (X = 0) <;> simp), B10.out.below⟩
    · have t5 : decide (Z ≤ 0) = false := by simpa using hz
      go_wp2_with fail
      refine (C3.out _).mono ?_
      rintro e w5 ⟨rfl, hb5⟩
      have hB5 := B4.out.call hb5
      have B5 := Lib.hid hB5
      obtain ⟨a50, a51, b50, b51, c50, c51, _, _⟩ := hB5
      clear hb5 a40 a41 b40 b41 c40 c41
      cases hm0 : mayA s0.1 s0.2 with
      | false =>
        rw [hm0] at HM0
        clear hm0
        go_wp2_with fail
        refine (HM0.out _).mono ?_
        rintro e w6 ⟨rfl, hb6⟩
        have hB6 := B5.out.call hb6
        have B6 := Lib.hid hB6
        obtain ⟨a60, a61, b60, b61, c60, c61, _, _⟩ := hB6
        clear hb6 a50 a51 b50 b51 c50 c51
        go_wp2
        go_ret
        exact ⟨rfl, B6.out.below⟩
      | true =>
        rw [hm0] at HM0
        have HB0' := Lib.hid (fun W => HB0.out W hm0)
        have HT0' := Lib.hid (fun W g => HT0.out W g hm0)
        have HL0 := Lib.hid (HL.out hm0)
        clear hm0 HB0 HT0 HL
        cases hm1 : mayA s1.1 s1.2 with
        | false =>
          rw [hm1] at HM1
          clear hm1
          go_wp2_with fail
          refine (HM0.out _).mono ?_
          rintro e w6 ⟨rfl, hb6⟩
          have hB6 := B5.out.call hb6
          have B6 := Lib.hid hB6
          obtain ⟨a60, a61, b60, b61, c60, c61, _, _⟩ := hB6
          clear hb6 a50 a51 b50 b51 c50 c51
          go_wp2_with fail
          refine (HM1.out _).mono ?_
          rintro e w7 ⟨rfl, hb7⟩
          have hB7 := B6.out.call hb7
          have B7 := Lib.hid hB7
          obtain ⟨a70, a71, b70, b71, c70, c71, _, _⟩ := hB7
          clear hb7 a60 a61 b60 b61 c60 c61
          go_wp2
          go_ret
          exact ⟨rfl, B7.out.below⟩
        | true =>
          rw [hm1] at HM1
          have HB1' := Lib.hid (fun W => HB1.out W hm1)
          have HT1' := Lib.hid (fun W g => HT1.out W g hm1)
          have hl := HL0.out hm1
          obtain ⟨hl1, hl2⟩ := hl
          clear hm1 HB1 HT1 HL0
          generalize bytesT s0.1 s0.2 = T0 at *
          generalize bytesT s1.1 s1.2 = T1 at *
          have g1 : Op.bytesLess (⟨T0.toArray⟩ : ByteArray).toList (⟨T1.toArray⟩ : ByteArray).toList = decide (X < 0) := by rw [toL, toL]; exact hl1
          have g2 : ((⟨T0.toArray⟩ : ByteArray).toList == (⟨T1.toArray⟩ : ByteArray).toList) = decide (X = 0) := by rw [toL, toL]; exact hl2
          have g3 : (X == 0) = decide (X = 0) := by rw [Bool.eq_iff_iff]; simp
          clear hl1 hl2
          generalize (⟨T0.toArray⟩ : ByteArray) = S0 at *
          generalize (⟨T1.toArray⟩ : ByteArray) = S1 at *
          go_wp2_with fail
          refine (HM0.out _).mono ?_
          rintro e w6 ⟨rfl, hb6⟩
          have hB6 := B5.out.call hb6
          have B6 := Lib.hid hB6
          obtain ⟨a60, a61, b60, b61, c60, c61, _, _⟩ := hB6
          clear hb6 a50 a51 b50 b51 c50 c51
          go_wp2_with fail
          refine (HM1.out _).mono ?_
          rintro e w7 ⟨rfl, hb7⟩
          have hB7 := B6.out.call hb7
          have B7 := Lib.hid hB7
          obtain ⟨a70, a71, b70, b71, c70, c71, _, _⟩ := hB7
          clear hb7 a60 a61 b60 b61 c60 c61
          go_wp2_with fail
          refine (HB0'.out _).mono ?_
          rintro e w8 ⟨g8, rfl, hg8, _, hb8⟩
          have hT8 := HT0'.out _ _ hg8
          have hB8 := B7.out.call hb8
          have B8 := Lib.hid hB8
          obtain ⟨a80, a81, b80, b81, c80, c81, _, _⟩ := hB8
          clear hb8 hg8 a70 a71 b70 b71 c70 c71
          go_wp2_with fail
          refine (HB1'.out _).mono ?_
          rintro e w9 ⟨g9, rfl, hg9, _, hb9⟩
          have hT9 := HT1'.out _ _ hg9
          have hB9 := B8.out.call hb9
          have B9 := Lib.hid hB9
          obtain ⟨a90, a91, b90, b91, c90, c91, _, _⟩ := hB9
          clear hb9 hg9 a80 a81 b80 b81 c80 c81
          go_wp2
          go_ret
          exact ⟨ret_b' (by cases hd : decide (X = 0) <;> simp), B9.out.below⟩
  · have t6 : decide (X ≤ 0) = false := by simpa using hx
    cases hm0 : mayA s0.1 s0.2 with
    | false =>
      rw [hm0] at HM0
      clear hm0
      go_wp2_with fail
      refine (HM0.out _).mono ?_
      rintro e w5 ⟨rfl, hb5⟩
      have hB5 := B4.out.call hb5
      have B5 := Lib.hid hB5
      obtain ⟨a50, a51, b50, b51, c50, c51, _, _⟩ := hB5
      clear hb5 a40 a41 b40 b41 c40 c41
      go_wp2
      go_ret
      exact ⟨rfl, B5.out.below⟩
    | true =>
      rw [hm0] at HM0
      have HB0' := Lib.hid (fun W => HB0.out W hm0)
      have HT0' := Lib.hid (fun W g => HT0.out W g hm0)
      have HL0 := Lib.hid (HL.out hm0)
      clear hm0 HB0 HT0 HL
      cases hm1 : mayA s1.1 s1.2 with
      | false =>
        rw [hm1] at HM1
        clear hm1
        go_wp2_with fail
        refine (HM0.out _).mono ?_
        rintro e w5 ⟨rfl, hb5⟩
        have hB5 := B4.out.call hb5
        have B5 := Lib.hid hB5
        obtain ⟨a50, a51, b50, b51, c50, c51, _, _⟩ := hB5
        clear hb5 a40 a41 b40 b41 c40 c41
        go_wp2_with fail
        refine (HM1.out _).mono ?_
        rintro e w6 ⟨rfl, hb6⟩
        have hB6 := B5.out.call hb6
        have B6 := Lib.hid hB6
        obtain ⟨a60, a61, b60, b61, c60, c61, _, _⟩ := hB6
        clear hb6 a50 a51 b50 b51 c50 c51
        go_wp2
        go_ret
        exact ⟨rfl, B6.out.below⟩
      | true =>
        rw [hm1] at HM1
        have HB1' := Lib.hid (fun W => HB1.out W hm1)
        have HT1' := Lib.hid (fun W g => HT1.out W g hm1)
        have hl := HL0.out hm1
        obtain ⟨hl1, hl2⟩ := hl
        clear hm1 HB1 HT1 HL0
        generalize bytesT s0.1 s0.2 = T0 at *
        generalize bytesT s1.1 s1.2 = T1 at *
        have g1 : Op.bytesLess (⟨T0.toArray⟩ : ByteArray).toList (⟨T1.toArray⟩ : ByteArray).toList = decide (X < 0) := by rw [toL, toL]; exact hl1
        have g2 : ((⟨T0.toArray⟩ : ByteArray).toList == (⟨T1.toArray⟩ : ByteArray).toList) = decide (X = 0) := by rw [toL, toL]; exact hl2
        have g3 : (X == 0) = decide (X = 0) := by rw [Bool.eq_iff_iff]; simp
        clear hl1 hl2
        generalize (⟨T0.toArray⟩ : ByteArray) = S0 at *
        generalize (⟨T1.toArray⟩ : ByteArray) = S1 at *
        go_wp2_with fail
        refine (HM0.out _).mono ?_
        rintro e w5 ⟨rfl, hb5⟩
        have hB5 := B4.out.call hb5
        have B5 := Lib.hid hB5
        obtain ⟨a50, a51, b50, b51, c50, c51, _, _⟩ := hB5
        clear hb5 a40 a41 b40 b41 c40 c41
        go_wp2_with fail
        refine (HM1.out _).mono ?_
        rintro e w6 ⟨rfl, hb6⟩
        have hB6 := B5.out.call hb6
        have B6 := Lib.hid hB6
        obtain ⟨a60, a61, b60, b61, c60, c61, _, _⟩ := hB6
        clear hb6 a50 a51 b50 b51 c50 c51
        go_wp2_with fail
        refine (HB0'.out _).mono ?_
        rintro e w7 ⟨g7, rfl, hg7, _, hb7⟩
        have hT7 := HT0'.out _ _ hg7
        have hB7 := B6.out.call hb7
        have B7 := Lib.hid hB7
        obtain ⟨a70, a71, b70, b71, c70, c71, _, _⟩ := hB7
        clear hb7 hg7 a60 a61 b60 b61 c60 c61
        go_wp2_with fail
        refine (HB1'.out _).mono ?_
        rintro e w8 ⟨g8, rfl, hg8, _, hb8⟩
        have hT8 := HT1'.out _ _ hg8
        have hB8 := B7.out.call hb8
        have B8 := Lib.hid hB8
        obtain ⟨a80, a81, b80, b81, c80, c81, _, _⟩ := hB8
        clear hb8 hg8 a70 a71 b70 b71 c70 c71
        go_wp2
        go_ret
        exact ⟨ret_b' (by cases hd : decide (X = 0) <;> simp), B8.out.below⟩


/-! ### the row, under what it lists -/
set_option maxRecDepth 100000 in
theorem lifted (os : Os) (started : os.Started) (H : Type) (enc : TypeId × Value → H) :
    ReturnsInHanded {} Tryd.checked os 6 .any (fun w args => (Rows.addrOrderSpec.pre enc Tryd.prog Tryd.f6 [] false w args ∧ laidMetH Tryd.prog Rows.addrOrderRow.laid w) ∧ sizedMet enc Tryd.prog Tryd.f6 (OpenSpec.ofChange Rows.addrOrderSpec) false w args)
      (Rows.addrOrderSpec.post enc Tryd.prog Tryd.f6 false true false false) := by
  refine returnsInHanded_of_change_and (C := Tryd.checked) (X := fun w _ => laidMetH Tryd.prog Rows.addrOrderRow.laid w) (fun _ _ _ hh h => h.of_heap hh) own started (by kernel_rfl) Tryd.func6
    (ChangeSpec.witness_shaped (enc := enc) (C := Tryd.checked) (os := os) (X := fun w _ => laidMetH Tryd.prog Rows.addrOrderRow.laid w) false (World.laidAll Tryd.prog os Rows.addrOrderRow.laid) #[.agg #[.int .u32 0, .int .i64 0], .agg #[.int .u32 0, .int .i64 0], .agg #[.int .u32 0, .int .i64 0]] 8 (World.laidAll_os _ _ _)
      (World.shaped_of_ZipB (by kernel_rfl) (by kernel_rfl)) (by kernel_rfl) (by kernel_rfl) (by kernel_rfl)
      (by rw [MakeChecks.laidMetH_plain _ _ _ (by kernel_rfl)]; exact laidMet_laidAll _ (by kernel_rfl) (by kernel_rfl))) ?_
  intro W base args ds gs before hval0 hW _ _ hL _
  have hval : ∀ (j : Nat) t v, Tryd.f6.params[j]? = some t → args[j]? = some v → Value.okWide Tryd.prog W .any base t v := hval0
  have hW' := hW
  obtain ⟨p, q, hA0, hV, rfl, hfz, hnd⟩ := hW
  have hA : DataW.TrodAll enc Tryd.prog W 0 (fun _ => true) true Tryd.f6.params.toList args.toList ds p := hA0
  rw [Tryd.params6] at hA hval
  obtain ⟨v0, vs0, d0, ds0, p0, q0, hargs, rfl, rfl, h0, r0⟩ := trodAll_cons hA
  obtain ⟨v1, vs1, d1, ds1, p1, q1, rfl, rfl, rfl, h1, r1⟩ := trodAll_cons r0
  obtain ⟨v2, vs2, d2, ds2, p2, q2, rfl, rfl, rfl, h2, r2⟩ := trodAll_cons r1
  obtain ⟨rfl, rfl, rfl⟩ := trodAll_nil r2
  obtain rfl : args = #[v0, v1, v2] := by cases args; simp_all
  obtain ⟨rfl, rfl⟩ := trodVars_none hV
  rw [MakeChecks.laidMetH_plain _ _ _ (by kernel_rfl)] at hL
  have k0 := h0
  have lt0 : ∀ x ∈ p0, x.block < W.heap.size := by obtain ⟨m, hm⟩ := k0; exact DataW.trod_lt m _ _ _ hm
  obtain ⟨s0, w0⟩ := open_adr (hval 0 24 v0 rfl rfl) h0
  have k1 := h1
  have lt1 : ∀ x ∈ p1, x.block < W.heap.size := by obtain ⟨m, hm⟩ := k1; exact DataW.trod_lt m _ _ _ hm
  obtain ⟨s1, w1⟩ := open_adr (hval 1 24 v1 rfl rfl) h1
  have k2 := h2
  have lt2 : ∀ x ∈ p2, x.block < W.heap.size := by obtain ⟨m, hm⟩ := k2; exact DataW.trod_lt m _ _ _ hm
  obtain ⟨s2, w2⟩ := open_adr (hval 2 24 v2 rfl rfl) h2
  clear hA0 hval0
  refine (walk v0 s0 v1 s1 v2 s2 W w0 w1 w2).mono fun e W' ⟨he, bel⟩ => ?_
  subst he
  exact ⟨_, rfl, _, _, _, [], _, [], hW', trodAll_mk1 (shut_bool Tryd.underlying4 _), (trodAll_cons_mk (Below.trod laidOut (by kernel_rfl) (of_decide_eq_true (by kernel_rfl)) k0 bel lt0) (trodAll_cons_mk (Below.trod laidOut (by kernel_rfl) (of_decide_eq_true (by kernel_rfl)) k1 bel lt1) (trodAll_cons_mk (Below.trod laidOut (by kernel_rfl) (of_decide_eq_true (by kernel_rfl)) k2 bel lt2) trodAll_mk0))), rfl, bel.frame _, fun h => by cases h⟩

theorem over : Rows.AddrOrderSaid :=
  OpenClaim.holds_of_wide 6 Tryd.f6 rfl rfl rfl rfl rfl rfl rfl ⟨rfl, rfl, rfl, rfl, rfl⟩ rfl rfl rfl rfl rfl (by kernel_rfl) Tryd.func6 (by kernel_rfl)
    (of_decide_eq_true (by kernel_rfl)) (by unfold Func.isWrapper; first | (rw [if_pos (by decide +kernel)]; kernel_rfl) | (rw [if_neg (by decide +kernel)]; exact ⟨rfl, rfl⟩))
    (fun os started H enc _ => lifted os started H enc)

/-- ████ THE STATEMENT ████ -/
theorem proved : Rows.AddrOrderCardSaid :=
  Claim7.holds_tied_plain_at .later [] [.data, .data, .data, .data, .pinned] true (true, "6600dbd36e6c3681de327bc575fdf2ac5dfcb119ea77f8ab8ad1fdcf17430c65") false
    over (fun _ h => by cases h) (by kernel_rfl) (fun _ h => by cases h) addrOrder_row_tie rfl ⟨rfl, rfl⟩ (by kernel_rfl) rfl
    (fun f fn hf hfn => by
      obtain rfl : f = 6 := Option.some.inj ((show Tryd.prog.funcNamed "embrasure/embrasurelaw03.AddrOrder" = some 6 by kernel_rfl).symm.trans hf) |>.symm
      obtain rfl : fn = Tryd.f6 := (Option.some.inj (Tryd.func6.symm.trans hfn)).symm
      exact ⟨by kernel_rfl, fun j t ht => by
        rw [Tryd.params6] at ht
        have hm : t ∈ [24, 24, 24] := by simpa using Array.mem_of_getElem? ht
        have hall : ([24, 24, 24].all fun u => !Tryd.prog.wantsStandIn u) = true := by kernel_rfl
        exact (show Tryd.prog.wantsStandIn t = false by simpa using List.all_eq_true.1 hall t hm)⟩)
    (by kernel_rfl)
#print axioms proved
end Go.Proofs.YtkemkbaomhjnbaaDoor.addrOrder
