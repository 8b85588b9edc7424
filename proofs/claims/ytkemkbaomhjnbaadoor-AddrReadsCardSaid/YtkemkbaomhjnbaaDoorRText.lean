/-
  The contract of the document's own Text: it answers what addr.Text does. Conditions: as each states.
-/
import Derived.Test.YtkemkbaomhjnbaaDoorDig
import Derived.Test.YtkemkbaomhjnbaaDoorCmp
import Derived.Test.YtkemkbaomhjnbaaDoorTurn
import Derived.Deep.RegionHeld3
namespace Go.Proofs.YtkemkbaomhjnbaaDoor
open Go.RowKit
set_option linter.unusedVariables false

theorem digits_at (x : Int) (h0 : 0 ≤ x) (h1 : x ≤ 2147483647) (W : World) : Calls Tryd.prog 25 #[.int .i64 x] W fun e w' => e = .returned (.string (st (dig x))) ∧ Below W.heap.size W w' := by
  obtain ⟨n, rfl⟩ := Int.eq_ofNat_of_zero_le h0
  exact digits_any n (by omega) W
theorem hostL_cat (h p : Int) : hostL h p = dig (h / 16777216) ++ [46] ++ dig (h / 65536 % 256) ++ [46] ++ dig (h / 256 % 256) ++ [46] ++ dig (h % 256) := by
  simp [hostL, bytesA, Lib.join, List.intercalate, List.intersperse]
/-- the place's box and the four bytes of its host -/
structure RT (w : World) (g : Nat) (h p i : Int) (v : Bool) (W : World) : Prop where
  c1 : W.cell? ⟨w.heap.size, 1, none⟩ = some (.int .i64 p)
  c2 : W.cell? ⟨w.heap.size, 2, none⟩ = some (.int .i64 i)
  c3 : W.cell? ⟨w.heap.size, 3, none⟩ = some (.bool v)
  row : W.heap[g]? = some (.cells ((bytesA h p).map (Value.int .u8)).toArray 5 (0, 0))
  lt : w.heap.size < W.heap.size
  below : Below w.heap.size w W
theorem RT.call {w W W' : World} {g : Nat} {h p i : Int} {v : Bool} (a : RT w g h p i v W) (b : Below W.heap.size W W') : RT w g h p i v W' :=
  ⟨(b.cell (p := ⟨w.heap.size, 1, none⟩) a.lt).trans a.c1, (b.cell (p := ⟨w.heap.size, 2, none⟩) a.lt).trans a.c2, (b.cell (p := ⟨w.heap.size, 3, none⟩) a.lt).trans a.c3, (b.block g (Array.getElem?_eq_some_iff.1 a.row).1).trans a.row, Nat.lt_of_lt_of_le a.lt b.size, a.below.trans (b.mono a.below.size)⟩
def RTS (w : World) (g : Nat) (h p i : Int) (v : Bool) (b0 b1 b2 b3 : Int) (W : World) : Prop :=
  W.cell? ⟨w.heap.size, 1, none⟩ = some (.int .i64 p) ∧ W.cell? ⟨g, 0, none⟩ = some (.int .u8 b0) ∧ W.cell? ⟨g, 1, none⟩ = some (.int .u8 b1) ∧ W.cell? ⟨g, 2, none⟩ = some (.int .u8 b2) ∧ W.cell? ⟨g, 3, none⟩ = some (.int .u8 b3) ∧ RT w g h p i v W
theorem RT.six {w W : World} {g : Nat} {h p i : Int} {v : Bool} {b0 b1 b2 b3 : Int} (h0 : h / 16777216 = b0) (h1 : h / 65536 % 256 = b1) (h2 : h / 256 % 256 = b2) (h3 : h % 256 = b3) (a : RT w g h p i v W) : RTS w g h p i v b0 b1 b2 b3 W := by
  subst h0; subst h1; subst h2; subst h3
  refine ⟨a.c1, ?_, ?_, ?_, ?_, a⟩
  · rw [(cells_of a.row 0).1]; simp [bytesA]
  · rw [(cells_of a.row 1).1]; simp [bytesA]
  · rw [(cells_of a.row 2).1]; simp [bytesA]
  · rw [(cells_of a.row 3).1]; simp [bytesA]

set_option maxRecDepth 100000 in
set_option maxHeartbeats 2000000 in
theorem rtext_no (h p i : Int) (v : Bool) (w : World) (h0 : 0 ≤ h) (h1 : h < 4294967296) (hm : mayP h p i v = false) : Calls Tryd.prog 20 #[plc h p i v] w fun e w' => e = .returned (.string (st [])) ∧ Below w.heap.size w w' := by
  have HM := Lib.hid (fun W => rplace_any h p i v W h0 h1)
  rw [hm] at HM
  clear hm
  unfold plc at *
  go_enter Tryd.func20, Tryd.ntmps20
  go_wp2_with fail
  refine (HM.out _).mono ?_
  rintro e w1 ⟨rfl, hb1⟩
  have HB1 : Hid (Below w.heap.size w w1) := Lib.hid (((Below.refl _ _).alloc (Nat.le_refl _) _).trans (hb1.mono (by simp)))
  clear hb1
  go_wp2
  go_ret
  exact ⟨rfl, HB1.out⟩

set_option maxRecDepth 100000 in
set_option maxHeartbeats 4000000 in
theorem rtext_ok (h p i : Int) (v : Bool) (w : World) (h0 : 0 ≤ h) (h1 : h < 4294967296) (hm : mayP h p i v = true) :
    Calls Tryd.prog 20 #[plc h p i v] w fun e w' => e = .returned (.string (st (textL h p i v))) ∧ Below w.heap.size w w' := by
  have hm' := hm
  unfold mayP at hm'
  simp only [Bool.and_eq_true, decide_eq_true_eq] at hm'
  obtain ⟨hvi, ⟨hma, hi0⟩, hi1⟩ := hm'
  have hp : 1 ≤ p ∧ p ≤ 65535 := by
    have : h ≠ 0 ∧ 1 ≤ p ∧ p ≤ 65535 := by simpa [mayA, and_assoc] using hma
    exact this.2
  have HM := Lib.hid (fun W => rplace_any h p i v W h0 h1)
  rw [hm] at HM
  have HB := Lib.hid (fun W => rbytes_ok h p W h0 h1 hma)
  have l1 := hostL_short h p h0 h1
  have l2 := dig_short p (by omega)
  have l3 := dig_short i hi1
  have hcat := hostL_cat h p
  obtain ⟨b0, e0⟩ : ∃ b, h / 16777216 = b := ⟨_, rfl⟩
  obtain ⟨b1, e1⟩ : ∃ b, h / 65536 % 256 = b := ⟨_, rfl⟩
  obtain ⟨b2, e2⟩ : ∃ b, h / 256 % 256 = b := ⟨_, rfl⟩
  obtain ⟨b3, e3⟩ : ∃ b, h % 256 = b := ⟨_, rfl⟩
  have HSIX : Hid (∀ g W, RT w g h p i v W → RTS w g h p i v b0 b1 b2 b3 W) := Lib.hid (fun g W a => a.six e0 e1 e2 e3)
  rw [e0, e1, e2, e3] at hcat
  have r0 : 0 ≤ b0 ∧ b0 ≤ 255 := by omega
  have r1 : 0 ≤ b1 ∧ b1 ≤ 255 := by omega
  have r2 : 0 ≤ b2 ∧ b2 ≤ 255 := by omega
  have r3 : 0 ≤ b3 ∧ b3 ≤ 255 := by omega
  have w0 : IntKind.i64.wrap b0 = b0 := by rw [IntKind.wrap_i64]; omega
  have w1 : IntKind.i64.wrap b1 = b1 := by rw [IntKind.wrap_i64]; omega
  have w2 : IntKind.i64.wrap b2 = b2 := by rw [IntKind.wrap_i64]; omega
  have w3 : IntKind.i64.wrap b3 = b3 := by rw [IntKind.wrap_i64]; omega
  have D0 := Lib.hid (digits_at b0 r0.1 (by omega)); have D1 := Lib.hid (digits_at b1 r1.1 (by omega)); have D2 := Lib.hid (digits_at b2 r2.1 (by omega)); have D3 := Lib.hid (digits_at b3 r3.1 (by omega)); have DP := Lib.hid (digits_at p (by omega) (by omega)); have DI := Lib.hid (digits_at i hi0 hi1)
  -- the texts, one behind the other
  have hsum : (dig b0).length + (dig b1).length + (dig b2).length + (dig b3).length + 3 ≤ 15 := by rw [hcat] at l1; simp at l1; omega
  obtain ⟨L1, q1⟩ : ∃ R, [47, 105, 112, 52, 47] ++ dig b0 = R := ⟨_, rfl⟩
  obtain ⟨L2, q2⟩ : ∃ R, L1 ++ [46] = R := ⟨_, rfl⟩
  obtain ⟨L3, q3⟩ : ∃ R, L2 ++ dig b1 = R := ⟨_, rfl⟩
  obtain ⟨L4, q4⟩ : ∃ R, L3 ++ [46] = R := ⟨_, rfl⟩
  obtain ⟨L5, q5⟩ : ∃ R, L4 ++ dig b2 = R := ⟨_, rfl⟩
  obtain ⟨L6, q6⟩ : ∃ R, L5 ++ [46] = R := ⟨_, rfl⟩
  obtain ⟨L7, q7⟩ : ∃ R, L6 ++ dig b3 = R := ⟨_, rfl⟩
  obtain ⟨L8, q8⟩ : ∃ R, L7 ++ [47, 117, 100, 112, 47] = R := ⟨_, rfl⟩
  obtain ⟨L9, q9⟩ : ∃ R, L8 ++ dig p = R := ⟨_, rfl⟩
  obtain ⟨M1, q10⟩ : ∃ R, L9 ++ [47, 112, 50, 112, 47] = R := ⟨_, rfl⟩
  obtain ⟨M2, q11⟩ : ∃ R, M1 ++ dig i = R := ⟨_, rfl⟩
  obtain ⟨M3, q12⟩ : ∃ R, M2 ++ [47, 112, 50, 112, 45, 99, 105, 114, 99, 117, 105, 116] = R := ⟨_, rfl⟩
  have hL9 : L9 = [47, 105, 112, 52, 47] ++ hostL h p ++ [47, 117, 100, 112, 47] ++ dig p := by
    rw [← q9, ← q8, ← q7, ← q6, ← q5, ← q4, ← q3, ← q2, ← q1, hcat]; simp
  have hM2 : M2 = L9 ++ ([47, 112, 50, 112, 47] ++ dig i) := by rw [← q11, ← q10]; simp
  have z1 : L1.length = 5 + (dig b0).length := by rw [← q1]; simp; omega
  have z2 : L2.length = L1.length + 1 := by rw [← q2]; simp
  have z3 : L3.length = L2.length + (dig b1).length := by rw [← q3]; simp
  have z4 : L4.length = L3.length + 1 := by rw [← q4]; simp
  have z5 : L5.length = L4.length + (dig b2).length := by rw [← q5]; simp
  have z6 : L6.length = L5.length + 1 := by rw [← q6]; simp
  have z7 : L7.length = L6.length + (dig b3).length := by rw [← q7]; simp
  have z8 : L8.length = L7.length + 5 := by rw [← q8]; simp
  have z9 : L9.length = L8.length + (dig p).length := by rw [← q9]; simp
  have z10 : M1.length = L9.length + 5 := by rw [← q10]; simp
  have z11 : M2.length = M1.length + (dig i).length := by rw [← q11]; simp
  have k1 := fun W => add_st [47, 105, 112, 52, 47] (dig b0) (by simp; omega) W
  have k2 := fun W => add_st L1 [46] (by simp; omega) W
  have k3 := fun W => add_st L2 (dig b1) (by omega) W
  have k4 := fun W => add_st L3 [46] (by simp; omega) W
  have k5 := fun W => add_st L4 (dig b2) (by omega) W
  have k6 := fun W => add_st L5 [46] (by simp; omega) W
  have k7 := fun W => add_st L6 (dig b3) (by omega) W
  have k8 := fun W => add_st L7 [47, 117, 100, 112, 47] (by simp; omega) W
  have k9 := fun W => add_st L8 (dig p) (by omega) W
  have k10 := fun W => add_st L9 [47, 112, 50, 112, 47] (by simp; omega) W
  have k11 := fun W => add_st M1 (dig i) (by omega) W
  have k12 := fun W => add_st M2 [47, 112, 50, 112, 45, 99, 105, 114, 99, 117, 105, 116] (by simp; omega) W
  rw [q1] at k1; rw [q2] at k2; rw [q3] at k3; rw [q4] at k4; rw [q5] at k5; rw [q6] at k6; rw [q7] at k7; rw [q8] at k8; rw [q9] at k9; rw [q10] at k10; rw [q11] at k11; rw [q12] at k12
  obtain ⟨T, hT⟩ : ∃ T, st (textL h p i v) = T := ⟨_, rfl⟩
  rw [hT]
  have HR3 : Hid (i = 0 → st L9 = T) := Lib.hid (fun hi => by
    rw [← hT, hL9]
    have : v = false := by cases v <;> simp_all
    unfold textL; rw [if_pos hi, if_neg (by rw [this]; simp)]; simp)
  have HR5 : Hid (¬ i = 0 → v = false → st M2 = T) := Lib.hid (fun hi hv => by
    rw [← hT, hM2, hL9]
    unfold textL; rw [if_neg hi, if_neg (by rw [hv]; simp)]; simp)
  have HR6 : Hid (¬ i = 0 → v = true → st M3 = T) := Lib.hid (fun hi hv => by
    rw [← hT, ← q12, hM2, hL9]
    unfold textL; rw [if_neg hi, if_pos hv])
  have HVI : Hid (i = 0 → v = false) := Lib.hid (fun hi => by cases v <;> simp_all)
  clear hm hma hT q1 q2 q3 q4 q5 q6 q7 q8 q9 q10 q11 q12 z1 z2 z3 z4 z5 z6 z7 z8 z9 z10 z11 hL9 hM2 l1 l2 l3 hvi hcat e0 e1 e2 e3 hsum
  generalize st L1 = S1 at *
  generalize st L2 = S2 at *
  generalize st L3 = S3 at *
  generalize st L4 = S4 at *
  generalize st L5 = S5 at *
  generalize st L6 = S6 at *
  generalize st L7 = S7 at *
  generalize st L8 = S8 at *
  generalize st L9 = S9 at *
  generalize st M1 = S10 at *
  generalize st M2 = S11 at *
  generalize st M3 = S12 at *
  generalize st (dig b0) = B0 at *
  generalize st (dig b1) = B1 at *
  generalize st (dig b2) = B2 at *
  generalize st (dig b3) = B3 at *
  generalize st (dig p) = BP at *
  generalize st (dig i) = BI at *
  have c1 : st [47, 105, 112, 52, 47] = ⟨#[47, 105, 112, 52, 47]⟩ := rfl
  have c2 : st [47, 117, 100, 112, 47] = ⟨#[47, 117, 100, 112, 47]⟩ := rfl
  have c3 : st [47, 112, 50, 112, 47] = ⟨#[47, 112, 50, 112, 47]⟩ := rfl
  have c4 : st [47, 112, 50, 112, 45, 99, 105, 114, 99, 117, 105, 116] = ⟨#[47, 112, 50, 112, 45, 99, 105, 114, 99, 117, 105, 116]⟩ := rfl
  have c5 : st [46] = ⟨#[46]⟩ := rfl
  rw [c1] at k1; rw [c5] at k2 k4 k6; rw [c2] at k8; rw [c3] at k10; rw [c4] at k12
  clear c1 c2 c3 c4 c5
  unfold plc at *
  go_enter Tryd.func20, Tryd.ntmps20
  go_wp2_with fail
  refine (HM.out _).mono ?_
  rintro e wa ⟨rfl, hb1⟩
  have HB1 : Hid (Below w.heap.size w wa) := Lib.hid (((Below.refl _ _).alloc (Nat.le_refl _) _).trans (hb1.mono (by simp)))
  have HL : Hid (w.heap.size < wa.heap.size) := Lib.hid (by have := hb1.size; simp at this; omega)
  have x0 : wa.cell? ⟨w.heap.size, 0, none⟩ = some (.int .u32 h) := (hb1.cell (p := ⟨w.heap.size, 0, none⟩) (by simp)).trans (by simp)
  have x1 : wa.cell? ⟨w.heap.size, 1, none⟩ = some (.int .i64 p) := (hb1.cell (p := ⟨w.heap.size, 1, none⟩) (by simp)).trans (by simp)
  have x2 : wa.cell? ⟨w.heap.size, 2, none⟩ = some (.int .i64 i) := (hb1.cell (p := ⟨w.heap.size, 2, none⟩) (by simp)).trans (by simp)
  have x3 : wa.cell? ⟨w.heap.size, 3, none⟩ = some (.bool v) := (hb1.cell (p := ⟨w.heap.size, 3, none⟩) (by simp)).trans (by simp)
  clear hb1
  unfold adr at HB
  go_wp2_with fail
  refine (HB.out _).mono ?_
  rintro e wb ⟨g, rfl, hg, hge, hb2⟩
  have hR : RT w g h p i v wb := ⟨(hb2.cell (p := ⟨w.heap.size, 1, none⟩) HL.out).trans x1, (hb2.cell (p := ⟨w.heap.size, 2, none⟩) HL.out).trans x2, (hb2.cell (p := ⟨w.heap.size, 3, none⟩) HL.out).trans x3, hg, Nat.lt_of_lt_of_le HL.out hb2.size, HB1.out.trans (hb2.mono HB1.out.size)⟩
  have hR' : RTS w g h p i v b0 b1 b2 b3 wb.drew := HSIX.out g _ (hR.call (Below.refl _ _).drew)
  clear hb2 hg x0 x1 x2 x3
  unfold RTS at *
  go_wp2
  go_region_held3 (fun W => W.cell? ⟨w.heap.size, 1, none⟩ = some (.int .i64 p) ∧ W.cell? ⟨g, 0, none⟩ = some (.int .u8 b0) ∧ W.cell? ⟨g, 1, none⟩ = some (.int .u8 b1) ∧ W.cell? ⟨g, 2, none⟩ = some (.int .u8 b2) ∧ W.cell? ⟨g, 3, none⟩ = some (.int .u8 b3) ∧ RT w g h p i v W) (first | exact hR' | exact HSIX.out g _ (RT.call (by assumption : _ ∧ _ ∧ _ ∧ _ ∧ _ ∧ RT w g h p i v _).2.2.2.2.2 hb9)) (first | (go_at_call 25; (first | (with_reducible refine (D0.out _).mono ?_) | (with_reducible refine (D1.out _).mono ?_) | (with_reducible refine (D2.out _).mono ?_) | (with_reducible refine (D3.out _).mono ?_) | (with_reducible refine (DP.out _).mono ?_)); rintro e w9 ⟨rfl, hb9⟩))
  rename_i hX
  have HX := Lib.hid hX.2.2.2.2.2
  have x2 := HX.out.c2
  have x3 := HX.out.c3
  clear hX hR hR'
  by_cases hi : i = 0
  · have t : decide (0 < i) = false := by simp [hi]
    obtain rfl := HVI.out hi
    have HR := Lib.hid (HR3.out hi)
    clear hi
    go_wp2
    go_ret
    exact ⟨by rw [HR.out]; rfl, HX.out.below⟩
  · have t : decide (0 < i) = true := by simp; omega
    cases v with
    | false =>
      have HR := Lib.hid (HR5.out hi rfl)
      clear hi
      go_wp2_with fail
      refine (DI.out _).mono ?_
      rintro e w9 ⟨rfl, hb9⟩
      have HX9 := Lib.hid (HX.out.call hb9)
      have y3 := HX9.out.c3
      clear hb9 x2 x3
      go_wp2
      go_ret
      exact ⟨by rw [HR.out]; rfl, HX9.out.below⟩
    | true =>
      have HR := Lib.hid (HR6.out hi rfl)
      clear hi
      go_wp2_with fail
      refine (DI.out _).mono ?_
      rintro e w9 ⟨rfl, hb9⟩
      have HX9 := Lib.hid (HX.out.call hb9)
      have y3 := HX9.out.c3
      clear hb9 x2 x3
      go_wp2
      go_ret
      exact ⟨by rw [HR.out]; rfl, HX9.out.below⟩
end Go.Proofs.YtkemkbaomhjnbaaDoor
