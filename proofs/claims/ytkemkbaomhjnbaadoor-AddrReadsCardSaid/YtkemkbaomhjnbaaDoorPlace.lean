/-
  Contracts of embrasure/addr's MayPlace and Text. Conditions: as each states.
-/
import Derived.Test.YtkemkbaomhjnbaaDoorTxt
import Derived.OwnWalk
import Derived.Deep.RegionHeld3
namespace Go.Proofs.YtkemkbaomhjnbaaDoor
open Go.RowKit
set_option linter.unusedVariables false

/-- a place as a value -/
def plc (h p i : Int) (v : Bool) : Value := .agg #[.int .u32 h, .int .i64 p, .int .i64 i, .bool v]
def mayP (h p i : Int) (v : Bool) : Bool := !(v && decide (i = 0)) && (mayA h p && decide (0 ≤ i) && decide (i ≤ 2147483647))

set_option maxRecDepth 100000 in
set_option maxHeartbeats 2000000 in
theorem mayplace_any (h p i : Int) (v : Bool) (w : World) (h0 : 0 ≤ h) (h1 : h < 4294967296) : Calls Tryd.prog 21 #[plc h p i v] w fun e w' => e = .returned (.bool (mayP h p i v)) ∧ Below w.heap.size w w' := by
  have HM := Lib.hid (fun W => may_any h p W h0 h1)
  unfold adr at HM
  unfold plc
  obtain ⟨T, hT⟩ : ∃ T, mayP h p i v = T := ⟨_, rfl⟩
  rw [hT]
  by_cases hvi : v = true ∧ i = 0
  · obtain ⟨rfl, rfl⟩ := hvi
    go_enter Tryd.func21, Tryd.ntmps21
    go_wp2
    go_ret
    exact ⟨ret_b' (by rw [← hT]; rfl), (Below.refl _ _).alloc (Nat.le_refl _) _⟩
  · have HV : Hid ((v && decide (i = 0)) = false) := Lib.hid (by simpa using hvi)
    have HT : Hid (T = (mayA h p && decide (0 ≤ i) && decide (i ≤ 2147483647))) := Lib.hid (by rw [← hT]; unfold mayP; rw [HV.out]; rfl)
    have tv : v = true → (i == 0) = false := fun h => by
      have := HV.out
      rw [h] at this
      simpa using this
    clear hT hvi
    have hv : v = false ∨ (v = true ∧ (i == 0) = false) := by cases v <;> simp_all
    clear tv
    rcases hv with rfl | ⟨rfl, hi⟩
    all_goals
      cases hm : mayA h p with
      | true =>
        rw [hm] at HM HT
        rw [Bool.true_and] at HT
        clear hm
        by_cases hi0 : 0 ≤ i
        · by_cases hi1 : i ≤ 2147483647
          all_goals
            go_enter Tryd.func21, Tryd.ntmps21
            go_wp2_with fail
            refine (HM.out _).mono ?_
            rintro e w1 ⟨rfl, hb1⟩
            have HB1 : Hid (Below w.heap.size w w1) := Lib.hid (((Below.refl _ _).alloc (Nat.le_refl _) _).trans (hb1.mono (by simp)))
            have c1 : w1.cell? ⟨w.heap.size, 2, none⟩ = some (.int .i64 i) := (hb1.cell (p := ⟨w.heap.size, 2, none⟩) (by simp)).trans (by simp)
            clear hb1
            go_wp2
            go_ret
            exact ⟨ret_b' (by rw [HT.out]; simp [hi0, hi1]), HB1.out⟩
        · go_enter Tryd.func21, Tryd.ntmps21
          go_wp2_with fail
          refine (HM.out _).mono ?_
          rintro e w1 ⟨rfl, hb1⟩
          have HB1 : Hid (Below w.heap.size w w1) := Lib.hid (((Below.refl _ _).alloc (Nat.le_refl _) _).trans (hb1.mono (by simp)))
          have c1 : w1.cell? ⟨w.heap.size, 2, none⟩ = some (.int .i64 i) := (hb1.cell (p := ⟨w.heap.size, 2, none⟩) (by simp)).trans (by simp)
          clear hb1
          go_wp2
          go_ret
          exact ⟨ret_b' (by rw [HT.out, decide_eq_false (by omega), Bool.false_and]), HB1.out⟩
      | false =>
        rw [hm] at HM HT
        rw [Bool.false_and, Bool.false_and] at HT
        clear hm
        go_enter Tryd.func21, Tryd.ntmps21
        go_wp2_with fail
        refine (HM.out _).mono ?_
        rintro e w1 ⟨rfl, hb1⟩
        have HB1 : Hid (Below w.heap.size w w1) := Lib.hid (((Below.refl _ _).alloc (Nat.le_refl _) _).trans (hb1.mono (by simp)))
        clear hb1
        go_wp2
        go_ret
        exact ⟨ret_b' HT.out.symm, HB1.out⟩

/-- a place's text -/
def textL (h p i : Int) (v : Bool) : List UInt8 := [47, 105, 112, 52, 47] ++ hostL h p ++ [47, 117, 100, 112, 47] ++ dig p ++ (if i = 0 then [] else [47, 112, 50, 112, 47] ++ dig i) ++ if v = true then [47, 112, 50, 112, 45, 99, 105, 114, 99, 117, 105, 116] else []
theorem st_app (a b : List UInt8) : st a ++ st b = st (a ++ b) := by
  apply ByteArray.ext
  simp [st, ByteArray.data_append]
/-- the condition of Text's region: the place's box is as it was laid -/
structure TextS (w w1 : World) (h p i : Int) (v : Bool) (W : World) : Prop where
  c0 : W.cell? ⟨w.heap.size, 0, none⟩ = some (.int .u32 h)
  c1 : W.cell? ⟨w.heap.size, 1, none⟩ = some (.int .i64 p)
  c2 : W.cell? ⟨w.heap.size, 2, none⟩ = some (.int .i64 i)
  c3 : W.cell? ⟨w.heap.size, 3, none⟩ = some (.bool v)
  lt : w.heap.size < W.heap.size
  below : Below w1.heap.size w1 W
theorem TextS.three {w w1 W : World} {h p i : Int} {v : Bool} (a : TextS w w1 h p i v W) : W.cell? ⟨w.heap.size, 0, none⟩ = some (.int .u32 h) ∧ W.cell? ⟨w.heap.size, 1, none⟩ = some (.int .i64 p) ∧ TextS w w1 h p i v W := ⟨a.c0, a.c1, a⟩
theorem TextS.call {w w1 W W' : World} {h p i : Int} {v : Bool} (a : TextS w w1 h p i v W) (b : Below W.heap.size W W') : TextS w w1 h p i v W' :=
  ⟨(b.cell (p := ⟨w.heap.size, 0, none⟩) a.lt).trans a.c0, (b.cell (p := ⟨w.heap.size, 1, none⟩) a.lt).trans a.c1, (b.cell (p := ⟨w.heap.size, 2, none⟩) a.lt).trans a.c2, (b.cell (p := ⟨w.heap.size, 3, none⟩) a.lt).trans a.c3, Nat.lt_of_lt_of_le a.lt b.size, a.below.trans (b.mono a.below.size)⟩

set_option maxRecDepth 100000 in
set_option maxHeartbeats 2000000 in
theorem text_no (h p i : Int) (v : Bool) (w : World) (h0 : 0 ≤ h) (h1 : h < 4294967296) (hm : mayP h p i v = false) : Calls Tryd.prog 19 #[plc h p i v] w fun e w' => e = .returned (.string (st [])) ∧ Below w.heap.size w w' := by
  have HM := Lib.hid (fun W => mayplace_any h p i v W h0 h1)
  rw [hm] at HM
  clear hm
  unfold plc at *
  go_enter Tryd.func19, Tryd.ntmps19
  go_wp2_with fail
  refine (HM.out _).mono ?_
  rintro e w1 ⟨rfl, hb1⟩
  have HB1 : Hid (Below w.heap.size w w1) := Lib.hid (((Below.refl _ _).alloc (Nat.le_refl _) _).trans (hb1.mono (by simp)))
  clear hb1
  go_wp2
  go_ret
  exact ⟨rfl, HB1.out⟩

theorem add_st (a b : List UInt8) (h : a.length + b.length ≤ 1000) (W : World) : (Op.stringOp .add (st a) (st b)).run Tryd.prog W = .ok (.string (st (a ++ b))) W := by
  rw [← st_app]
  exact run_string_add_sum W (st a) (st b) (by rw [st_size, st_size]; omega)
theorem hostL_short (h p : Int) (h0 : 0 ≤ h) (h1 : h < 4294967296) : (hostL h p).length ≤ 15 := by
  have d : ∀ n : Int, 0 ≤ n → n < 1000 → (dig n).length ≤ 3 := fun n a b => dec_len 2 n.toNat (by omega)
  have d1 := d (h / 16777216) (by omega) (by omega)
  have d2 := d (h / 65536 % 256) (by omega) (by omega)
  have d3 := d (h / 256 % 256) (by omega) (by omega)
  have d4 := d (h % 256) (by omega) (by omega)
  simp [hostL, bytesA, Lib.join, List.intercalate, List.intersperse]
  omega
theorem dig_short (n : Int) (h1 : n ≤ 2147483647) : (dig n).length ≤ 10 := dec_len 9 n.toNat (by omega)

set_option maxRecDepth 100000 in
set_option maxHeartbeats 2000000 in
theorem text_ok (h p i : Int) (v : Bool) (w : World) (h0 : 0 ≤ h) (h1 : h < 4294967296) (hm : mayP h p i v = true) (hI : ∀ c ∈ (bytesA h p).take 4, ItoaAt w c) (hIp : ItoaAt w p) (hIi : ¬ i = 0 → ItoaAt w i) :
    Calls Tryd.prog 19 #[plc h p i v] w fun e w' => e = .returned (.string (st (textL h p i v))) ∧ Below w.heap.size w w' := by
  have hm' := hm
  unfold mayP at hm'
  simp only [Bool.and_eq_true, decide_eq_true_eq] at hm'
  obtain ⟨hvi, ⟨hma, hi0⟩, hi1⟩ := hm'
  have hp : p ≤ 65535 := by
    have : h ≠ 0 ∧ 1 ≤ p ∧ p ≤ 65535 := by simpa [mayA, and_assoc] using hma
    exact this.2.2
  have HM := Lib.hid (fun W => mayplace_any h p i v W h0 h1)
  rw [hm] at HM
  have HT : Hid (∀ w1, Below w.heap.size w w1 → Calls Tryd.prog 29 #[.agg #[.int .u32 h, .int .i64 p]] w1 fun e w' => e = .returned (.string (st (hostL h p))) ∧ Below w1.heap.size w1 w') := Lib.hid (fun w1 hb => host_text h p w1 h0 h1 hma (fun c hc => (hI c hc).below hb))
  have HI : Hid (∀ w1, Below w.heap.size w w1 → Calls Tryd.prog 30 #[.int .i64 p] w1 fun e w' => e = .returned (.string (st (dig p))) ∧ Below w1.heap.size w1 w') := Lib.hid (fun w1 hb => hIp w1 hb)
  have HI2 : Hid (¬ i = 0 → ∀ w1, Below w.heap.size w w1 → Calls Tryd.prog 30 #[.int .i64 i] w1 fun e w' => e = .returned (.string (st (dig i))) ∧ Below w1.heap.size w1 w') := Lib.hid (fun hn w1 hb => hIi hn w1 hb)
  have l1 := hostL_short h p h0 h1
  have l2 := dig_short p (by omega)
  have l3 := dig_short i hi1
  obtain ⟨R1, hR1⟩ : ∃ R, st ([47, 105, 112, 52, 47] ++ hostL h p) = R := ⟨_, rfl⟩
  obtain ⟨R2, hR2⟩ : ∃ R, st (([47, 105, 112, 52, 47] ++ hostL h p) ++ [47, 117, 100, 112, 47]) = R := ⟨_, rfl⟩
  obtain ⟨R3, hR3⟩ : ∃ R, st ((([47, 105, 112, 52, 47] ++ hostL h p) ++ [47, 117, 100, 112, 47]) ++ dig p) = R := ⟨_, rfl⟩
  obtain ⟨R4, hR4⟩ : ∃ R, st ([47, 112, 50, 112, 47] ++ dig i) = R := ⟨_, rfl⟩
  obtain ⟨R5, hR5⟩ : ∃ R, st (((([47, 105, 112, 52, 47] ++ hostL h p) ++ [47, 117, 100, 112, 47]) ++ dig p) ++ ([47, 112, 50, 112, 47] ++ dig i)) = R := ⟨_, rfl⟩
  obtain ⟨R6, hR6⟩ : ∃ R, st (((((([47, 105, 112, 52, 47] ++ hostL h p) ++ [47, 117, 100, 112, 47]) ++ dig p) ++ ([47, 112, 50, 112, 47] ++ dig i))) ++ [47, 112, 50, 112, 45, 99, 105, 114, 99, 117, 105, 116]) = R := ⟨_, rfl⟩
  have k1 := fun W => add_st [47, 105, 112, 52, 47] (hostL h p) (by simp; omega) W
  have k2 := fun W => add_st ([47, 105, 112, 52, 47] ++ hostL h p) [47, 117, 100, 112, 47] (by simp; omega) W
  have k3 := fun W => add_st (([47, 105, 112, 52, 47] ++ hostL h p) ++ [47, 117, 100, 112, 47]) (dig p) (by simp; omega) W
  have k4 := fun W => add_st [47, 112, 50, 112, 47] (dig i) (by simp; omega) W
  have k5 := fun W => add_st ((([47, 105, 112, 52, 47] ++ hostL h p) ++ [47, 117, 100, 112, 47]) ++ dig p) ([47, 112, 50, 112, 47] ++ dig i) (by simp; omega) W
  have k6 := fun W => add_st (((([47, 105, 112, 52, 47] ++ hostL h p) ++ [47, 117, 100, 112, 47]) ++ dig p) ++ ([47, 112, 50, 112, 47] ++ dig i)) [47, 112, 50, 112, 45, 99, 105, 114, 99, 117, 105, 116] (by simp; omega) W
  rw [hR1] at k1 k2
  rw [hR2] at k2 k3
  rw [hR3] at k3 k5
  rw [hR4] at k4 k5
  rw [hR5] at k5 k6
  rw [hR6] at k6
  obtain ⟨T, hT⟩ : ∃ T, st (textL h p i v) = T := ⟨_, rfl⟩
  rw [hT]
  have HR3 : Hid (i = 0 → R3 = T) := Lib.hid (fun hi => by
    rw [← hR3, ← hT]
    have : v = false := by cases v <;> simp_all
    unfold textL; rw [if_pos hi, if_neg (by rw [this]; simp)]; simp)
  have HR5 : Hid (¬ i = 0 → v = false → R5 = T) := Lib.hid (fun hi hv => by
    rw [← hR5, ← hT]
    unfold textL; rw [if_neg hi, if_neg (by rw [hv]; simp)]; simp)
  have HR6 : Hid (¬ i = 0 → v = true → R6 = T) := Lib.hid (fun hi hv => by
    rw [← hR6, ← hT]
    unfold textL; rw [if_neg hi, if_pos hv])
  have HVI : Hid (i = 0 → v = false) := Lib.hid (fun hi => by cases v <;> simp_all)
  clear hm hma hI hIp hIi hT hR1 hR2 hR3 hR4 hR5 hR6 l1 l2 l3 hvi
  generalize st (hostL h p) = S1 at *
  generalize st (dig p) = S2 at *
  generalize st (dig i) = S3 at *
  have q1 : st [47, 105, 112, 52, 47] = ⟨#[47, 105, 112, 52, 47]⟩ := rfl
  have q2 : st [47, 117, 100, 112, 47] = ⟨#[47, 117, 100, 112, 47]⟩ := rfl
  have q3 : st [47, 112, 50, 112, 47] = ⟨#[47, 112, 50, 112, 47]⟩ := rfl
  have q4 : st [47, 112, 50, 112, 45, 99, 105, 114, 99, 117, 105, 116] = ⟨#[47, 112, 50, 112, 45, 99, 105, 114, 99, 117, 105, 116]⟩ := rfl
  rw [q1] at k1; rw [q2] at k2; rw [q3] at k4; rw [q4] at k6
  clear q1 q2 q3 q4
  unfold plc at *
  go_enter Tryd.func19, Tryd.ntmps19
  go_wp2_with fail
  refine (HM.out _).mono ?_
  rintro e w1 ⟨rfl, hb1⟩
  have HB1 : Hid (Below w.heap.size w w1) := Lib.hid (((Below.refl _ _).alloc (Nat.le_refl _) _).trans (hb1.mono (by simp)))
  have c0 : w1.cell? ⟨w.heap.size, 0, none⟩ = some (.int .u32 h) := (hb1.cell (p := ⟨w.heap.size, 0, none⟩) (by simp)).trans (by simp)
  have c1 : w1.cell? ⟨w.heap.size, 1, none⟩ = some (.int .i64 p) := (hb1.cell (p := ⟨w.heap.size, 1, none⟩) (by simp)).trans (by simp)
  have c2 : w1.cell? ⟨w.heap.size, 2, none⟩ = some (.int .i64 i) := (hb1.cell (p := ⟨w.heap.size, 2, none⟩) (by simp)).trans (by simp)
  have c3 : w1.cell? ⟨w.heap.size, 3, none⟩ = some (.bool v) := (hb1.cell (p := ⟨w.heap.size, 3, none⟩) (by simp)).trans (by simp)
  have HL : Hid (w.heap.size < w1.heap.size) := Lib.hid (by have := hb1.size; simp at this; omega)
  clear hb1
  go_wp2
  have HS : TextS w w1 h p i v w1.drew := ⟨c0, c1, c2, c3, HL.out, (Below.refl _ _).drew⟩
  go_region_held3 (fun w' => w'.cell? ⟨w.heap.size, 0, none⟩ = some (.int .u32 h) ∧ w'.cell? ⟨w.heap.size, 1, none⟩ = some (.int .i64 p) ∧ TextS w w1 h p i v w') (first | exact ⟨c0, c1, HS⟩ | exact (TextS.call (by assumption : _ ∧ _ ∧ TextS w w1 h p i v _).2.2 hb2).three) (first | (go_at_call 29; refine (HT.out _ (HB1.out.trans ((by assumption : _ ∧ _ ∧ TextS w w1 h p i v _).2.2.below.mono HB1.out.size))).mono ?_; rintro e w2 ⟨rfl, hb2⟩) | (go_at_call 30; refine (HI.out _ (HB1.out.trans ((by assumption : _ ∧ _ ∧ TextS w w1 h p i v _).2.2.below.mono HB1.out.size))).mono ?_; rintro e w2 ⟨rfl, hb2⟩))
  all_goals
    rename_i hX
    have HX := Lib.hid hX.2.2
    have x2 := HX.out.c2
    have x3 := HX.out.c3
    clear hX
    by_cases hi : i = 0
    · have t : (i != 0) = false := by simp [hi]
      obtain rfl := HVI.out hi
      have HR := Lib.hid (HR3.out hi)
      clear hi
      go_wp2
      go_ret
      exact ⟨by rw [HR.out]; rfl, HB1.out.trans (HX.out.below.mono HB1.out.size)⟩
    · have t : (i != 0) = true := by rw [bne_iff_ne]; exact hi
      have HI3 := Lib.hid (HI2.out hi)
      cases v with
      | false =>
        have HR := Lib.hid (HR5.out hi rfl)
        clear hi
        go_wp2_with fail
        refine (HI3.out _ (HB1.out.trans (HX.out.below.mono HB1.out.size))).mono ?_
        rintro e w9 ⟨rfl, hb9⟩
        have HX9 := Lib.hid (HX.out.call hb9)
        have y3 := HX9.out.c3
        clear hb9 x2 x3
        go_wp2
        go_ret
        exact ⟨by rw [HR.out]; rfl, HB1.out.trans (HX9.out.below.mono HB1.out.size)⟩
      | true =>
        have HR := Lib.hid (HR6.out hi rfl)
        clear hi
        go_wp2_with fail
        refine (HI3.out _ (HB1.out.trans (HX.out.below.mono HB1.out.size))).mono ?_
        rintro e w9 ⟨rfl, hb9⟩
        have HX9 := Lib.hid (HX.out.call hb9)
        have y3 := HX9.out.c3
        clear hb9 x2 x3
        go_wp2
        go_ret
        exact ⟨by rw [HR.out]; rfl, HB1.out.trans (HX9.out.below.mono HB1.out.size)⟩
end Go.Proofs.YtkemkbaomhjnbaaDoor
