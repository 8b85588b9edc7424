/-
  The walk of slices.partitionEqualCmpFunc at names, by the table's own comparison. Conditions: as 'Env' tells; the pivot is one of the places.
-/
import Derived.Test.YtahccfljgmleiaaSrt1
import Derived.Sort.WalkC
namespace Go.Proofs.Ytahccfljgmleiaa
open Go.RowKit Go.Sort
set_option linter.unusedVariables false

/-- a place, and the row, behind a partition -/
def PartsAt (w0 : World) (b : Nat) (r : Nat × Array Ky) : Ending → World → Prop := fun e w' => e = .returned (.int .i64 r.1) ∧ SW nam w0 b 0 r.2 w'

set_option maxHeartbeats 32000000 in
set_option maxRecDepth 100000 in
theorem parteq_any {p : Value} {cf : Ky → Ky → Int} {w0 : World} {b n : Nat} (E : Env p cf w0 b n) (cap a z pv : Nat) (d : Array Ky) (w : World) (hs : d.size = n) (S : SW nam w0 b 0 d w) (hap : a ≤ pv) (hpz : pv < z) (hz : z ≤ n) :
    Calls Try.prog 46 #[.slice (some ⟨b, 0, none⟩) n cap, .int .i64 a, .int .i64 z, .int .i64 pv, ofTab p] w (PartsAt w0 b (Sort.partitionEqual (ltOf cf) d a z pv)) := by
  have mixed := follows
  have few := E.few
  have E := Lib.hid E
  have S0 := Lib.hid S
  have HS := Lib.hid hs
  clear S hs
  obtain ⟨R, hR⟩ : ∃ R, R = Sort.partitionEqual (ltOf cf) d a z pv := ⟨_, rfl⟩
  rw [← hR]
  have HR : Hid (Sort.partEqLoop (ltOf cf) a (a + 1) (z - 1) (swp d a pv) = R) := Lib.hid hR.symm
  clear hR
  unfold ofTab
  go_enter Try.func46, Try.ntmps46
  go_wp2_with fail
  obtain ⟨I1, hI1⟩ : ∃ q, q = a := ⟨_, rfl⟩
  obtain ⟨J1, hJ1⟩ : ∃ q, q = pv := ⟨_, rfl⟩
  have u1 : ((a : Int) : Int).toNat = I1 ∧ 0 ≤ ((a : Int) : Int) ∧ ((a : Int) : Int) < n ∧ IntKind.i64.wrap ((a : Int) : Int) = (a : Int) := ⟨by omega, by omega, by omega, by rw [IntKind.wrap_i64]; omega⟩
  have v1 : ((pv : Int) : Int).toNat = J1 ∧ 0 ≤ ((pv : Int) : Int) ∧ ((pv : Int) : Int) < n ∧ IntKind.i64.wrap ((pv : Int) : Int) = (pv : Int) := ⟨by omega, by omega, by omega, by rw [IntKind.wrap_i64]; omega⟩
  obtain ⟨u1a, u1b, u1c, u1d⟩ := u1
  obtain ⟨v1a, v1b, v1c, v1d⟩ := v1

  obtain ⟨x1, hx1⟩ : ∃ q, q = d[a]! := ⟨_, rfl⟩
  obtain ⟨y1, hy1⟩ : ∃ q, q = d[pv]! := ⟨_, rfl⟩
  have S1 : Hid (SW nam w0 b 0 (swp d (a) (pv)) ((w.setCell ⟨b, I1, none⟩ (.string (str y1))).setCell ⟨b, J1, none⟩ (.string (str x1))).drew) := Lib.hid (by rw [hI1, hJ1, hx1, hy1]; exact E.out.swap S0.out HS.out (i := a) (j := pv) (by omega) (by omega))
  obtain ⟨c1, f1⟩ : w.cell? ⟨b, I1, none⟩ = some (.string (str x1)) ∧ w.frozen? ⟨b, I1, none⟩ = false := by rw [hI1, hx1]; exact E.out.cell S0.out HS.out (i := a) (by omega)
  obtain ⟨d1, g1⟩ : w.cell? ⟨b, J1, none⟩ = some (.string (str y1)) ∧ w.frozen? ⟨b, J1, none⟩ = false := by rw [hJ1, hy1]; exact E.out.cell S0.out HS.out (i := pv) (by omega)
  obtain ⟨o1, e1⟩ : ∃ u, (w.setCell ⟨b, I1, none⟩ (.string (str y1))).cell? ⟨b, J1, none⟩ = some u := by rw [hI1, hJ1]; exact E.out.mid S0.out HS.out (i := a) (j := pv) (by omega) (by omega) _
  clear hx1 hy1 hI1 hJ1 S0
  go_wp2_with fail
  go_big_region_o
  clear c1 d1 e1 f1 g1 u1a v1a
  generalize ((w.setCell ⟨b, I1, none⟩ (.string (str y1))).setCell ⟨b, J1, none⟩ (.string (str x1))).drew = w1 at S1 ⊢
  go_wp2
  go_loopw [11, 12] (fun vi vj wr => ∃ (i j : Nat) (jz : Int) (dk : Array Ky), vi = .int .i64 i ∧ vj = .int .i64 jz ∧ jz = (j : Int) ∧ a < i ∧ i ≤ j + 1 ∧ j < z ∧ Hid (dk.size = n) ∧ Hid (Sort.partEqLoop (ltOf cf) a i j dk = R) ∧ Hid (SW nam w0 b 0 dk wr)) (fun _ vj _ => (intOf vj).toNat)
  case atStart => exact ⟨a + 1, z - 1, _, swp d a pv, by go_num, rfl, by omega, by omega, by omega, by omega, Lib.hid ((size_swp _ _ _).trans HS.out), HR, S1⟩
  case round =>
    clear S1 HR
    obtain ⟨i0, j, jz, dk, rfl, rfl, rfl, hai, hij, hjz, hsk, HX, S1⟩ := hrel
    go_wp2_with fail
    go_loopw [11] (fun vi wr => ∃ (i2 : Nat), vi = .int .i64 i2 ∧ i0 ≤ i2 ∧ i2 ≤ j + 1 ∧ Hid (Sort.scanUp (fun x => !ltOf cf dk[a]! x) dk j i2 = Sort.scanUp (fun x => !ltOf cf dk[a]! x) dk j i0) ∧ Hid (SW nam w0 b 0 dk wr)) (fun vi _ => j + 1 - (intOf vi).toNat)
    case atStart => exact ⟨i0, rfl, Nat.le_refl _, hij, Lib.hid rfl, S1⟩
    case round =>
      clear S1
      obtain ⟨i2, rfl, hii, hij', HC, S2⟩ := hrel
      by_cases hlt : i2 ≤ j
      · have hl1 : decide ((i2 : Int) ≤ (j : Int)) = true := decide_eq_true (by omega)
        have hl2 : (i2 : Int) ≤ (j : Int) := by omega
        cases hlv : ltOf cf dk[a]! dk[i2]! with
        | false =>
          have HL := Lib.hid hlv
          clear hlv
          obtain ⟨I2, hI2⟩ : ∃ q, q = a := ⟨_, rfl⟩
          obtain ⟨J2, hJ2⟩ : ∃ q, q = i2 := ⟨_, rfl⟩
          have u2 : ((a : Int) : Int).toNat = I2 ∧ 0 ≤ ((a : Int) : Int) ∧ ((a : Int) : Int) < n ∧ IntKind.i64.wrap ((a : Int) : Int) = (a : Int) := ⟨by omega, by omega, by omega, by rw [IntKind.wrap_i64]; omega⟩
          have v2 : ((i2 : Int) : Int).toNat = J2 ∧ 0 ≤ ((i2 : Int) : Int) ∧ ((i2 : Int) : Int) < n ∧ IntKind.i64.wrap ((i2 : Int) : Int) = (i2 : Int) := ⟨by omega, by omega, by omega, by rw [IntKind.wrap_i64]; omega⟩
          obtain ⟨u2a, u2b, u2c, u2d⟩ := u2
          obtain ⟨v2a, v2b, v2c, v2d⟩ := v2

          obtain ⟨x2, hx2⟩ : ∃ q, q = dk[a]! := ⟨_, rfl⟩
          obtain ⟨y2, hy2⟩ : ∃ q, q = dk[i2]! := ⟨_, rfl⟩
          have c2 : ∀ m os, (grow (wr.drewN m) os).cell? ⟨b, I2, none⟩ = some (.string (str x2)) := fun m os => by rw [hI2, hx2]; exact E.out.cellG S2.out hsk.out (i := a) (by omega) m os
          have d2 : ∀ m os, (grow (wr.drewN m) os).cell? ⟨b, J2, none⟩ = some (.string (str y2)) := fun m os => by rw [hJ2, hy2]; exact E.out.cellG S2.out hsk.out (i := i2) (by omega) m os
          have a2 := E.out.tell S2.out hsk.out x2 y2
          have r2 : ltOf cf x2 y2 = false := by rw [hx2, hy2]; exact HL.out
          have s2 : decide (cf x2 y2 < 0) = false := r2
          have t2 : ¬ cf x2 y2 < 0 := by simpa using s2
          clear r2 hx2 hy2 hI2 hJ2
          go_wp2_with fail
          go_quiet_grown (first | (go_at_call 27; refine a2 _ _))
          have S3 := Lib.hid (S2.out.grown nq osq)
          clear c2 d2 a2 u2a v2a S2
          generalize grow (wr.drewN nq) osq = w3 at S3 ⊢
          clear nq osq
          clear hl1
          go_wp2
          go_roundw
          case rel => exact ⟨i2 + 1, by go_num, by omega, by omega, Lib.hid ((scanUp_go (fun x => !ltOf cf dk[a]! x) dk j i2 hlt (by show (!ltOf cf dk[a]! dk[i2]!) = true; rw [HL.out]; rfl)).symm.trans HC.out), S3⟩
          case measure => simp [intOf]; omega
        | true =>
          have HL := Lib.hid hlv
          clear hlv
          obtain ⟨i, hi⟩ : ∃ i, i = i2 := ⟨_, rfl⟩
          have HI2 : Hid (i = Sort.scanUp (fun x => !ltOf cf dk[a]! x) dk j i0) := Lib.hid (hi.trans ((scanUp_end (fun x => !ltOf cf dk[a]! x) dk j i2 (.inr (by show (!ltOf cf dk[a]! dk[i2]!) = false; rw [HL.out]; rfl))).symm.trans HC.out))
          clear HC
          obtain ⟨I3, hI3⟩ : ∃ q, q = a := ⟨_, rfl⟩
          obtain ⟨J3, hJ3⟩ : ∃ q, q = i2 := ⟨_, rfl⟩
          have u3 : ((a : Int) : Int).toNat = I3 ∧ 0 ≤ ((a : Int) : Int) ∧ ((a : Int) : Int) < n ∧ IntKind.i64.wrap ((a : Int) : Int) = (a : Int) := ⟨by omega, by omega, by omega, by rw [IntKind.wrap_i64]; omega⟩
          have v3 : ((i2 : Int) : Int).toNat = J3 ∧ 0 ≤ ((i2 : Int) : Int) ∧ ((i2 : Int) : Int) < n ∧ IntKind.i64.wrap ((i2 : Int) : Int) = (i2 : Int) := ⟨by omega, by omega, by omega, by rw [IntKind.wrap_i64]; omega⟩
          obtain ⟨u3a, u3b, u3c, u3d⟩ := u3
          obtain ⟨v3a, v3b, v3c, v3d⟩ := v3

          obtain ⟨x3, hx3⟩ : ∃ q, q = dk[a]! := ⟨_, rfl⟩
          obtain ⟨y3, hy3⟩ : ∃ q, q = dk[i2]! := ⟨_, rfl⟩
          have c3 : ∀ m os, (grow (wr.drewN m) os).cell? ⟨b, I3, none⟩ = some (.string (str x3)) := fun m os => by rw [hI3, hx3]; exact E.out.cellG S2.out hsk.out (i := a) (by omega) m os
          have d3 : ∀ m os, (grow (wr.drewN m) os).cell? ⟨b, J3, none⟩ = some (.string (str y3)) := fun m os => by rw [hJ3, hy3]; exact E.out.cellG S2.out hsk.out (i := i2) (by omega) m os
          have a3 := E.out.tell S2.out hsk.out x3 y3
          have r3 : ltOf cf x3 y3 = true := by rw [hx3, hy3]; exact HL.out
          have s3 : decide (cf x3 y3 < 0) = true := r3
          have t3 : cf x3 y3 < 0 := by simpa using s3
          clear r3 hx3 hy3 hI3 hJ3
          go_wp2_with fail
          go_quiet_grown (first | (go_at_call 27; refine a3 _ _))
          have S3 := Lib.hid (S2.out.grown nq osq)
          clear c3 d3 a3 u3a v3a S2
          generalize grow (wr.drewN nq) osq = w3 at S3 ⊢
          clear nq osq
          clear hl1 hl2 hlt
          subst hi
          go_wp2_with fail
          go_loopw [12] (fun vj wr => ∃ (jz : Int) (j2 : Nat), vj = .int .i64 jz ∧ jz = (j2 : Int) ∧ i ≤ j2 + 1 ∧ j2 ≤ j ∧ Hid (Sort.scanDown (fun x => ltOf cf dk[a]! x) dk i j2 = Sort.scanDown (fun x => ltOf cf dk[a]! x) dk i j) ∧ Hid (SW nam w0 b 0 dk wr)) (fun vj _ => (intOf vj).toNat)
          case atStart => exact ⟨_, j, rfl, by omega, hij', Nat.le_refl _, Lib.hid rfl, S3⟩
          case round =>
            clear S3 hij'
            obtain ⟨jz, j2, rfl, rfl, hij2, hjj2, HC2, S4⟩ := hrel
            by_cases hlt : i ≤ j2
            · have hl1 : decide ((i : Int) ≤ (j2 : Int)) = true := decide_eq_true (by omega)
              have hl2 : (i : Int) ≤ (j2 : Int) := by omega
              cases hlv : ltOf cf dk[a]! dk[j2]! with
              | true =>
                have HL := Lib.hid hlv
                clear hlv
                obtain ⟨I4, hI4⟩ : ∃ q, q = a := ⟨_, rfl⟩
                obtain ⟨J4, hJ4⟩ : ∃ q, q = j2 := ⟨_, rfl⟩
                have u4 : ((a : Int) : Int).toNat = I4 ∧ 0 ≤ ((a : Int) : Int) ∧ ((a : Int) : Int) < n ∧ IntKind.i64.wrap ((a : Int) : Int) = (a : Int) := ⟨by omega, by omega, by omega, by rw [IntKind.wrap_i64]; omega⟩
                have v4 : ((j2 : Int) : Int).toNat = J4 ∧ 0 ≤ ((j2 : Int) : Int) ∧ ((j2 : Int) : Int) < n ∧ IntKind.i64.wrap ((j2 : Int) : Int) = (j2 : Int) := ⟨by omega, by omega, by omega, by rw [IntKind.wrap_i64]; omega⟩
                obtain ⟨u4a, u4b, u4c, u4d⟩ := u4
                obtain ⟨v4a, v4b, v4c, v4d⟩ := v4

                obtain ⟨x4, hx4⟩ : ∃ q, q = dk[a]! := ⟨_, rfl⟩
                obtain ⟨y4, hy4⟩ : ∃ q, q = dk[j2]! := ⟨_, rfl⟩
                have c4 : ∀ m os, (grow (wr.drewN m) os).cell? ⟨b, I4, none⟩ = some (.string (str x4)) := fun m os => by rw [hI4, hx4]; exact E.out.cellG S4.out hsk.out (i := a) (by omega) m os
                have d4 : ∀ m os, (grow (wr.drewN m) os).cell? ⟨b, J4, none⟩ = some (.string (str y4)) := fun m os => by rw [hJ4, hy4]; exact E.out.cellG S4.out hsk.out (i := j2) (by omega) m os
                have a4 := E.out.tell S4.out hsk.out x4 y4
                have r4 : ltOf cf x4 y4 = true := by rw [hx4, hy4]; exact HL.out
                have s4 : decide (cf x4 y4 < 0) = true := r4
                have t4 : cf x4 y4 < 0 := by simpa using s4
                clear r4 hx4 hy4 hI4 hJ4
                go_wp2_with fail
                go_quiet_grown (first | (go_at_call 27; refine a4 _ _))
                have S5 := Lib.hid (S4.out.grown nq osq)
                clear c4 d4 a4 u4a v4a S4
                generalize grow (wr.drewN nq) osq = w5 at S5 ⊢
                clear nq osq
                clear hl1
                go_wp2
                go_roundw
                case rel => exact ⟨_, j2 - 1, rfl, by omega, by omega, by omega, Lib.hid ((scanDown_go _ dk i j2 hlt (by omega) HL.out).symm.trans HC2.out), S5⟩
                case measure => simp [intOf]; omega
              | false =>
                have HL := Lib.hid hlv
                clear hlv
                have HJ2 := Lib.hid ((scanDown_end (fun x => ltOf cf dk[a]! x) dk i j2 (.inr HL.out)).symm.trans HC2.out)
                clear HC2
                obtain ⟨I5, hI5⟩ : ∃ q, q = a := ⟨_, rfl⟩
                obtain ⟨J5, hJ5⟩ : ∃ q, q = j2 := ⟨_, rfl⟩
                have u5 : ((a : Int) : Int).toNat = I5 ∧ 0 ≤ ((a : Int) : Int) ∧ ((a : Int) : Int) < n ∧ IntKind.i64.wrap ((a : Int) : Int) = (a : Int) := ⟨by omega, by omega, by omega, by rw [IntKind.wrap_i64]; omega⟩
                have v5 : ((j2 : Int) : Int).toNat = J5 ∧ 0 ≤ ((j2 : Int) : Int) ∧ ((j2 : Int) : Int) < n ∧ IntKind.i64.wrap ((j2 : Int) : Int) = (j2 : Int) := ⟨by omega, by omega, by omega, by rw [IntKind.wrap_i64]; omega⟩
                obtain ⟨u5a, u5b, u5c, u5d⟩ := u5
                obtain ⟨v5a, v5b, v5c, v5d⟩ := v5

                obtain ⟨x5, hx5⟩ : ∃ q, q = dk[a]! := ⟨_, rfl⟩
                obtain ⟨y5, hy5⟩ : ∃ q, q = dk[j2]! := ⟨_, rfl⟩
                have c5 : ∀ m os, (grow (wr.drewN m) os).cell? ⟨b, I5, none⟩ = some (.string (str x5)) := fun m os => by rw [hI5, hx5]; exact E.out.cellG S4.out hsk.out (i := a) (by omega) m os
                have d5 : ∀ m os, (grow (wr.drewN m) os).cell? ⟨b, J5, none⟩ = some (.string (str y5)) := fun m os => by rw [hJ5, hy5]; exact E.out.cellG S4.out hsk.out (i := j2) (by omega) m os
                have a5 := E.out.tell S4.out hsk.out x5 y5
                have r5 : ltOf cf x5 y5 = false := by rw [hx5, hy5]; exact HL.out
                have s5 : decide (cf x5 y5 < 0) = false := r5
                have t5 : ¬ cf x5 y5 < 0 := by simpa using s5
                clear r5 hx5 hy5 hI5 hJ5
                go_wp2_with fail
                go_quiet_grown (first | (go_at_call 27; refine a5 _ _))
                have S5 := Lib.hid (S4.out.grown nq osq)
                clear c5 d5 a5 u5a v5a S4
                generalize grow (wr.drewN nq) osq = w5 at S5 ⊢
                clear nq osq
                clear hl1
                have hgt : ¬ (j2 : Int) < (i : Int) := by omega
                have HLT := Lib.hid (scans_lt (ltOf cf) a i0 j dk (by omega) HI2.out HJ2.out hlt)
                have HGO := Lib.hid ((partEq_go (lt := ltOf cf) a i0 j dk HI2.out HJ2.out (by omega)).symm.trans HX.out)
                have hij3 : i < j2 := HLT.out
                clear HLT
                go_wp2_with fail
                obtain ⟨I6, hI6⟩ : ∃ q, q = i := ⟨_, rfl⟩
                obtain ⟨J6, hJ6⟩ : ∃ q, q = j2 := ⟨_, rfl⟩
                have u6 : ((i : Int) : Int).toNat = I6 ∧ 0 ≤ ((i : Int) : Int) ∧ ((i : Int) : Int) < n ∧ IntKind.i64.wrap ((i : Int) : Int) = (i : Int) := ⟨by omega, by omega, by omega, by rw [IntKind.wrap_i64]; omega⟩
                have v6 : ((j2 : Int) : Int).toNat = J6 ∧ 0 ≤ ((j2 : Int) : Int) ∧ ((j2 : Int) : Int) < n ∧ IntKind.i64.wrap ((j2 : Int) : Int) = (j2 : Int) := ⟨by omega, by omega, by omega, by rw [IntKind.wrap_i64]; omega⟩
                obtain ⟨u6a, u6b, u6c, u6d⟩ := u6
                obtain ⟨v6a, v6b, v6c, v6d⟩ := v6

                obtain ⟨x6, hx6⟩ : ∃ q, q = dk[i]! := ⟨_, rfl⟩
                obtain ⟨y6, hy6⟩ : ∃ q, q = dk[j2]! := ⟨_, rfl⟩
                have S6 : Hid (SW nam w0 b 0 (swp dk (i) (j2)) ((w5.setCell ⟨b, I6, none⟩ (.string (str y6))).setCell ⟨b, J6, none⟩ (.string (str x6))).drew) := Lib.hid (by rw [hI6, hJ6, hx6, hy6]; exact E.out.swap S5.out hsk.out (i := i) (j := j2) (by omega) (by omega))
                obtain ⟨c6, f6⟩ : w5.cell? ⟨b, I6, none⟩ = some (.string (str x6)) ∧ w5.frozen? ⟨b, I6, none⟩ = false := by rw [hI6, hx6]; exact E.out.cell S5.out hsk.out (i := i) (by omega)
                obtain ⟨d6, g6⟩ : w5.cell? ⟨b, J6, none⟩ = some (.string (str y6)) ∧ w5.frozen? ⟨b, J6, none⟩ = false := by rw [hJ6, hy6]; exact E.out.cell S5.out hsk.out (i := j2) (by omega)
                obtain ⟨o6, e6⟩ : ∃ u, (w5.setCell ⟨b, I6, none⟩ (.string (str y6))).cell? ⟨b, J6, none⟩ = some u := by rw [hI6, hJ6]; exact E.out.mid S5.out hsk.out (i := i) (j := j2) (by omega) (by omega) _
                clear hx6 hy6 hI6 hJ6 S5
                go_wp2_with fail
                go_big_region_o
                clear c6 d6 e6 f6 g6 u6a v6a
                generalize ((w5.setCell ⟨b, I6, none⟩ (.string (str y6))).setCell ⟨b, J6, none⟩ (.string (str x6))).drew = w6 at S6 ⊢
                go_wp2
                go_roundw
                case rel => exact ⟨i + 1, j2 - 1, _, swp dk i j2, by go_num, rfl, by omega, by omega, by omega, by omega, Lib.hid ((size_swp _ _ _).trans hsk.out), HGO, S6⟩
                case measure => simp [intOf]; omega
            · have hl1 : decide ((i : Int) ≤ (j2 : Int)) = false := decide_eq_false (by omega)
              have hl2 : ¬ (i : Int) ≤ (j2 : Int) := by omega
              have hgt : (j2 : Int) < (i : Int) := by omega
              have HJ2 := Lib.hid ((scanDown_end (fun x => ltOf cf dk[a]! x) dk i j2 (.inl hlt)).symm.trans HC2.out)
              have HB := Lib.hid ((partEq_break (lt := ltOf cf) a i0 j dk HI2.out HJ2.out (by omega)).symm.trans HX.out)
              clear HC2
              go_wp2_with fail
              go_big_region_o
              have S5 := Lib.hid (S4.out.drew)
              clear S4
              generalize wr.drew = w5 at S5 ⊢
              go_wp2
              refine bodyPost_ret (by simp [results, Try.results46, go_sem]; rfl) rfl ?_
              rw [← HB.out]
              exact ⟨rfl, S5.out⟩
      · have hl1 : decide ((i2 : Int) ≤ (j : Int)) = false := decide_eq_false (by omega)
        have hl2 : ¬ (i2 : Int) ≤ (j : Int) := by omega
        obtain ⟨i, hi⟩ : ∃ i, i = i2 := ⟨_, rfl⟩
        have HI2 : Hid (i = Sort.scanUp (fun x => !ltOf cf dk[a]! x) dk j i0) := Lib.hid (hi.trans ((scanUp_end (fun x => !ltOf cf dk[a]! x) dk j i2 (.inl hlt)).symm.trans HC.out))
        clear HC
        go_wp2_with fail
        go_big_region_o
        have S3 := Lib.hid (S2.out.drew)
        clear S2
        generalize wr.drew = w3 at S3 ⊢
        clear hl1 hl2 hlt
        subst hi
        go_wp2_with fail
        go_loopw [12] (fun vj wr => ∃ (jz : Int) (j2 : Nat), vj = .int .i64 jz ∧ jz = (j2 : Int) ∧ i ≤ j2 + 1 ∧ j2 ≤ j ∧ Hid (Sort.scanDown (fun x => ltOf cf dk[a]! x) dk i j2 = Sort.scanDown (fun x => ltOf cf dk[a]! x) dk i j) ∧ Hid (SW nam w0 b 0 dk wr)) (fun vj _ => (intOf vj).toNat)
        case atStart => exact ⟨_, j, rfl, by omega, hij', Nat.le_refl _, Lib.hid rfl, S3⟩
        case round =>
          clear S3 hij'
          obtain ⟨jz, j2, rfl, rfl, hij2, hjj2, HC2, S4⟩ := hrel
          by_cases hlt : i ≤ j2
          · have hl1 : decide ((i : Int) ≤ (j2 : Int)) = true := decide_eq_true (by omega)
            have hl2 : (i : Int) ≤ (j2 : Int) := by omega
            cases hlv : ltOf cf dk[a]! dk[j2]! with
            | true =>
              have HL := Lib.hid hlv
              clear hlv
              obtain ⟨I4, hI4⟩ : ∃ q, q = a := ⟨_, rfl⟩
              obtain ⟨J4, hJ4⟩ : ∃ q, q = j2 := ⟨_, rfl⟩
              have u4 : ((a : Int) : Int).toNat = I4 ∧ 0 ≤ ((a : Int) : Int) ∧ ((a : Int) : Int) < n ∧ IntKind.i64.wrap ((a : Int) : Int) = (a : Int) := ⟨by omega, by omega, by omega, by rw [IntKind.wrap_i64]; omega⟩
              have v4 : ((j2 : Int) : Int).toNat = J4 ∧ 0 ≤ ((j2 : Int) : Int) ∧ ((j2 : Int) : Int) < n ∧ IntKind.i64.wrap ((j2 : Int) : Int) = (j2 : Int) := ⟨by omega, by omega, by omega, by rw [IntKind.wrap_i64]; omega⟩
              obtain ⟨u4a, u4b, u4c, u4d⟩ := u4
              obtain ⟨v4a, v4b, v4c, v4d⟩ := v4

              obtain ⟨x4, hx4⟩ : ∃ q, q = dk[a]! := ⟨_, rfl⟩
              obtain ⟨y4, hy4⟩ : ∃ q, q = dk[j2]! := ⟨_, rfl⟩
              have c4 : ∀ m os, (grow (wr.drewN m) os).cell? ⟨b, I4, none⟩ = some (.string (str x4)) := fun m os => by rw [hI4, hx4]; exact E.out.cellG S4.out hsk.out (i := a) (by omega) m os
              have d4 : ∀ m os, (grow (wr.drewN m) os).cell? ⟨b, J4, none⟩ = some (.string (str y4)) := fun m os => by rw [hJ4, hy4]; exact E.out.cellG S4.out hsk.out (i := j2) (by omega) m os
              have a4 := E.out.tell S4.out hsk.out x4 y4
              have r4 : ltOf cf x4 y4 = true := by rw [hx4, hy4]; exact HL.out
              have s4 : decide (cf x4 y4 < 0) = true := r4
              have t4 : cf x4 y4 < 0 := by simpa using s4
              clear r4 hx4 hy4 hI4 hJ4
              go_wp2_with fail
              go_quiet_grown (first | (go_at_call 27; refine a4 _ _))
              have S5 := Lib.hid (S4.out.grown nq osq)
              clear c4 d4 a4 u4a v4a S4
              generalize grow (wr.drewN nq) osq = w5 at S5 ⊢
              clear nq osq
              clear hl1
              go_wp2
              go_roundw
              case rel => exact ⟨_, j2 - 1, rfl, by omega, by omega, by omega, Lib.hid ((scanDown_go _ dk i j2 hlt (by omega) HL.out).symm.trans HC2.out), S5⟩
              case measure => simp [intOf]; omega
            | false =>
              have HL := Lib.hid hlv
              clear hlv
              have HJ2 := Lib.hid ((scanDown_end (fun x => ltOf cf dk[a]! x) dk i j2 (.inr HL.out)).symm.trans HC2.out)
              clear HC2
              obtain ⟨I5, hI5⟩ : ∃ q, q = a := ⟨_, rfl⟩
              obtain ⟨J5, hJ5⟩ : ∃ q, q = j2 := ⟨_, rfl⟩
              have u5 : ((a : Int) : Int).toNat = I5 ∧ 0 ≤ ((a : Int) : Int) ∧ ((a : Int) : Int) < n ∧ IntKind.i64.wrap ((a : Int) : Int) = (a : Int) := ⟨by omega, by omega, by omega, by rw [IntKind.wrap_i64]; omega⟩
              have v5 : ((j2 : Int) : Int).toNat = J5 ∧ 0 ≤ ((j2 : Int) : Int) ∧ ((j2 : Int) : Int) < n ∧ IntKind.i64.wrap ((j2 : Int) : Int) = (j2 : Int) := ⟨by omega, by omega, by omega, by rw [IntKind.wrap_i64]; omega⟩
              obtain ⟨u5a, u5b, u5c, u5d⟩ := u5
              obtain ⟨v5a, v5b, v5c, v5d⟩ := v5

              obtain ⟨x5, hx5⟩ : ∃ q, q = dk[a]! := ⟨_, rfl⟩
              obtain ⟨y5, hy5⟩ : ∃ q, q = dk[j2]! := ⟨_, rfl⟩
              have c5 : ∀ m os, (grow (wr.drewN m) os).cell? ⟨b, I5, none⟩ = some (.string (str x5)) := fun m os => by rw [hI5, hx5]; exact E.out.cellG S4.out hsk.out (i := a) (by omega) m os
              have d5 : ∀ m os, (grow (wr.drewN m) os).cell? ⟨b, J5, none⟩ = some (.string (str y5)) := fun m os => by rw [hJ5, hy5]; exact E.out.cellG S4.out hsk.out (i := j2) (by omega) m os
              have a5 := E.out.tell S4.out hsk.out x5 y5
              have r5 : ltOf cf x5 y5 = false := by rw [hx5, hy5]; exact HL.out
              have s5 : decide (cf x5 y5 < 0) = false := r5
              have t5 : ¬ cf x5 y5 < 0 := by simpa using s5
              clear r5 hx5 hy5 hI5 hJ5
              go_wp2_with fail
              go_quiet_grown (first | (go_at_call 27; refine a5 _ _))
              have S5 := Lib.hid (S4.out.grown nq osq)
              clear c5 d5 a5 u5a v5a S4
              generalize grow (wr.drewN nq) osq = w5 at S5 ⊢
              clear nq osq
              clear hl1
              have hgt : ¬ (j2 : Int) < (i : Int) := by omega
              have HLT := Lib.hid (scans_lt (ltOf cf) a i0 j dk (by omega) HI2.out HJ2.out hlt)
              have HGO := Lib.hid ((partEq_go (lt := ltOf cf) a i0 j dk HI2.out HJ2.out (by omega)).symm.trans HX.out)
              have hij3 : i < j2 := HLT.out
              clear HLT
              go_wp2_with fail
              obtain ⟨I6, hI6⟩ : ∃ q, q = i := ⟨_, rfl⟩
              obtain ⟨J6, hJ6⟩ : ∃ q, q = j2 := ⟨_, rfl⟩
              have u6 : ((i : Int) : Int).toNat = I6 ∧ 0 ≤ ((i : Int) : Int) ∧ ((i : Int) : Int) < n ∧ IntKind.i64.wrap ((i : Int) : Int) = (i : Int) := ⟨by omega, by omega, by omega, by rw [IntKind.wrap_i64]; omega⟩
              have v6 : ((j2 : Int) : Int).toNat = J6 ∧ 0 ≤ ((j2 : Int) : Int) ∧ ((j2 : Int) : Int) < n ∧ IntKind.i64.wrap ((j2 : Int) : Int) = (j2 : Int) := ⟨by omega, by omega, by omega, by rw [IntKind.wrap_i64]; omega⟩
              obtain ⟨u6a, u6b, u6c, u6d⟩ := u6
              obtain ⟨v6a, v6b, v6c, v6d⟩ := v6

              obtain ⟨x6, hx6⟩ : ∃ q, q = dk[i]! := ⟨_, rfl⟩
              obtain ⟨y6, hy6⟩ : ∃ q, q = dk[j2]! := ⟨_, rfl⟩
              have S6 : Hid (SW nam w0 b 0 (swp dk (i) (j2)) ((w5.setCell ⟨b, I6, none⟩ (.string (str y6))).setCell ⟨b, J6, none⟩ (.string (str x6))).drew) := Lib.hid (by rw [hI6, hJ6, hx6, hy6]; exact E.out.swap S5.out hsk.out (i := i) (j := j2) (by omega) (by omega))
              obtain ⟨c6, f6⟩ : w5.cell? ⟨b, I6, none⟩ = some (.string (str x6)) ∧ w5.frozen? ⟨b, I6, none⟩ = false := by rw [hI6, hx6]; exact E.out.cell S5.out hsk.out (i := i) (by omega)
              obtain ⟨d6, g6⟩ : w5.cell? ⟨b, J6, none⟩ = some (.string (str y6)) ∧ w5.frozen? ⟨b, J6, none⟩ = false := by rw [hJ6, hy6]; exact E.out.cell S5.out hsk.out (i := j2) (by omega)
              obtain ⟨o6, e6⟩ : ∃ u, (w5.setCell ⟨b, I6, none⟩ (.string (str y6))).cell? ⟨b, J6, none⟩ = some u := by rw [hI6, hJ6]; exact E.out.mid S5.out hsk.out (i := i) (j := j2) (by omega) (by omega) _
              clear hx6 hy6 hI6 hJ6 S5
              go_wp2_with fail
              go_big_region_o
              clear c6 d6 e6 f6 g6 u6a v6a
              generalize ((w5.setCell ⟨b, I6, none⟩ (.string (str y6))).setCell ⟨b, J6, none⟩ (.string (str x6))).drew = w6 at S6 ⊢
              go_wp2
              go_roundw
              case rel => exact ⟨i + 1, j2 - 1, _, swp dk i j2, by go_num, rfl, by omega, by omega, by omega, by omega, Lib.hid ((size_swp _ _ _).trans hsk.out), HGO, S6⟩
              case measure => simp [intOf]; omega
          · have hl1 : decide ((i : Int) ≤ (j2 : Int)) = false := decide_eq_false (by omega)
            have hl2 : ¬ (i : Int) ≤ (j2 : Int) := by omega
            have hgt : (j2 : Int) < (i : Int) := by omega
            have HJ2 := Lib.hid ((scanDown_end (fun x => ltOf cf dk[a]! x) dk i j2 (.inl hlt)).symm.trans HC2.out)
            have HB := Lib.hid ((partEq_break (lt := ltOf cf) a i0 j dk HI2.out HJ2.out (by omega)).symm.trans HX.out)
            clear HC2
            go_wp2_with fail
            go_big_region_o
            have S5 := Lib.hid (S4.out.drew)
            clear S4
            generalize wr.drew = w5 at S5 ⊢
            go_wp2
            refine bodyPost_ret (by simp [results, Try.results46, go_sem]; rfl) rfl ?_
            rw [← HB.out]
            exact ⟨rfl, S5.out⟩

end Go.Proofs.Ytahccfljgmleiaa
