/-
  The walk of slices.partitionCmpFunc at names, by the table's own comparison. Conditions: as 'Env' tells; the pivot is one of the places.
-/
import Derived.Test.YtahccfljgmleiaaSrt1
import Derived.Sort.WalkC
namespace Go.Proofs.Ytahccfljgmleiaa
open Go.RowKit Go.Sort
set_option linter.unusedVariables false

/-- a place, whether nothing was to be done, and the row, behind a partition -/
def PartsOf (w0 : World) (b : Nat) (r : Nat × Bool × Array Ky) : Ending → World → Prop := fun e w' => e = .returned (.tuple #[.int .i64 r.1, .bool r.2.1]) ∧ SW nam w0 b 0 r.2.2 w'

section
variable {lt : Ky → Ky → Bool} {a i0 i j j2 z pv : Nat} {d dk : Array Ky}
theorem ptn_break (hi : i = Sort.scanUp (fun x => lt x dk[a]!) dk j i0) (hj : j2 = Sort.scanDown (fun x => !lt x dk[a]!) dk i j) (h : j2 < i) : Sort.partLoop lt a i0 j dk = (j2, dk) := by
  rw [partLoop_eq, ← hi, ← hj, if_pos h]
theorem ptn_go (hi : i = Sort.scanUp (fun x => lt x dk[a]!) dk j i0) (hj : j2 = Sort.scanDown (fun x => !lt x dk[a]!) dk i j) (h : ¬ i > j2) : Sort.partLoop lt a i0 j dk = Sort.partLoop lt a (i + 1) (j2 - 1) (swp dk i j2) := by
  rw [partLoop_eq, ← hi, ← hj, if_neg h]
theorem ptn_first (hi : i = Sort.scanUp (fun x => lt x (swp d a pv)[a]!) (swp d a pv) (z - 1) (a + 1)) (hj : j2 = Sort.scanDown (fun x => !lt x (swp d a pv)[a]!) (swp d a pv) i (z - 1)) (h : j2 < i) :
    Sort.partition lt d a z pv = (j2, true, swp (swp d a pv) j2 a) := by
  unfold Sort.partition
  simp only [← hi, ← hj]
  rw [if_pos h]
theorem ptn_on (hi : i = Sort.scanUp (fun x => lt x (swp d a pv)[a]!) (swp d a pv) (z - 1) (a + 1)) (hj : j2 = Sort.scanDown (fun x => !lt x (swp d a pv)[a]!) (swp d a pv) i (z - 1)) (h : ¬ i > j2) :
    Sort.partition lt d a z pv = ((Sort.partLoop lt a (i + 1) (j2 - 1) (swp (swp d a pv) i j2)).1, false, swp (Sort.partLoop lt a (i + 1) (j2 - 1) (swp (swp d a pv) i j2)).2 (Sort.partLoop lt a (i + 1) (j2 - 1) (swp (swp d a pv) i j2)).1 a) := by
  unfold Sort.partition
  simp only [← hi, ← hj]
  rw [if_neg h]
end

set_option maxHeartbeats 64000000 in
set_option maxRecDepth 100000 in
theorem part_any {p : Value} {cf : Ky → Ky → Int} {w0 : World} {b n : Nat} (E : Env p cf w0 b n) (cap a z pv : Nat) (d : Array Ky) (w : World) (hs : d.size = n) (S : SW nam w0 b 0 d w) (hap : a ≤ pv) (hpz : pv < z) (hz : z ≤ n) :
    Calls Try.prog 47 #[.slice (some ⟨b, 0, none⟩) n cap, .int .i64 a, .int .i64 z, .int .i64 pv, ofTab p] w (PartsOf w0 b (Sort.partition (ltOf cf) d a z pv)) := by
  have mixed := follows
  have few := E.few
  have E := Lib.hid E
  have S0 := Lib.hid S
  have HS := Lib.hid hs
  clear S hs
  obtain ⟨R, hR⟩ : ∃ R, R = Sort.partition (ltOf cf) d a z pv := ⟨_, rfl⟩
  rw [← hR]
  have HR := Lib.hid hR
  clear hR
  unfold ofTab
  go_enter Try.func47, Try.ntmps47
  go_wp2_with fail
  obtain ⟨I3, hI3⟩ : ∃ q, q = a := ⟨_, rfl⟩
  obtain ⟨J3, hJ3⟩ : ∃ q, q = pv := ⟨_, rfl⟩
  have u3 : ((a : Int) : Int).toNat = I3 ∧ 0 ≤ ((a : Int) : Int) ∧ ((a : Int) : Int) < n ∧ IntKind.i64.wrap ((a : Int) : Int) = (a : Int) := ⟨by omega, by omega, by omega, by rw [IntKind.wrap_i64]; omega⟩
  have v3 : ((pv : Int) : Int).toNat = J3 ∧ 0 ≤ ((pv : Int) : Int) ∧ ((pv : Int) : Int) < n ∧ IntKind.i64.wrap ((pv : Int) : Int) = (pv : Int) := ⟨by omega, by omega, by omega, by rw [IntKind.wrap_i64]; omega⟩
  obtain ⟨u3a, u3b, u3c, u3d⟩ := u3
  obtain ⟨v3a, v3b, v3c, v3d⟩ := v3

  obtain ⟨x3, hx3⟩ : ∃ q, q = d[a]! := ⟨_, rfl⟩
  obtain ⟨y3, hy3⟩ : ∃ q, q = d[pv]! := ⟨_, rfl⟩
  have S1 : Hid (SW nam w0 b 0 (swp d (a) (pv)) ((w.setCell ⟨b, I3, none⟩ (.string (str y3))).setCell ⟨b, J3, none⟩ (.string (str x3))).drew) := Lib.hid (by rw [hI3, hJ3, hx3, hy3]; exact E.out.swap S0.out HS.out (i := a) (j := pv) (by omega) (by omega))
  obtain ⟨c3, f3⟩ : w.cell? ⟨b, I3, none⟩ = some (.string (str x3)) ∧ w.frozen? ⟨b, I3, none⟩ = false := by rw [hI3, hx3]; exact E.out.cell S0.out HS.out (i := a) (by omega)
  obtain ⟨d3, g3⟩ : w.cell? ⟨b, J3, none⟩ = some (.string (str y3)) ∧ w.frozen? ⟨b, J3, none⟩ = false := by rw [hJ3, hy3]; exact E.out.cell S0.out HS.out (i := pv) (by omega)
  obtain ⟨o3, e3⟩ : ∃ u, (w.setCell ⟨b, I3, none⟩ (.string (str y3))).cell? ⟨b, J3, none⟩ = some u := by rw [hI3, hJ3]; exact E.out.mid S0.out HS.out (i := a) (j := pv) (by omega) (by omega) _
  clear hx3 hy3 hI3 hJ3 S0
  go_wp2_with fail
  go_big_region_o
  clear c3 d3 e3 f3 g3 u3a v3a
  generalize ((w.setCell ⟨b, I3, none⟩ (.string (str y3))).setCell ⟨b, J3, none⟩ (.string (str x3))).drew = w1 at S1 ⊢
  obtain ⟨dk, hdk⟩ : ∃ dk, dk = swp d a pv := ⟨_, rfl⟩
  obtain ⟨j, hj⟩ : ∃ j, j = z - 1 := ⟨_, rfl⟩
  have HR : Hid (∀ i j2, i = Sort.scanUp (fun x => ltOf cf x dk[a]!) dk j (a + 1) → j2 = Sort.scanDown (fun x => !ltOf cf x dk[a]!) dk i j → (j2 < i → R = (j2, true, swp dk j2 a)) ∧ (¬ i > j2 → R = ((Sort.partLoop (ltOf cf) a (i + 1) (j2 - 1) (swp dk i j2)).1, false, swp (Sort.partLoop (ltOf cf) a (i + 1) (j2 - 1) (swp dk i j2)).2 (Sort.partLoop (ltOf cf) a (i + 1) (j2 - 1) (swp dk i j2)).1 a))) :=
    Lib.hid (by
      intro i j2 h1 h2
      rw [hdk, hj] at h1
      rw [hdk, hj] at h2
      rw [hdk]
      exact ⟨fun h => HR.out.trans (ptn_first h1 h2 h), fun h => HR.out.trans (ptn_on h1 h2 h)⟩)
  have hsk : Hid (dk.size = n) := Lib.hid (by rw [hdk]; exact (size_swp _ _ _).trans HS.out)
  rw [← hdk] at S1
  have hij : a + 1 ≤ j + 1 := by omega
  have hjz : j < z := by omega
  have zj : (z : Int) - 1 = (j : Int) := by omega
  have ZJ := Lib.hid zj
  clear hdk hj zj HS
  go_wp2_with fail
  rw [ZJ.out]
  go_loopw [12] (fun vi wr => ∃ (i2 : Nat), vi = .int .i64 i2 ∧ a + 1 ≤ i2 ∧ i2 ≤ j + 1 ∧ Hid (Sort.scanUp (fun x => ltOf cf x dk[a]!) dk j i2 = Sort.scanUp (fun x => ltOf cf x dk[a]!) dk j (a + 1)) ∧ Hid (SW nam w0 b 0 dk wr)) (fun vi _ => j + 1 - (intOf vi).toNat)
  case atStart => exact ⟨a + 1, by go_num, Nat.le_refl _, hij, Lib.hid rfl, S1⟩
  case round =>
    clear S1
    obtain ⟨i2, rfl, hii, hij', HC, S2⟩ := hrel
    by_cases hlt : i2 ≤ j
    · have hl1 : decide ((i2 : Int) ≤ (j : Int)) = true := decide_eq_true (by omega)
      have hl2 : (i2 : Int) ≤ (j : Int) := by omega
      cases hlv : ltOf cf dk[i2]! dk[a]! with
      | true =>
        have HL := Lib.hid hlv
        clear hlv
        go_wp2_with fail
        obtain ⟨I10, hI10⟩ : ∃ q, q = i2 := ⟨_, rfl⟩
        obtain ⟨J10, hJ10⟩ : ∃ q, q = a := ⟨_, rfl⟩
        have u10 : ((i2 : Int) : Int).toNat = I10 ∧ 0 ≤ ((i2 : Int) : Int) ∧ ((i2 : Int) : Int) < n ∧ IntKind.i64.wrap ((i2 : Int) : Int) = (i2 : Int) := ⟨by omega, by omega, by omega, by rw [IntKind.wrap_i64]; omega⟩
        have v10 : ((a : Int) : Int).toNat = J10 ∧ 0 ≤ ((a : Int) : Int) ∧ ((a : Int) : Int) < n ∧ IntKind.i64.wrap ((a : Int) : Int) = (a : Int) := ⟨by omega, by omega, by omega, by rw [IntKind.wrap_i64]; omega⟩
        obtain ⟨u10a, u10b, u10c, u10d⟩ := u10
        obtain ⟨v10a, v10b, v10c, v10d⟩ := v10

        obtain ⟨x10, hx10⟩ : ∃ q, q = dk[i2]! := ⟨_, rfl⟩
        obtain ⟨y10, hy10⟩ : ∃ q, q = dk[a]! := ⟨_, rfl⟩
        have c10 : ∀ m os, (grow (wr.drewN m) os).cell? ⟨b, I10, none⟩ = some (.string (str x10)) := fun m os => by rw [hI10, hx10]; exact E.out.cellG S2.out hsk.out (i := i2) (by omega) m os
        have d10 : ∀ m os, (grow (wr.drewN m) os).cell? ⟨b, J10, none⟩ = some (.string (str y10)) := fun m os => by rw [hJ10, hy10]; exact E.out.cellG S2.out hsk.out (i := a) (by omega) m os
        have a10 := E.out.tell S2.out hsk.out x10 y10
        have r10 : ltOf cf x10 y10 = true := by rw [hx10, hy10]; exact HL.out
        have s10 : decide (cf x10 y10 < 0) = true := r10
        have t10 : cf x10 y10 < 0 := by simpa using s10
        clear r10 hx10 hy10 hI10 hJ10
        go_wp2_with fail
        go_quiet_grown (first | (go_at_call 27; refine a10 _ _))
        have S3 := Lib.hid (S2.out.grown nq osq)
        clear c10 d10 a10 u10a v10a S2
        generalize grow (wr.drewN nq) osq = w3 at S3 ⊢
        clear nq osq
        clear hl1
        go_wp2
        go_roundw
        case rel => exact ⟨i2 + 1, by go_num, by omega, by omega, Lib.hid ((scanUp_go (fun x => ltOf cf x dk[a]!) dk j i2 hlt HL.out).symm.trans HC.out), S3⟩
        case measure => simp [intOf]; omega
      | false =>
        have HL := Lib.hid hlv
        clear hlv
        obtain ⟨i, hi⟩ : ∃ i, i = i2 := ⟨_, rfl⟩
        have HI2 : Hid (i = Sort.scanUp (fun x => ltOf cf x dk[a]!) dk j (a + 1)) := Lib.hid (hi.trans ((scanUp_end (fun x => ltOf cf x dk[a]!) dk j i2 (.inr HL.out)).symm.trans HC.out))
        have HF : Hid (i ≤ j → ltOf cf dk[i]! dk[a]! = false) := Lib.hid (fun _ => by rw [hi]; exact HL.out)
        clear HC
        go_wp2_with fail
        obtain ⟨I11, hI11⟩ : ∃ q, q = i2 := ⟨_, rfl⟩
        obtain ⟨J11, hJ11⟩ : ∃ q, q = a := ⟨_, rfl⟩
        have u11 : ((i2 : Int) : Int).toNat = I11 ∧ 0 ≤ ((i2 : Int) : Int) ∧ ((i2 : Int) : Int) < n ∧ IntKind.i64.wrap ((i2 : Int) : Int) = (i2 : Int) := ⟨by omega, by omega, by omega, by rw [IntKind.wrap_i64]; omega⟩
        have v11 : ((a : Int) : Int).toNat = J11 ∧ 0 ≤ ((a : Int) : Int) ∧ ((a : Int) : Int) < n ∧ IntKind.i64.wrap ((a : Int) : Int) = (a : Int) := ⟨by omega, by omega, by omega, by rw [IntKind.wrap_i64]; omega⟩
        obtain ⟨u11a, u11b, u11c, u11d⟩ := u11
        obtain ⟨v11a, v11b, v11c, v11d⟩ := v11

        obtain ⟨x11, hx11⟩ : ∃ q, q = dk[i2]! := ⟨_, rfl⟩
        obtain ⟨y11, hy11⟩ : ∃ q, q = dk[a]! := ⟨_, rfl⟩
        have c11 : ∀ m os, (grow (wr.drewN m) os).cell? ⟨b, I11, none⟩ = some (.string (str x11)) := fun m os => by rw [hI11, hx11]; exact E.out.cellG S2.out hsk.out (i := i2) (by omega) m os
        have d11 : ∀ m os, (grow (wr.drewN m) os).cell? ⟨b, J11, none⟩ = some (.string (str y11)) := fun m os => by rw [hJ11, hy11]; exact E.out.cellG S2.out hsk.out (i := a) (by omega) m os
        have a11 := E.out.tell S2.out hsk.out x11 y11
        have r11 : ltOf cf x11 y11 = false := by rw [hx11, hy11]; exact HL.out
        have s11 : decide (cf x11 y11 < 0) = false := r11
        have t11 : ¬ cf x11 y11 < 0 := by simpa using s11
        clear r11 hx11 hy11 hI11 hJ11
        go_wp2_with fail
        go_quiet_grown (first | (go_at_call 27; refine a11 _ _))
        have S3 := Lib.hid (S2.out.grown nq osq)
        clear c11 d11 a11 u11a v11a S2
        generalize grow (wr.drewN nq) osq = w3 at S3 ⊢
        clear nq osq
        clear hl1 hl2 hlt
        subst hi
        go_wp2_with fail
        go_loopw [13] (fun vj wr => ∃ (jz : Int) (j2 : Nat), vj = .int .i64 jz ∧ jz = (j2 : Int) ∧ i ≤ j2 + 1 ∧ j2 ≤ j ∧ Hid (Sort.scanDown (fun x => !ltOf cf x dk[a]!) dk i j2 = Sort.scanDown (fun x => !ltOf cf x dk[a]!) dk i j) ∧ Hid (SW nam w0 b 0 dk wr)) (fun vj _ => (intOf vj).toNat)
        case atStart => exact ⟨_, j, rfl, by omega, hij', Nat.le_refl _, Lib.hid rfl, S3⟩
        case round =>
          clear S3 hij'
          obtain ⟨jz, j2, rfl, rfl, hij2, hjj2, HC2, S4⟩ := hrel
          by_cases hlt : i ≤ j2
          · have hl1 : decide ((i : Int) ≤ (j2 : Int)) = true := decide_eq_true (by omega)
            have hl2 : (i : Int) ≤ (j2 : Int) := by omega
            cases hlv : ltOf cf dk[j2]! dk[a]! with
            | false =>
              have HL := Lib.hid hlv
              clear hlv
              go_wp2_with fail
              obtain ⟨I12, hI12⟩ : ∃ q, q = j2 := ⟨_, rfl⟩
              obtain ⟨J12, hJ12⟩ : ∃ q, q = a := ⟨_, rfl⟩
              have u12 : ((j2 : Int) : Int).toNat = I12 ∧ 0 ≤ ((j2 : Int) : Int) ∧ ((j2 : Int) : Int) < n ∧ IntKind.i64.wrap ((j2 : Int) : Int) = (j2 : Int) := ⟨by omega, by omega, by omega, by rw [IntKind.wrap_i64]; omega⟩
              have v12 : ((a : Int) : Int).toNat = J12 ∧ 0 ≤ ((a : Int) : Int) ∧ ((a : Int) : Int) < n ∧ IntKind.i64.wrap ((a : Int) : Int) = (a : Int) := ⟨by omega, by omega, by omega, by rw [IntKind.wrap_i64]; omega⟩
              obtain ⟨u12a, u12b, u12c, u12d⟩ := u12
              obtain ⟨v12a, v12b, v12c, v12d⟩ := v12

              obtain ⟨x12, hx12⟩ : ∃ q, q = dk[j2]! := ⟨_, rfl⟩
              obtain ⟨y12, hy12⟩ : ∃ q, q = dk[a]! := ⟨_, rfl⟩
              have c12 : ∀ m os, (grow (wr.drewN m) os).cell? ⟨b, I12, none⟩ = some (.string (str x12)) := fun m os => by rw [hI12, hx12]; exact E.out.cellG S4.out hsk.out (i := j2) (by omega) m os
              have d12 : ∀ m os, (grow (wr.drewN m) os).cell? ⟨b, J12, none⟩ = some (.string (str y12)) := fun m os => by rw [hJ12, hy12]; exact E.out.cellG S4.out hsk.out (i := a) (by omega) m os
              have a12 := E.out.tell S4.out hsk.out x12 y12
              have r12 : ltOf cf x12 y12 = false := by rw [hx12, hy12]; exact HL.out
              have s12 : decide (cf x12 y12 < 0) = false := r12
              have t12 : ¬ cf x12 y12 < 0 := by simpa using s12
              clear r12 hx12 hy12 hI12 hJ12
              go_wp2_with fail
              go_quiet_grown (first | (go_at_call 27; refine a12 _ _))
              have S5 := Lib.hid (S4.out.grown nq osq)
              clear c12 d12 a12 u12a v12a S4
              generalize grow (wr.drewN nq) osq = w5 at S5 ⊢
              clear nq osq
              clear hl1
              go_wp2
              go_roundw
              case rel => exact ⟨_, j2 - 1, rfl, by omega, by omega, by omega, Lib.hid ((scanDown_go (fun x => !ltOf cf x dk[a]!) dk i j2 hlt (by omega) (by show (!ltOf cf dk[j2]! dk[a]!) = true; rw [HL.out]; rfl)).symm.trans HC2.out), S5⟩
              case measure => simp [intOf]; omega
            | true =>
              have HL := Lib.hid hlv
              clear hlv
              have HJ2 : Hid (j2 = Sort.scanDown (fun x => !ltOf cf x dk[a]!) dk i j) := Lib.hid ((scanDown_end (fun x => !ltOf cf x dk[a]!) dk i j2 (.inr (by show (!ltOf cf dk[j2]! dk[a]!) = false; rw [HL.out]; rfl))).symm.trans HC2.out)
              have hij3 : i < j2 := by
                refine Nat.lt_of_le_of_ne hlt fun e => ?_
                have h1 := HF.out (by omega)
                have h2 := HL.out
                rw [e, h2] at h1
                cases h1
              clear HC2
              go_wp2_with fail
              obtain ⟨I13, hI13⟩ : ∃ q, q = j2 := ⟨_, rfl⟩
              obtain ⟨J13, hJ13⟩ : ∃ q, q = a := ⟨_, rfl⟩
              have u13 : ((j2 : Int) : Int).toNat = I13 ∧ 0 ≤ ((j2 : Int) : Int) ∧ ((j2 : Int) : Int) < n ∧ IntKind.i64.wrap ((j2 : Int) : Int) = (j2 : Int) := ⟨by omega, by omega, by omega, by rw [IntKind.wrap_i64]; omega⟩
              have v13 : ((a : Int) : Int).toNat = J13 ∧ 0 ≤ ((a : Int) : Int) ∧ ((a : Int) : Int) < n ∧ IntKind.i64.wrap ((a : Int) : Int) = (a : Int) := ⟨by omega, by omega, by omega, by rw [IntKind.wrap_i64]; omega⟩
              obtain ⟨u13a, u13b, u13c, u13d⟩ := u13
              obtain ⟨v13a, v13b, v13c, v13d⟩ := v13

              obtain ⟨x13, hx13⟩ : ∃ q, q = dk[j2]! := ⟨_, rfl⟩
              obtain ⟨y13, hy13⟩ : ∃ q, q = dk[a]! := ⟨_, rfl⟩
              have c13 : ∀ m os, (grow (wr.drewN m) os).cell? ⟨b, I13, none⟩ = some (.string (str x13)) := fun m os => by rw [hI13, hx13]; exact E.out.cellG S4.out hsk.out (i := j2) (by omega) m os
              have d13 : ∀ m os, (grow (wr.drewN m) os).cell? ⟨b, J13, none⟩ = some (.string (str y13)) := fun m os => by rw [hJ13, hy13]; exact E.out.cellG S4.out hsk.out (i := a) (by omega) m os
              have a13 := E.out.tell S4.out hsk.out x13 y13
              have r13 : ltOf cf x13 y13 = true := by rw [hx13, hy13]; exact HL.out
              have s13 : decide (cf x13 y13 < 0) = true := r13
              have t13 : cf x13 y13 < 0 := by simpa using s13
              clear r13 hx13 hy13 hI13 hJ13
              go_wp2_with fail
              go_quiet_grown (first | (go_at_call 27; refine a13 _ _))
              have S5 := Lib.hid (S4.out.grown nq osq)
              clear c13 d13 a13 u13a v13a S4
              generalize grow (wr.drewN nq) osq = w5 at S5 ⊢
              clear nq osq
              clear hl1
              have hgt : ¬ (j2 : Int) < (i : Int) := by omega
              have HR2 := Lib.hid ((HR.out i j2 HI2.out HJ2.out).2 (by omega))
              obtain ⟨R2, hR2⟩ : ∃ R2, R2 = Sort.partLoop (ltOf cf) a (i + 1) (j2 - 1) (swp dk i j2) := ⟨_, rfl⟩
              rw [← hR2] at HR2
              have HX := Lib.hid hR2.symm
              clear hR2 HI2 HJ2 HF
              go_wp2_with fail
              obtain ⟨I1, hI1⟩ : ∃ q, q = i := ⟨_, rfl⟩
              obtain ⟨J1, hJ1⟩ : ∃ q, q = j2 := ⟨_, rfl⟩
              have u1 : ((i : Int) : Int).toNat = I1 ∧ 0 ≤ ((i : Int) : Int) ∧ ((i : Int) : Int) < n ∧ IntKind.i64.wrap ((i : Int) : Int) = (i : Int) := ⟨by omega, by omega, by omega, by rw [IntKind.wrap_i64]; omega⟩
              have v1 : ((j2 : Int) : Int).toNat = J1 ∧ 0 ≤ ((j2 : Int) : Int) ∧ ((j2 : Int) : Int) < n ∧ IntKind.i64.wrap ((j2 : Int) : Int) = (j2 : Int) := ⟨by omega, by omega, by omega, by rw [IntKind.wrap_i64]; omega⟩
              obtain ⟨u1a, u1b, u1c, u1d⟩ := u1
              obtain ⟨v1a, v1b, v1c, v1d⟩ := v1

              obtain ⟨x1, hx1⟩ : ∃ q, q = dk[i]! := ⟨_, rfl⟩
              obtain ⟨y1, hy1⟩ : ∃ q, q = dk[j2]! := ⟨_, rfl⟩
              have S6 : Hid (SW nam w0 b 0 (swp dk (i) (j2)) ((w5.setCell ⟨b, I1, none⟩ (.string (str y1))).setCell ⟨b, J1, none⟩ (.string (str x1))).drew) := Lib.hid (by rw [hI1, hJ1, hx1, hy1]; exact E.out.swap S5.out hsk.out (i := i) (j := j2) (by omega) (by omega))
              obtain ⟨c1, f1⟩ : w5.cell? ⟨b, I1, none⟩ = some (.string (str x1)) ∧ w5.frozen? ⟨b, I1, none⟩ = false := by rw [hI1, hx1]; exact E.out.cell S5.out hsk.out (i := i) (by omega)
              obtain ⟨d1, g1⟩ : w5.cell? ⟨b, J1, none⟩ = some (.string (str y1)) ∧ w5.frozen? ⟨b, J1, none⟩ = false := by rw [hJ1, hy1]; exact E.out.cell S5.out hsk.out (i := j2) (by omega)
              obtain ⟨o1, e1⟩ : ∃ u, (w5.setCell ⟨b, I1, none⟩ (.string (str y1))).cell? ⟨b, J1, none⟩ = some u := by rw [hI1, hJ1]; exact E.out.mid S5.out hsk.out (i := i) (j := j2) (by omega) (by omega) _
              clear hx1 hy1 hI1 hJ1 S5
              go_wp2_with fail
              go_big_region_o
              clear c1 d1 e1 f1 g1 u1a v1a
              generalize ((w5.setCell ⟨b, I1, none⟩ (.string (str y1))).setCell ⟨b, J1, none⟩ (.string (str x1))).drew = w6 at S6 ⊢
              obtain ⟨dq, hdq⟩ : ∃ dq, dq = swp dk i j2 := ⟨_, rfl⟩
              have hsq : Hid (dq.size = n) := Lib.hid (by rw [hdq]; exact (size_swp _ _ _).trans hsk.out)
              rw [← hdq] at S6 HX
              clear hdq hsk HL
              go_wp2_with fail
              go_loopw [12, 13] (fun vi vj wr => ∃ (i j : Nat) (jz : Int) (dk : Array Ky), vi = .int .i64 i ∧ vj = .int .i64 jz ∧ jz = (j : Int) ∧ a < i ∧ i ≤ j + 1 ∧ j < z ∧ Hid (dk.size = n) ∧ Hid (Sort.partLoop (ltOf cf) a i j dk = R2) ∧ Hid (SW nam w0 b 0 dk wr)) (fun _ vj _ => (intOf vj).toNat)
              case atStart => exact ⟨i + 1, j2 - 1, _, dq, by go_num, rfl, by omega, by omega, by omega, by omega, hsq, HX, S6⟩
              case round =>
                clear S6 HX hsq hgt hij2 hjj2 hij3 hl2 hlt hii
                obtain ⟨i0, j, jz, dk, rfl, rfl, rfl, hai, hij, hjz, hsk, HX, S1⟩ := hrel
                go_wp2_with fail
                go_loopw [12] (fun vi wr => ∃ (i2 : Nat), vi = .int .i64 i2 ∧ i0 ≤ i2 ∧ i2 ≤ j + 1 ∧ Hid (Sort.scanUp (fun x => ltOf cf x dk[a]!) dk j i2 = Sort.scanUp (fun x => ltOf cf x dk[a]!) dk j (i0)) ∧ Hid (SW nam w0 b 0 dk wr)) (fun vi _ => j + 1 - (intOf vi).toNat)
                case atStart => exact ⟨i0, by go_num, Nat.le_refl _, hij, Lib.hid rfl, S1⟩
                case round =>
                  clear S1
                  obtain ⟨i2, rfl, hii, hij', HC, S2⟩ := hrel
                  by_cases hlt : i2 ≤ j
                  · have hl1 : decide ((i2 : Int) ≤ (j : Int)) = true := decide_eq_true (by omega)
                    have hl2 : (i2 : Int) ≤ (j : Int) := by omega
                    cases hlv : ltOf cf dk[i2]! dk[a]! with
                    | true =>
                      have HL := Lib.hid hlv
                      clear hlv
                      go_wp2_with fail
                      obtain ⟨I4, hI4⟩ : ∃ q, q = i2 := ⟨_, rfl⟩
                      obtain ⟨J4, hJ4⟩ : ∃ q, q = a := ⟨_, rfl⟩
                      have u4 : ((i2 : Int) : Int).toNat = I4 ∧ 0 ≤ ((i2 : Int) : Int) ∧ ((i2 : Int) : Int) < n ∧ IntKind.i64.wrap ((i2 : Int) : Int) = (i2 : Int) := ⟨by omega, by omega, by omega, by rw [IntKind.wrap_i64]; omega⟩
                      have v4 : ((a : Int) : Int).toNat = J4 ∧ 0 ≤ ((a : Int) : Int) ∧ ((a : Int) : Int) < n ∧ IntKind.i64.wrap ((a : Int) : Int) = (a : Int) := ⟨by omega, by omega, by omega, by rw [IntKind.wrap_i64]; omega⟩
                      obtain ⟨u4a, u4b, u4c, u4d⟩ := u4
                      obtain ⟨v4a, v4b, v4c, v4d⟩ := v4

                      obtain ⟨x4, hx4⟩ : ∃ q, q = dk[i2]! := ⟨_, rfl⟩
                      obtain ⟨y4, hy4⟩ : ∃ q, q = dk[a]! := ⟨_, rfl⟩
                      have c4 : ∀ m os, (grow (wr.drewN m) os).cell? ⟨b, I4, none⟩ = some (.string (str x4)) := fun m os => by rw [hI4, hx4]; exact E.out.cellG S2.out hsk.out (i := i2) (by omega) m os
                      have d4 : ∀ m os, (grow (wr.drewN m) os).cell? ⟨b, J4, none⟩ = some (.string (str y4)) := fun m os => by rw [hJ4, hy4]; exact E.out.cellG S2.out hsk.out (i := a) (by omega) m os
                      have a4 := E.out.tell S2.out hsk.out x4 y4
                      have r4 : ltOf cf x4 y4 = true := by rw [hx4, hy4]; exact HL.out
                      have s4 : decide (cf x4 y4 < 0) = true := r4
                      have t4 : cf x4 y4 < 0 := by simpa using s4
                      clear r4 hx4 hy4 hI4 hJ4
                      go_wp2_with fail
                      go_quiet_grown (first | (go_at_call 27; refine a4 _ _))
                      have S3 := Lib.hid (S2.out.grown nq osq)
                      clear c4 d4 a4 u4a v4a S2
                      generalize grow (wr.drewN nq) osq = w3 at S3 ⊢
                      clear nq osq
                      clear hl1
                      go_wp2
                      go_roundw
                      case rel => exact ⟨i2 + 1, by go_num, by omega, by omega, Lib.hid ((scanUp_go (fun x => ltOf cf x dk[a]!) dk j i2 hlt HL.out).symm.trans HC.out), S3⟩
                      case measure => simp [intOf]; omega
                    | false =>
                      have HL := Lib.hid hlv
                      clear hlv
                      obtain ⟨i, hi⟩ : ∃ i, i = i2 := ⟨_, rfl⟩
                      have HI2 : Hid (i = Sort.scanUp (fun x => ltOf cf x dk[a]!) dk j (i0)) := Lib.hid (hi.trans ((scanUp_end (fun x => ltOf cf x dk[a]!) dk j i2 (.inr HL.out)).symm.trans HC.out))
                      have HF : Hid (i ≤ j → ltOf cf dk[i]! dk[a]! = false) := Lib.hid (fun _ => by rw [hi]; exact HL.out)
                      clear HC
                      go_wp2_with fail
                      obtain ⟨I5, hI5⟩ : ∃ q, q = i2 := ⟨_, rfl⟩
                      obtain ⟨J5, hJ5⟩ : ∃ q, q = a := ⟨_, rfl⟩
                      have u5 : ((i2 : Int) : Int).toNat = I5 ∧ 0 ≤ ((i2 : Int) : Int) ∧ ((i2 : Int) : Int) < n ∧ IntKind.i64.wrap ((i2 : Int) : Int) = (i2 : Int) := ⟨by omega, by omega, by omega, by rw [IntKind.wrap_i64]; omega⟩
                      have v5 : ((a : Int) : Int).toNat = J5 ∧ 0 ≤ ((a : Int) : Int) ∧ ((a : Int) : Int) < n ∧ IntKind.i64.wrap ((a : Int) : Int) = (a : Int) := ⟨by omega, by omega, by omega, by rw [IntKind.wrap_i64]; omega⟩
                      obtain ⟨u5a, u5b, u5c, u5d⟩ := u5
                      obtain ⟨v5a, v5b, v5c, v5d⟩ := v5

                      obtain ⟨x5, hx5⟩ : ∃ q, q = dk[i2]! := ⟨_, rfl⟩
                      obtain ⟨y5, hy5⟩ : ∃ q, q = dk[a]! := ⟨_, rfl⟩
                      have c5 : ∀ m os, (grow (wr.drewN m) os).cell? ⟨b, I5, none⟩ = some (.string (str x5)) := fun m os => by rw [hI5, hx5]; exact E.out.cellG S2.out hsk.out (i := i2) (by omega) m os
                      have d5 : ∀ m os, (grow (wr.drewN m) os).cell? ⟨b, J5, none⟩ = some (.string (str y5)) := fun m os => by rw [hJ5, hy5]; exact E.out.cellG S2.out hsk.out (i := a) (by omega) m os
                      have a5 := E.out.tell S2.out hsk.out x5 y5
                      have r5 : ltOf cf x5 y5 = false := by rw [hx5, hy5]; exact HL.out
                      have s5 : decide (cf x5 y5 < 0) = false := r5
                      have t5 : ¬ cf x5 y5 < 0 := by simpa using s5
                      clear r5 hx5 hy5 hI5 hJ5
                      go_wp2_with fail
                      go_quiet_grown (first | (go_at_call 27; refine a5 _ _))
                      have S3 := Lib.hid (S2.out.grown nq osq)
                      clear c5 d5 a5 u5a v5a S2
                      generalize grow (wr.drewN nq) osq = w3 at S3 ⊢
                      clear nq osq
                      clear hl1 hl2 hlt
                      subst hi
                      go_wp2_with fail
                      go_loopw [13] (fun vj wr => ∃ (jz : Int) (j2 : Nat), vj = .int .i64 jz ∧ jz = (j2 : Int) ∧ i ≤ j2 + 1 ∧ j2 ≤ j ∧ Hid (Sort.scanDown (fun x => !ltOf cf x dk[a]!) dk i j2 = Sort.scanDown (fun x => !ltOf cf x dk[a]!) dk i j) ∧ Hid (SW nam w0 b 0 dk wr)) (fun vj _ => (intOf vj).toNat)
                      case atStart => exact ⟨_, j, rfl, by omega, hij', Nat.le_refl _, Lib.hid rfl, S3⟩
                      case round =>
                        clear S3 hij'
                        obtain ⟨jz, j2, rfl, rfl, hij2, hjj2, HC2, S4⟩ := hrel
                        by_cases hlt : i ≤ j2
                        · have hl1 : decide ((i : Int) ≤ (j2 : Int)) = true := decide_eq_true (by omega)
                          have hl2 : (i : Int) ≤ (j2 : Int) := by omega
                          cases hlv : ltOf cf dk[j2]! dk[a]! with
                          | false =>
                            have HL := Lib.hid hlv
                            clear hlv
                            go_wp2_with fail
                            obtain ⟨I6, hI6⟩ : ∃ q, q = j2 := ⟨_, rfl⟩
                            obtain ⟨J6, hJ6⟩ : ∃ q, q = a := ⟨_, rfl⟩
                            have u6 : ((j2 : Int) : Int).toNat = I6 ∧ 0 ≤ ((j2 : Int) : Int) ∧ ((j2 : Int) : Int) < n ∧ IntKind.i64.wrap ((j2 : Int) : Int) = (j2 : Int) := ⟨by omega, by omega, by omega, by rw [IntKind.wrap_i64]; omega⟩
                            have v6 : ((a : Int) : Int).toNat = J6 ∧ 0 ≤ ((a : Int) : Int) ∧ ((a : Int) : Int) < n ∧ IntKind.i64.wrap ((a : Int) : Int) = (a : Int) := ⟨by omega, by omega, by omega, by rw [IntKind.wrap_i64]; omega⟩
                            obtain ⟨u6a, u6b, u6c, u6d⟩ := u6
                            obtain ⟨v6a, v6b, v6c, v6d⟩ := v6

                            obtain ⟨x6, hx6⟩ : ∃ q, q = dk[j2]! := ⟨_, rfl⟩
                            obtain ⟨y6, hy6⟩ : ∃ q, q = dk[a]! := ⟨_, rfl⟩
                            have c6 : ∀ m os, (grow (wr.drewN m) os).cell? ⟨b, I6, none⟩ = some (.string (str x6)) := fun m os => by rw [hI6, hx6]; exact E.out.cellG S4.out hsk.out (i := j2) (by omega) m os
                            have d6 : ∀ m os, (grow (wr.drewN m) os).cell? ⟨b, J6, none⟩ = some (.string (str y6)) := fun m os => by rw [hJ6, hy6]; exact E.out.cellG S4.out hsk.out (i := a) (by omega) m os
                            have a6 := E.out.tell S4.out hsk.out x6 y6
                            have r6 : ltOf cf x6 y6 = false := by rw [hx6, hy6]; exact HL.out
                            have s6 : decide (cf x6 y6 < 0) = false := r6
                            have t6 : ¬ cf x6 y6 < 0 := by simpa using s6
                            clear r6 hx6 hy6 hI6 hJ6
                            go_wp2_with fail
                            go_quiet_grown (first | (go_at_call 27; refine a6 _ _))
                            have S5 := Lib.hid (S4.out.grown nq osq)
                            clear c6 d6 a6 u6a v6a S4
                            generalize grow (wr.drewN nq) osq = w5 at S5 ⊢
                            clear nq osq
                            clear hl1
                            go_wp2
                            go_roundw
                            case rel => exact ⟨_, j2 - 1, rfl, by omega, by omega, by omega, Lib.hid ((scanDown_go (fun x => !ltOf cf x dk[a]!) dk i j2 hlt (by omega) (by show (!ltOf cf dk[j2]! dk[a]!) = true; rw [HL.out]; rfl)).symm.trans HC2.out), S5⟩
                            case measure => simp [intOf]; omega
                          | true =>
                            have HL := Lib.hid hlv
                            clear hlv
                            have HJ2 : Hid (j2 = Sort.scanDown (fun x => !ltOf cf x dk[a]!) dk i j) := Lib.hid ((scanDown_end (fun x => !ltOf cf x dk[a]!) dk i j2 (.inr (by show (!ltOf cf dk[j2]! dk[a]!) = false; rw [HL.out]; rfl))).symm.trans HC2.out)
                            have hij3 : i < j2 := by
                              refine Nat.lt_of_le_of_ne hlt fun e => ?_
                              have h1 := HF.out (by omega)
                              have h2 := HL.out
                              rw [e, h2] at h1
                              cases h1
                            clear HC2
                            go_wp2_with fail
                            obtain ⟨I7, hI7⟩ : ∃ q, q = j2 := ⟨_, rfl⟩
                            obtain ⟨J7, hJ7⟩ : ∃ q, q = a := ⟨_, rfl⟩
                            have u7 : ((j2 : Int) : Int).toNat = I7 ∧ 0 ≤ ((j2 : Int) : Int) ∧ ((j2 : Int) : Int) < n ∧ IntKind.i64.wrap ((j2 : Int) : Int) = (j2 : Int) := ⟨by omega, by omega, by omega, by rw [IntKind.wrap_i64]; omega⟩
                            have v7 : ((a : Int) : Int).toNat = J7 ∧ 0 ≤ ((a : Int) : Int) ∧ ((a : Int) : Int) < n ∧ IntKind.i64.wrap ((a : Int) : Int) = (a : Int) := ⟨by omega, by omega, by omega, by rw [IntKind.wrap_i64]; omega⟩
                            obtain ⟨u7a, u7b, u7c, u7d⟩ := u7
                            obtain ⟨v7a, v7b, v7c, v7d⟩ := v7

                            obtain ⟨x7, hx7⟩ : ∃ q, q = dk[j2]! := ⟨_, rfl⟩
                            obtain ⟨y7, hy7⟩ : ∃ q, q = dk[a]! := ⟨_, rfl⟩
                            have c7 : ∀ m os, (grow (wr.drewN m) os).cell? ⟨b, I7, none⟩ = some (.string (str x7)) := fun m os => by rw [hI7, hx7]; exact E.out.cellG S4.out hsk.out (i := j2) (by omega) m os
                            have d7 : ∀ m os, (grow (wr.drewN m) os).cell? ⟨b, J7, none⟩ = some (.string (str y7)) := fun m os => by rw [hJ7, hy7]; exact E.out.cellG S4.out hsk.out (i := a) (by omega) m os
                            have a7 := E.out.tell S4.out hsk.out x7 y7
                            have r7 : ltOf cf x7 y7 = true := by rw [hx7, hy7]; exact HL.out
                            have s7 : decide (cf x7 y7 < 0) = true := r7
                            have t7 : cf x7 y7 < 0 := by simpa using s7
                            clear r7 hx7 hy7 hI7 hJ7
                            go_wp2_with fail
                            go_quiet_grown (first | (go_at_call 27; refine a7 _ _))
                            have S5 := Lib.hid (S4.out.grown nq osq)
                            clear c7 d7 a7 u7a v7a S4
                            generalize grow (wr.drewN nq) osq = w5 at S5 ⊢
                            clear nq osq
                            clear hl1
                            have hgt : ¬ (j2 : Int) < (i : Int) := by omega
                            have HGO := Lib.hid ((ptn_go HI2.out HJ2.out (by omega)).symm.trans HX.out)
                            go_wp2_with fail
                            obtain ⟨I1, hI1⟩ : ∃ q, q = i := ⟨_, rfl⟩
                            obtain ⟨J1, hJ1⟩ : ∃ q, q = j2 := ⟨_, rfl⟩
                            have u1 : ((i : Int) : Int).toNat = I1 ∧ 0 ≤ ((i : Int) : Int) ∧ ((i : Int) : Int) < n ∧ IntKind.i64.wrap ((i : Int) : Int) = (i : Int) := ⟨by omega, by omega, by omega, by rw [IntKind.wrap_i64]; omega⟩
                            have v1 : ((j2 : Int) : Int).toNat = J1 ∧ 0 ≤ ((j2 : Int) : Int) ∧ ((j2 : Int) : Int) < n ∧ IntKind.i64.wrap ((j2 : Int) : Int) = (j2 : Int) := ⟨by omega, by omega, by omega, by rw [IntKind.wrap_i64]; omega⟩
                            obtain ⟨u1a, u1b, u1c, u1d⟩ := u1
                            obtain ⟨v1a, v1b, v1c, v1d⟩ := v1

                            obtain ⟨x1, hx1⟩ : ∃ q, q = dk[i]! := ⟨_, rfl⟩
                            obtain ⟨y1, hy1⟩ : ∃ q, q = dk[j2]! := ⟨_, rfl⟩
                            have S6 : Hid (SW nam w0 b 0 (swp dk (i) (j2)) ((w5.setCell ⟨b, I1, none⟩ (.string (str y1))).setCell ⟨b, J1, none⟩ (.string (str x1))).drew) := Lib.hid (by rw [hI1, hJ1, hx1, hy1]; exact E.out.swap S5.out hsk.out (i := i) (j := j2) (by omega) (by omega))
                            obtain ⟨c1, f1⟩ : w5.cell? ⟨b, I1, none⟩ = some (.string (str x1)) ∧ w5.frozen? ⟨b, I1, none⟩ = false := by rw [hI1, hx1]; exact E.out.cell S5.out hsk.out (i := i) (by omega)
                            obtain ⟨d1, g1⟩ : w5.cell? ⟨b, J1, none⟩ = some (.string (str y1)) ∧ w5.frozen? ⟨b, J1, none⟩ = false := by rw [hJ1, hy1]; exact E.out.cell S5.out hsk.out (i := j2) (by omega)
                            obtain ⟨o1, e1⟩ : ∃ u, (w5.setCell ⟨b, I1, none⟩ (.string (str y1))).cell? ⟨b, J1, none⟩ = some u := by rw [hI1, hJ1]; exact E.out.mid S5.out hsk.out (i := i) (j := j2) (by omega) (by omega) _
                            clear hx1 hy1 hI1 hJ1 S5
                            go_wp2_with fail
                            go_big_region_o
                            clear c1 d1 e1 f1 g1 u1a v1a
                            generalize ((w5.setCell ⟨b, I1, none⟩ (.string (str y1))).setCell ⟨b, J1, none⟩ (.string (str x1))).drew = w6 at S6 ⊢
                            go_wp2
                            go_roundw
                            case rel => exact ⟨i + 1, j2 - 1, _, swp dk i j2, by go_num, rfl, by omega, by omega, by omega, by omega, Lib.hid ((size_swp _ _ _).trans hsk.out), HGO, S6⟩
                            case measure => simp [intOf]; omega
                        · have hl1 : decide ((i : Int) ≤ (j2 : Int)) = false := decide_eq_false (by omega)
                          have hl2 : ¬ (i : Int) ≤ (j2 : Int) := by omega
                          have hgt : (j2 : Int) < (i : Int) := by omega
                          have HJ2 : Hid (j2 = Sort.scanDown (fun x => !ltOf cf x dk[a]!) dk i j) := Lib.hid ((scanDown_end (fun x => !ltOf cf x dk[a]!) dk i j2 (.inl hlt)).symm.trans HC2.out)
                          clear HC2
                          go_wp2_with fail
                          go_big_region_o
                          have S5 := Lib.hid (S4.out.drew)
                          clear S4
                          generalize wr.drew = w5 at S5 ⊢
                          have HB := Lib.hid ((ptn_break HI2.out HJ2.out (by omega)).symm.trans HX.out)
                          go_wp2_with fail
                          obtain ⟨I2, hI2⟩ : ∃ q, q = j2 := ⟨_, rfl⟩
                          obtain ⟨J2, hJ2⟩ : ∃ q, q = a := ⟨_, rfl⟩
                          have u2 : ((j2 : Int) : Int).toNat = I2 ∧ 0 ≤ ((j2 : Int) : Int) ∧ ((j2 : Int) : Int) < n ∧ IntKind.i64.wrap ((j2 : Int) : Int) = (j2 : Int) := ⟨by omega, by omega, by omega, by rw [IntKind.wrap_i64]; omega⟩
                          have v2 : ((a : Int) : Int).toNat = J2 ∧ 0 ≤ ((a : Int) : Int) ∧ ((a : Int) : Int) < n ∧ IntKind.i64.wrap ((a : Int) : Int) = (a : Int) := ⟨by omega, by omega, by omega, by rw [IntKind.wrap_i64]; omega⟩
                          obtain ⟨u2a, u2b, u2c, u2d⟩ := u2
                          obtain ⟨v2a, v2b, v2c, v2d⟩ := v2

                          obtain ⟨x2, hx2⟩ : ∃ q, q = dk[j2]! := ⟨_, rfl⟩
                          obtain ⟨y2, hy2⟩ : ∃ q, q = dk[a]! := ⟨_, rfl⟩
                          have S6 : Hid (SW nam w0 b 0 (swp dk (j2) (a)) ((w5.setCell ⟨b, I2, none⟩ (.string (str y2))).setCell ⟨b, J2, none⟩ (.string (str x2))).drew) := Lib.hid (by rw [hI2, hJ2, hx2, hy2]; exact E.out.swap S5.out hsk.out (i := j2) (j := a) (by omega) (by omega))
                          obtain ⟨c2, f2⟩ : w5.cell? ⟨b, I2, none⟩ = some (.string (str x2)) ∧ w5.frozen? ⟨b, I2, none⟩ = false := by rw [hI2, hx2]; exact E.out.cell S5.out hsk.out (i := j2) (by omega)
                          obtain ⟨d2, g2⟩ : w5.cell? ⟨b, J2, none⟩ = some (.string (str y2)) ∧ w5.frozen? ⟨b, J2, none⟩ = false := by rw [hJ2, hy2]; exact E.out.cell S5.out hsk.out (i := a) (by omega)
                          obtain ⟨o2, e2⟩ : ∃ u, (w5.setCell ⟨b, I2, none⟩ (.string (str y2))).cell? ⟨b, J2, none⟩ = some u := by rw [hI2, hJ2]; exact E.out.mid S5.out hsk.out (i := j2) (j := a) (by omega) (by omega) _
                          clear hx2 hy2 hI2 hJ2 S5
                          go_wp2_with fail
                          go_big_region_o
                          clear c2 d2 e2 f2 g2 u2a v2a
                          generalize ((w5.setCell ⟨b, I2, none⟩ (.string (str y2))).setCell ⟨b, J2, none⟩ (.string (str x2))).drew = w6 at S6 ⊢
                          go_wp2
                          go_ret2
                          rw [HR2.out, ← HB.out]
                          exact ⟨rfl, S6.out⟩
                  · have hl1 : decide ((i2 : Int) ≤ (j : Int)) = false := decide_eq_false (by omega)
                    have hl2 : ¬ (i2 : Int) ≤ (j : Int) := by omega
                    obtain ⟨i, hi⟩ : ∃ i, i = i2 := ⟨_, rfl⟩
                    have HI2 : Hid (i = Sort.scanUp (fun x => ltOf cf x dk[a]!) dk j (i0)) := Lib.hid (hi.trans ((scanUp_end (fun x => ltOf cf x dk[a]!) dk j i2 (.inl hlt)).symm.trans HC.out))
                    have HF : Hid (i ≤ j → ltOf cf dk[i]! dk[a]! = false) := Lib.hid (fun h => absurd (hi ▸ h) hlt)
                    clear HC
                    go_wp2_with fail
                    go_big_region_o
                    have S3 := Lib.hid (S2.out.drew)
                    clear S2
                    generalize wr.drew = w3 at S3 ⊢
                    clear hl1 hl2 hlt
                    subst hi
                    go_wp2_with fail
                    go_loopw [13] (fun vj wr => ∃ (jz : Int) (j2 : Nat), vj = .int .i64 jz ∧ jz = (j2 : Int) ∧ i ≤ j2 + 1 ∧ j2 ≤ j ∧ Hid (Sort.scanDown (fun x => !ltOf cf x dk[a]!) dk i j2 = Sort.scanDown (fun x => !ltOf cf x dk[a]!) dk i j) ∧ Hid (SW nam w0 b 0 dk wr)) (fun vj _ => (intOf vj).toNat)
                    case atStart => exact ⟨_, j, rfl, by omega, hij', Nat.le_refl _, Lib.hid rfl, S3⟩
                    case round =>
                      clear S3 hij'
                      obtain ⟨jz, j2, rfl, rfl, hij2, hjj2, HC2, S4⟩ := hrel
                      by_cases hlt : i ≤ j2
                      · have hl1 : decide ((i : Int) ≤ (j2 : Int)) = true := decide_eq_true (by omega)
                        have hl2 : (i : Int) ≤ (j2 : Int) := by omega
                        cases hlv : ltOf cf dk[j2]! dk[a]! with
                        | false =>
                          have HL := Lib.hid hlv
                          clear hlv
                          go_wp2_with fail
                          obtain ⟨I8, hI8⟩ : ∃ q, q = j2 := ⟨_, rfl⟩
                          obtain ⟨J8, hJ8⟩ : ∃ q, q = a := ⟨_, rfl⟩
                          have u8 : ((j2 : Int) : Int).toNat = I8 ∧ 0 ≤ ((j2 : Int) : Int) ∧ ((j2 : Int) : Int) < n ∧ IntKind.i64.wrap ((j2 : Int) : Int) = (j2 : Int) := ⟨by omega, by omega, by omega, by rw [IntKind.wrap_i64]; omega⟩
                          have v8 : ((a : Int) : Int).toNat = J8 ∧ 0 ≤ ((a : Int) : Int) ∧ ((a : Int) : Int) < n ∧ IntKind.i64.wrap ((a : Int) : Int) = (a : Int) := ⟨by omega, by omega, by omega, by rw [IntKind.wrap_i64]; omega⟩
                          obtain ⟨u8a, u8b, u8c, u8d⟩ := u8
                          obtain ⟨v8a, v8b, v8c, v8d⟩ := v8

                          obtain ⟨x8, hx8⟩ : ∃ q, q = dk[j2]! := ⟨_, rfl⟩
                          obtain ⟨y8, hy8⟩ : ∃ q, q = dk[a]! := ⟨_, rfl⟩
                          have c8 : ∀ m os, (grow (wr.drewN m) os).cell? ⟨b, I8, none⟩ = some (.string (str x8)) := fun m os => by rw [hI8, hx8]; exact E.out.cellG S4.out hsk.out (i := j2) (by omega) m os
                          have d8 : ∀ m os, (grow (wr.drewN m) os).cell? ⟨b, J8, none⟩ = some (.string (str y8)) := fun m os => by rw [hJ8, hy8]; exact E.out.cellG S4.out hsk.out (i := a) (by omega) m os
                          have a8 := E.out.tell S4.out hsk.out x8 y8
                          have r8 : ltOf cf x8 y8 = false := by rw [hx8, hy8]; exact HL.out
                          have s8 : decide (cf x8 y8 < 0) = false := r8
                          have t8 : ¬ cf x8 y8 < 0 := by simpa using s8
                          clear r8 hx8 hy8 hI8 hJ8
                          go_wp2_with fail
                          go_quiet_grown (first | (go_at_call 27; refine a8 _ _))
                          have S5 := Lib.hid (S4.out.grown nq osq)
                          clear c8 d8 a8 u8a v8a S4
                          generalize grow (wr.drewN nq) osq = w5 at S5 ⊢
                          clear nq osq
                          clear hl1
                          go_wp2
                          go_roundw
                          case rel => exact ⟨_, j2 - 1, rfl, by omega, by omega, by omega, Lib.hid ((scanDown_go (fun x => !ltOf cf x dk[a]!) dk i j2 hlt (by omega) (by show (!ltOf cf dk[j2]! dk[a]!) = true; rw [HL.out]; rfl)).symm.trans HC2.out), S5⟩
                          case measure => simp [intOf]; omega
                        | true =>
                          have HL := Lib.hid hlv
                          clear hlv
                          have HJ2 : Hid (j2 = Sort.scanDown (fun x => !ltOf cf x dk[a]!) dk i j) := Lib.hid ((scanDown_end (fun x => !ltOf cf x dk[a]!) dk i j2 (.inr (by show (!ltOf cf dk[j2]! dk[a]!) = false; rw [HL.out]; rfl))).symm.trans HC2.out)
                          have hij3 : i < j2 := by
                            refine Nat.lt_of_le_of_ne hlt fun e => ?_
                            have h1 := HF.out (by omega)
                            have h2 := HL.out
                            rw [e, h2] at h1
                            cases h1
                          clear HC2
                          go_wp2_with fail
                          obtain ⟨I9, hI9⟩ : ∃ q, q = j2 := ⟨_, rfl⟩
                          obtain ⟨J9, hJ9⟩ : ∃ q, q = a := ⟨_, rfl⟩
                          have u9 : ((j2 : Int) : Int).toNat = I9 ∧ 0 ≤ ((j2 : Int) : Int) ∧ ((j2 : Int) : Int) < n ∧ IntKind.i64.wrap ((j2 : Int) : Int) = (j2 : Int) := ⟨by omega, by omega, by omega, by rw [IntKind.wrap_i64]; omega⟩
                          have v9 : ((a : Int) : Int).toNat = J9 ∧ 0 ≤ ((a : Int) : Int) ∧ ((a : Int) : Int) < n ∧ IntKind.i64.wrap ((a : Int) : Int) = (a : Int) := ⟨by omega, by omega, by omega, by rw [IntKind.wrap_i64]; omega⟩
                          obtain ⟨u9a, u9b, u9c, u9d⟩ := u9
                          obtain ⟨v9a, v9b, v9c, v9d⟩ := v9

                          obtain ⟨x9, hx9⟩ : ∃ q, q = dk[j2]! := ⟨_, rfl⟩
                          obtain ⟨y9, hy9⟩ : ∃ q, q = dk[a]! := ⟨_, rfl⟩
                          have c9 : ∀ m os, (grow (wr.drewN m) os).cell? ⟨b, I9, none⟩ = some (.string (str x9)) := fun m os => by rw [hI9, hx9]; exact E.out.cellG S4.out hsk.out (i := j2) (by omega) m os
                          have d9 : ∀ m os, (grow (wr.drewN m) os).cell? ⟨b, J9, none⟩ = some (.string (str y9)) := fun m os => by rw [hJ9, hy9]; exact E.out.cellG S4.out hsk.out (i := a) (by omega) m os
                          have a9 := E.out.tell S4.out hsk.out x9 y9
                          have r9 : ltOf cf x9 y9 = true := by rw [hx9, hy9]; exact HL.out
                          have s9 : decide (cf x9 y9 < 0) = true := r9
                          have t9 : cf x9 y9 < 0 := by simpa using s9
                          clear r9 hx9 hy9 hI9 hJ9
                          go_wp2_with fail
                          go_quiet_grown (first | (go_at_call 27; refine a9 _ _))
                          have S5 := Lib.hid (S4.out.grown nq osq)
                          clear c9 d9 a9 u9a v9a S4
                          generalize grow (wr.drewN nq) osq = w5 at S5 ⊢
                          clear nq osq
                          clear hl1
                          have hgt : ¬ (j2 : Int) < (i : Int) := by omega
                          have HGO := Lib.hid ((ptn_go HI2.out HJ2.out (by omega)).symm.trans HX.out)
                          go_wp2_with fail
                          obtain ⟨I1, hI1⟩ : ∃ q, q = i := ⟨_, rfl⟩
                          obtain ⟨J1, hJ1⟩ : ∃ q, q = j2 := ⟨_, rfl⟩
                          have u1 : ((i : Int) : Int).toNat = I1 ∧ 0 ≤ ((i : Int) : Int) ∧ ((i : Int) : Int) < n ∧ IntKind.i64.wrap ((i : Int) : Int) = (i : Int) := ⟨by omega, by omega, by omega, by rw [IntKind.wrap_i64]; omega⟩
                          have v1 : ((j2 : Int) : Int).toNat = J1 ∧ 0 ≤ ((j2 : Int) : Int) ∧ ((j2 : Int) : Int) < n ∧ IntKind.i64.wrap ((j2 : Int) : Int) = (j2 : Int) := ⟨by omega, by omega, by omega, by rw [IntKind.wrap_i64]; omega⟩
                          obtain ⟨u1a, u1b, u1c, u1d⟩ := u1
                          obtain ⟨v1a, v1b, v1c, v1d⟩ := v1

                          obtain ⟨x1, hx1⟩ : ∃ q, q = dk[i]! := ⟨_, rfl⟩
                          obtain ⟨y1, hy1⟩ : ∃ q, q = dk[j2]! := ⟨_, rfl⟩
                          have S6 : Hid (SW nam w0 b 0 (swp dk (i) (j2)) ((w5.setCell ⟨b, I1, none⟩ (.string (str y1))).setCell ⟨b, J1, none⟩ (.string (str x1))).drew) := Lib.hid (by rw [hI1, hJ1, hx1, hy1]; exact E.out.swap S5.out hsk.out (i := i) (j := j2) (by omega) (by omega))
                          obtain ⟨c1, f1⟩ : w5.cell? ⟨b, I1, none⟩ = some (.string (str x1)) ∧ w5.frozen? ⟨b, I1, none⟩ = false := by rw [hI1, hx1]; exact E.out.cell S5.out hsk.out (i := i) (by omega)
                          obtain ⟨d1, g1⟩ : w5.cell? ⟨b, J1, none⟩ = some (.string (str y1)) ∧ w5.frozen? ⟨b, J1, none⟩ = false := by rw [hJ1, hy1]; exact E.out.cell S5.out hsk.out (i := j2) (by omega)
                          obtain ⟨o1, e1⟩ : ∃ u, (w5.setCell ⟨b, I1, none⟩ (.string (str y1))).cell? ⟨b, J1, none⟩ = some u := by rw [hI1, hJ1]; exact E.out.mid S5.out hsk.out (i := i) (j := j2) (by omega) (by omega) _
                          clear hx1 hy1 hI1 hJ1 S5
                          go_wp2_with fail
                          go_big_region_o
                          clear c1 d1 e1 f1 g1 u1a v1a
                          generalize ((w5.setCell ⟨b, I1, none⟩ (.string (str y1))).setCell ⟨b, J1, none⟩ (.string (str x1))).drew = w6 at S6 ⊢
                          go_wp2
                          go_roundw
                          case rel => exact ⟨i + 1, j2 - 1, _, swp dk i j2, by go_num, rfl, by omega, by omega, by omega, by omega, Lib.hid ((size_swp _ _ _).trans hsk.out), HGO, S6⟩
                          case measure => simp [intOf]; omega
                      · have hl1 : decide ((i : Int) ≤ (j2 : Int)) = false := decide_eq_false (by omega)
                        have hl2 : ¬ (i : Int) ≤ (j2 : Int) := by omega
                        have hgt : (j2 : Int) < (i : Int) := by omega
                        have HJ2 : Hid (j2 = Sort.scanDown (fun x => !ltOf cf x dk[a]!) dk i j) := Lib.hid ((scanDown_end (fun x => !ltOf cf x dk[a]!) dk i j2 (.inl hlt)).symm.trans HC2.out)
                        clear HC2
                        go_wp2_with fail
                        go_big_region_o
                        have S5 := Lib.hid (S4.out.drew)
                        clear S4
                        generalize wr.drew = w5 at S5 ⊢
                        have HB := Lib.hid ((ptn_break HI2.out HJ2.out (by omega)).symm.trans HX.out)
                        go_wp2_with fail
                        obtain ⟨I2, hI2⟩ : ∃ q, q = j2 := ⟨_, rfl⟩
                        obtain ⟨J2, hJ2⟩ : ∃ q, q = a := ⟨_, rfl⟩
                        have u2 : ((j2 : Int) : Int).toNat = I2 ∧ 0 ≤ ((j2 : Int) : Int) ∧ ((j2 : Int) : Int) < n ∧ IntKind.i64.wrap ((j2 : Int) : Int) = (j2 : Int) := ⟨by omega, by omega, by omega, by rw [IntKind.wrap_i64]; omega⟩
                        have v2 : ((a : Int) : Int).toNat = J2 ∧ 0 ≤ ((a : Int) : Int) ∧ ((a : Int) : Int) < n ∧ IntKind.i64.wrap ((a : Int) : Int) = (a : Int) := ⟨by omega, by omega, by omega, by rw [IntKind.wrap_i64]; omega⟩
                        obtain ⟨u2a, u2b, u2c, u2d⟩ := u2
                        obtain ⟨v2a, v2b, v2c, v2d⟩ := v2

                        obtain ⟨x2, hx2⟩ : ∃ q, q = dk[j2]! := ⟨_, rfl⟩
                        obtain ⟨y2, hy2⟩ : ∃ q, q = dk[a]! := ⟨_, rfl⟩
                        have S6 : Hid (SW nam w0 b 0 (swp dk (j2) (a)) ((w5.setCell ⟨b, I2, none⟩ (.string (str y2))).setCell ⟨b, J2, none⟩ (.string (str x2))).drew) := Lib.hid (by rw [hI2, hJ2, hx2, hy2]; exact E.out.swap S5.out hsk.out (i := j2) (j := a) (by omega) (by omega))
                        obtain ⟨c2, f2⟩ : w5.cell? ⟨b, I2, none⟩ = some (.string (str x2)) ∧ w5.frozen? ⟨b, I2, none⟩ = false := by rw [hI2, hx2]; exact E.out.cell S5.out hsk.out (i := j2) (by omega)
                        obtain ⟨d2, g2⟩ : w5.cell? ⟨b, J2, none⟩ = some (.string (str y2)) ∧ w5.frozen? ⟨b, J2, none⟩ = false := by rw [hJ2, hy2]; exact E.out.cell S5.out hsk.out (i := a) (by omega)
                        obtain ⟨o2, e2⟩ : ∃ u, (w5.setCell ⟨b, I2, none⟩ (.string (str y2))).cell? ⟨b, J2, none⟩ = some u := by rw [hI2, hJ2]; exact E.out.mid S5.out hsk.out (i := j2) (j := a) (by omega) (by omega) _
                        clear hx2 hy2 hI2 hJ2 S5
                        go_wp2_with fail
                        go_big_region_o
                        clear c2 d2 e2 f2 g2 u2a v2a
                        generalize ((w5.setCell ⟨b, I2, none⟩ (.string (str y2))).setCell ⟨b, J2, none⟩ (.string (str x2))).drew = w6 at S6 ⊢
                        go_wp2
                        go_ret2
                        rw [HR2.out, ← HB.out]
                        exact ⟨rfl, S6.out⟩
          · have hl1 : decide ((i : Int) ≤ (j2 : Int)) = false := decide_eq_false (by omega)
            have hl2 : ¬ (i : Int) ≤ (j2 : Int) := by omega
            have hgt : (j2 : Int) < (i : Int) := by omega
            have HJ2 : Hid (j2 = Sort.scanDown (fun x => !ltOf cf x dk[a]!) dk i j) := Lib.hid ((scanDown_end (fun x => !ltOf cf x dk[a]!) dk i j2 (.inl hlt)).symm.trans HC2.out)
            clear HC2
            go_wp2_with fail
            go_big_region_o
            have S5 := Lib.hid (S4.out.drew)
            clear S4
            generalize wr.drew = w5 at S5 ⊢
            have HR2 := Lib.hid ((HR.out i j2 HI2.out HJ2.out).1 (by omega))
            go_wp2_with fail
            obtain ⟨I2, hI2⟩ : ∃ q, q = j2 := ⟨_, rfl⟩
            obtain ⟨J2, hJ2⟩ : ∃ q, q = a := ⟨_, rfl⟩
            have u2 : ((j2 : Int) : Int).toNat = I2 ∧ 0 ≤ ((j2 : Int) : Int) ∧ ((j2 : Int) : Int) < n ∧ IntKind.i64.wrap ((j2 : Int) : Int) = (j2 : Int) := ⟨by omega, by omega, by omega, by rw [IntKind.wrap_i64]; omega⟩
            have v2 : ((a : Int) : Int).toNat = J2 ∧ 0 ≤ ((a : Int) : Int) ∧ ((a : Int) : Int) < n ∧ IntKind.i64.wrap ((a : Int) : Int) = (a : Int) := ⟨by omega, by omega, by omega, by rw [IntKind.wrap_i64]; omega⟩
            obtain ⟨u2a, u2b, u2c, u2d⟩ := u2
            obtain ⟨v2a, v2b, v2c, v2d⟩ := v2

            obtain ⟨x2, hx2⟩ : ∃ q, q = dk[j2]! := ⟨_, rfl⟩
            obtain ⟨y2, hy2⟩ : ∃ q, q = dk[a]! := ⟨_, rfl⟩
            have S6 : Hid (SW nam w0 b 0 (swp dk (j2) (a)) ((w5.setCell ⟨b, I2, none⟩ (.string (str y2))).setCell ⟨b, J2, none⟩ (.string (str x2))).drew) := Lib.hid (by rw [hI2, hJ2, hx2, hy2]; exact E.out.swap S5.out hsk.out (i := j2) (j := a) (by omega) (by omega))
            obtain ⟨c2, f2⟩ : w5.cell? ⟨b, I2, none⟩ = some (.string (str x2)) ∧ w5.frozen? ⟨b, I2, none⟩ = false := by rw [hI2, hx2]; exact E.out.cell S5.out hsk.out (i := j2) (by omega)
            obtain ⟨d2, g2⟩ : w5.cell? ⟨b, J2, none⟩ = some (.string (str y2)) ∧ w5.frozen? ⟨b, J2, none⟩ = false := by rw [hJ2, hy2]; exact E.out.cell S5.out hsk.out (i := a) (by omega)
            obtain ⟨o2, e2⟩ : ∃ u, (w5.setCell ⟨b, I2, none⟩ (.string (str y2))).cell? ⟨b, J2, none⟩ = some u := by rw [hI2, hJ2]; exact E.out.mid S5.out hsk.out (i := j2) (j := a) (by omega) (by omega) _
            clear hx2 hy2 hI2 hJ2 S5
            go_wp2_with fail
            go_big_region_o
            clear c2 d2 e2 f2 g2 u2a v2a
            generalize ((w5.setCell ⟨b, I2, none⟩ (.string (str y2))).setCell ⟨b, J2, none⟩ (.string (str x2))).drew = w6 at S6 ⊢
            go_wp2
            go_ret2
            rw [HR2.out]
            exact ⟨rfl, S6.out⟩
    · have hl1 : decide ((i2 : Int) ≤ (j : Int)) = false := decide_eq_false (by omega)
      have hl2 : ¬ (i2 : Int) ≤ (j : Int) := by omega
      obtain ⟨i, hi⟩ : ∃ i, i = i2 := ⟨_, rfl⟩
      have HI2 : Hid (i = Sort.scanUp (fun x => ltOf cf x dk[a]!) dk j (a + 1)) := Lib.hid (hi.trans ((scanUp_end (fun x => ltOf cf x dk[a]!) dk j i2 (.inl hlt)).symm.trans HC.out))
      have HF : Hid (i ≤ j → ltOf cf dk[i]! dk[a]! = false) := Lib.hid (fun h => absurd (hi ▸ h) hlt)
      clear HC
      go_wp2_with fail
      go_big_region_o
      have S3 := Lib.hid (S2.out.drew)
      clear S2
      generalize wr.drew = w3 at S3 ⊢
      clear hl1 hl2 hlt
      subst hi
      go_wp2_with fail
      go_loopw [13] (fun vj wr => ∃ (jz : Int) (j2 : Nat), vj = .int .i64 jz ∧ jz = (j2 : Int) ∧ i ≤ j2 + 1 ∧ j2 ≤ j ∧ Hid (Sort.scanDown (fun x => !ltOf cf x dk[a]!) dk i j2 = Sort.scanDown (fun x => !ltOf cf x dk[a]!) dk i j) ∧ Hid (SW nam w0 b 0 dk wr)) (fun vj _ => (intOf vj).toNat)
      case atStart => exact ⟨_, j, rfl, by omega, hij', Nat.le_refl _, Lib.hid rfl, S3⟩
      case round =>
        clear S3 hij'
        obtain ⟨jz, j2, rfl, rfl, hij2, hjj2, HC2, S4⟩ := hrel
        by_cases hlt : i ≤ j2
        · have hl1 : decide ((i : Int) ≤ (j2 : Int)) = true := decide_eq_true (by omega)
          have hl2 : (i : Int) ≤ (j2 : Int) := by omega
          cases hlv : ltOf cf dk[j2]! dk[a]! with
          | false =>
            have HL := Lib.hid hlv
            clear hlv
            go_wp2_with fail
            obtain ⟨I14, hI14⟩ : ∃ q, q = j2 := ⟨_, rfl⟩
            obtain ⟨J14, hJ14⟩ : ∃ q, q = a := ⟨_, rfl⟩
            have u14 : ((j2 : Int) : Int).toNat = I14 ∧ 0 ≤ ((j2 : Int) : Int) ∧ ((j2 : Int) : Int) < n ∧ IntKind.i64.wrap ((j2 : Int) : Int) = (j2 : Int) := ⟨by omega, by omega, by omega, by rw [IntKind.wrap_i64]; omega⟩
            have v14 : ((a : Int) : Int).toNat = J14 ∧ 0 ≤ ((a : Int) : Int) ∧ ((a : Int) : Int) < n ∧ IntKind.i64.wrap ((a : Int) : Int) = (a : Int) := ⟨by omega, by omega, by omega, by rw [IntKind.wrap_i64]; omega⟩
            obtain ⟨u14a, u14b, u14c, u14d⟩ := u14
            obtain ⟨v14a, v14b, v14c, v14d⟩ := v14

            obtain ⟨x14, hx14⟩ : ∃ q, q = dk[j2]! := ⟨_, rfl⟩
            obtain ⟨y14, hy14⟩ : ∃ q, q = dk[a]! := ⟨_, rfl⟩
            have c14 : ∀ m os, (grow (wr.drewN m) os).cell? ⟨b, I14, none⟩ = some (.string (str x14)) := fun m os => by rw [hI14, hx14]; exact E.out.cellG S4.out hsk.out (i := j2) (by omega) m os
            have d14 : ∀ m os, (grow (wr.drewN m) os).cell? ⟨b, J14, none⟩ = some (.string (str y14)) := fun m os => by rw [hJ14, hy14]; exact E.out.cellG S4.out hsk.out (i := a) (by omega) m os
            have a14 := E.out.tell S4.out hsk.out x14 y14
            have r14 : ltOf cf x14 y14 = false := by rw [hx14, hy14]; exact HL.out
            have s14 : decide (cf x14 y14 < 0) = false := r14
            have t14 : ¬ cf x14 y14 < 0 := by simpa using s14
            clear r14 hx14 hy14 hI14 hJ14
            go_wp2_with fail
            go_quiet_grown (first | (go_at_call 27; refine a14 _ _))
            have S5 := Lib.hid (S4.out.grown nq osq)
            clear c14 d14 a14 u14a v14a S4
            generalize grow (wr.drewN nq) osq = w5 at S5 ⊢
            clear nq osq
            clear hl1
            go_wp2
            go_roundw
            case rel => exact ⟨_, j2 - 1, rfl, by omega, by omega, by omega, Lib.hid ((scanDown_go (fun x => !ltOf cf x dk[a]!) dk i j2 hlt (by omega) (by show (!ltOf cf dk[j2]! dk[a]!) = true; rw [HL.out]; rfl)).symm.trans HC2.out), S5⟩
            case measure => simp [intOf]; omega
          | true =>
            have HL := Lib.hid hlv
            clear hlv
            have HJ2 : Hid (j2 = Sort.scanDown (fun x => !ltOf cf x dk[a]!) dk i j) := Lib.hid ((scanDown_end (fun x => !ltOf cf x dk[a]!) dk i j2 (.inr (by show (!ltOf cf dk[j2]! dk[a]!) = false; rw [HL.out]; rfl))).symm.trans HC2.out)
            have hij3 : i < j2 := by
              refine Nat.lt_of_le_of_ne hlt fun e => ?_
              have h1 := HF.out (by omega)
              have h2 := HL.out
              rw [e, h2] at h1
              cases h1
            clear HC2
            go_wp2_with fail
            obtain ⟨I15, hI15⟩ : ∃ q, q = j2 := ⟨_, rfl⟩
            obtain ⟨J15, hJ15⟩ : ∃ q, q = a := ⟨_, rfl⟩
            have u15 : ((j2 : Int) : Int).toNat = I15 ∧ 0 ≤ ((j2 : Int) : Int) ∧ ((j2 : Int) : Int) < n ∧ IntKind.i64.wrap ((j2 : Int) : Int) = (j2 : Int) := ⟨by omega, by omega, by omega, by rw [IntKind.wrap_i64]; omega⟩
            have v15 : ((a : Int) : Int).toNat = J15 ∧ 0 ≤ ((a : Int) : Int) ∧ ((a : Int) : Int) < n ∧ IntKind.i64.wrap ((a : Int) : Int) = (a : Int) := ⟨by omega, by omega, by omega, by rw [IntKind.wrap_i64]; omega⟩
            obtain ⟨u15a, u15b, u15c, u15d⟩ := u15
            obtain ⟨v15a, v15b, v15c, v15d⟩ := v15

            obtain ⟨x15, hx15⟩ : ∃ q, q = dk[j2]! := ⟨_, rfl⟩
            obtain ⟨y15, hy15⟩ : ∃ q, q = dk[a]! := ⟨_, rfl⟩
            have c15 : ∀ m os, (grow (wr.drewN m) os).cell? ⟨b, I15, none⟩ = some (.string (str x15)) := fun m os => by rw [hI15, hx15]; exact E.out.cellG S4.out hsk.out (i := j2) (by omega) m os
            have d15 : ∀ m os, (grow (wr.drewN m) os).cell? ⟨b, J15, none⟩ = some (.string (str y15)) := fun m os => by rw [hJ15, hy15]; exact E.out.cellG S4.out hsk.out (i := a) (by omega) m os
            have a15 := E.out.tell S4.out hsk.out x15 y15
            have r15 : ltOf cf x15 y15 = true := by rw [hx15, hy15]; exact HL.out
            have s15 : decide (cf x15 y15 < 0) = true := r15
            have t15 : cf x15 y15 < 0 := by simpa using s15
            clear r15 hx15 hy15 hI15 hJ15
            go_wp2_with fail
            go_quiet_grown (first | (go_at_call 27; refine a15 _ _))
            have S5 := Lib.hid (S4.out.grown nq osq)
            clear c15 d15 a15 u15a v15a S4
            generalize grow (wr.drewN nq) osq = w5 at S5 ⊢
            clear nq osq
            clear hl1
            have hgt : ¬ (j2 : Int) < (i : Int) := by omega
            have HR2 := Lib.hid ((HR.out i j2 HI2.out HJ2.out).2 (by omega))
            obtain ⟨R2, hR2⟩ : ∃ R2, R2 = Sort.partLoop (ltOf cf) a (i + 1) (j2 - 1) (swp dk i j2) := ⟨_, rfl⟩
            rw [← hR2] at HR2
            have HX := Lib.hid hR2.symm
            clear hR2 HI2 HJ2 HF
            go_wp2_with fail
            obtain ⟨I1, hI1⟩ : ∃ q, q = i := ⟨_, rfl⟩
            obtain ⟨J1, hJ1⟩ : ∃ q, q = j2 := ⟨_, rfl⟩
            have u1 : ((i : Int) : Int).toNat = I1 ∧ 0 ≤ ((i : Int) : Int) ∧ ((i : Int) : Int) < n ∧ IntKind.i64.wrap ((i : Int) : Int) = (i : Int) := ⟨by omega, by omega, by omega, by rw [IntKind.wrap_i64]; omega⟩
            have v1 : ((j2 : Int) : Int).toNat = J1 ∧ 0 ≤ ((j2 : Int) : Int) ∧ ((j2 : Int) : Int) < n ∧ IntKind.i64.wrap ((j2 : Int) : Int) = (j2 : Int) := ⟨by omega, by omega, by omega, by rw [IntKind.wrap_i64]; omega⟩
            obtain ⟨u1a, u1b, u1c, u1d⟩ := u1
            obtain ⟨v1a, v1b, v1c, v1d⟩ := v1

            obtain ⟨x1, hx1⟩ : ∃ q, q = dk[i]! := ⟨_, rfl⟩
            obtain ⟨y1, hy1⟩ : ∃ q, q = dk[j2]! := ⟨_, rfl⟩
            have S6 : Hid (SW nam w0 b 0 (swp dk (i) (j2)) ((w5.setCell ⟨b, I1, none⟩ (.string (str y1))).setCell ⟨b, J1, none⟩ (.string (str x1))).drew) := Lib.hid (by rw [hI1, hJ1, hx1, hy1]; exact E.out.swap S5.out hsk.out (i := i) (j := j2) (by omega) (by omega))
            obtain ⟨c1, f1⟩ : w5.cell? ⟨b, I1, none⟩ = some (.string (str x1)) ∧ w5.frozen? ⟨b, I1, none⟩ = false := by rw [hI1, hx1]; exact E.out.cell S5.out hsk.out (i := i) (by omega)
            obtain ⟨d1, g1⟩ : w5.cell? ⟨b, J1, none⟩ = some (.string (str y1)) ∧ w5.frozen? ⟨b, J1, none⟩ = false := by rw [hJ1, hy1]; exact E.out.cell S5.out hsk.out (i := j2) (by omega)
            obtain ⟨o1, e1⟩ : ∃ u, (w5.setCell ⟨b, I1, none⟩ (.string (str y1))).cell? ⟨b, J1, none⟩ = some u := by rw [hI1, hJ1]; exact E.out.mid S5.out hsk.out (i := i) (j := j2) (by omega) (by omega) _
            clear hx1 hy1 hI1 hJ1 S5
            go_wp2_with fail
            go_big_region_o
            clear c1 d1 e1 f1 g1 u1a v1a
            generalize ((w5.setCell ⟨b, I1, none⟩ (.string (str y1))).setCell ⟨b, J1, none⟩ (.string (str x1))).drew = w6 at S6 ⊢
            obtain ⟨dq, hdq⟩ : ∃ dq, dq = swp dk i j2 := ⟨_, rfl⟩
            have hsq : Hid (dq.size = n) := Lib.hid (by rw [hdq]; exact (size_swp _ _ _).trans hsk.out)
            rw [← hdq] at S6 HX
            clear hdq hsk HL
            go_wp2_with fail
            go_loopw [12, 13] (fun vi vj wr => ∃ (i j : Nat) (jz : Int) (dk : Array Ky), vi = .int .i64 i ∧ vj = .int .i64 jz ∧ jz = (j : Int) ∧ a < i ∧ i ≤ j + 1 ∧ j < z ∧ Hid (dk.size = n) ∧ Hid (Sort.partLoop (ltOf cf) a i j dk = R2) ∧ Hid (SW nam w0 b 0 dk wr)) (fun _ vj _ => (intOf vj).toNat)
            case atStart => exact ⟨i + 1, j2 - 1, _, dq, by go_num, rfl, by omega, by omega, by omega, by omega, hsq, HX, S6⟩
            case round =>
              clear S6 HX hsq hgt hij2 hjj2 hij3 hl2 hlt hii
              obtain ⟨i0, j, jz, dk, rfl, rfl, rfl, hai, hij, hjz, hsk, HX, S1⟩ := hrel
              go_wp2_with fail
              go_loopw [12] (fun vi wr => ∃ (i2 : Nat), vi = .int .i64 i2 ∧ i0 ≤ i2 ∧ i2 ≤ j + 1 ∧ Hid (Sort.scanUp (fun x => ltOf cf x dk[a]!) dk j i2 = Sort.scanUp (fun x => ltOf cf x dk[a]!) dk j (i0)) ∧ Hid (SW nam w0 b 0 dk wr)) (fun vi _ => j + 1 - (intOf vi).toNat)
              case atStart => exact ⟨i0, by go_num, Nat.le_refl _, hij, Lib.hid rfl, S1⟩
              case round =>
                clear S1
                obtain ⟨i2, rfl, hii, hij', HC, S2⟩ := hrel
                by_cases hlt : i2 ≤ j
                · have hl1 : decide ((i2 : Int) ≤ (j : Int)) = true := decide_eq_true (by omega)
                  have hl2 : (i2 : Int) ≤ (j : Int) := by omega
                  cases hlv : ltOf cf dk[i2]! dk[a]! with
                  | true =>
                    have HL := Lib.hid hlv
                    clear hlv
                    go_wp2_with fail
                    obtain ⟨I4, hI4⟩ : ∃ q, q = i2 := ⟨_, rfl⟩
                    obtain ⟨J4, hJ4⟩ : ∃ q, q = a := ⟨_, rfl⟩
                    have u4 : ((i2 : Int) : Int).toNat = I4 ∧ 0 ≤ ((i2 : Int) : Int) ∧ ((i2 : Int) : Int) < n ∧ IntKind.i64.wrap ((i2 : Int) : Int) = (i2 : Int) := ⟨by omega, by omega, by omega, by rw [IntKind.wrap_i64]; omega⟩
                    have v4 : ((a : Int) : Int).toNat = J4 ∧ 0 ≤ ((a : Int) : Int) ∧ ((a : Int) : Int) < n ∧ IntKind.i64.wrap ((a : Int) : Int) = (a : Int) := ⟨by omega, by omega, by omega, by rw [IntKind.wrap_i64]; omega⟩
                    obtain ⟨u4a, u4b, u4c, u4d⟩ := u4
                    obtain ⟨v4a, v4b, v4c, v4d⟩ := v4

                    obtain ⟨x4, hx4⟩ : ∃ q, q = dk[i2]! := ⟨_, rfl⟩
                    obtain ⟨y4, hy4⟩ : ∃ q, q = dk[a]! := ⟨_, rfl⟩
                    have c4 : ∀ m os, (grow (wr.drewN m) os).cell? ⟨b, I4, none⟩ = some (.string (str x4)) := fun m os => by rw [hI4, hx4]; exact E.out.cellG S2.out hsk.out (i := i2) (by omega) m os
                    have d4 : ∀ m os, (grow (wr.drewN m) os).cell? ⟨b, J4, none⟩ = some (.string (str y4)) := fun m os => by rw [hJ4, hy4]; exact E.out.cellG S2.out hsk.out (i := a) (by omega) m os
                    have a4 := E.out.tell S2.out hsk.out x4 y4
                    have r4 : ltOf cf x4 y4 = true := by rw [hx4, hy4]; exact HL.out
                    have s4 : decide (cf x4 y4 < 0) = true := r4
                    have t4 : cf x4 y4 < 0 := by simpa using s4
                    clear r4 hx4 hy4 hI4 hJ4
                    go_wp2_with fail
                    go_quiet_grown (first | (go_at_call 27; refine a4 _ _))
                    have S3 := Lib.hid (S2.out.grown nq osq)
                    clear c4 d4 a4 u4a v4a S2
                    generalize grow (wr.drewN nq) osq = w3 at S3 ⊢
                    clear nq osq
                    clear hl1
                    go_wp2
                    go_roundw
                    case rel => exact ⟨i2 + 1, by go_num, by omega, by omega, Lib.hid ((scanUp_go (fun x => ltOf cf x dk[a]!) dk j i2 hlt HL.out).symm.trans HC.out), S3⟩
                    case measure => simp [intOf]; omega
                  | false =>
                    have HL := Lib.hid hlv
                    clear hlv
                    obtain ⟨i, hi⟩ : ∃ i, i = i2 := ⟨_, rfl⟩
                    have HI2 : Hid (i = Sort.scanUp (fun x => ltOf cf x dk[a]!) dk j (i0)) := Lib.hid (hi.trans ((scanUp_end (fun x => ltOf cf x dk[a]!) dk j i2 (.inr HL.out)).symm.trans HC.out))
                    have HF : Hid (i ≤ j → ltOf cf dk[i]! dk[a]! = false) := Lib.hid (fun _ => by rw [hi]; exact HL.out)
                    clear HC
                    go_wp2_with fail
                    obtain ⟨I5, hI5⟩ : ∃ q, q = i2 := ⟨_, rfl⟩
                    obtain ⟨J5, hJ5⟩ : ∃ q, q = a := ⟨_, rfl⟩
                    have u5 : ((i2 : Int) : Int).toNat = I5 ∧ 0 ≤ ((i2 : Int) : Int) ∧ ((i2 : Int) : Int) < n ∧ IntKind.i64.wrap ((i2 : Int) : Int) = (i2 : Int) := ⟨by omega, by omega, by omega, by rw [IntKind.wrap_i64]; omega⟩
                    have v5 : ((a : Int) : Int).toNat = J5 ∧ 0 ≤ ((a : Int) : Int) ∧ ((a : Int) : Int) < n ∧ IntKind.i64.wrap ((a : Int) : Int) = (a : Int) := ⟨by omega, by omega, by omega, by rw [IntKind.wrap_i64]; omega⟩
                    obtain ⟨u5a, u5b, u5c, u5d⟩ := u5
                    obtain ⟨v5a, v5b, v5c, v5d⟩ := v5

                    obtain ⟨x5, hx5⟩ : ∃ q, q = dk[i2]! := ⟨_, rfl⟩
                    obtain ⟨y5, hy5⟩ : ∃ q, q = dk[a]! := ⟨_, rfl⟩
                    have c5 : ∀ m os, (grow (wr.drewN m) os).cell? ⟨b, I5, none⟩ = some (.string (str x5)) := fun m os => by rw [hI5, hx5]; exact E.out.cellG S2.out hsk.out (i := i2) (by omega) m os
                    have d5 : ∀ m os, (grow (wr.drewN m) os).cell? ⟨b, J5, none⟩ = some (.string (str y5)) := fun m os => by rw [hJ5, hy5]; exact E.out.cellG S2.out hsk.out (i := a) (by omega) m os
                    have a5 := E.out.tell S2.out hsk.out x5 y5
                    have r5 : ltOf cf x5 y5 = false := by rw [hx5, hy5]; exact HL.out
                    have s5 : decide (cf x5 y5 < 0) = false := r5
                    have t5 : ¬ cf x5 y5 < 0 := by simpa using s5
                    clear r5 hx5 hy5 hI5 hJ5
                    go_wp2_with fail
                    go_quiet_grown (first | (go_at_call 27; refine a5 _ _))
                    have S3 := Lib.hid (S2.out.grown nq osq)
                    clear c5 d5 a5 u5a v5a S2
                    generalize grow (wr.drewN nq) osq = w3 at S3 ⊢
                    clear nq osq
                    clear hl1 hl2 hlt
                    subst hi
                    go_wp2_with fail
                    go_loopw [13] (fun vj wr => ∃ (jz : Int) (j2 : Nat), vj = .int .i64 jz ∧ jz = (j2 : Int) ∧ i ≤ j2 + 1 ∧ j2 ≤ j ∧ Hid (Sort.scanDown (fun x => !ltOf cf x dk[a]!) dk i j2 = Sort.scanDown (fun x => !ltOf cf x dk[a]!) dk i j) ∧ Hid (SW nam w0 b 0 dk wr)) (fun vj _ => (intOf vj).toNat)
                    case atStart => exact ⟨_, j, rfl, by omega, hij', Nat.le_refl _, Lib.hid rfl, S3⟩
                    case round =>
                      clear S3 hij'
                      obtain ⟨jz, j2, rfl, rfl, hij2, hjj2, HC2, S4⟩ := hrel
                      by_cases hlt : i ≤ j2
                      · have hl1 : decide ((i : Int) ≤ (j2 : Int)) = true := decide_eq_true (by omega)
                        have hl2 : (i : Int) ≤ (j2 : Int) := by omega
                        cases hlv : ltOf cf dk[j2]! dk[a]! with
                        | false =>
                          have HL := Lib.hid hlv
                          clear hlv
                          go_wp2_with fail
                          obtain ⟨I6, hI6⟩ : ∃ q, q = j2 := ⟨_, rfl⟩
                          obtain ⟨J6, hJ6⟩ : ∃ q, q = a := ⟨_, rfl⟩
                          have u6 : ((j2 : Int) : Int).toNat = I6 ∧ 0 ≤ ((j2 : Int) : Int) ∧ ((j2 : Int) : Int) < n ∧ IntKind.i64.wrap ((j2 : Int) : Int) = (j2 : Int) := ⟨by omega, by omega, by omega, by rw [IntKind.wrap_i64]; omega⟩
                          have v6 : ((a : Int) : Int).toNat = J6 ∧ 0 ≤ ((a : Int) : Int) ∧ ((a : Int) : Int) < n ∧ IntKind.i64.wrap ((a : Int) : Int) = (a : Int) := ⟨by omega, by omega, by omega, by rw [IntKind.wrap_i64]; omega⟩
                          obtain ⟨u6a, u6b, u6c, u6d⟩ := u6
                          obtain ⟨v6a, v6b, v6c, v6d⟩ := v6

                          obtain ⟨x6, hx6⟩ : ∃ q, q = dk[j2]! := ⟨_, rfl⟩
                          obtain ⟨y6, hy6⟩ : ∃ q, q = dk[a]! := ⟨_, rfl⟩
                          have c6 : ∀ m os, (grow (wr.drewN m) os).cell? ⟨b, I6, none⟩ = some (.string (str x6)) := fun m os => by rw [hI6, hx6]; exact E.out.cellG S4.out hsk.out (i := j2) (by omega) m os
                          have d6 : ∀ m os, (grow (wr.drewN m) os).cell? ⟨b, J6, none⟩ = some (.string (str y6)) := fun m os => by rw [hJ6, hy6]; exact E.out.cellG S4.out hsk.out (i := a) (by omega) m os
                          have a6 := E.out.tell S4.out hsk.out x6 y6
                          have r6 : ltOf cf x6 y6 = false := by rw [hx6, hy6]; exact HL.out
                          have s6 : decide (cf x6 y6 < 0) = false := r6
                          have t6 : ¬ cf x6 y6 < 0 := by simpa using s6
                          clear r6 hx6 hy6 hI6 hJ6
                          go_wp2_with fail
                          go_quiet_grown (first | (go_at_call 27; refine a6 _ _))
                          have S5 := Lib.hid (S4.out.grown nq osq)
                          clear c6 d6 a6 u6a v6a S4
                          generalize grow (wr.drewN nq) osq = w5 at S5 ⊢
                          clear nq osq
                          clear hl1
                          go_wp2
                          go_roundw
                          case rel => exact ⟨_, j2 - 1, rfl, by omega, by omega, by omega, Lib.hid ((scanDown_go (fun x => !ltOf cf x dk[a]!) dk i j2 hlt (by omega) (by show (!ltOf cf dk[j2]! dk[a]!) = true; rw [HL.out]; rfl)).symm.trans HC2.out), S5⟩
                          case measure => simp [intOf]; omega
                        | true =>
                          have HL := Lib.hid hlv
                          clear hlv
                          have HJ2 : Hid (j2 = Sort.scanDown (fun x => !ltOf cf x dk[a]!) dk i j) := Lib.hid ((scanDown_end (fun x => !ltOf cf x dk[a]!) dk i j2 (.inr (by show (!ltOf cf dk[j2]! dk[a]!) = false; rw [HL.out]; rfl))).symm.trans HC2.out)
                          have hij3 : i < j2 := by
                            refine Nat.lt_of_le_of_ne hlt fun e => ?_
                            have h1 := HF.out (by omega)
                            have h2 := HL.out
                            rw [e, h2] at h1
                            cases h1
                          clear HC2
                          go_wp2_with fail
                          obtain ⟨I7, hI7⟩ : ∃ q, q = j2 := ⟨_, rfl⟩
                          obtain ⟨J7, hJ7⟩ : ∃ q, q = a := ⟨_, rfl⟩
                          have u7 : ((j2 : Int) : Int).toNat = I7 ∧ 0 ≤ ((j2 : Int) : Int) ∧ ((j2 : Int) : Int) < n ∧ IntKind.i64.wrap ((j2 : Int) : Int) = (j2 : Int) := ⟨by omega, by omega, by omega, by rw [IntKind.wrap_i64]; omega⟩
                          have v7 : ((a : Int) : Int).toNat = J7 ∧ 0 ≤ ((a : Int) : Int) ∧ ((a : Int) : Int) < n ∧ IntKind.i64.wrap ((a : Int) : Int) = (a : Int) := ⟨by omega, by omega, by omega, by rw [IntKind.wrap_i64]; omega⟩
                          obtain ⟨u7a, u7b, u7c, u7d⟩ := u7
                          obtain ⟨v7a, v7b, v7c, v7d⟩ := v7

                          obtain ⟨x7, hx7⟩ : ∃ q, q = dk[j2]! := ⟨_, rfl⟩
                          obtain ⟨y7, hy7⟩ : ∃ q, q = dk[a]! := ⟨_, rfl⟩
                          have c7 : ∀ m os, (grow (wr.drewN m) os).cell? ⟨b, I7, none⟩ = some (.string (str x7)) := fun m os => by rw [hI7, hx7]; exact E.out.cellG S4.out hsk.out (i := j2) (by omega) m os
                          have d7 : ∀ m os, (grow (wr.drewN m) os).cell? ⟨b, J7, none⟩ = some (.string (str y7)) := fun m os => by rw [hJ7, hy7]; exact E.out.cellG S4.out hsk.out (i := a) (by omega) m os
                          have a7 := E.out.tell S4.out hsk.out x7 y7
                          have r7 : ltOf cf x7 y7 = true := by rw [hx7, hy7]; exact HL.out
                          have s7 : decide (cf x7 y7 < 0) = true := r7
                          have t7 : cf x7 y7 < 0 := by simpa using s7
                          clear r7 hx7 hy7 hI7 hJ7
                          go_wp2_with fail
                          go_quiet_grown (first | (go_at_call 27; refine a7 _ _))
                          have S5 := Lib.hid (S4.out.grown nq osq)
                          clear c7 d7 a7 u7a v7a S4
                          generalize grow (wr.drewN nq) osq = w5 at S5 ⊢
                          clear nq osq
                          clear hl1
                          have hgt : ¬ (j2 : Int) < (i : Int) := by omega
                          have HGO := Lib.hid ((ptn_go HI2.out HJ2.out (by omega)).symm.trans HX.out)
                          go_wp2_with fail
                          obtain ⟨I1, hI1⟩ : ∃ q, q = i := ⟨_, rfl⟩
                          obtain ⟨J1, hJ1⟩ : ∃ q, q = j2 := ⟨_, rfl⟩
                          have u1 : ((i : Int) : Int).toNat = I1 ∧ 0 ≤ ((i : Int) : Int) ∧ ((i : Int) : Int) < n ∧ IntKind.i64.wrap ((i : Int) : Int) = (i : Int) := ⟨by omega, by omega, by omega, by rw [IntKind.wrap_i64]; omega⟩
                          have v1 : ((j2 : Int) : Int).toNat = J1 ∧ 0 ≤ ((j2 : Int) : Int) ∧ ((j2 : Int) : Int) < n ∧ IntKind.i64.wrap ((j2 : Int) : Int) = (j2 : Int) := ⟨by omega, by omega, by omega, by rw [IntKind.wrap_i64]; omega⟩
                          obtain ⟨u1a, u1b, u1c, u1d⟩ := u1
                          obtain ⟨v1a, v1b, v1c, v1d⟩ := v1

                          obtain ⟨x1, hx1⟩ : ∃ q, q = dk[i]! := ⟨_, rfl⟩
                          obtain ⟨y1, hy1⟩ : ∃ q, q = dk[j2]! := ⟨_, rfl⟩
                          have S6 : Hid (SW nam w0 b 0 (swp dk (i) (j2)) ((w5.setCell ⟨b, I1, none⟩ (.string (str y1))).setCell ⟨b, J1, none⟩ (.string (str x1))).drew) := Lib.hid (by rw [hI1, hJ1, hx1, hy1]; exact E.out.swap S5.out hsk.out (i := i) (j := j2) (by omega) (by omega))
                          obtain ⟨c1, f1⟩ : w5.cell? ⟨b, I1, none⟩ = some (.string (str x1)) ∧ w5.frozen? ⟨b, I1, none⟩ = false := by rw [hI1, hx1]; exact E.out.cell S5.out hsk.out (i := i) (by omega)
                          obtain ⟨d1, g1⟩ : w5.cell? ⟨b, J1, none⟩ = some (.string (str y1)) ∧ w5.frozen? ⟨b, J1, none⟩ = false := by rw [hJ1, hy1]; exact E.out.cell S5.out hsk.out (i := j2) (by omega)
                          obtain ⟨o1, e1⟩ : ∃ u, (w5.setCell ⟨b, I1, none⟩ (.string (str y1))).cell? ⟨b, J1, none⟩ = some u := by rw [hI1, hJ1]; exact E.out.mid S5.out hsk.out (i := i) (j := j2) (by omega) (by omega) _
                          clear hx1 hy1 hI1 hJ1 S5
                          go_wp2_with fail
                          go_big_region_o
                          clear c1 d1 e1 f1 g1 u1a v1a
                          generalize ((w5.setCell ⟨b, I1, none⟩ (.string (str y1))).setCell ⟨b, J1, none⟩ (.string (str x1))).drew = w6 at S6 ⊢
                          go_wp2
                          go_roundw
                          case rel => exact ⟨i + 1, j2 - 1, _, swp dk i j2, by go_num, rfl, by omega, by omega, by omega, by omega, Lib.hid ((size_swp _ _ _).trans hsk.out), HGO, S6⟩
                          case measure => simp [intOf]; omega
                      · have hl1 : decide ((i : Int) ≤ (j2 : Int)) = false := decide_eq_false (by omega)
                        have hl2 : ¬ (i : Int) ≤ (j2 : Int) := by omega
                        have hgt : (j2 : Int) < (i : Int) := by omega
                        have HJ2 : Hid (j2 = Sort.scanDown (fun x => !ltOf cf x dk[a]!) dk i j) := Lib.hid ((scanDown_end (fun x => !ltOf cf x dk[a]!) dk i j2 (.inl hlt)).symm.trans HC2.out)
                        clear HC2
                        go_wp2_with fail
                        go_big_region_o
                        have S5 := Lib.hid (S4.out.drew)
                        clear S4
                        generalize wr.drew = w5 at S5 ⊢
                        have HB := Lib.hid ((ptn_break HI2.out HJ2.out (by omega)).symm.trans HX.out)
                        go_wp2_with fail
                        obtain ⟨I2, hI2⟩ : ∃ q, q = j2 := ⟨_, rfl⟩
                        obtain ⟨J2, hJ2⟩ : ∃ q, q = a := ⟨_, rfl⟩
                        have u2 : ((j2 : Int) : Int).toNat = I2 ∧ 0 ≤ ((j2 : Int) : Int) ∧ ((j2 : Int) : Int) < n ∧ IntKind.i64.wrap ((j2 : Int) : Int) = (j2 : Int) := ⟨by omega, by omega, by omega, by rw [IntKind.wrap_i64]; omega⟩
                        have v2 : ((a : Int) : Int).toNat = J2 ∧ 0 ≤ ((a : Int) : Int) ∧ ((a : Int) : Int) < n ∧ IntKind.i64.wrap ((a : Int) : Int) = (a : Int) := ⟨by omega, by omega, by omega, by rw [IntKind.wrap_i64]; omega⟩
                        obtain ⟨u2a, u2b, u2c, u2d⟩ := u2
                        obtain ⟨v2a, v2b, v2c, v2d⟩ := v2

                        obtain ⟨x2, hx2⟩ : ∃ q, q = dk[j2]! := ⟨_, rfl⟩
                        obtain ⟨y2, hy2⟩ : ∃ q, q = dk[a]! := ⟨_, rfl⟩
                        have S6 : Hid (SW nam w0 b 0 (swp dk (j2) (a)) ((w5.setCell ⟨b, I2, none⟩ (.string (str y2))).setCell ⟨b, J2, none⟩ (.string (str x2))).drew) := Lib.hid (by rw [hI2, hJ2, hx2, hy2]; exact E.out.swap S5.out hsk.out (i := j2) (j := a) (by omega) (by omega))
                        obtain ⟨c2, f2⟩ : w5.cell? ⟨b, I2, none⟩ = some (.string (str x2)) ∧ w5.frozen? ⟨b, I2, none⟩ = false := by rw [hI2, hx2]; exact E.out.cell S5.out hsk.out (i := j2) (by omega)
                        obtain ⟨d2, g2⟩ : w5.cell? ⟨b, J2, none⟩ = some (.string (str y2)) ∧ w5.frozen? ⟨b, J2, none⟩ = false := by rw [hJ2, hy2]; exact E.out.cell S5.out hsk.out (i := a) (by omega)
                        obtain ⟨o2, e2⟩ : ∃ u, (w5.setCell ⟨b, I2, none⟩ (.string (str y2))).cell? ⟨b, J2, none⟩ = some u := by rw [hI2, hJ2]; exact E.out.mid S5.out hsk.out (i := j2) (j := a) (by omega) (by omega) _
                        clear hx2 hy2 hI2 hJ2 S5
                        go_wp2_with fail
                        go_big_region_o
                        clear c2 d2 e2 f2 g2 u2a v2a
                        generalize ((w5.setCell ⟨b, I2, none⟩ (.string (str y2))).setCell ⟨b, J2, none⟩ (.string (str x2))).drew = w6 at S6 ⊢
                        go_wp2
                        go_ret2
                        rw [HR2.out, ← HB.out]
                        exact ⟨rfl, S6.out⟩
                · have hl1 : decide ((i2 : Int) ≤ (j : Int)) = false := decide_eq_false (by omega)
                  have hl2 : ¬ (i2 : Int) ≤ (j : Int) := by omega
                  obtain ⟨i, hi⟩ : ∃ i, i = i2 := ⟨_, rfl⟩
                  have HI2 : Hid (i = Sort.scanUp (fun x => ltOf cf x dk[a]!) dk j (i0)) := Lib.hid (hi.trans ((scanUp_end (fun x => ltOf cf x dk[a]!) dk j i2 (.inl hlt)).symm.trans HC.out))
                  have HF : Hid (i ≤ j → ltOf cf dk[i]! dk[a]! = false) := Lib.hid (fun h => absurd (hi ▸ h) hlt)
                  clear HC
                  go_wp2_with fail
                  go_big_region_o
                  have S3 := Lib.hid (S2.out.drew)
                  clear S2
                  generalize wr.drew = w3 at S3 ⊢
                  clear hl1 hl2 hlt
                  subst hi
                  go_wp2_with fail
                  go_loopw [13] (fun vj wr => ∃ (jz : Int) (j2 : Nat), vj = .int .i64 jz ∧ jz = (j2 : Int) ∧ i ≤ j2 + 1 ∧ j2 ≤ j ∧ Hid (Sort.scanDown (fun x => !ltOf cf x dk[a]!) dk i j2 = Sort.scanDown (fun x => !ltOf cf x dk[a]!) dk i j) ∧ Hid (SW nam w0 b 0 dk wr)) (fun vj _ => (intOf vj).toNat)
                  case atStart => exact ⟨_, j, rfl, by omega, hij', Nat.le_refl _, Lib.hid rfl, S3⟩
                  case round =>
                    clear S3 hij'
                    obtain ⟨jz, j2, rfl, rfl, hij2, hjj2, HC2, S4⟩ := hrel
                    by_cases hlt : i ≤ j2
                    · have hl1 : decide ((i : Int) ≤ (j2 : Int)) = true := decide_eq_true (by omega)
                      have hl2 : (i : Int) ≤ (j2 : Int) := by omega
                      cases hlv : ltOf cf dk[j2]! dk[a]! with
                      | false =>
                        have HL := Lib.hid hlv
                        clear hlv
                        go_wp2_with fail
                        obtain ⟨I8, hI8⟩ : ∃ q, q = j2 := ⟨_, rfl⟩
                        obtain ⟨J8, hJ8⟩ : ∃ q, q = a := ⟨_, rfl⟩
                        have u8 : ((j2 : Int) : Int).toNat = I8 ∧ 0 ≤ ((j2 : Int) : Int) ∧ ((j2 : Int) : Int) < n ∧ IntKind.i64.wrap ((j2 : Int) : Int) = (j2 : Int) := ⟨by omega, by omega, by omega, by rw [IntKind.wrap_i64]; omega⟩
                        have v8 : ((a : Int) : Int).toNat = J8 ∧ 0 ≤ ((a : Int) : Int) ∧ ((a : Int) : Int) < n ∧ IntKind.i64.wrap ((a : Int) : Int) = (a : Int) := ⟨by omega, by omega, by omega, by rw [IntKind.wrap_i64]; omega⟩
                        obtain ⟨u8a, u8b, u8c, u8d⟩ := u8
                        obtain ⟨v8a, v8b, v8c, v8d⟩ := v8

                        obtain ⟨x8, hx8⟩ : ∃ q, q = dk[j2]! := ⟨_, rfl⟩
                        obtain ⟨y8, hy8⟩ : ∃ q, q = dk[a]! := ⟨_, rfl⟩
                        have c8 : ∀ m os, (grow (wr.drewN m) os).cell? ⟨b, I8, none⟩ = some (.string (str x8)) := fun m os => by rw [hI8, hx8]; exact E.out.cellG S4.out hsk.out (i := j2) (by omega) m os
                        have d8 : ∀ m os, (grow (wr.drewN m) os).cell? ⟨b, J8, none⟩ = some (.string (str y8)) := fun m os => by rw [hJ8, hy8]; exact E.out.cellG S4.out hsk.out (i := a) (by omega) m os
                        have a8 := E.out.tell S4.out hsk.out x8 y8
                        have r8 : ltOf cf x8 y8 = false := by rw [hx8, hy8]; exact HL.out
                        have s8 : decide (cf x8 y8 < 0) = false := r8
                        have t8 : ¬ cf x8 y8 < 0 := by simpa using s8
                        clear r8 hx8 hy8 hI8 hJ8
                        go_wp2_with fail
                        go_quiet_grown (first | (go_at_call 27; refine a8 _ _))
                        have S5 := Lib.hid (S4.out.grown nq osq)
                        clear c8 d8 a8 u8a v8a S4
                        generalize grow (wr.drewN nq) osq = w5 at S5 ⊢
                        clear nq osq
                        clear hl1
                        go_wp2
                        go_roundw
                        case rel => exact ⟨_, j2 - 1, rfl, by omega, by omega, by omega, Lib.hid ((scanDown_go (fun x => !ltOf cf x dk[a]!) dk i j2 hlt (by omega) (by show (!ltOf cf dk[j2]! dk[a]!) = true; rw [HL.out]; rfl)).symm.trans HC2.out), S5⟩
                        case measure => simp [intOf]; omega
                      | true =>
                        have HL := Lib.hid hlv
                        clear hlv
                        have HJ2 : Hid (j2 = Sort.scanDown (fun x => !ltOf cf x dk[a]!) dk i j) := Lib.hid ((scanDown_end (fun x => !ltOf cf x dk[a]!) dk i j2 (.inr (by show (!ltOf cf dk[j2]! dk[a]!) = false; rw [HL.out]; rfl))).symm.trans HC2.out)
                        have hij3 : i < j2 := by
                          refine Nat.lt_of_le_of_ne hlt fun e => ?_
                          have h1 := HF.out (by omega)
                          have h2 := HL.out
                          rw [e, h2] at h1
                          cases h1
                        clear HC2
                        go_wp2_with fail
                        obtain ⟨I9, hI9⟩ : ∃ q, q = j2 := ⟨_, rfl⟩
                        obtain ⟨J9, hJ9⟩ : ∃ q, q = a := ⟨_, rfl⟩
                        have u9 : ((j2 : Int) : Int).toNat = I9 ∧ 0 ≤ ((j2 : Int) : Int) ∧ ((j2 : Int) : Int) < n ∧ IntKind.i64.wrap ((j2 : Int) : Int) = (j2 : Int) := ⟨by omega, by omega, by omega, by rw [IntKind.wrap_i64]; omega⟩
                        have v9 : ((a : Int) : Int).toNat = J9 ∧ 0 ≤ ((a : Int) : Int) ∧ ((a : Int) : Int) < n ∧ IntKind.i64.wrap ((a : Int) : Int) = (a : Int) := ⟨by omega, by omega, by omega, by rw [IntKind.wrap_i64]; omega⟩
                        obtain ⟨u9a, u9b, u9c, u9d⟩ := u9
                        obtain ⟨v9a, v9b, v9c, v9d⟩ := v9

                        obtain ⟨x9, hx9⟩ : ∃ q, q = dk[j2]! := ⟨_, rfl⟩
                        obtain ⟨y9, hy9⟩ : ∃ q, q = dk[a]! := ⟨_, rfl⟩
                        have c9 : ∀ m os, (grow (wr.drewN m) os).cell? ⟨b, I9, none⟩ = some (.string (str x9)) := fun m os => by rw [hI9, hx9]; exact E.out.cellG S4.out hsk.out (i := j2) (by omega) m os
                        have d9 : ∀ m os, (grow (wr.drewN m) os).cell? ⟨b, J9, none⟩ = some (.string (str y9)) := fun m os => by rw [hJ9, hy9]; exact E.out.cellG S4.out hsk.out (i := a) (by omega) m os
                        have a9 := E.out.tell S4.out hsk.out x9 y9
                        have r9 : ltOf cf x9 y9 = true := by rw [hx9, hy9]; exact HL.out
                        have s9 : decide (cf x9 y9 < 0) = true := r9
                        have t9 : cf x9 y9 < 0 := by simpa using s9
                        clear r9 hx9 hy9 hI9 hJ9
                        go_wp2_with fail
                        go_quiet_grown (first | (go_at_call 27; refine a9 _ _))
                        have S5 := Lib.hid (S4.out.grown nq osq)
                        clear c9 d9 a9 u9a v9a S4
                        generalize grow (wr.drewN nq) osq = w5 at S5 ⊢
                        clear nq osq
                        clear hl1
                        have hgt : ¬ (j2 : Int) < (i : Int) := by omega
                        have HGO := Lib.hid ((ptn_go HI2.out HJ2.out (by omega)).symm.trans HX.out)
                        go_wp2_with fail
                        obtain ⟨I1, hI1⟩ : ∃ q, q = i := ⟨_, rfl⟩
                        obtain ⟨J1, hJ1⟩ : ∃ q, q = j2 := ⟨_, rfl⟩
                        have u1 : ((i : Int) : Int).toNat = I1 ∧ 0 ≤ ((i : Int) : Int) ∧ ((i : Int) : Int) < n ∧ IntKind.i64.wrap ((i : Int) : Int) = (i : Int) := ⟨by omega, by omega, by omega, by rw [IntKind.wrap_i64]; omega⟩
                        have v1 : ((j2 : Int) : Int).toNat = J1 ∧ 0 ≤ ((j2 : Int) : Int) ∧ ((j2 : Int) : Int) < n ∧ IntKind.i64.wrap ((j2 : Int) : Int) = (j2 : Int) := ⟨by omega, by omega, by omega, by rw [IntKind.wrap_i64]; omega⟩
                        obtain ⟨u1a, u1b, u1c, u1d⟩ := u1
                        obtain ⟨v1a, v1b, v1c, v1d⟩ := v1

                        obtain ⟨x1, hx1⟩ : ∃ q, q = dk[i]! := ⟨_, rfl⟩
                        obtain ⟨y1, hy1⟩ : ∃ q, q = dk[j2]! := ⟨_, rfl⟩
                        have S6 : Hid (SW nam w0 b 0 (swp dk (i) (j2)) ((w5.setCell ⟨b, I1, none⟩ (.string (str y1))).setCell ⟨b, J1, none⟩ (.string (str x1))).drew) := Lib.hid (by rw [hI1, hJ1, hx1, hy1]; exact E.out.swap S5.out hsk.out (i := i) (j := j2) (by omega) (by omega))
                        obtain ⟨c1, f1⟩ : w5.cell? ⟨b, I1, none⟩ = some (.string (str x1)) ∧ w5.frozen? ⟨b, I1, none⟩ = false := by rw [hI1, hx1]; exact E.out.cell S5.out hsk.out (i := i) (by omega)
                        obtain ⟨d1, g1⟩ : w5.cell? ⟨b, J1, none⟩ = some (.string (str y1)) ∧ w5.frozen? ⟨b, J1, none⟩ = false := by rw [hJ1, hy1]; exact E.out.cell S5.out hsk.out (i := j2) (by omega)
                        obtain ⟨o1, e1⟩ : ∃ u, (w5.setCell ⟨b, I1, none⟩ (.string (str y1))).cell? ⟨b, J1, none⟩ = some u := by rw [hI1, hJ1]; exact E.out.mid S5.out hsk.out (i := i) (j := j2) (by omega) (by omega) _
                        clear hx1 hy1 hI1 hJ1 S5
                        go_wp2_with fail
                        go_big_region_o
                        clear c1 d1 e1 f1 g1 u1a v1a
                        generalize ((w5.setCell ⟨b, I1, none⟩ (.string (str y1))).setCell ⟨b, J1, none⟩ (.string (str x1))).drew = w6 at S6 ⊢
                        go_wp2
                        go_roundw
                        case rel => exact ⟨i + 1, j2 - 1, _, swp dk i j2, by go_num, rfl, by omega, by omega, by omega, by omega, Lib.hid ((size_swp _ _ _).trans hsk.out), HGO, S6⟩
                        case measure => simp [intOf]; omega
                    · have hl1 : decide ((i : Int) ≤ (j2 : Int)) = false := decide_eq_false (by omega)
                      have hl2 : ¬ (i : Int) ≤ (j2 : Int) := by omega
                      have hgt : (j2 : Int) < (i : Int) := by omega
                      have HJ2 : Hid (j2 = Sort.scanDown (fun x => !ltOf cf x dk[a]!) dk i j) := Lib.hid ((scanDown_end (fun x => !ltOf cf x dk[a]!) dk i j2 (.inl hlt)).symm.trans HC2.out)
                      clear HC2
                      go_wp2_with fail
                      go_big_region_o
                      have S5 := Lib.hid (S4.out.drew)
                      clear S4
                      generalize wr.drew = w5 at S5 ⊢
                      have HB := Lib.hid ((ptn_break HI2.out HJ2.out (by omega)).symm.trans HX.out)
                      go_wp2_with fail
                      obtain ⟨I2, hI2⟩ : ∃ q, q = j2 := ⟨_, rfl⟩
                      obtain ⟨J2, hJ2⟩ : ∃ q, q = a := ⟨_, rfl⟩
                      have u2 : ((j2 : Int) : Int).toNat = I2 ∧ 0 ≤ ((j2 : Int) : Int) ∧ ((j2 : Int) : Int) < n ∧ IntKind.i64.wrap ((j2 : Int) : Int) = (j2 : Int) := ⟨by omega, by omega, by omega, by rw [IntKind.wrap_i64]; omega⟩
                      have v2 : ((a : Int) : Int).toNat = J2 ∧ 0 ≤ ((a : Int) : Int) ∧ ((a : Int) : Int) < n ∧ IntKind.i64.wrap ((a : Int) : Int) = (a : Int) := ⟨by omega, by omega, by omega, by rw [IntKind.wrap_i64]; omega⟩
                      obtain ⟨u2a, u2b, u2c, u2d⟩ := u2
                      obtain ⟨v2a, v2b, v2c, v2d⟩ := v2

                      obtain ⟨x2, hx2⟩ : ∃ q, q = dk[j2]! := ⟨_, rfl⟩
                      obtain ⟨y2, hy2⟩ : ∃ q, q = dk[a]! := ⟨_, rfl⟩
                      have S6 : Hid (SW nam w0 b 0 (swp dk (j2) (a)) ((w5.setCell ⟨b, I2, none⟩ (.string (str y2))).setCell ⟨b, J2, none⟩ (.string (str x2))).drew) := Lib.hid (by rw [hI2, hJ2, hx2, hy2]; exact E.out.swap S5.out hsk.out (i := j2) (j := a) (by omega) (by omega))
                      obtain ⟨c2, f2⟩ : w5.cell? ⟨b, I2, none⟩ = some (.string (str x2)) ∧ w5.frozen? ⟨b, I2, none⟩ = false := by rw [hI2, hx2]; exact E.out.cell S5.out hsk.out (i := j2) (by omega)
                      obtain ⟨d2, g2⟩ : w5.cell? ⟨b, J2, none⟩ = some (.string (str y2)) ∧ w5.frozen? ⟨b, J2, none⟩ = false := by rw [hJ2, hy2]; exact E.out.cell S5.out hsk.out (i := a) (by omega)
                      obtain ⟨o2, e2⟩ : ∃ u, (w5.setCell ⟨b, I2, none⟩ (.string (str y2))).cell? ⟨b, J2, none⟩ = some u := by rw [hI2, hJ2]; exact E.out.mid S5.out hsk.out (i := j2) (j := a) (by omega) (by omega) _
                      clear hx2 hy2 hI2 hJ2 S5
                      go_wp2_with fail
                      go_big_region_o
                      clear c2 d2 e2 f2 g2 u2a v2a
                      generalize ((w5.setCell ⟨b, I2, none⟩ (.string (str y2))).setCell ⟨b, J2, none⟩ (.string (str x2))).drew = w6 at S6 ⊢
                      go_wp2
                      go_ret2
                      rw [HR2.out, ← HB.out]
                      exact ⟨rfl, S6.out⟩
        · have hl1 : decide ((i : Int) ≤ (j2 : Int)) = false := decide_eq_false (by omega)
          have hl2 : ¬ (i : Int) ≤ (j2 : Int) := by omega
          have hgt : (j2 : Int) < (i : Int) := by omega
          have HJ2 : Hid (j2 = Sort.scanDown (fun x => !ltOf cf x dk[a]!) dk i j) := Lib.hid ((scanDown_end (fun x => !ltOf cf x dk[a]!) dk i j2 (.inl hlt)).symm.trans HC2.out)
          clear HC2
          go_wp2_with fail
          go_big_region_o
          have S5 := Lib.hid (S4.out.drew)
          clear S4
          generalize wr.drew = w5 at S5 ⊢
          have HR2 := Lib.hid ((HR.out i j2 HI2.out HJ2.out).1 (by omega))
          go_wp2_with fail
          obtain ⟨I2, hI2⟩ : ∃ q, q = j2 := ⟨_, rfl⟩
          obtain ⟨J2, hJ2⟩ : ∃ q, q = a := ⟨_, rfl⟩
          have u2 : ((j2 : Int) : Int).toNat = I2 ∧ 0 ≤ ((j2 : Int) : Int) ∧ ((j2 : Int) : Int) < n ∧ IntKind.i64.wrap ((j2 : Int) : Int) = (j2 : Int) := ⟨by omega, by omega, by omega, by rw [IntKind.wrap_i64]; omega⟩
          have v2 : ((a : Int) : Int).toNat = J2 ∧ 0 ≤ ((a : Int) : Int) ∧ ((a : Int) : Int) < n ∧ IntKind.i64.wrap ((a : Int) : Int) = (a : Int) := ⟨by omega, by omega, by omega, by rw [IntKind.wrap_i64]; omega⟩
          obtain ⟨u2a, u2b, u2c, u2d⟩ := u2
          obtain ⟨v2a, v2b, v2c, v2d⟩ := v2

          obtain ⟨x2, hx2⟩ : ∃ q, q = dk[j2]! := ⟨_, rfl⟩
          obtain ⟨y2, hy2⟩ : ∃ q, q = dk[a]! := ⟨_, rfl⟩
          have S6 : Hid (SW nam w0 b 0 (swp dk (j2) (a)) ((w5.setCell ⟨b, I2, none⟩ (.string (str y2))).setCell ⟨b, J2, none⟩ (.string (str x2))).drew) := Lib.hid (by rw [hI2, hJ2, hx2, hy2]; exact E.out.swap S5.out hsk.out (i := j2) (j := a) (by omega) (by omega))
          obtain ⟨c2, f2⟩ : w5.cell? ⟨b, I2, none⟩ = some (.string (str x2)) ∧ w5.frozen? ⟨b, I2, none⟩ = false := by rw [hI2, hx2]; exact E.out.cell S5.out hsk.out (i := j2) (by omega)
          obtain ⟨d2, g2⟩ : w5.cell? ⟨b, J2, none⟩ = some (.string (str y2)) ∧ w5.frozen? ⟨b, J2, none⟩ = false := by rw [hJ2, hy2]; exact E.out.cell S5.out hsk.out (i := a) (by omega)
          obtain ⟨o2, e2⟩ : ∃ u, (w5.setCell ⟨b, I2, none⟩ (.string (str y2))).cell? ⟨b, J2, none⟩ = some u := by rw [hI2, hJ2]; exact E.out.mid S5.out hsk.out (i := j2) (j := a) (by omega) (by omega) _
          clear hx2 hy2 hI2 hJ2 S5
          go_wp2_with fail
          go_big_region_o
          clear c2 d2 e2 f2 g2 u2a v2a
          generalize ((w5.setCell ⟨b, I2, none⟩ (.string (str y2))).setCell ⟨b, J2, none⟩ (.string (str x2))).drew = w6 at S6 ⊢
          go_wp2
          go_ret2
          rw [HR2.out]
          exact ⟨rfl, S6.out⟩

end Go.Proofs.Ytahccfljgmleiaa
