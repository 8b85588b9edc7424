/-
  The walk of slices.insertionSortCmpFunc at names, by the table's own comparison: what stands between two places is sorted. Conditions: as 'Env' tells.
-/
import Derived.Test.YtahccfljgmleiaaSrt0
namespace Go.Proofs.Ytahccfljgmleiaa
open Go.RowKit Go.Sort
set_option linter.unusedVariables false

/-- the row behind a sort of the places from a to z -/
def Sorts (cf : Ky → Ky → Int) (w0 : World) (b a z : Nat) (d : Array Ky) : Ending → World → Prop := fun e w' =>
  e = .returned (.tuple #[]) ∧ ∃ d', PermIn a z d d' ∧ SortedIn (ltOf cf) a z d' ∧ SW nam w0 b 0 d' w'

theorem sorted_one {lt : Ky → Ky → Bool} (a : Nat) (d : Array Ky) : SortedIn lt a (a + 1) d := fun i j h1 h2 h3 => by omega
theorem sorted_less {lt : Ky → Ky → Bool} {a z z' : Nat} {d : Array Ky} (h : SortedIn lt a z' d) (hz : z ≤ z') : SortedIn lt a z d := fun i j h1 h2 h3 => h i j h1 h2 (by omega)
theorem ins_start {lt : Ky → Ky → Bool} {a i : Nat} {d : Array Ky} (h : SortedIn lt a i d) : Ins lt a i i d :=
  ⟨fun p q hp hpq hq h1 h2 => h p q hp hpq (by omega), fun q h1 h2 => by omega⟩
theorem perm_swap {a z i j : Nat} {d dk : Array Ky} (h : PermIn a z d dk) (hz : z ≤ d.size) (h1 : a ≤ i) (h2 : i < z) (h3 : a ≤ j) (h4 : j < z) : PermIn a z d (swp dk i j) :=
  permIn_trans _ _ _ _ _ h (swp_permIn _ _ _ _ _ h1 h2 h3 h4 (by rw [h.1]; exact hz))

set_option maxHeartbeats 8000000 in
set_option maxRecDepth 100000 in
theorem insertion_any {p : Value} {cf : Ky → Ky → Int} {w0 : World} {b n : Nat} (E : Env p cf w0 b n) (cap a z : Nat) (d : Array Ky) (w : World) (hs : d.size = n) (S : SW nam w0 b 0 d w) (haz : a ≤ z) (hz : z ≤ n) :
    Calls Try.prog 40 #[.slice (some ⟨b, 0, none⟩) n cap, .int .i64 a, .int .i64 z, ofTab p] w (Sorts cf w0 b a z d) := by
  have mixed := follows
  have few := E.few
  have E := Lib.hid E
  have S0 := Lib.hid S
  have HS := Lib.hid hs
  clear S hs
  unfold ofTab
  go_enter Try.func40, Try.ntmps40
  go_wp2
  go_loopw [8] (fun vi wr => ∃ (i : Nat) (dk : Array Ky), vi = .int .i64 i ∧ a < i ∧ i ≤ z + 1 ∧ Hid (PermIn a z d dk) ∧ Hid (SortedIn (ltOf cf) a i dk) ∧ Hid (SW nam w0 b 0 dk wr)) (fun vi _ => z + 1 - (intOf vi).toNat)
  case atStart => exact ⟨a + 1, d, by go_num, by omega, by omega, Lib.hid (permIn_refl _ _ _), Lib.hid (sorted_one _ _), S0⟩
  case round =>
    clear S0
    obtain ⟨i, dk, rfl, hai, hiz, HP, HO, S1⟩ := hrel
    by_cases hlt : i < z
    · have hltz : (i : Int) < (z : Int) := by omega
      go_wp2
      go_loopw [9] (fun vj wr => ∃ (j : Nat) (dj : Array Ky), vj = .int .i64 j ∧ a ≤ j ∧ j ≤ i ∧ Hid (PermIn a z d dj) ∧ Hid (Ins (ltOf cf) a j i dj) ∧ Hid (SW nam w0 b 0 dj wr)) (fun vj _ => (intOf vj).toNat)
      case atStart => exact ⟨i, dk, rfl, by omega, Nat.le_refl _, HP, Lib.hid (ins_start HO.out), S1⟩
      case round =>
        clear S1 HP HO
        obtain ⟨j, dj, rfl, haj, hji, HP, HI, S1⟩ := hrel
        have hsj : Hid (dj.size = n) := Lib.hid (HP.out.1.trans HS.out)
        by_cases hja : a < j
        · obtain ⟨jp, rfl⟩ : ∃ q, j = q + 1 := ⟨j - 1, by omega⟩
          have hg : decide ((jp : Int) + 1 > (a : Int)) = true := decide_eq_true (by omega)
          have hg' : (a : Int) < (jp : Int) + 1 := by omega
          cases hlv : ltOf cf dj[jp + 1]! dj[jp]! with
          | true =>
            have HL := Lib.hid hlv
            clear hlv
            obtain ⟨I1, hI1⟩ : ∃ q, q = jp + 1 := ⟨_, rfl⟩
            obtain ⟨J1, hJ1⟩ : ∃ q, q = jp := ⟨_, rfl⟩
            have u1 : ((jp : Int) + 1 : Int).toNat = I1 ∧ 0 ≤ ((jp : Int) + 1 : Int) ∧ ((jp : Int) + 1 : Int) < n ∧ IntKind.i64.wrap ((jp : Int) + 1 : Int) = (jp : Int) + 1 := ⟨by omega, by omega, by omega, by rw [IntKind.wrap_i64]; omega⟩
            have v1 : ((jp : Int) : Int).toNat = J1 ∧ 0 ≤ ((jp : Int) : Int) ∧ ((jp : Int) : Int) < n ∧ IntKind.i64.wrap ((jp : Int) : Int) = (jp : Int) := ⟨by omega, by omega, by omega, by rw [IntKind.wrap_i64]; omega⟩
            obtain ⟨u1a, u1b, u1c, u1d⟩ := u1
            obtain ⟨v1a, v1b, v1c, v1d⟩ := v1

            obtain ⟨x1, hx1⟩ : ∃ x, x = dj[jp + 1]! := ⟨_, rfl⟩
            obtain ⟨y1, hy1⟩ : ∃ x, x = dj[jp]! := ⟨_, rfl⟩
            have c1 := fun m os => E.out.cellG S1.out hsj.out (i := jp + 1) (by omega) m os
            have d1 := fun m os => E.out.cellG S1.out hsj.out (i := jp) (by omega) m os
            rw [← hx1, ← hI1] at c1
            rw [← hy1, ← hJ1] at d1
            have a1 := E.out.tell S1.out hsj.out x1 y1
            have r1 : ltOf cf x1 y1 = true := by rw [hx1, hy1]; exact HL.out
            have s1 : decide (cf x1 y1 < 0) = true := r1
            have t1 : cf x1 y1 < 0 := by simpa using s1
            clear r1 hx1 hy1 hI1 hJ1
            go_wp2_with fail
            go_quiet_grown (first | (go_at_call 27; refine a1 _ _))
            have S2 := Lib.hid (S1.out.grown nq osq)
            clear c1 d1 a1 u1a v1a S1
            generalize grow (wr.drewN nq) osq = w2 at S2 ⊢
            clear nq osq
            go_wp2_with fail
            obtain ⟨I2, hI2⟩ : ∃ q, q = jp + 1 := ⟨_, rfl⟩
            obtain ⟨J2, hJ2⟩ : ∃ q, q = jp := ⟨_, rfl⟩
            have u2 : ((jp : Int) + 1 : Int).toNat = I2 ∧ 0 ≤ ((jp : Int) + 1 : Int) ∧ ((jp : Int) + 1 : Int) < n ∧ IntKind.i64.wrap ((jp : Int) + 1 : Int) = (jp : Int) + 1 := ⟨by omega, by omega, by omega, by rw [IntKind.wrap_i64]; omega⟩
            have v2 : ((jp : Int) : Int).toNat = J2 ∧ 0 ≤ ((jp : Int) : Int) ∧ ((jp : Int) : Int) < n ∧ IntKind.i64.wrap ((jp : Int) : Int) = (jp : Int) := ⟨by omega, by omega, by omega, by rw [IntKind.wrap_i64]; omega⟩
            obtain ⟨u2a, u2b, u2c, u2d⟩ := u2
            obtain ⟨v2a, v2b, v2c, v2d⟩ := v2

            obtain ⟨x2, hx2⟩ : ∃ x, x = dj[jp + 1]! := ⟨_, rfl⟩
            obtain ⟨y2, hy2⟩ : ∃ x, x = dj[jp]! := ⟨_, rfl⟩
            have S3 : Hid (SW nam w0 b 0 (swp dj (jp + 1) (jp)) ((w2.setCell ⟨b, I2, none⟩ (.string (str y2))).setCell ⟨b, J2, none⟩ (.string (str x2))).drew) := Lib.hid (by rw [hI2, hJ2, hx2, hy2]; exact E.out.swap S2.out hsj.out (i := jp + 1) (j := jp) (by omega) (by omega))
            obtain ⟨c2, f2⟩ := E.out.cell S2.out hsj.out (i := jp + 1) (by omega)
            obtain ⟨d2, g2⟩ := E.out.cell S2.out hsj.out (i := jp) (by omega)
            obtain ⟨o2, e2⟩ := E.out.mid S2.out hsj.out (i := jp + 1) (j := jp) (by omega) (by omega) (.string (str y2))
            rw [← hx2, ← hI2] at c2
            rw [← hy2, ← hJ2] at d2
            rw [← hI2] at f2
            rw [← hJ2] at g2
            rw [← hI2, ← hJ2] at e2
            clear hx2 hy2 hI2 hJ2 S2
            go_wp2_with fail
            go_big_region_o
            clear c2 d2 e2 f2 g2 u2a v2a
            generalize ((w2.setCell ⟨b, I2, none⟩ (.string (str y2))).setCell ⟨b, J2, none⟩ (.string (str x2))).drew = w3 at S3 ⊢
            go_wp2
            go_roundw
            case rel => exact ⟨jp, swp dj (jp + 1) jp, rfl, by omega, by omega, Lib.hid (perm_swap HP.out (by rw [HS.out]; exact hz) (by omega) (by omega) (by omega) (by omega)), Lib.hid (HI.out.step HL.out (by omega) (by rw [hsj.out]; omega)), S3⟩
            case measure => simp [intOf]
          | false =>
            have HL := Lib.hid hlv
            clear hlv
            obtain ⟨I3, hI3⟩ : ∃ q, q = jp + 1 := ⟨_, rfl⟩
            obtain ⟨J3, hJ3⟩ : ∃ q, q = jp := ⟨_, rfl⟩
            have u3 : ((jp : Int) + 1 : Int).toNat = I3 ∧ 0 ≤ ((jp : Int) + 1 : Int) ∧ ((jp : Int) + 1 : Int) < n ∧ IntKind.i64.wrap ((jp : Int) + 1 : Int) = (jp : Int) + 1 := ⟨by omega, by omega, by omega, by rw [IntKind.wrap_i64]; omega⟩
            have v3 : ((jp : Int) : Int).toNat = J3 ∧ 0 ≤ ((jp : Int) : Int) ∧ ((jp : Int) : Int) < n ∧ IntKind.i64.wrap ((jp : Int) : Int) = (jp : Int) := ⟨by omega, by omega, by omega, by rw [IntKind.wrap_i64]; omega⟩
            obtain ⟨u3a, u3b, u3c, u3d⟩ := u3
            obtain ⟨v3a, v3b, v3c, v3d⟩ := v3

            obtain ⟨x3, hx3⟩ : ∃ x, x = dj[jp + 1]! := ⟨_, rfl⟩
            obtain ⟨y3, hy3⟩ : ∃ x, x = dj[jp]! := ⟨_, rfl⟩
            have c3 := fun m os => E.out.cellG S1.out hsj.out (i := jp + 1) (by omega) m os
            have d3 := fun m os => E.out.cellG S1.out hsj.out (i := jp) (by omega) m os
            rw [← hx3, ← hI3] at c3
            rw [← hy3, ← hJ3] at d3
            have a3 := E.out.tell S1.out hsj.out x3 y3
            have r3 : ltOf cf x3 y3 = false := by rw [hx3, hy3]; exact HL.out
            have s3 : decide (cf x3 y3 < 0) = false := r3
            have t3 : ¬ cf x3 y3 < 0 := by simpa using s3
            clear r3 hx3 hy3 hI3 hJ3
            go_wp2_with fail
            go_quiet_grown (first | (go_at_call 27; refine a3 _ _))
            have S2 := Lib.hid (S1.out.grown nq osq)
            clear c3 d3 a3 u3a v3a S1
            generalize grow (wr.drewN nq) osq = w2 at S2 ⊢
            clear nq osq
            go_wp2
            go_roundw
            case rel => exact ⟨i + 1, dj, by go_num, by omega, by omega, HP, Lib.hid (HI.out.stop E.out.weak (.inr HL.out)), S2⟩
            case measure => simp [intOf]; omega
        · have hg : decide ((j : Int) > (a : Int)) = false := decide_eq_false (by omega)
          have hg' : ¬ (a : Int) < (j : Int) := by omega
          go_wp2_with fail
          go_big_region_o
          have S2 := Lib.hid (S1.out.drew)
          clear S1
          generalize wr.drew = w2 at S2 ⊢
          go_wp2
          go_roundw
          case rel => exact ⟨i + 1, dj, by go_num, by omega, by omega, HP, Lib.hid (HI.out.stop E.out.weak (.inl (by omega))), S2⟩
          case measure => simp [intOf]; omega
    · have hltz : ¬ (i : Int) < (z : Int) := by omega
      go_wp2
      go_end0
      exact ⟨rfl, dk, HP.out, sorted_less HO.out (by omega), S1.out⟩

end Go.Proofs.Ytahccfljgmleiaa
