/-
  The walk of slices.siftDownCmpFunc at names, by the table's own comparison. Conditions: as 'Env' tells.
-/
import Derived.Test.YtahccfljgmleiaaSrt1
namespace Go.Proofs.Ytahccfljgmleiaa
open Go.RowKit Go.Sort
set_option linter.unusedVariables false

/-- one round of the sifting, by the child that is chosen -/
def pick (lt : Ky → Ky → Bool) (hi F c : Nat) (d : Array Ky) : Nat := if decide (c + 1 < hi) && lt d[F + c]! d[F + c + 1]! then c + 1 else c
theorem sift_end (lt : Ky → Ky → Bool) (hi F r : Nat) (d : Array Ky) (h : hi ≤ 2 * r + 1) : Sort.siftDown lt hi F r d = d := by rw [Sort.siftDown, dif_pos h]
theorem sift_eq (lt : Ky → Ky → Bool) (hi F r c : Nat) (d : Array Ky) (hc : c = 2 * r + 1) (h : c < hi) :
    Sort.siftDown lt hi F r d = if lt d[F + r]! d[F + pick lt hi F c d]! = true then Sort.siftDown lt hi F (pick lt hi F c d) (swp d (F + r) (F + pick lt hi F c d)) else d := by
  subst hc
  rw [Sort.siftDown, dif_neg (by omega)]
  unfold pick
  by_cases h1 : (decide (2 * r + 1 + 1 < hi) && lt d[F + (2 * r + 1)]! d[F + (2 * r + 1) + 1]!) = true
  · rw [if_pos h1, if_pos h1]
    have h2 : 2 * r + 1 + 1 < hi := by rw [Bool.and_eq_true] at h1; exact of_decide_eq_true h1.1
    cases hl : lt d[F + r]! d[F + (2 * r + 2)]! with
    | true => rw [if_neg (by simp), if_pos rfl, dif_pos (show 2 * r + 2 < hi from h2)]
    | false => rw [if_pos (by simp), if_neg (by simp)]
  · rw [if_neg h1, if_neg h1]
    cases hl : lt d[F + r]! d[F + (2 * r + 1)]! with
    | true => rw [if_neg (by simp), if_pos rfl]
    | false => rw [if_pos (by simp), if_neg (by simp)]

set_option maxHeartbeats 8000000 in
set_option maxRecDepth 100000 in
theorem sift_any {p : Value} {cf : Ky → Ky → Int} {w0 : World} {b n : Nat} (E : Env p cf w0 b n) (cap lo hi F : Nat) (d : Array Ky) (w : World) (hs : d.size = n) (S : SW nam w0 b 0 d w) (hlo : lo ≤ n) (hF : F + hi ≤ n) :
    Calls Try.prog 50 #[.slice (some ⟨b, 0, none⟩) n cap, .int .i64 lo, .int .i64 hi, .int .i64 F, ofTab p] w fun e w' => e = .returned (.tuple #[]) ∧ SW nam w0 b 0 (Sort.siftDown (ltOf cf) hi F lo d) w' := by
  have mixed := follows
  have few := E.few
  have E := Lib.hid E
  have S0 := Lib.hid S
  have HS := Lib.hid hs
  clear S hs
  unfold ofTab
  go_enter Try.func50, Try.ntmps50
  go_wp2
  go_loopw [10] (fun vr wr => ∃ (r : Nat) (dk : Array Ky), vr = .int .i64 r ∧ r ≤ n ∧ Hid (dk.size = n) ∧ Hid (Sort.siftDown (ltOf cf) hi F r dk = Sort.siftDown (ltOf cf) hi F lo d) ∧ Hid (SW nam w0 b 0 dk wr)) (fun vr _ => hi - (intOf vr).toNat)
  case atStart => exact ⟨lo, d, rfl, hlo, HS, Lib.hid rfl, S0⟩
  case round =>
    clear S0 HS
    obtain ⟨r, dk, rfl, hr, hsk, HX, S1⟩ := hrel
    by_cases hge : hi ≤ 2 * r + 1
    · have hgz : (hi : Int) ≤ 2 * (r : Int) + 1 := by omega
      have HY := Lib.hid (sift_end (ltOf cf) hi F r dk hge)
      go_wp2
      go_end0
      refine ⟨rfl, ?_⟩
      rw [← HX.out, HY.out]
      exact S1.out
    · obtain ⟨c, hc⟩ : ∃ c, c = 2 * r + 1 := ⟨_, rfl⟩
      have hgz : ¬ (hi : Int) ≤ 2 * (r : Int) + 1 := by omega
      have HC0 := Lib.hid (sift_eq (ltOf cf) hi F r c dk hc (by omega))
      have zc : 2 * (r : Int) + 1 = (c : Int) := by omega
      have hcr : r < c := by omega
      have hch : c < hi := by omega
      have ZC := Lib.hid zc
      clear zc hc
      go_wp2_with fail
      rw [ZC.out]
      have hw1 : IntKind.i64.wrap ((c : Int) + 1) = (c : Int) + 1 := by rw [IntKind.wrap_i64]; omega
      by_cases hg : c + 1 < hi
      · have hg1 : decide ((c : Int) + 1 < (hi : Int)) = true := decide_eq_true (by omega)
        have hg2 : (c : Int) + 1 < (hi : Int) := by omega
        cases hgv : ltOf cf dk[F + c]! dk[F + c + 1]! with
        | true =>
          have HG := Lib.hid hgv
          clear hgv
          obtain ⟨I1, hI1⟩ : ∃ q, q = F + c := ⟨_, rfl⟩
          obtain ⟨J1, hJ1⟩ : ∃ q, q = F + c + 1 := ⟨_, rfl⟩
          have u1 : ((F : Int) + (c : Int) : Int).toNat = I1 ∧ 0 ≤ ((F : Int) + (c : Int) : Int) ∧ ((F : Int) + (c : Int) : Int) < n ∧ IntKind.i64.wrap ((F : Int) + (c : Int) : Int) = (F : Int) + (c : Int) := ⟨by omega, by omega, by omega, by rw [IntKind.wrap_i64]; omega⟩
          have v1 : ((F : Int) + (c : Int) + 1 : Int).toNat = J1 ∧ 0 ≤ ((F : Int) + (c : Int) + 1 : Int) ∧ ((F : Int) + (c : Int) + 1 : Int) < n ∧ IntKind.i64.wrap ((F : Int) + (c : Int) + 1 : Int) = (F : Int) + (c : Int) + 1 := ⟨by omega, by omega, by omega, by rw [IntKind.wrap_i64]; omega⟩
          obtain ⟨u1a, u1b, u1c, u1d⟩ := u1
          obtain ⟨v1a, v1b, v1c, v1d⟩ := v1

          obtain ⟨x1, hx1⟩ : ∃ x, x = dk[F + c]! := ⟨_, rfl⟩
          obtain ⟨y1, hy1⟩ : ∃ x, x = dk[F + c + 1]! := ⟨_, rfl⟩
          have c1 := fun m os => E.out.cellG S1.out hsk.out (i := F + c) (by omega) m os
          have d1 := fun m os => E.out.cellG S1.out hsk.out (i := F + c + 1) (by omega) m os
          rw [← hx1, ← hI1] at c1
          rw [← hy1, ← hJ1] at d1
          have a1 := E.out.tell S1.out hsk.out x1 y1
          have r1 : ltOf cf x1 y1 = true := by rw [hx1, hy1]; exact HG.out
          have s1 : decide (cf x1 y1 < 0) = true := r1
          have t1 : cf x1 y1 < 0 := by simpa using s1
          clear r1 hx1 hy1 hI1 hJ1
          go_wp2_with fail
          go_quiet_grown (first | (go_at_call 27; refine a1 _ _))
          have S2 := Lib.hid (S1.out.grown nq osq)
          clear c1 d1 a1 u1a v1a S1
          generalize grow (wr.drewN nq) osq = w2 at S2 ⊢
          clear nq osq
          have hpk : pick (ltOf cf) hi F c dk = c + 1 := by unfold pick; rw [decide_eq_true hg, HG.out]; rfl
          have HC := Lib.hid (hpk ▸ HC0.out)
          clear hpk HC0 HG hw1 hg1
          go_wp2_with fail
          obtain ⟨k, hk⟩ : ∃ k, k = c + 1 := ⟨_, rfl⟩
          rw [← hk] at HC
          rw [show (c : Int) + 1 = (k : Int) from by omega]
          have hk' : k ≤ c + 1 ∧ c < k := by omega
          have hkh : k < hi := by omega
          clear hk
          have hk2 : k < hi := by omega
          have hk3 : r < k := by omega
          cases hlv : ltOf cf dk[F + r]! dk[F + k]! with
          | true =>
            have HL := Lib.hid hlv
            clear hlv
            obtain ⟨I3, hI3⟩ : ∃ q, q = F + r := ⟨_, rfl⟩
            obtain ⟨J3, hJ3⟩ : ∃ q, q = F + k := ⟨_, rfl⟩
            have u3 : ((F : Int) + (r : Int) : Int).toNat = I3 ∧ 0 ≤ ((F : Int) + (r : Int) : Int) ∧ ((F : Int) + (r : Int) : Int) < n ∧ IntKind.i64.wrap ((F : Int) + (r : Int) : Int) = (F : Int) + (r : Int) := ⟨by omega, by omega, by omega, by rw [IntKind.wrap_i64]; omega⟩
            have v3 : ((F : Int) + (k : Int) : Int).toNat = J3 ∧ 0 ≤ ((F : Int) + (k : Int) : Int) ∧ ((F : Int) + (k : Int) : Int) < n ∧ IntKind.i64.wrap ((F : Int) + (k : Int) : Int) = (F : Int) + (k : Int) := ⟨by omega, by omega, by omega, by rw [IntKind.wrap_i64]; omega⟩
            obtain ⟨u3a, u3b, u3c, u3d⟩ := u3
            obtain ⟨v3a, v3b, v3c, v3d⟩ := v3

            obtain ⟨x3, hx3⟩ : ∃ x, x = dk[F + r]! := ⟨_, rfl⟩
            obtain ⟨y3, hy3⟩ : ∃ x, x = dk[F + k]! := ⟨_, rfl⟩
            have c3 := fun m os => E.out.cellG S2.out hsk.out (i := F + r) (by omega) m os
            have d3 := fun m os => E.out.cellG S2.out hsk.out (i := F + k) (by omega) m os
            rw [← hx3, ← hI3] at c3
            rw [← hy3, ← hJ3] at d3
            have a3 := E.out.tell S2.out hsk.out x3 y3
            have r3 : ltOf cf x3 y3 = true := by rw [hx3, hy3]; exact HL.out
            have s3 : decide (cf x3 y3 < 0) = true := r3
            have t3 : cf x3 y3 < 0 := by simpa using s3
            clear r3 hx3 hy3 hI3 hJ3
            go_wp2_with fail
            go_quiet_grown (first | (go_at_call 27; refine a3 _ _))
            have S7 := Lib.hid (S2.out.grown nq osq)
            clear c3 d3 a3 u3a v3a S2
            generalize grow (w2.drewN nq) osq = w7 at S7 ⊢
            clear nq osq
            go_wp2_with fail
            obtain ⟨I5, hI5⟩ : ∃ q, q = F + r := ⟨_, rfl⟩
            obtain ⟨J5, hJ5⟩ : ∃ q, q = F + k := ⟨_, rfl⟩
            have u5 : ((F : Int) + (r : Int) : Int).toNat = I5 ∧ 0 ≤ ((F : Int) + (r : Int) : Int) ∧ ((F : Int) + (r : Int) : Int) < n ∧ IntKind.i64.wrap ((F : Int) + (r : Int) : Int) = (F : Int) + (r : Int) := ⟨by omega, by omega, by omega, by rw [IntKind.wrap_i64]; omega⟩
            have v5 : ((F : Int) + (k : Int) : Int).toNat = J5 ∧ 0 ≤ ((F : Int) + (k : Int) : Int) ∧ ((F : Int) + (k : Int) : Int) < n ∧ IntKind.i64.wrap ((F : Int) + (k : Int) : Int) = (F : Int) + (k : Int) := ⟨by omega, by omega, by omega, by rw [IntKind.wrap_i64]; omega⟩
            obtain ⟨u5a, u5b, u5c, u5d⟩ := u5
            obtain ⟨v5a, v5b, v5c, v5d⟩ := v5

            obtain ⟨x5, hx5⟩ : ∃ x, x = dk[F + r]! := ⟨_, rfl⟩
            obtain ⟨y5, hy5⟩ : ∃ x, x = dk[F + k]! := ⟨_, rfl⟩
            have S8 : Hid (SW nam w0 b 0 (swp dk (F + r) (F + k)) ((w7.setCell ⟨b, I5, none⟩ (.string (str y5))).setCell ⟨b, J5, none⟩ (.string (str x5))).drew) := Lib.hid (by rw [hI5, hJ5, hx5, hy5]; exact E.out.swap S7.out hsk.out (i := F + r) (j := F + k) (by omega) (by omega))
            obtain ⟨c5, f5⟩ := E.out.cell S7.out hsk.out (i := F + r) (by omega)
            obtain ⟨d5, g5⟩ := E.out.cell S7.out hsk.out (i := F + k) (by omega)
            obtain ⟨o5, e5⟩ := E.out.mid S7.out hsk.out (i := F + r) (j := F + k) (by omega) (by omega) (.string (str y5))
            rw [← hx5, ← hI5] at c5
            rw [← hy5, ← hJ5] at d5
            rw [← hI5] at f5
            rw [← hJ5] at g5
            rw [← hI5, ← hJ5] at e5
            clear hx5 hy5 hI5 hJ5 S7
            go_wp2_with fail
            go_big_region_o
            clear c5 d5 e5 f5 g5 u5a v5a
            generalize ((w7.setCell ⟨b, I5, none⟩ (.string (str y5))).setCell ⟨b, J5, none⟩ (.string (str x5))).drew = w8 at S8 ⊢
            go_wp2
            go_roundw
            case rel => exact ⟨k, swp dk (F + r) (F + k), rfl, by omega, Lib.hid ((size_swp _ _ _).trans hsk.out), Lib.hid ((HC.out.trans (if_pos HL.out)).symm.trans HX.out), S8⟩
            case measure => simp [intOf]; omega
          | false =>
            have HL := Lib.hid hlv
            clear hlv
            obtain ⟨I4, hI4⟩ : ∃ q, q = F + r := ⟨_, rfl⟩
            obtain ⟨J4, hJ4⟩ : ∃ q, q = F + k := ⟨_, rfl⟩
            have u4 : ((F : Int) + (r : Int) : Int).toNat = I4 ∧ 0 ≤ ((F : Int) + (r : Int) : Int) ∧ ((F : Int) + (r : Int) : Int) < n ∧ IntKind.i64.wrap ((F : Int) + (r : Int) : Int) = (F : Int) + (r : Int) := ⟨by omega, by omega, by omega, by rw [IntKind.wrap_i64]; omega⟩
            have v4 : ((F : Int) + (k : Int) : Int).toNat = J4 ∧ 0 ≤ ((F : Int) + (k : Int) : Int) ∧ ((F : Int) + (k : Int) : Int) < n ∧ IntKind.i64.wrap ((F : Int) + (k : Int) : Int) = (F : Int) + (k : Int) := ⟨by omega, by omega, by omega, by rw [IntKind.wrap_i64]; omega⟩
            obtain ⟨u4a, u4b, u4c, u4d⟩ := u4
            obtain ⟨v4a, v4b, v4c, v4d⟩ := v4

            obtain ⟨x4, hx4⟩ : ∃ x, x = dk[F + r]! := ⟨_, rfl⟩
            obtain ⟨y4, hy4⟩ : ∃ x, x = dk[F + k]! := ⟨_, rfl⟩
            have c4 := fun m os => E.out.cellG S2.out hsk.out (i := F + r) (by omega) m os
            have d4 := fun m os => E.out.cellG S2.out hsk.out (i := F + k) (by omega) m os
            rw [← hx4, ← hI4] at c4
            rw [← hy4, ← hJ4] at d4
            have a4 := E.out.tell S2.out hsk.out x4 y4
            have r4 : ltOf cf x4 y4 = false := by rw [hx4, hy4]; exact HL.out
            have s4 : decide (cf x4 y4 < 0) = false := r4
            have t4 : ¬ cf x4 y4 < 0 := by simpa using s4
            clear r4 hx4 hy4 hI4 hJ4
            go_wp2_with fail
            go_quiet_grown (first | (go_at_call 27; refine a4 _ _))
            have S7 := Lib.hid (S2.out.grown nq osq)
            clear c4 d4 a4 u4a v4a S2
            generalize grow (w2.drewN nq) osq = w7 at S7 ⊢
            clear nq osq
            go_wp2
            refine bodyPost_ret (results_none rfl _ _ _) rfl ?_
            refine ⟨rfl, ?_⟩
            rw [← HX.out, HC.out, HL.out, if_neg (by simp)]
            exact S7.out
        | false =>
          have HG := Lib.hid hgv
          clear hgv
          obtain ⟨I2, hI2⟩ : ∃ q, q = F + c := ⟨_, rfl⟩
          obtain ⟨J2, hJ2⟩ : ∃ q, q = F + c + 1 := ⟨_, rfl⟩
          have u2 : ((F : Int) + (c : Int) : Int).toNat = I2 ∧ 0 ≤ ((F : Int) + (c : Int) : Int) ∧ ((F : Int) + (c : Int) : Int) < n ∧ IntKind.i64.wrap ((F : Int) + (c : Int) : Int) = (F : Int) + (c : Int) := ⟨by omega, by omega, by omega, by rw [IntKind.wrap_i64]; omega⟩
          have v2 : ((F : Int) + (c : Int) + 1 : Int).toNat = J2 ∧ 0 ≤ ((F : Int) + (c : Int) + 1 : Int) ∧ ((F : Int) + (c : Int) + 1 : Int) < n ∧ IntKind.i64.wrap ((F : Int) + (c : Int) + 1 : Int) = (F : Int) + (c : Int) + 1 := ⟨by omega, by omega, by omega, by rw [IntKind.wrap_i64]; omega⟩
          obtain ⟨u2a, u2b, u2c, u2d⟩ := u2
          obtain ⟨v2a, v2b, v2c, v2d⟩ := v2

          obtain ⟨x2, hx2⟩ : ∃ x, x = dk[F + c]! := ⟨_, rfl⟩
          obtain ⟨y2, hy2⟩ : ∃ x, x = dk[F + c + 1]! := ⟨_, rfl⟩
          have c2 := fun m os => E.out.cellG S1.out hsk.out (i := F + c) (by omega) m os
          have d2 := fun m os => E.out.cellG S1.out hsk.out (i := F + c + 1) (by omega) m os
          rw [← hx2, ← hI2] at c2
          rw [← hy2, ← hJ2] at d2
          have a2 := E.out.tell S1.out hsk.out x2 y2
          have r2 : ltOf cf x2 y2 = false := by rw [hx2, hy2]; exact HG.out
          have s2 : decide (cf x2 y2 < 0) = false := r2
          have t2 : ¬ cf x2 y2 < 0 := by simpa using s2
          clear r2 hx2 hy2 hI2 hJ2
          go_wp2_with fail
          go_quiet_grown (first | (go_at_call 27; refine a2 _ _))
          have S2 := Lib.hid (S1.out.grown nq osq)
          clear c2 d2 a2 u2a v2a S1
          generalize grow (wr.drewN nq) osq = w2 at S2 ⊢
          clear nq osq
          have hpk : pick (ltOf cf) hi F c dk = c := by unfold pick; rw [HG.out, Bool.and_false]; rfl
          have HC := Lib.hid (hpk ▸ HC0.out)
          clear hpk HC0 HG hw1 hg1
          go_wp2_with fail
          have hk2 : c < hi := by omega
          have hk3 : r < c := by omega
          cases hlv : ltOf cf dk[F + r]! dk[F + c]! with
          | true =>
            have HL := Lib.hid hlv
            clear hlv
            obtain ⟨I6, hI6⟩ : ∃ q, q = F + r := ⟨_, rfl⟩
            obtain ⟨J6, hJ6⟩ : ∃ q, q = F + c := ⟨_, rfl⟩
            have u6 : ((F : Int) + (r : Int) : Int).toNat = I6 ∧ 0 ≤ ((F : Int) + (r : Int) : Int) ∧ ((F : Int) + (r : Int) : Int) < n ∧ IntKind.i64.wrap ((F : Int) + (r : Int) : Int) = (F : Int) + (r : Int) := ⟨by omega, by omega, by omega, by rw [IntKind.wrap_i64]; omega⟩
            have v6 : ((F : Int) + (c : Int) : Int).toNat = J6 ∧ 0 ≤ ((F : Int) + (c : Int) : Int) ∧ ((F : Int) + (c : Int) : Int) < n ∧ IntKind.i64.wrap ((F : Int) + (c : Int) : Int) = (F : Int) + (c : Int) := ⟨by omega, by omega, by omega, by rw [IntKind.wrap_i64]; omega⟩
            obtain ⟨u6a, u6b, u6c, u6d⟩ := u6
            obtain ⟨v6a, v6b, v6c, v6d⟩ := v6

            obtain ⟨x6, hx6⟩ : ∃ x, x = dk[F + r]! := ⟨_, rfl⟩
            obtain ⟨y6, hy6⟩ : ∃ x, x = dk[F + c]! := ⟨_, rfl⟩
            have c6 := fun m os => E.out.cellG S2.out hsk.out (i := F + r) (by omega) m os
            have d6 := fun m os => E.out.cellG S2.out hsk.out (i := F + c) (by omega) m os
            rw [← hx6, ← hI6] at c6
            rw [← hy6, ← hJ6] at d6
            have a6 := E.out.tell S2.out hsk.out x6 y6
            have r6 : ltOf cf x6 y6 = true := by rw [hx6, hy6]; exact HL.out
            have s6 : decide (cf x6 y6 < 0) = true := r6
            have t6 : cf x6 y6 < 0 := by simpa using s6
            clear r6 hx6 hy6 hI6 hJ6
            go_wp2_with fail
            go_quiet_grown (first | (go_at_call 27; refine a6 _ _))
            have S7 := Lib.hid (S2.out.grown nq osq)
            clear c6 d6 a6 u6a v6a S2
            generalize grow (w2.drewN nq) osq = w7 at S7 ⊢
            clear nq osq
            go_wp2_with fail
            obtain ⟨I8, hI8⟩ : ∃ q, q = F + r := ⟨_, rfl⟩
            obtain ⟨J8, hJ8⟩ : ∃ q, q = F + c := ⟨_, rfl⟩
            have u8 : ((F : Int) + (r : Int) : Int).toNat = I8 ∧ 0 ≤ ((F : Int) + (r : Int) : Int) ∧ ((F : Int) + (r : Int) : Int) < n ∧ IntKind.i64.wrap ((F : Int) + (r : Int) : Int) = (F : Int) + (r : Int) := ⟨by omega, by omega, by omega, by rw [IntKind.wrap_i64]; omega⟩
            have v8 : ((F : Int) + (c : Int) : Int).toNat = J8 ∧ 0 ≤ ((F : Int) + (c : Int) : Int) ∧ ((F : Int) + (c : Int) : Int) < n ∧ IntKind.i64.wrap ((F : Int) + (c : Int) : Int) = (F : Int) + (c : Int) := ⟨by omega, by omega, by omega, by rw [IntKind.wrap_i64]; omega⟩
            obtain ⟨u8a, u8b, u8c, u8d⟩ := u8
            obtain ⟨v8a, v8b, v8c, v8d⟩ := v8

            obtain ⟨x8, hx8⟩ : ∃ x, x = dk[F + r]! := ⟨_, rfl⟩
            obtain ⟨y8, hy8⟩ : ∃ x, x = dk[F + c]! := ⟨_, rfl⟩
            have S8 : Hid (SW nam w0 b 0 (swp dk (F + r) (F + c)) ((w7.setCell ⟨b, I8, none⟩ (.string (str y8))).setCell ⟨b, J8, none⟩ (.string (str x8))).drew) := Lib.hid (by rw [hI8, hJ8, hx8, hy8]; exact E.out.swap S7.out hsk.out (i := F + r) (j := F + c) (by omega) (by omega))
            obtain ⟨c8, f8⟩ := E.out.cell S7.out hsk.out (i := F + r) (by omega)
            obtain ⟨d8, g8⟩ := E.out.cell S7.out hsk.out (i := F + c) (by omega)
            obtain ⟨o8, e8⟩ := E.out.mid S7.out hsk.out (i := F + r) (j := F + c) (by omega) (by omega) (.string (str y8))
            rw [← hx8, ← hI8] at c8
            rw [← hy8, ← hJ8] at d8
            rw [← hI8] at f8
            rw [← hJ8] at g8
            rw [← hI8, ← hJ8] at e8
            clear hx8 hy8 hI8 hJ8 S7
            go_wp2_with fail
            go_big_region_o
            clear c8 d8 e8 f8 g8 u8a v8a
            generalize ((w7.setCell ⟨b, I8, none⟩ (.string (str y8))).setCell ⟨b, J8, none⟩ (.string (str x8))).drew = w8 at S8 ⊢
            go_wp2
            go_roundw
            case rel => exact ⟨c, swp dk (F + r) (F + c), rfl, by omega, Lib.hid ((size_swp _ _ _).trans hsk.out), Lib.hid ((HC.out.trans (if_pos HL.out)).symm.trans HX.out), S8⟩
            case measure => simp [intOf]; omega
          | false =>
            have HL := Lib.hid hlv
            clear hlv
            obtain ⟨I7, hI7⟩ : ∃ q, q = F + r := ⟨_, rfl⟩
            obtain ⟨J7, hJ7⟩ : ∃ q, q = F + c := ⟨_, rfl⟩
            have u7 : ((F : Int) + (r : Int) : Int).toNat = I7 ∧ 0 ≤ ((F : Int) + (r : Int) : Int) ∧ ((F : Int) + (r : Int) : Int) < n ∧ IntKind.i64.wrap ((F : Int) + (r : Int) : Int) = (F : Int) + (r : Int) := ⟨by omega, by omega, by omega, by rw [IntKind.wrap_i64]; omega⟩
            have v7 : ((F : Int) + (c : Int) : Int).toNat = J7 ∧ 0 ≤ ((F : Int) + (c : Int) : Int) ∧ ((F : Int) + (c : Int) : Int) < n ∧ IntKind.i64.wrap ((F : Int) + (c : Int) : Int) = (F : Int) + (c : Int) := ⟨by omega, by omega, by omega, by rw [IntKind.wrap_i64]; omega⟩
            obtain ⟨u7a, u7b, u7c, u7d⟩ := u7
            obtain ⟨v7a, v7b, v7c, v7d⟩ := v7

            obtain ⟨x7, hx7⟩ : ∃ x, x = dk[F + r]! := ⟨_, rfl⟩
            obtain ⟨y7, hy7⟩ : ∃ x, x = dk[F + c]! := ⟨_, rfl⟩
            have c7 := fun m os => E.out.cellG S2.out hsk.out (i := F + r) (by omega) m os
            have d7 := fun m os => E.out.cellG S2.out hsk.out (i := F + c) (by omega) m os
            rw [← hx7, ← hI7] at c7
            rw [← hy7, ← hJ7] at d7
            have a7 := E.out.tell S2.out hsk.out x7 y7
            have r7 : ltOf cf x7 y7 = false := by rw [hx7, hy7]; exact HL.out
            have s7 : decide (cf x7 y7 < 0) = false := r7
            have t7 : ¬ cf x7 y7 < 0 := by simpa using s7
            clear r7 hx7 hy7 hI7 hJ7
            go_wp2_with fail
            go_quiet_grown (first | (go_at_call 27; refine a7 _ _))
            have S7 := Lib.hid (S2.out.grown nq osq)
            clear c7 d7 a7 u7a v7a S2
            generalize grow (w2.drewN nq) osq = w7 at S7 ⊢
            clear nq osq
            go_wp2
            refine bodyPost_ret (results_none rfl _ _ _) rfl ?_
            refine ⟨rfl, ?_⟩
            rw [← HX.out, HC.out, HL.out, if_neg (by simp)]
            exact S7.out
      · have hg1 : decide ((c : Int) + 1 < (hi : Int)) = false := decide_eq_false (by omega)
        have hg2 : ¬ (c : Int) + 1 < (hi : Int) := by omega
        have hpk : pick (ltOf cf) hi F c dk = c := by unfold pick; rw [decide_eq_false hg]; rfl
        have HC := Lib.hid (hpk ▸ HC0.out)
        clear hpk HC0
        go_big_region_o
        have S2 := Lib.hid (S1.out.drew)
        clear S1 hw1 hg1
        generalize wr.drew = w2 at S2 ⊢
        go_wp2_with fail
        have hk2 : c < hi := by omega
        have hk3 : r < c := by omega
        cases hlv : ltOf cf dk[F + r]! dk[F + c]! with
        | true =>
          have HL := Lib.hid hlv
          clear hlv
          obtain ⟨I9, hI9⟩ : ∃ q, q = F + r := ⟨_, rfl⟩
          obtain ⟨J9, hJ9⟩ : ∃ q, q = F + c := ⟨_, rfl⟩
          have u9 : ((F : Int) + (r : Int) : Int).toNat = I9 ∧ 0 ≤ ((F : Int) + (r : Int) : Int) ∧ ((F : Int) + (r : Int) : Int) < n ∧ IntKind.i64.wrap ((F : Int) + (r : Int) : Int) = (F : Int) + (r : Int) := ⟨by omega, by omega, by omega, by rw [IntKind.wrap_i64]; omega⟩
          have v9 : ((F : Int) + (c : Int) : Int).toNat = J9 ∧ 0 ≤ ((F : Int) + (c : Int) : Int) ∧ ((F : Int) + (c : Int) : Int) < n ∧ IntKind.i64.wrap ((F : Int) + (c : Int) : Int) = (F : Int) + (c : Int) := ⟨by omega, by omega, by omega, by rw [IntKind.wrap_i64]; omega⟩
          obtain ⟨u9a, u9b, u9c, u9d⟩ := u9
          obtain ⟨v9a, v9b, v9c, v9d⟩ := v9

          obtain ⟨x9, hx9⟩ : ∃ x, x = dk[F + r]! := ⟨_, rfl⟩
          obtain ⟨y9, hy9⟩ : ∃ x, x = dk[F + c]! := ⟨_, rfl⟩
          have c9 := fun m os => E.out.cellG S2.out hsk.out (i := F + r) (by omega) m os
          have d9 := fun m os => E.out.cellG S2.out hsk.out (i := F + c) (by omega) m os
          rw [← hx9, ← hI9] at c9
          rw [← hy9, ← hJ9] at d9
          have a9 := E.out.tell S2.out hsk.out x9 y9
          have r9 : ltOf cf x9 y9 = true := by rw [hx9, hy9]; exact HL.out
          have s9 : decide (cf x9 y9 < 0) = true := r9
          have t9 : cf x9 y9 < 0 := by simpa using s9
          clear r9 hx9 hy9 hI9 hJ9
          go_wp2_with fail
          go_quiet_grown (first | (go_at_call 27; refine a9 _ _))
          have S7 := Lib.hid (S2.out.grown nq osq)
          clear c9 d9 a9 u9a v9a S2
          generalize grow (w2.drewN nq) osq = w7 at S7 ⊢
          clear nq osq
          go_wp2_with fail
          obtain ⟨I11, hI11⟩ : ∃ q, q = F + r := ⟨_, rfl⟩
          obtain ⟨J11, hJ11⟩ : ∃ q, q = F + c := ⟨_, rfl⟩
          have u11 : ((F : Int) + (r : Int) : Int).toNat = I11 ∧ 0 ≤ ((F : Int) + (r : Int) : Int) ∧ ((F : Int) + (r : Int) : Int) < n ∧ IntKind.i64.wrap ((F : Int) + (r : Int) : Int) = (F : Int) + (r : Int) := ⟨by omega, by omega, by omega, by rw [IntKind.wrap_i64]; omega⟩
          have v11 : ((F : Int) + (c : Int) : Int).toNat = J11 ∧ 0 ≤ ((F : Int) + (c : Int) : Int) ∧ ((F : Int) + (c : Int) : Int) < n ∧ IntKind.i64.wrap ((F : Int) + (c : Int) : Int) = (F : Int) + (c : Int) := ⟨by omega, by omega, by omega, by rw [IntKind.wrap_i64]; omega⟩
          obtain ⟨u11a, u11b, u11c, u11d⟩ := u11
          obtain ⟨v11a, v11b, v11c, v11d⟩ := v11

          obtain ⟨x11, hx11⟩ : ∃ x, x = dk[F + r]! := ⟨_, rfl⟩
          obtain ⟨y11, hy11⟩ : ∃ x, x = dk[F + c]! := ⟨_, rfl⟩
          have S8 : Hid (SW nam w0 b 0 (swp dk (F + r) (F + c)) ((w7.setCell ⟨b, I11, none⟩ (.string (str y11))).setCell ⟨b, J11, none⟩ (.string (str x11))).drew) := Lib.hid (by rw [hI11, hJ11, hx11, hy11]; exact E.out.swap S7.out hsk.out (i := F + r) (j := F + c) (by omega) (by omega))
          obtain ⟨c11, f11⟩ := E.out.cell S7.out hsk.out (i := F + r) (by omega)
          obtain ⟨d11, g11⟩ := E.out.cell S7.out hsk.out (i := F + c) (by omega)
          obtain ⟨o11, e11⟩ := E.out.mid S7.out hsk.out (i := F + r) (j := F + c) (by omega) (by omega) (.string (str y11))
          rw [← hx11, ← hI11] at c11
          rw [← hy11, ← hJ11] at d11
          rw [← hI11] at f11
          rw [← hJ11] at g11
          rw [← hI11, ← hJ11] at e11
          clear hx11 hy11 hI11 hJ11 S7
          go_wp2_with fail
          go_big_region_o
          clear c11 d11 e11 f11 g11 u11a v11a
          generalize ((w7.setCell ⟨b, I11, none⟩ (.string (str y11))).setCell ⟨b, J11, none⟩ (.string (str x11))).drew = w8 at S8 ⊢
          go_wp2
          go_roundw
          case rel => exact ⟨c, swp dk (F + r) (F + c), rfl, by omega, Lib.hid ((size_swp _ _ _).trans hsk.out), Lib.hid ((HC.out.trans (if_pos HL.out)).symm.trans HX.out), S8⟩
          case measure => simp [intOf]; omega
        | false =>
          have HL := Lib.hid hlv
          clear hlv
          obtain ⟨I10, hI10⟩ : ∃ q, q = F + r := ⟨_, rfl⟩
          obtain ⟨J10, hJ10⟩ : ∃ q, q = F + c := ⟨_, rfl⟩
          have u10 : ((F : Int) + (r : Int) : Int).toNat = I10 ∧ 0 ≤ ((F : Int) + (r : Int) : Int) ∧ ((F : Int) + (r : Int) : Int) < n ∧ IntKind.i64.wrap ((F : Int) + (r : Int) : Int) = (F : Int) + (r : Int) := ⟨by omega, by omega, by omega, by rw [IntKind.wrap_i64]; omega⟩
          have v10 : ((F : Int) + (c : Int) : Int).toNat = J10 ∧ 0 ≤ ((F : Int) + (c : Int) : Int) ∧ ((F : Int) + (c : Int) : Int) < n ∧ IntKind.i64.wrap ((F : Int) + (c : Int) : Int) = (F : Int) + (c : Int) := ⟨by omega, by omega, by omega, by rw [IntKind.wrap_i64]; omega⟩
          obtain ⟨u10a, u10b, u10c, u10d⟩ := u10
          obtain ⟨v10a, v10b, v10c, v10d⟩ := v10

          obtain ⟨x10, hx10⟩ : ∃ x, x = dk[F + r]! := ⟨_, rfl⟩
          obtain ⟨y10, hy10⟩ : ∃ x, x = dk[F + c]! := ⟨_, rfl⟩
          have c10 := fun m os => E.out.cellG S2.out hsk.out (i := F + r) (by omega) m os
          have d10 := fun m os => E.out.cellG S2.out hsk.out (i := F + c) (by omega) m os
          rw [← hx10, ← hI10] at c10
          rw [← hy10, ← hJ10] at d10
          have a10 := E.out.tell S2.out hsk.out x10 y10
          have r10 : ltOf cf x10 y10 = false := by rw [hx10, hy10]; exact HL.out
          have s10 : decide (cf x10 y10 < 0) = false := r10
          have t10 : ¬ cf x10 y10 < 0 := by simpa using s10
          clear r10 hx10 hy10 hI10 hJ10
          go_wp2_with fail
          go_quiet_grown (first | (go_at_call 27; refine a10 _ _))
          have S7 := Lib.hid (S2.out.grown nq osq)
          clear c10 d10 a10 u10a v10a S2
          generalize grow (w2.drewN nq) osq = w7 at S7 ⊢
          clear nq osq
          go_wp2
          refine bodyPost_ret (results_none rfl _ _ _) rfl ?_
          refine ⟨rfl, ?_⟩
          rw [← HX.out, HC.out, HL.out, if_neg (by simp)]
          exact S7.out

end Go.Proofs.Ytahccfljgmleiaa
