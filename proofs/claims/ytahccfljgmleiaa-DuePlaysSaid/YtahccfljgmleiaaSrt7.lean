/-
  The walk of slices.partialInsertionSortCmpFunc at names, by the table's own comparison. Conditions: as 'Env' tells; the places are not none.
-/
import Derived.Test.YtahccfljgmleiaaSrt1
namespace Go.Proofs.Ytahccfljgmleiaa
open Go.RowKit Go.Sort
set_option linter.unusedVariables false

section
variable {lt : Ky → Ky → Bool} {d : Array Ky} {z j i : Nat}
theorem up_go (h : j + 1 < z) (hl : lt d[j + 1]! d[j]! = true) : Sort.shiftUp lt z (j + 1) d = Sort.shiftUp lt z (j + 2) (swp d (j + 1) j) := by
  rw [Sort.shiftUp, if_pos h, if_neg (by rw [show j + 1 - 1 = j from rfl, hl]; simp)]; rfl
theorem up_end (h : ¬ j < z ∨ lt d[j]! d[j - 1]! = false) : Sort.shiftUp lt z j d = d := by
  rw [Sort.shiftUp]
  split
  · rcases h with h | h
    · contradiction
    · rw [if_pos (by rw [h]; rfl)]
  · rfl
theorem down_go (hl : lt d[j + 1]! d[j]! = true) : Sort.shiftDown lt (j + 1) d = Sort.shiftDown lt j (swp d (j + 1) j) := by
  rw [Sort.shiftDown, if_neg (by rw [hl]; simp)]
theorem down_end (hl : lt d[j + 1]! d[j]! = false) : Sort.shiftDown lt (j + 1) d = d := by
  rw [Sort.shiftDown, if_pos (by rw [hl]; rfl)]
theorem scan_go (h : i < z) (hl : lt d[i]! d[i - 1]! = false) : Sort.scanSorted lt d z i = Sort.scanSorted lt d z (i + 1) := by
  rw [Sort.scanSorted, if_pos (by rw [hl, decide_eq_true h]; rfl)]
theorem scan_end (h : ¬ i < z ∨ lt d[i]! d[i - 1]! = true) : Sort.scanSorted lt d z i = i := by
  rw [Sort.scanSorted, if_neg ?_]
  rcases h with h | h
  · rw [decide_eq_false h]; simp
  · rw [h]; simp
end

/-- the row and the answer behind a sort that may give up -/
def Tries (w0 : World) (b : Nat) (r : Array Ky × Bool) : Ending → World → Prop := fun e w' => e = .returned (.bool r.2) ∧ SW nam w0 b 0 r.1 w'

set_option maxHeartbeats 32000000 in
set_option maxRecDepth 100000 in
theorem partial_any {p : Value} {cf : Ky → Ky → Int} {w0 : World} {b n : Nat} (E : Env p cf w0 b n) (cap a z : Nat) (d : Array Ky) (w : World) (hs : d.size = n) (S : SW nam w0 b 0 d w) (haz : a < z) (hz : z ≤ n) :
    Calls Try.prog 45 #[.slice (some ⟨b, 0, none⟩) n cap, .int .i64 a, .int .i64 z, ofTab p] w (Tries w0 b (Sort.partialInsertionSort (ltOf cf) d a z)) := by
  have mixed := follows
  have few := E.few
  have E := Lib.hid E
  have S0 := Lib.hid S
  have HS := Lib.hid hs
  clear S hs
  obtain ⟨R, hR⟩ : ∃ R, R = Sort.partialInsertionSort (ltOf cf) d a z := ⟨_, rfl⟩
  rw [← hR]
  have HR := Lib.hid hR
  clear hR
  unfold ofTab
  go_enter Try.func45, Try.ntmps45
  go_wp2
  go_loopw [9, 10] (fun vi vt wr => ∃ (t i : Nat) (dk : Array Ky), vi = .int .i64 i ∧ vt = .int .i64 t ∧ t ≤ 5 ∧ a < i ∧ i ≤ z ∧ Hid (dk.size = n) ∧ Hid (Sort.partialIns (ltOf cf) a z (5 - t) i dk = R) ∧ Hid (SW nam w0 b 0 dk wr)) (fun _ vt _ => 5 - (intOf vt).toNat)
  case atStart => exact ⟨0, a + 1, d, by go_num, rfl, by omega, by omega, by omega, HS, Lib.hid HR.out.symm, S0⟩
  case round =>
    clear S0 HS HR
    obtain ⟨t, i, dk, rfl, rfl, ht, hai, hiz, hsk, HX, S1⟩ := hrel
    by_cases ht5 : t < 5
    · have ht1 : (t : Int) < 5 := by omega
      obtain ⟨s, hs⟩ : ∃ s, 5 - t = s + 1 := ⟨5 - t - 1, by omega⟩
      rw [hs] at HX
      have hs2 : s = 4 - t := by omega
      clear hs
      have hs3 : s + t ≤ 4 ∧ 4 ≤ s + t := by omega
      clear hs2
      have HQ0 := Lib.hid (partialIns_succ (lt := ltOf cf) a z s i dk)
      go_wp2_with fail
      go_loopw [9] (fun vi wr => ∃ (i' : Nat), vi = .int .i64 i' ∧ i ≤ i' ∧ i' ≤ z ∧ Hid (Sort.scanSorted (ltOf cf) dk z i' = Sort.scanSorted (ltOf cf) dk z i) ∧ Hid (SW nam w0 b 0 dk wr)) (fun vi _ => z - (intOf vi).toNat)
      case atStart => exact ⟨i, rfl, Nat.le_refl _, hiz, Lib.hid rfl, S1⟩
      case round =>
        clear S1
        obtain ⟨i', rfl, hii, hiz', HC, S1⟩ := hrel
        obtain ⟨ip, rfl⟩ : ∃ q, i' = q + 1 := ⟨i' - 1, by omega⟩
        by_cases hlt : ip + 1 < z
        · have hl1 : decide ((ip : Int) + 1 < (z : Int)) = true := decide_eq_true (by omega)
          have hl2 : (ip : Int) + 1 < (z : Int) := by omega
          cases hlv : ltOf cf dk[ip + 1]! dk[ip]! with
          | false =>
            have HL := Lib.hid hlv
            clear hlv
            obtain ⟨I1, hI1⟩ : ∃ q, q = ip + 1 := ⟨_, rfl⟩
            obtain ⟨J1, hJ1⟩ : ∃ q, q = ip := ⟨_, rfl⟩
            have u1 : ((ip : Int) + 1 : Int).toNat = I1 ∧ 0 ≤ ((ip : Int) + 1 : Int) ∧ ((ip : Int) + 1 : Int) < n ∧ IntKind.i64.wrap ((ip : Int) + 1 : Int) = (ip : Int) + 1 := ⟨by omega, by omega, by omega, by rw [IntKind.wrap_i64]; omega⟩
            have v1 : ((ip : Int) : Int).toNat = J1 ∧ 0 ≤ ((ip : Int) : Int) ∧ ((ip : Int) : Int) < n ∧ IntKind.i64.wrap ((ip : Int) : Int) = (ip : Int) := ⟨by omega, by omega, by omega, by rw [IntKind.wrap_i64]; omega⟩
            obtain ⟨u1a, u1b, u1c, u1d⟩ := u1
            obtain ⟨v1a, v1b, v1c, v1d⟩ := v1

            obtain ⟨x1, hx1⟩ : ∃ q, q = dk[ip + 1]! := ⟨_, rfl⟩
            obtain ⟨y1, hy1⟩ : ∃ q, q = dk[ip]! := ⟨_, rfl⟩
            have c1 : ∀ m os, (grow (wr.drewN m) os).cell? ⟨b, I1, none⟩ = some (.string (str x1)) := fun m os => by rw [hI1, hx1]; exact E.out.cellG S1.out hsk.out (i := ip + 1) (by omega) m os
            have d1 : ∀ m os, (grow (wr.drewN m) os).cell? ⟨b, J1, none⟩ = some (.string (str y1)) := fun m os => by rw [hJ1, hy1]; exact E.out.cellG S1.out hsk.out (i := ip) (by omega) m os
            have a1 := E.out.tell S1.out hsk.out x1 y1
            have r1 : ltOf cf x1 y1 = false := by rw [hx1, hy1]; exact HL.out
            have s1 : decide (cf x1 y1 < 0) = false := r1
            have t1 : ¬ cf x1 y1 < 0 := by simpa using s1
            clear r1 hx1 hy1 hI1 hJ1
            go_wp2_with fail
            go_quiet_grown (first | (go_at_call 27; refine a1 _ _))
            have S2 := Lib.hid (S1.out.grown nq osq)
            clear c1 d1 a1 u1a v1a S1
            generalize grow (wr.drewN nq) osq = w2 at S2 ⊢
            clear nq osq
            go_wp2
            go_roundw
            case rel => first | exact ⟨ip + 2, by go_num, by omega, by omega, Lib.hid ((scan_go hlt HL.out).symm.trans HC.out), S2⟩ | ((repeat apply Exists.intro); exact ⟨⟨ip + 2, by go_num, by omega, by omega, Lib.hid ((scan_go hlt HL.out).symm.trans HC.out), S2⟩, rfl⟩)
            case measure => simp [intOf]; omega
          | true =>
            have HL := Lib.hid hlv
            clear hlv
            have HE : Hid (Sort.scanSorted (ltOf cf) dk z i = ip + 1) := Lib.hid (HC.out.symm.trans (scan_end (.inr HL.out)))
            clear HC
            obtain ⟨I2, hI2⟩ : ∃ q, q = ip + 1 := ⟨_, rfl⟩
            obtain ⟨J2, hJ2⟩ : ∃ q, q = ip := ⟨_, rfl⟩
            have u2 : ((ip : Int) + 1 : Int).toNat = I2 ∧ 0 ≤ ((ip : Int) + 1 : Int) ∧ ((ip : Int) + 1 : Int) < n ∧ IntKind.i64.wrap ((ip : Int) + 1 : Int) = (ip : Int) + 1 := ⟨by omega, by omega, by omega, by rw [IntKind.wrap_i64]; omega⟩
            have v2 : ((ip : Int) : Int).toNat = J2 ∧ 0 ≤ ((ip : Int) : Int) ∧ ((ip : Int) : Int) < n ∧ IntKind.i64.wrap ((ip : Int) : Int) = (ip : Int) := ⟨by omega, by omega, by omega, by rw [IntKind.wrap_i64]; omega⟩
            obtain ⟨u2a, u2b, u2c, u2d⟩ := u2
            obtain ⟨v2a, v2b, v2c, v2d⟩ := v2

            obtain ⟨x2, hx2⟩ : ∃ q, q = dk[ip + 1]! := ⟨_, rfl⟩
            obtain ⟨y2, hy2⟩ : ∃ q, q = dk[ip]! := ⟨_, rfl⟩
            have c2 : ∀ m os, (grow (wr.drewN m) os).cell? ⟨b, I2, none⟩ = some (.string (str x2)) := fun m os => by rw [hI2, hx2]; exact E.out.cellG S1.out hsk.out (i := ip + 1) (by omega) m os
            have d2 : ∀ m os, (grow (wr.drewN m) os).cell? ⟨b, J2, none⟩ = some (.string (str y2)) := fun m os => by rw [hJ2, hy2]; exact E.out.cellG S1.out hsk.out (i := ip) (by omega) m os
            have a2 := E.out.tell S1.out hsk.out x2 y2
            have r2 : ltOf cf x2 y2 = true := by rw [hx2, hy2]; exact HL.out
            have s2 : decide (cf x2 y2 < 0) = true := r2
            have t2 : cf x2 y2 < 0 := by simpa using s2
            clear r2 hx2 hy2 hI2 hJ2
            go_wp2_with fail
            go_quiet_grown (first | (go_at_call 27; refine a2 _ _))
            have S2 := Lib.hid (S1.out.grown nq osq)
            clear c2 d2 a2 u2a v2a S1
            generalize grow (wr.drewN nq) osq = w2 at S2 ⊢
            clear nq osq
            clear hl1
            have hne : ((ip : Int) + 1 == (z : Int)) = false := by rw [beq_eq_false_iff_ne]; omega
            by_cases h50 : z - a < 50
            · have h51 : (z : Int) - (a : Int) < 50 := by omega
              have HN := Lib.hid (HQ0.out.trans (by rw [HE.out, if_neg (by omega), if_pos h50]))
              go_wp2
              refine bodyPost_ret (by simp [results, Try.results45, go_sem]; rfl) rfl ?_
              rw [← HX.out, HN.out]
              exact ⟨rfl, S2.out⟩
            · have h51 : ¬ (z : Int) - (a : Int) < 50 := by omega
              have HQ := Lib.hid (HQ0.out.trans (by rw [HE.out, if_neg (by omega), if_neg h50, show ip + 1 - 1 = ip from rfl]))
              clear HQ0 HE
              go_wp2_with fail
              obtain ⟨I3, hI3⟩ : ∃ q, q = ip + 1 := ⟨_, rfl⟩
              obtain ⟨J3, hJ3⟩ : ∃ q, q = ip := ⟨_, rfl⟩
              have u3 : ((ip : Int) + 1 : Int).toNat = I3 ∧ 0 ≤ ((ip : Int) + 1 : Int) ∧ ((ip : Int) + 1 : Int) < n ∧ IntKind.i64.wrap ((ip : Int) + 1 : Int) = (ip : Int) + 1 := ⟨by omega, by omega, by omega, by rw [IntKind.wrap_i64]; omega⟩
              have v3 : ((ip : Int) : Int).toNat = J3 ∧ 0 ≤ ((ip : Int) : Int) ∧ ((ip : Int) : Int) < n ∧ IntKind.i64.wrap ((ip : Int) : Int) = (ip : Int) := ⟨by omega, by omega, by omega, by rw [IntKind.wrap_i64]; omega⟩
              obtain ⟨u3a, u3b, u3c, u3d⟩ := u3
              obtain ⟨v3a, v3b, v3c, v3d⟩ := v3

              obtain ⟨x3, hx3⟩ : ∃ q, q = dk[ip + 1]! := ⟨_, rfl⟩
              obtain ⟨y3, hy3⟩ : ∃ q, q = dk[ip]! := ⟨_, rfl⟩
              have S3 : Hid (SW nam w0 b 0 (swp dk (ip + 1) (ip)) ((w2.setCell ⟨b, I3, none⟩ (.string (str y3))).setCell ⟨b, J3, none⟩ (.string (str x3))).drew) := Lib.hid (by rw [hI3, hJ3, hx3, hy3]; exact E.out.swap S2.out hsk.out (i := ip + 1) (j := ip) (by omega) (by omega))
              obtain ⟨c3, f3⟩ : w2.cell? ⟨b, I3, none⟩ = some (.string (str x3)) ∧ w2.frozen? ⟨b, I3, none⟩ = false := by rw [hI3, hx3]; exact E.out.cell S2.out hsk.out (i := ip + 1) (by omega)
              obtain ⟨d3, g3⟩ : w2.cell? ⟨b, J3, none⟩ = some (.string (str y3)) ∧ w2.frozen? ⟨b, J3, none⟩ = false := by rw [hJ3, hy3]; exact E.out.cell S2.out hsk.out (i := ip) (by omega)
              obtain ⟨o3, e3⟩ : ∃ u, (w2.setCell ⟨b, I3, none⟩ (.string (str y3))).cell? ⟨b, J3, none⟩ = some u := by rw [hI3, hJ3]; exact E.out.mid S2.out hsk.out (i := ip + 1) (j := ip) (by omega) (by omega) _
              clear hx3 hy3 hI3 hJ3 S2
              go_wp2_with fail
              go_big_region_o
              clear c3 d3 e3 f3 g3 u3a v3a
              generalize ((w2.setCell ⟨b, I3, none⟩ (.string (str y3))).setCell ⟨b, J3, none⟩ (.string (str x3))).drew = w3 at S3 ⊢
              obtain ⟨d2, hd2⟩ : ∃ d2, d2 = swp dk (ip + 1) ip := ⟨_, rfl⟩
              have hs2 : Hid (d2.size = n) := Lib.hid (by rw [hd2]; exact (size_swp _ _ _).trans hsk.out)
              rw [← hd2] at S3 HQ
              clear hd2 hne
              by_cases hg : a + 1 ≤ ip
              · have hg1 : 2 ≤ (ip : Int) + 1 - (a : Int) := by omega
                have hg2 : decide (2 ≤ (ip : Int) + 1 - (a : Int)) = true := decide_eq_true hg1
                have HF : Hid (fixDown (ltOf cf) a (ip + 1) d2 = Sort.shiftDown (ltOf cf) ip d2) := Lib.hid (by unfold fixDown; exact if_pos (by omega))
                go_wp2
                go_loopw [11] (fun vj wr => ∃ (j : Nat) (dj : Array Ky), vj = .int .i64 j ∧ j ≤ ip ∧ Hid (dj.size = n) ∧ Hid (Sort.shiftDown (ltOf cf) j dj = Sort.shiftDown (ltOf cf) ip d2) ∧ Hid (SW nam w0 b 0 dj wr)) (fun vj _ => (intOf vj).toNat)
                case atStart => exact ⟨ip, d2, by go_num, Nat.le_refl _, hs2, Lib.hid rfl, S3⟩
                case round =>
                  clear S3
                  obtain ⟨j, dj, rfl, hji, hsj, HJ, S4⟩ := hrel
                  cases j with
                  | zero =>
                    have HD : Hid (fixDown (ltOf cf) a (ip + 1) d2 = dj) := Lib.hid (HF.out.trans HJ.out.symm)
                    clear HF HJ
                    by_cases hu : ip + 3 ≤ z
                    · have hu1 : 2 ≤ (z : Int) - ((ip : Int) + 1) := by omega
                      have hu2 : decide (2 ≤ (z : Int) - ((ip : Int) + 1)) = true := decide_eq_true hu1
                      have HU : Hid (fixUp (ltOf cf) z (ip + 1) dj = Sort.shiftUp (ltOf cf) z (ip + 2) dj) := Lib.hid (by unfold fixUp; exact if_pos (by omega))
                      go_wp2
                      go_loopw [12] (fun vj wr => ∃ (j : Nat) (du : Array Ky), vj = .int .i64 j ∧ ip + 2 ≤ j ∧ j ≤ z ∧ Hid (du.size = n) ∧ Hid (Sort.shiftUp (ltOf cf) z j du = Sort.shiftUp (ltOf cf) z (ip + 2) dj) ∧ Hid (SW nam w0 b 0 du wr)) (fun vj _ => z - (intOf vj).toNat)
                      case atStart => exact ⟨ip + 2, dj, by go_num, Nat.le_refl _, by omega, hsj, Lib.hid rfl, S4⟩
                      case round =>
                        clear S4
                        obtain ⟨j, du, rfl, hj1, hj2, hsj, HJ, S6⟩ := hrel
                        by_cases hjz : j < z
                        · have hjz1 : (j : Int) < (z : Int) := by omega
                          obtain ⟨jp, rfl⟩ : ∃ q, j = q + 1 := ⟨j - 1, by omega⟩
                          have hjz2 : (jp : Int) + 1 < (z : Int) := by omega
                          clear hjz1
                          cases hlv : ltOf cf du[jp + 1]! du[jp]! with
                          | true =>
                            have HL := Lib.hid hlv
                            clear hlv
                            go_wp2_with fail
                            obtain ⟨I7, hI7⟩ : ∃ q, q = jp + 1 := ⟨_, rfl⟩
                            obtain ⟨J7, hJ7⟩ : ∃ q, q = jp := ⟨_, rfl⟩
                            have u7 : ((jp : Int) + 1 : Int).toNat = I7 ∧ 0 ≤ ((jp : Int) + 1 : Int) ∧ ((jp : Int) + 1 : Int) < n ∧ IntKind.i64.wrap ((jp : Int) + 1 : Int) = (jp : Int) + 1 := ⟨by omega, by omega, by omega, by rw [IntKind.wrap_i64]; omega⟩
                            have v7 : ((jp : Int) : Int).toNat = J7 ∧ 0 ≤ ((jp : Int) : Int) ∧ ((jp : Int) : Int) < n ∧ IntKind.i64.wrap ((jp : Int) : Int) = (jp : Int) := ⟨by omega, by omega, by omega, by rw [IntKind.wrap_i64]; omega⟩
                            obtain ⟨u7a, u7b, u7c, u7d⟩ := u7
                            obtain ⟨v7a, v7b, v7c, v7d⟩ := v7

                            obtain ⟨x7, hx7⟩ : ∃ q, q = du[jp + 1]! := ⟨_, rfl⟩
                            obtain ⟨y7, hy7⟩ : ∃ q, q = du[jp]! := ⟨_, rfl⟩
                            have c7 : ∀ m os, (grow (wr.drewN m) os).cell? ⟨b, I7, none⟩ = some (.string (str x7)) := fun m os => by rw [hI7, hx7]; exact E.out.cellG S6.out hsj.out (i := jp + 1) (by omega) m os
                            have d7 : ∀ m os, (grow (wr.drewN m) os).cell? ⟨b, J7, none⟩ = some (.string (str y7)) := fun m os => by rw [hJ7, hy7]; exact E.out.cellG S6.out hsj.out (i := jp) (by omega) m os
                            have a7 := E.out.tell S6.out hsj.out x7 y7
                            have r7 : ltOf cf x7 y7 = true := by rw [hx7, hy7]; exact HL.out
                            have s7 : decide (cf x7 y7 < 0) = true := r7
                            have t7 : cf x7 y7 < 0 := by simpa using s7
                            clear r7 hx7 hy7 hI7 hJ7
                            go_wp2_with fail
                            go_quiet_grown (first | (go_at_call 27; refine a7 _ _))
                            have S7 := Lib.hid (S6.out.grown nq osq)
                            clear c7 d7 a7 u7a v7a S6
                            generalize grow (wr.drewN nq) osq = w7 at S7 ⊢
                            clear nq osq
                            go_wp2_with fail
                            obtain ⟨I9, hI9⟩ : ∃ q, q = jp + 1 := ⟨_, rfl⟩
                            obtain ⟨J9, hJ9⟩ : ∃ q, q = jp := ⟨_, rfl⟩
                            have u9 : ((jp : Int) + 1 : Int).toNat = I9 ∧ 0 ≤ ((jp : Int) + 1 : Int) ∧ ((jp : Int) + 1 : Int) < n ∧ IntKind.i64.wrap ((jp : Int) + 1 : Int) = (jp : Int) + 1 := ⟨by omega, by omega, by omega, by rw [IntKind.wrap_i64]; omega⟩
                            have v9 : ((jp : Int) : Int).toNat = J9 ∧ 0 ≤ ((jp : Int) : Int) ∧ ((jp : Int) : Int) < n ∧ IntKind.i64.wrap ((jp : Int) : Int) = (jp : Int) := ⟨by omega, by omega, by omega, by rw [IntKind.wrap_i64]; omega⟩
                            obtain ⟨u9a, u9b, u9c, u9d⟩ := u9
                            obtain ⟨v9a, v9b, v9c, v9d⟩ := v9

                            obtain ⟨x9, hx9⟩ : ∃ q, q = du[jp + 1]! := ⟨_, rfl⟩
                            obtain ⟨y9, hy9⟩ : ∃ q, q = du[jp]! := ⟨_, rfl⟩
                            have S8 : Hid (SW nam w0 b 0 (swp du (jp + 1) (jp)) ((w7.setCell ⟨b, I9, none⟩ (.string (str y9))).setCell ⟨b, J9, none⟩ (.string (str x9))).drew) := Lib.hid (by rw [hI9, hJ9, hx9, hy9]; exact E.out.swap S7.out hsj.out (i := jp + 1) (j := jp) (by omega) (by omega))
                            obtain ⟨c9, f9⟩ : w7.cell? ⟨b, I9, none⟩ = some (.string (str x9)) ∧ w7.frozen? ⟨b, I9, none⟩ = false := by rw [hI9, hx9]; exact E.out.cell S7.out hsj.out (i := jp + 1) (by omega)
                            obtain ⟨d9, g9⟩ : w7.cell? ⟨b, J9, none⟩ = some (.string (str y9)) ∧ w7.frozen? ⟨b, J9, none⟩ = false := by rw [hJ9, hy9]; exact E.out.cell S7.out hsj.out (i := jp) (by omega)
                            obtain ⟨o9, e9⟩ : ∃ u, (w7.setCell ⟨b, I9, none⟩ (.string (str y9))).cell? ⟨b, J9, none⟩ = some u := by rw [hI9, hJ9]; exact E.out.mid S7.out hsj.out (i := jp + 1) (j := jp) (by omega) (by omega) _
                            clear hx9 hy9 hI9 hJ9 S7
                            go_wp2_with fail
                            go_big_region_o
                            clear c9 d9 e9 f9 g9 u9a v9a
                            generalize ((w7.setCell ⟨b, I9, none⟩ (.string (str y9))).setCell ⟨b, J9, none⟩ (.string (str x9))).drew = w8 at S8 ⊢
                            go_wp2
                            go_roundw
                            case rel => first | exact ⟨jp + 2, swp du (jp + 1) jp, by go_num, by omega, by omega, Lib.hid ((size_swp _ _ _).trans hsj.out), Lib.hid ((up_go hjz HL.out).symm.trans HJ.out), S8⟩ | ((repeat apply Exists.intro); exact ⟨⟨jp + 2, swp du (jp + 1) jp, by go_num, by omega, by omega, Lib.hid ((size_swp _ _ _).trans hsj.out), Lib.hid ((up_go hjz HL.out).symm.trans HJ.out), S8⟩, rfl⟩)
                            case measure => simp [intOf]; omega
                          | false =>
                            have HL := Lib.hid hlv
                            clear hlv
                            have HE := Lib.hid ((up_end (.inr HL.out)).symm.trans HJ.out)
                            go_wp2_with fail
                            obtain ⟨I8, hI8⟩ : ∃ q, q = jp + 1 := ⟨_, rfl⟩
                            obtain ⟨J8, hJ8⟩ : ∃ q, q = jp := ⟨_, rfl⟩
                            have u8 : ((jp : Int) + 1 : Int).toNat = I8 ∧ 0 ≤ ((jp : Int) + 1 : Int) ∧ ((jp : Int) + 1 : Int) < n ∧ IntKind.i64.wrap ((jp : Int) + 1 : Int) = (jp : Int) + 1 := ⟨by omega, by omega, by omega, by rw [IntKind.wrap_i64]; omega⟩
                            have v8 : ((jp : Int) : Int).toNat = J8 ∧ 0 ≤ ((jp : Int) : Int) ∧ ((jp : Int) : Int) < n ∧ IntKind.i64.wrap ((jp : Int) : Int) = (jp : Int) := ⟨by omega, by omega, by omega, by rw [IntKind.wrap_i64]; omega⟩
                            obtain ⟨u8a, u8b, u8c, u8d⟩ := u8
                            obtain ⟨v8a, v8b, v8c, v8d⟩ := v8

                            obtain ⟨x8, hx8⟩ : ∃ q, q = du[jp + 1]! := ⟨_, rfl⟩
                            obtain ⟨y8, hy8⟩ : ∃ q, q = du[jp]! := ⟨_, rfl⟩
                            have c8 : ∀ m os, (grow (wr.drewN m) os).cell? ⟨b, I8, none⟩ = some (.string (str x8)) := fun m os => by rw [hI8, hx8]; exact E.out.cellG S6.out hsj.out (i := jp + 1) (by omega) m os
                            have d8 : ∀ m os, (grow (wr.drewN m) os).cell? ⟨b, J8, none⟩ = some (.string (str y8)) := fun m os => by rw [hJ8, hy8]; exact E.out.cellG S6.out hsj.out (i := jp) (by omega) m os
                            have a8 := E.out.tell S6.out hsj.out x8 y8
                            have r8 : ltOf cf x8 y8 = false := by rw [hx8, hy8]; exact HL.out
                            have s8 : decide (cf x8 y8 < 0) = false := r8
                            have t8 : ¬ cf x8 y8 < 0 := by simpa using s8
                            clear r8 hx8 hy8 hI8 hJ8
                            go_wp2_with fail
                            go_quiet_grown (first | (go_at_call 27; refine a8 _ _))
                            have S7 := Lib.hid (S6.out.grown nq osq)
                            clear c8 d8 a8 u8a v8a S6
                            generalize grow (wr.drewN nq) osq = w7 at S7 ⊢
                            clear nq osq
                            go_wp2
                            go_roundw
                            case rel => first | exact ⟨t + 1, ip + 1, du, by go_num, by go_num, by omega, by omega, by omega, hsj, Lib.hid (by rw [show 5 - (t + 1) = s by omega, ← HX.out, HQ.out, HD.out, HU.out, ← HE.out]), S7⟩ | ((repeat apply Exists.intro); exact ⟨⟨t + 1, ip + 1, du, by go_num, by go_num, by omega, by omega, by omega, hsj, Lib.hid (by rw [show 5 - (t + 1) = s by omega, ← HX.out, HQ.out, HD.out, HU.out, ← HE.out]), S7⟩, rfl⟩)
                            case measure => simp [intOf]; omega
                        · have hjz1 : ¬ (j : Int) < (z : Int) := by omega
                          have HE := Lib.hid ((up_end (.inl hjz)).symm.trans HJ.out)
                          go_wp2
                          go_roundw
                          case rel => first | exact ⟨t + 1, ip + 1, du, by go_num, by go_num, by omega, by omega, by omega, hsj, Lib.hid (by rw [show 5 - (t + 1) = s by omega, ← HX.out, HQ.out, HD.out, HU.out, ← HE.out]), S6⟩ | ((repeat apply Exists.intro); exact ⟨⟨t + 1, ip + 1, du, by go_num, by go_num, by omega, by omega, by omega, hsj, Lib.hid (by rw [show 5 - (t + 1) = s by omega, ← HX.out, HQ.out, HD.out, HU.out, ← HE.out]), S6⟩, rfl⟩)
                          case measure => simp [intOf]; omega
                    · have hu1 : ¬ 2 ≤ (z : Int) - ((ip : Int) + 1) := by omega
                      have hu2 : decide (2 ≤ (z : Int) - ((ip : Int) + 1)) = false := decide_eq_false hu1
                      have HU : Hid (fixUp (ltOf cf) z (ip + 1) dj = dj) := Lib.hid (by unfold fixUp; exact if_neg (by omega))
                      go_wp2
                      go_roundw
                      case rel => first | exact ⟨t + 1, ip + 1, dj, by go_num, by go_num, by omega, by omega, by omega, hsj, Lib.hid (by rw [show 5 - (t + 1) = s by omega, ← HX.out, HQ.out, HD.out, HU.out]), S4⟩ | ((repeat apply Exists.intro); exact ⟨⟨t + 1, ip + 1, dj, by go_num, by go_num, by omega, by omega, by omega, hsj, Lib.hid (by rw [show 5 - (t + 1) = s by omega, ← HX.out, HQ.out, HD.out, HU.out]), S4⟩, rfl⟩)
                      case measure => simp [intOf]; omega
                  | succ jp =>
                    have hj1 : 1 ≤ (jp : Int) + 1 := by omega
                    cases hlv : ltOf cf dj[jp + 1]! dj[jp]! with
                    | true =>
                      have HL := Lib.hid hlv
                      clear hlv
                      go_wp2_with fail
                      obtain ⟨I4, hI4⟩ : ∃ q, q = jp + 1 := ⟨_, rfl⟩
                      obtain ⟨J4, hJ4⟩ : ∃ q, q = jp := ⟨_, rfl⟩
                      have u4 : ((jp : Int) + 1 : Int).toNat = I4 ∧ 0 ≤ ((jp : Int) + 1 : Int) ∧ ((jp : Int) + 1 : Int) < n ∧ IntKind.i64.wrap ((jp : Int) + 1 : Int) = (jp : Int) + 1 := ⟨by omega, by omega, by omega, by rw [IntKind.wrap_i64]; omega⟩
                      have v4 : ((jp : Int) : Int).toNat = J4 ∧ 0 ≤ ((jp : Int) : Int) ∧ ((jp : Int) : Int) < n ∧ IntKind.i64.wrap ((jp : Int) : Int) = (jp : Int) := ⟨by omega, by omega, by omega, by rw [IntKind.wrap_i64]; omega⟩
                      obtain ⟨u4a, u4b, u4c, u4d⟩ := u4
                      obtain ⟨v4a, v4b, v4c, v4d⟩ := v4

                      obtain ⟨x4, hx4⟩ : ∃ q, q = dj[jp + 1]! := ⟨_, rfl⟩
                      obtain ⟨y4, hy4⟩ : ∃ q, q = dj[jp]! := ⟨_, rfl⟩
                      have c4 : ∀ m os, (grow (wr.drewN m) os).cell? ⟨b, I4, none⟩ = some (.string (str x4)) := fun m os => by rw [hI4, hx4]; exact E.out.cellG S4.out hsj.out (i := jp + 1) (by omega) m os
                      have d4 : ∀ m os, (grow (wr.drewN m) os).cell? ⟨b, J4, none⟩ = some (.string (str y4)) := fun m os => by rw [hJ4, hy4]; exact E.out.cellG S4.out hsj.out (i := jp) (by omega) m os
                      have a4 := E.out.tell S4.out hsj.out x4 y4
                      have r4 : ltOf cf x4 y4 = true := by rw [hx4, hy4]; exact HL.out
                      have s4 : decide (cf x4 y4 < 0) = true := r4
                      have t4 : cf x4 y4 < 0 := by simpa using s4
                      clear r4 hx4 hy4 hI4 hJ4
                      go_wp2_with fail
                      go_quiet_grown (first | (go_at_call 27; refine a4 _ _))
                      have S5 := Lib.hid (S4.out.grown nq osq)
                      clear c4 d4 a4 u4a v4a S4
                      generalize grow (wr.drewN nq) osq = w5 at S5 ⊢
                      clear nq osq
                      go_wp2_with fail
                      obtain ⟨I6, hI6⟩ : ∃ q, q = jp + 1 := ⟨_, rfl⟩
                      obtain ⟨J6, hJ6⟩ : ∃ q, q = jp := ⟨_, rfl⟩
                      have u6 : ((jp : Int) + 1 : Int).toNat = I6 ∧ 0 ≤ ((jp : Int) + 1 : Int) ∧ ((jp : Int) + 1 : Int) < n ∧ IntKind.i64.wrap ((jp : Int) + 1 : Int) = (jp : Int) + 1 := ⟨by omega, by omega, by omega, by rw [IntKind.wrap_i64]; omega⟩
                      have v6 : ((jp : Int) : Int).toNat = J6 ∧ 0 ≤ ((jp : Int) : Int) ∧ ((jp : Int) : Int) < n ∧ IntKind.i64.wrap ((jp : Int) : Int) = (jp : Int) := ⟨by omega, by omega, by omega, by rw [IntKind.wrap_i64]; omega⟩
                      obtain ⟨u6a, u6b, u6c, u6d⟩ := u6
                      obtain ⟨v6a, v6b, v6c, v6d⟩ := v6

                      obtain ⟨x6, hx6⟩ : ∃ q, q = dj[jp + 1]! := ⟨_, rfl⟩
                      obtain ⟨y6, hy6⟩ : ∃ q, q = dj[jp]! := ⟨_, rfl⟩
                      have S6 : Hid (SW nam w0 b 0 (swp dj (jp + 1) (jp)) ((w5.setCell ⟨b, I6, none⟩ (.string (str y6))).setCell ⟨b, J6, none⟩ (.string (str x6))).drew) := Lib.hid (by rw [hI6, hJ6, hx6, hy6]; exact E.out.swap S5.out hsj.out (i := jp + 1) (j := jp) (by omega) (by omega))
                      obtain ⟨c6, f6⟩ : w5.cell? ⟨b, I6, none⟩ = some (.string (str x6)) ∧ w5.frozen? ⟨b, I6, none⟩ = false := by rw [hI6, hx6]; exact E.out.cell S5.out hsj.out (i := jp + 1) (by omega)
                      obtain ⟨d6, g6⟩ : w5.cell? ⟨b, J6, none⟩ = some (.string (str y6)) ∧ w5.frozen? ⟨b, J6, none⟩ = false := by rw [hJ6, hy6]; exact E.out.cell S5.out hsj.out (i := jp) (by omega)
                      obtain ⟨o6, e6⟩ : ∃ u, (w5.setCell ⟨b, I6, none⟩ (.string (str y6))).cell? ⟨b, J6, none⟩ = some u := by rw [hI6, hJ6]; exact E.out.mid S5.out hsj.out (i := jp + 1) (j := jp) (by omega) (by omega) _
                      clear hx6 hy6 hI6 hJ6 S5
                      go_wp2_with fail
                      go_big_region_o
                      clear c6 d6 e6 f6 g6 u6a v6a
                      generalize ((w5.setCell ⟨b, I6, none⟩ (.string (str y6))).setCell ⟨b, J6, none⟩ (.string (str x6))).drew = w6 at S6 ⊢
                      go_wp2
                      go_roundw
                      case rel => first | exact ⟨jp, swp dj (jp + 1) jp, rfl, by omega, Lib.hid ((size_swp _ _ _).trans hsj.out), Lib.hid ((down_go HL.out).symm.trans HJ.out), S6⟩ | ((repeat apply Exists.intro); exact ⟨⟨jp, swp dj (jp + 1) jp, rfl, by omega, Lib.hid ((size_swp _ _ _).trans hsj.out), Lib.hid ((down_go HL.out).symm.trans HJ.out), S6⟩, rfl⟩)
                      case measure => simp [intOf]
                    | false =>
                      have HL := Lib.hid hlv
                      clear hlv
                      have HD : Hid (fixDown (ltOf cf) a (ip + 1) d2 = dj) := Lib.hid (HF.out.trans ((down_end HL.out).symm.trans HJ.out).symm)
                      clear HF HJ
                      go_wp2_with fail
                      obtain ⟨I5, hI5⟩ : ∃ q, q = jp + 1 := ⟨_, rfl⟩
                      obtain ⟨J5, hJ5⟩ : ∃ q, q = jp := ⟨_, rfl⟩
                      have u5 : ((jp : Int) + 1 : Int).toNat = I5 ∧ 0 ≤ ((jp : Int) + 1 : Int) ∧ ((jp : Int) + 1 : Int) < n ∧ IntKind.i64.wrap ((jp : Int) + 1 : Int) = (jp : Int) + 1 := ⟨by omega, by omega, by omega, by rw [IntKind.wrap_i64]; omega⟩
                      have v5 : ((jp : Int) : Int).toNat = J5 ∧ 0 ≤ ((jp : Int) : Int) ∧ ((jp : Int) : Int) < n ∧ IntKind.i64.wrap ((jp : Int) : Int) = (jp : Int) := ⟨by omega, by omega, by omega, by rw [IntKind.wrap_i64]; omega⟩
                      obtain ⟨u5a, u5b, u5c, u5d⟩ := u5
                      obtain ⟨v5a, v5b, v5c, v5d⟩ := v5

                      obtain ⟨x5, hx5⟩ : ∃ q, q = dj[jp + 1]! := ⟨_, rfl⟩
                      obtain ⟨y5, hy5⟩ : ∃ q, q = dj[jp]! := ⟨_, rfl⟩
                      have c5 : ∀ m os, (grow (wr.drewN m) os).cell? ⟨b, I5, none⟩ = some (.string (str x5)) := fun m os => by rw [hI5, hx5]; exact E.out.cellG S4.out hsj.out (i := jp + 1) (by omega) m os
                      have d5 : ∀ m os, (grow (wr.drewN m) os).cell? ⟨b, J5, none⟩ = some (.string (str y5)) := fun m os => by rw [hJ5, hy5]; exact E.out.cellG S4.out hsj.out (i := jp) (by omega) m os
                      have a5 := E.out.tell S4.out hsj.out x5 y5
                      have r5 : ltOf cf x5 y5 = false := by rw [hx5, hy5]; exact HL.out
                      have s5 : decide (cf x5 y5 < 0) = false := r5
                      have t5 : ¬ cf x5 y5 < 0 := by simpa using s5
                      clear r5 hx5 hy5 hI5 hJ5
                      go_wp2_with fail
                      go_quiet_grown (first | (go_at_call 27; refine a5 _ _))
                      have S5 := Lib.hid (S4.out.grown nq osq)
                      clear c5 d5 a5 u5a v5a S4
                      generalize grow (wr.drewN nq) osq = w5 at S5 ⊢
                      clear nq osq
                      clear hji
                      by_cases hu : ip + 3 ≤ z
                      · have hu1 : 2 ≤ (z : Int) - ((ip : Int) + 1) := by omega
                        have hu2 : decide (2 ≤ (z : Int) - ((ip : Int) + 1)) = true := decide_eq_true hu1
                        have HU : Hid (fixUp (ltOf cf) z (ip + 1) dj = Sort.shiftUp (ltOf cf) z (ip + 2) dj) := Lib.hid (by unfold fixUp; exact if_pos (by omega))
                        go_wp2
                        go_loopw [12] (fun vj wr => ∃ (j : Nat) (du : Array Ky), vj = .int .i64 j ∧ ip + 2 ≤ j ∧ j ≤ z ∧ Hid (du.size = n) ∧ Hid (Sort.shiftUp (ltOf cf) z j du = Sort.shiftUp (ltOf cf) z (ip + 2) dj) ∧ Hid (SW nam w0 b 0 du wr)) (fun vj _ => z - (intOf vj).toNat)
                        case atStart => exact ⟨ip + 2, dj, by go_num, Nat.le_refl _, by omega, hsj, Lib.hid rfl, S5⟩
                        case round =>
                          clear S5
                          obtain ⟨j, du, rfl, hj1, hj2, hsj, HJ, S6⟩ := hrel
                          by_cases hjz : j < z
                          · have hjz1 : (j : Int) < (z : Int) := by omega
                            obtain ⟨jp, rfl⟩ : ∃ q, j = q + 1 := ⟨j - 1, by omega⟩
                            have hjz2 : (jp : Int) + 1 < (z : Int) := by omega
                            clear hjz1
                            cases hlv : ltOf cf du[jp + 1]! du[jp]! with
                            | true =>
                              have HL := Lib.hid hlv
                              clear hlv
                              go_wp2_with fail
                              obtain ⟨I10, hI10⟩ : ∃ q, q = jp + 1 := ⟨_, rfl⟩
                              obtain ⟨J10, hJ10⟩ : ∃ q, q = jp := ⟨_, rfl⟩
                              have u10 : ((jp : Int) + 1 : Int).toNat = I10 ∧ 0 ≤ ((jp : Int) + 1 : Int) ∧ ((jp : Int) + 1 : Int) < n ∧ IntKind.i64.wrap ((jp : Int) + 1 : Int) = (jp : Int) + 1 := ⟨by omega, by omega, by omega, by rw [IntKind.wrap_i64]; omega⟩
                              have v10 : ((jp : Int) : Int).toNat = J10 ∧ 0 ≤ ((jp : Int) : Int) ∧ ((jp : Int) : Int) < n ∧ IntKind.i64.wrap ((jp : Int) : Int) = (jp : Int) := ⟨by omega, by omega, by omega, by rw [IntKind.wrap_i64]; omega⟩
                              obtain ⟨u10a, u10b, u10c, u10d⟩ := u10
                              obtain ⟨v10a, v10b, v10c, v10d⟩ := v10

                              obtain ⟨x10, hx10⟩ : ∃ q, q = du[jp + 1]! := ⟨_, rfl⟩
                              obtain ⟨y10, hy10⟩ : ∃ q, q = du[jp]! := ⟨_, rfl⟩
                              have c10 : ∀ m os, (grow (wr.drewN m) os).cell? ⟨b, I10, none⟩ = some (.string (str x10)) := fun m os => by rw [hI10, hx10]; exact E.out.cellG S6.out hsj.out (i := jp + 1) (by omega) m os
                              have d10 : ∀ m os, (grow (wr.drewN m) os).cell? ⟨b, J10, none⟩ = some (.string (str y10)) := fun m os => by rw [hJ10, hy10]; exact E.out.cellG S6.out hsj.out (i := jp) (by omega) m os
                              have a10 := E.out.tell S6.out hsj.out x10 y10
                              have r10 : ltOf cf x10 y10 = true := by rw [hx10, hy10]; exact HL.out
                              have s10 : decide (cf x10 y10 < 0) = true := r10
                              have t10 : cf x10 y10 < 0 := by simpa using s10
                              clear r10 hx10 hy10 hI10 hJ10
                              go_wp2_with fail
                              go_quiet_grown (first | (go_at_call 27; refine a10 _ _))
                              have S7 := Lib.hid (S6.out.grown nq osq)
                              clear c10 d10 a10 u10a v10a S6
                              generalize grow (wr.drewN nq) osq = w7 at S7 ⊢
                              clear nq osq
                              go_wp2_with fail
                              obtain ⟨I12, hI12⟩ : ∃ q, q = jp + 1 := ⟨_, rfl⟩
                              obtain ⟨J12, hJ12⟩ : ∃ q, q = jp := ⟨_, rfl⟩
                              have u12 : ((jp : Int) + 1 : Int).toNat = I12 ∧ 0 ≤ ((jp : Int) + 1 : Int) ∧ ((jp : Int) + 1 : Int) < n ∧ IntKind.i64.wrap ((jp : Int) + 1 : Int) = (jp : Int) + 1 := ⟨by omega, by omega, by omega, by rw [IntKind.wrap_i64]; omega⟩
                              have v12 : ((jp : Int) : Int).toNat = J12 ∧ 0 ≤ ((jp : Int) : Int) ∧ ((jp : Int) : Int) < n ∧ IntKind.i64.wrap ((jp : Int) : Int) = (jp : Int) := ⟨by omega, by omega, by omega, by rw [IntKind.wrap_i64]; omega⟩
                              obtain ⟨u12a, u12b, u12c, u12d⟩ := u12
                              obtain ⟨v12a, v12b, v12c, v12d⟩ := v12

                              obtain ⟨x12, hx12⟩ : ∃ q, q = du[jp + 1]! := ⟨_, rfl⟩
                              obtain ⟨y12, hy12⟩ : ∃ q, q = du[jp]! := ⟨_, rfl⟩
                              have S8 : Hid (SW nam w0 b 0 (swp du (jp + 1) (jp)) ((w7.setCell ⟨b, I12, none⟩ (.string (str y12))).setCell ⟨b, J12, none⟩ (.string (str x12))).drew) := Lib.hid (by rw [hI12, hJ12, hx12, hy12]; exact E.out.swap S7.out hsj.out (i := jp + 1) (j := jp) (by omega) (by omega))
                              obtain ⟨c12, f12⟩ : w7.cell? ⟨b, I12, none⟩ = some (.string (str x12)) ∧ w7.frozen? ⟨b, I12, none⟩ = false := by rw [hI12, hx12]; exact E.out.cell S7.out hsj.out (i := jp + 1) (by omega)
                              obtain ⟨d12, g12⟩ : w7.cell? ⟨b, J12, none⟩ = some (.string (str y12)) ∧ w7.frozen? ⟨b, J12, none⟩ = false := by rw [hJ12, hy12]; exact E.out.cell S7.out hsj.out (i := jp) (by omega)
                              obtain ⟨o12, e12⟩ : ∃ u, (w7.setCell ⟨b, I12, none⟩ (.string (str y12))).cell? ⟨b, J12, none⟩ = some u := by rw [hI12, hJ12]; exact E.out.mid S7.out hsj.out (i := jp + 1) (j := jp) (by omega) (by omega) _
                              clear hx12 hy12 hI12 hJ12 S7
                              go_wp2_with fail
                              go_big_region_o
                              clear c12 d12 e12 f12 g12 u12a v12a
                              generalize ((w7.setCell ⟨b, I12, none⟩ (.string (str y12))).setCell ⟨b, J12, none⟩ (.string (str x12))).drew = w8 at S8 ⊢
                              go_wp2
                              go_roundw
                              case rel => first | exact ⟨jp + 2, swp du (jp + 1) jp, by go_num, by omega, by omega, Lib.hid ((size_swp _ _ _).trans hsj.out), Lib.hid ((up_go hjz HL.out).symm.trans HJ.out), S8⟩ | ((repeat apply Exists.intro); exact ⟨⟨jp + 2, swp du (jp + 1) jp, by go_num, by omega, by omega, Lib.hid ((size_swp _ _ _).trans hsj.out), Lib.hid ((up_go hjz HL.out).symm.trans HJ.out), S8⟩, rfl⟩)
                              case measure => simp [intOf]; omega
                            | false =>
                              have HL := Lib.hid hlv
                              clear hlv
                              have HE := Lib.hid ((up_end (.inr HL.out)).symm.trans HJ.out)
                              go_wp2_with fail
                              obtain ⟨I11, hI11⟩ : ∃ q, q = jp + 1 := ⟨_, rfl⟩
                              obtain ⟨J11, hJ11⟩ : ∃ q, q = jp := ⟨_, rfl⟩
                              have u11 : ((jp : Int) + 1 : Int).toNat = I11 ∧ 0 ≤ ((jp : Int) + 1 : Int) ∧ ((jp : Int) + 1 : Int) < n ∧ IntKind.i64.wrap ((jp : Int) + 1 : Int) = (jp : Int) + 1 := ⟨by omega, by omega, by omega, by rw [IntKind.wrap_i64]; omega⟩
                              have v11 : ((jp : Int) : Int).toNat = J11 ∧ 0 ≤ ((jp : Int) : Int) ∧ ((jp : Int) : Int) < n ∧ IntKind.i64.wrap ((jp : Int) : Int) = (jp : Int) := ⟨by omega, by omega, by omega, by rw [IntKind.wrap_i64]; omega⟩
                              obtain ⟨u11a, u11b, u11c, u11d⟩ := u11
                              obtain ⟨v11a, v11b, v11c, v11d⟩ := v11

                              obtain ⟨x11, hx11⟩ : ∃ q, q = du[jp + 1]! := ⟨_, rfl⟩
                              obtain ⟨y11, hy11⟩ : ∃ q, q = du[jp]! := ⟨_, rfl⟩
                              have c11 : ∀ m os, (grow (wr.drewN m) os).cell? ⟨b, I11, none⟩ = some (.string (str x11)) := fun m os => by rw [hI11, hx11]; exact E.out.cellG S6.out hsj.out (i := jp + 1) (by omega) m os
                              have d11 : ∀ m os, (grow (wr.drewN m) os).cell? ⟨b, J11, none⟩ = some (.string (str y11)) := fun m os => by rw [hJ11, hy11]; exact E.out.cellG S6.out hsj.out (i := jp) (by omega) m os
                              have a11 := E.out.tell S6.out hsj.out x11 y11
                              have r11 : ltOf cf x11 y11 = false := by rw [hx11, hy11]; exact HL.out
                              have s11 : decide (cf x11 y11 < 0) = false := r11
                              have t11 : ¬ cf x11 y11 < 0 := by simpa using s11
                              clear r11 hx11 hy11 hI11 hJ11
                              go_wp2_with fail
                              go_quiet_grown (first | (go_at_call 27; refine a11 _ _))
                              have S7 := Lib.hid (S6.out.grown nq osq)
                              clear c11 d11 a11 u11a v11a S6
                              generalize grow (wr.drewN nq) osq = w7 at S7 ⊢
                              clear nq osq
                              go_wp2
                              go_roundw
                              case rel => first | exact ⟨t + 1, ip + 1, du, by go_num, by go_num, by omega, by omega, by omega, hsj, Lib.hid (by rw [show 5 - (t + 1) = s by omega, ← HX.out, HQ.out, HD.out, HU.out, ← HE.out]), S7⟩ | ((repeat apply Exists.intro); exact ⟨⟨t + 1, ip + 1, du, by go_num, by go_num, by omega, by omega, by omega, hsj, Lib.hid (by rw [show 5 - (t + 1) = s by omega, ← HX.out, HQ.out, HD.out, HU.out, ← HE.out]), S7⟩, rfl⟩)
                              case measure => simp [intOf]; omega
                          · have hjz1 : ¬ (j : Int) < (z : Int) := by omega
                            have HE := Lib.hid ((up_end (.inl hjz)).symm.trans HJ.out)
                            go_wp2
                            go_roundw
                            case rel => first | exact ⟨t + 1, ip + 1, du, by go_num, by go_num, by omega, by omega, by omega, hsj, Lib.hid (by rw [show 5 - (t + 1) = s by omega, ← HX.out, HQ.out, HD.out, HU.out, ← HE.out]), S6⟩ | ((repeat apply Exists.intro); exact ⟨⟨t + 1, ip + 1, du, by go_num, by go_num, by omega, by omega, by omega, hsj, Lib.hid (by rw [show 5 - (t + 1) = s by omega, ← HX.out, HQ.out, HD.out, HU.out, ← HE.out]), S6⟩, rfl⟩)
                            case measure => simp [intOf]; omega
                      · have hu1 : ¬ 2 ≤ (z : Int) - ((ip : Int) + 1) := by omega
                        have hu2 : decide (2 ≤ (z : Int) - ((ip : Int) + 1)) = false := decide_eq_false hu1
                        have HU : Hid (fixUp (ltOf cf) z (ip + 1) dj = dj) := Lib.hid (by unfold fixUp; exact if_neg (by omega))
                        go_wp2
                        go_roundw
                        case rel => first | exact ⟨t + 1, ip + 1, dj, by go_num, by go_num, by omega, by omega, by omega, hsj, Lib.hid (by rw [show 5 - (t + 1) = s by omega, ← HX.out, HQ.out, HD.out, HU.out]), S5⟩ | ((repeat apply Exists.intro); exact ⟨⟨t + 1, ip + 1, dj, by go_num, by go_num, by omega, by omega, by omega, hsj, Lib.hid (by rw [show 5 - (t + 1) = s by omega, ← HX.out, HQ.out, HD.out, HU.out]), S5⟩, rfl⟩)
                        case measure => simp [intOf]; omega
              · have hg1 : ¬ 2 ≤ (ip : Int) + 1 - (a : Int) := by omega
                have hg2 : decide (2 ≤ (ip : Int) + 1 - (a : Int)) = false := decide_eq_false hg1
                have hg3 : (ip : Int) + 1 - (a : Int) < 2 := by omega
                have HD : Hid (fixDown (ltOf cf) a (ip + 1) d2 = d2) := Lib.hid (by unfold fixDown; exact if_neg (by omega))
                by_cases hu : ip + 3 ≤ z
                · have hu1 : 2 ≤ (z : Int) - ((ip : Int) + 1) := by omega
                  have hu2 : decide (2 ≤ (z : Int) - ((ip : Int) + 1)) = true := decide_eq_true hu1
                  have HU : Hid (fixUp (ltOf cf) z (ip + 1) d2 = Sort.shiftUp (ltOf cf) z (ip + 2) d2) := Lib.hid (by unfold fixUp; exact if_pos (by omega))
                  go_wp2
                  go_loopw [12] (fun vj wr => ∃ (j : Nat) (du : Array Ky), vj = .int .i64 j ∧ ip + 2 ≤ j ∧ j ≤ z ∧ Hid (du.size = n) ∧ Hid (Sort.shiftUp (ltOf cf) z j du = Sort.shiftUp (ltOf cf) z (ip + 2) d2) ∧ Hid (SW nam w0 b 0 du wr)) (fun vj _ => z - (intOf vj).toNat)
                  case atStart => exact ⟨ip + 2, d2, by go_num, Nat.le_refl _, by omega, hs2, Lib.hid rfl, S3⟩
                  case round =>
                    clear S3
                    obtain ⟨j, du, rfl, hj1, hj2, hsj, HJ, S6⟩ := hrel
                    by_cases hjz : j < z
                    · have hjz1 : (j : Int) < (z : Int) := by omega
                      obtain ⟨jp, rfl⟩ : ∃ q, j = q + 1 := ⟨j - 1, by omega⟩
                      have hjz2 : (jp : Int) + 1 < (z : Int) := by omega
                      clear hjz1
                      cases hlv : ltOf cf du[jp + 1]! du[jp]! with
                      | true =>
                        have HL := Lib.hid hlv
                        clear hlv
                        go_wp2_with fail
                        obtain ⟨I13, hI13⟩ : ∃ q, q = jp + 1 := ⟨_, rfl⟩
                        obtain ⟨J13, hJ13⟩ : ∃ q, q = jp := ⟨_, rfl⟩
                        have u13 : ((jp : Int) + 1 : Int).toNat = I13 ∧ 0 ≤ ((jp : Int) + 1 : Int) ∧ ((jp : Int) + 1 : Int) < n ∧ IntKind.i64.wrap ((jp : Int) + 1 : Int) = (jp : Int) + 1 := ⟨by omega, by omega, by omega, by rw [IntKind.wrap_i64]; omega⟩
                        have v13 : ((jp : Int) : Int).toNat = J13 ∧ 0 ≤ ((jp : Int) : Int) ∧ ((jp : Int) : Int) < n ∧ IntKind.i64.wrap ((jp : Int) : Int) = (jp : Int) := ⟨by omega, by omega, by omega, by rw [IntKind.wrap_i64]; omega⟩
                        obtain ⟨u13a, u13b, u13c, u13d⟩ := u13
                        obtain ⟨v13a, v13b, v13c, v13d⟩ := v13

                        obtain ⟨x13, hx13⟩ : ∃ q, q = du[jp + 1]! := ⟨_, rfl⟩
                        obtain ⟨y13, hy13⟩ : ∃ q, q = du[jp]! := ⟨_, rfl⟩
                        have c13 : ∀ m os, (grow (wr.drewN m) os).cell? ⟨b, I13, none⟩ = some (.string (str x13)) := fun m os => by rw [hI13, hx13]; exact E.out.cellG S6.out hsj.out (i := jp + 1) (by omega) m os
                        have d13 : ∀ m os, (grow (wr.drewN m) os).cell? ⟨b, J13, none⟩ = some (.string (str y13)) := fun m os => by rw [hJ13, hy13]; exact E.out.cellG S6.out hsj.out (i := jp) (by omega) m os
                        have a13 := E.out.tell S6.out hsj.out x13 y13
                        have r13 : ltOf cf x13 y13 = true := by rw [hx13, hy13]; exact HL.out
                        have s13 : decide (cf x13 y13 < 0) = true := r13
                        have t13 : cf x13 y13 < 0 := by simpa using s13
                        clear r13 hx13 hy13 hI13 hJ13
                        go_wp2_with fail
                        go_quiet_grown (first | (go_at_call 27; refine a13 _ _))
                        have S7 := Lib.hid (S6.out.grown nq osq)
                        clear c13 d13 a13 u13a v13a S6
                        generalize grow (wr.drewN nq) osq = w7 at S7 ⊢
                        clear nq osq
                        go_wp2_with fail
                        obtain ⟨I15, hI15⟩ : ∃ q, q = jp + 1 := ⟨_, rfl⟩
                        obtain ⟨J15, hJ15⟩ : ∃ q, q = jp := ⟨_, rfl⟩
                        have u15 : ((jp : Int) + 1 : Int).toNat = I15 ∧ 0 ≤ ((jp : Int) + 1 : Int) ∧ ((jp : Int) + 1 : Int) < n ∧ IntKind.i64.wrap ((jp : Int) + 1 : Int) = (jp : Int) + 1 := ⟨by omega, by omega, by omega, by rw [IntKind.wrap_i64]; omega⟩
                        have v15 : ((jp : Int) : Int).toNat = J15 ∧ 0 ≤ ((jp : Int) : Int) ∧ ((jp : Int) : Int) < n ∧ IntKind.i64.wrap ((jp : Int) : Int) = (jp : Int) := ⟨by omega, by omega, by omega, by rw [IntKind.wrap_i64]; omega⟩
                        obtain ⟨u15a, u15b, u15c, u15d⟩ := u15
                        obtain ⟨v15a, v15b, v15c, v15d⟩ := v15

                        obtain ⟨x15, hx15⟩ : ∃ q, q = du[jp + 1]! := ⟨_, rfl⟩
                        obtain ⟨y15, hy15⟩ : ∃ q, q = du[jp]! := ⟨_, rfl⟩
                        have S8 : Hid (SW nam w0 b 0 (swp du (jp + 1) (jp)) ((w7.setCell ⟨b, I15, none⟩ (.string (str y15))).setCell ⟨b, J15, none⟩ (.string (str x15))).drew) := Lib.hid (by rw [hI15, hJ15, hx15, hy15]; exact E.out.swap S7.out hsj.out (i := jp + 1) (j := jp) (by omega) (by omega))
                        obtain ⟨c15, f15⟩ : w7.cell? ⟨b, I15, none⟩ = some (.string (str x15)) ∧ w7.frozen? ⟨b, I15, none⟩ = false := by rw [hI15, hx15]; exact E.out.cell S7.out hsj.out (i := jp + 1) (by omega)
                        obtain ⟨d15, g15⟩ : w7.cell? ⟨b, J15, none⟩ = some (.string (str y15)) ∧ w7.frozen? ⟨b, J15, none⟩ = false := by rw [hJ15, hy15]; exact E.out.cell S7.out hsj.out (i := jp) (by omega)
                        obtain ⟨o15, e15⟩ : ∃ u, (w7.setCell ⟨b, I15, none⟩ (.string (str y15))).cell? ⟨b, J15, none⟩ = some u := by rw [hI15, hJ15]; exact E.out.mid S7.out hsj.out (i := jp + 1) (j := jp) (by omega) (by omega) _
                        clear hx15 hy15 hI15 hJ15 S7
                        go_wp2_with fail
                        go_big_region_o
                        clear c15 d15 e15 f15 g15 u15a v15a
                        generalize ((w7.setCell ⟨b, I15, none⟩ (.string (str y15))).setCell ⟨b, J15, none⟩ (.string (str x15))).drew = w8 at S8 ⊢
                        go_wp2
                        go_roundw
                        case rel => first | exact ⟨jp + 2, swp du (jp + 1) jp, by go_num, by omega, by omega, Lib.hid ((size_swp _ _ _).trans hsj.out), Lib.hid ((up_go hjz HL.out).symm.trans HJ.out), S8⟩ | ((repeat apply Exists.intro); exact ⟨⟨jp + 2, swp du (jp + 1) jp, by go_num, by omega, by omega, Lib.hid ((size_swp _ _ _).trans hsj.out), Lib.hid ((up_go hjz HL.out).symm.trans HJ.out), S8⟩, rfl⟩)
                        case measure => simp [intOf]; omega
                      | false =>
                        have HL := Lib.hid hlv
                        clear hlv
                        have HE := Lib.hid ((up_end (.inr HL.out)).symm.trans HJ.out)
                        go_wp2_with fail
                        obtain ⟨I14, hI14⟩ : ∃ q, q = jp + 1 := ⟨_, rfl⟩
                        obtain ⟨J14, hJ14⟩ : ∃ q, q = jp := ⟨_, rfl⟩
                        have u14 : ((jp : Int) + 1 : Int).toNat = I14 ∧ 0 ≤ ((jp : Int) + 1 : Int) ∧ ((jp : Int) + 1 : Int) < n ∧ IntKind.i64.wrap ((jp : Int) + 1 : Int) = (jp : Int) + 1 := ⟨by omega, by omega, by omega, by rw [IntKind.wrap_i64]; omega⟩
                        have v14 : ((jp : Int) : Int).toNat = J14 ∧ 0 ≤ ((jp : Int) : Int) ∧ ((jp : Int) : Int) < n ∧ IntKind.i64.wrap ((jp : Int) : Int) = (jp : Int) := ⟨by omega, by omega, by omega, by rw [IntKind.wrap_i64]; omega⟩
                        obtain ⟨u14a, u14b, u14c, u14d⟩ := u14
                        obtain ⟨v14a, v14b, v14c, v14d⟩ := v14

                        obtain ⟨x14, hx14⟩ : ∃ q, q = du[jp + 1]! := ⟨_, rfl⟩
                        obtain ⟨y14, hy14⟩ : ∃ q, q = du[jp]! := ⟨_, rfl⟩
                        have c14 : ∀ m os, (grow (wr.drewN m) os).cell? ⟨b, I14, none⟩ = some (.string (str x14)) := fun m os => by rw [hI14, hx14]; exact E.out.cellG S6.out hsj.out (i := jp + 1) (by omega) m os
                        have d14 : ∀ m os, (grow (wr.drewN m) os).cell? ⟨b, J14, none⟩ = some (.string (str y14)) := fun m os => by rw [hJ14, hy14]; exact E.out.cellG S6.out hsj.out (i := jp) (by omega) m os
                        have a14 := E.out.tell S6.out hsj.out x14 y14
                        have r14 : ltOf cf x14 y14 = false := by rw [hx14, hy14]; exact HL.out
                        have s14 : decide (cf x14 y14 < 0) = false := r14
                        have t14 : ¬ cf x14 y14 < 0 := by simpa using s14
                        clear r14 hx14 hy14 hI14 hJ14
                        go_wp2_with fail
                        go_quiet_grown (first | (go_at_call 27; refine a14 _ _))
                        have S7 := Lib.hid (S6.out.grown nq osq)
                        clear c14 d14 a14 u14a v14a S6
                        generalize grow (wr.drewN nq) osq = w7 at S7 ⊢
                        clear nq osq
                        go_wp2
                        go_roundw
                        case rel => first | exact ⟨t + 1, ip + 1, du, by go_num, by go_num, by omega, by omega, by omega, hsj, Lib.hid (by rw [show 5 - (t + 1) = s by omega, ← HX.out, HQ.out, HD.out, HU.out, ← HE.out]), S7⟩ | ((repeat apply Exists.intro); exact ⟨⟨t + 1, ip + 1, du, by go_num, by go_num, by omega, by omega, by omega, hsj, Lib.hid (by rw [show 5 - (t + 1) = s by omega, ← HX.out, HQ.out, HD.out, HU.out, ← HE.out]), S7⟩, rfl⟩)
                        case measure => simp [intOf]; omega
                    · have hjz1 : ¬ (j : Int) < (z : Int) := by omega
                      have HE := Lib.hid ((up_end (.inl hjz)).symm.trans HJ.out)
                      go_wp2
                      go_roundw
                      case rel => first | exact ⟨t + 1, ip + 1, du, by go_num, by go_num, by omega, by omega, by omega, hsj, Lib.hid (by rw [show 5 - (t + 1) = s by omega, ← HX.out, HQ.out, HD.out, HU.out, ← HE.out]), S6⟩ | ((repeat apply Exists.intro); exact ⟨⟨t + 1, ip + 1, du, by go_num, by go_num, by omega, by omega, by omega, hsj, Lib.hid (by rw [show 5 - (t + 1) = s by omega, ← HX.out, HQ.out, HD.out, HU.out, ← HE.out]), S6⟩, rfl⟩)
                      case measure => simp [intOf]; omega
                · have hu1 : ¬ 2 ≤ (z : Int) - ((ip : Int) + 1) := by omega
                  have hu2 : decide (2 ≤ (z : Int) - ((ip : Int) + 1)) = false := decide_eq_false hu1
                  have HU : Hid (fixUp (ltOf cf) z (ip + 1) d2 = d2) := Lib.hid (by unfold fixUp; exact if_neg (by omega))
                  go_wp2
                  go_roundw
                  case rel => first | exact ⟨t + 1, ip + 1, d2, by go_num, by go_num, by omega, by omega, by omega, hs2, Lib.hid (by rw [show 5 - (t + 1) = s by omega, ← HX.out, HQ.out, HD.out, HU.out]), S3⟩ | ((repeat apply Exists.intro); exact ⟨⟨t + 1, ip + 1, d2, by go_num, by go_num, by omega, by omega, by omega, hs2, Lib.hid (by rw [show 5 - (t + 1) = s by omega, ← HX.out, HQ.out, HD.out, HU.out]), S3⟩, rfl⟩)
                  case measure => simp [intOf]; omega
        · have hl1 : decide ((ip : Int) + 1 < (z : Int)) = false := decide_eq_false (by omega)
          have hl2 : ¬ (ip : Int) + 1 < (z : Int) := by omega
          have hne : ((ip : Int) + 1 == (z : Int)) = true := by rw [beq_iff_eq]; omega
          have HN := Lib.hid (HQ0.out.trans (by rw [← HC.out, scan_end (.inl hlt), if_pos (by omega)]))
          go_wp2_with fail
          go_big_region_o
          have S2 := Lib.hid (S1.out.drew)
          clear S1
          generalize wr.drew = w2 at S2 ⊢
          go_wp2
          refine bodyPost_ret (by simp [results, Try.results45, go_sem]; rfl) rfl ?_
          rw [← HX.out, HN.out]
          exact ⟨rfl, S2.out⟩
    · obtain rfl : t = 5 := by omega
      go_wp2
      refine bodyPost_ret (by simp [results, Try.results45, go_sem]; rfl) rfl ?_
      rw [← HX.out]
      exact ⟨rfl, S1.out⟩

end Go.Proofs.Ytahccfljgmleiaa
