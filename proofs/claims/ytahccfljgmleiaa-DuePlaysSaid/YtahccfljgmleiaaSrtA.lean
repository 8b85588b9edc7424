/-
  The walk of slices.pdqsortCmpFunc and SortFunc at names, by the table's own comparison: the row is sorted. Conditions: as 'Env' tells.
-/
import Derived.Test.YtahccfljgmleiaaSrt3
import Derived.Test.YtahccfljgmleiaaSrt5
import Derived.Test.YtahccfljgmleiaaSrt6
import Derived.Test.YtahccfljgmleiaaSrt7
import Derived.Test.YtahccfljgmleiaaSrt8
import Derived.Test.YtahccfljgmleiaaSrt9
import Derived.Deep.CutRange
namespace Go.Proofs.Ytahccfljgmleiaa
open Go.RowKit Go.Sort
set_option linter.unusedVariables false

/-- whatever sorts the places from a' to z' of dk sorts those from a to z of d -/
def Fins (lt : Ky → Ky → Bool) (a z a' z' : Nat) (d dk : Array Ky) : Prop := ∀ d', PermIn a' z' dk d' → SortedIn lt a' z' d' → PermIn a z d d' ∧ SortedIn lt a z d'
theorem Fins.perm {lt : Ky → Ky → Bool} {a z a' z' : Nat} {d dk d1 : Array Ky} (h : Fins lt a z a' z' d dk) (p : PermIn a' z' dk d1) : Fins lt a z a' z' d d1 :=
  fun d' q1 q2 => h d' (permIn_trans _ _ _ _ _ p q1) q2

set_option maxHeartbeats 64000000 in
set_option maxRecDepth 100000 in
theorem pdq_any {p : Value} {cf : Ky → Ky → Int} {w0 : World} {b n : Nat} (E : Env p cf w0 b n) (cap : Nat) : ∀ (m a z l : Nat) (d : Array Ky) (w : World), d.size = n → SW nam w0 b 0 d w → a ≤ z → z ≤ n → z - a ≤ m → l ≤ 1000 → Sort.Below (ltOf cf) a z d →
    Calls Try.prog 36 #[.slice (some ⟨b, 0, none⟩) n cap, .int .i64 a, .int .i64 z, .int .i64 l, ofTab p] w (Sorts cf w0 b a z d) := by
  intro m
  induction m with
  | zero =>
    intro a z l d w hs S haz hz hm hl hB
    obtain rfl : a = z := by omega
    have few := E.few
    have E := Lib.hid E
    have S0 := Lib.hid S
    have HS := Lib.hid hs
    clear S hs hB
    have mixed := follows
    unfold ofTab
    go_enter Try.func36, Try.ntmps36
    go_wp2_with fail
    go_loopw [1, 2] (fun va vz wr => va = .int .i64 a ∧ vz = .int .i64 a ∧ Hid (SW nam w0 b 0 d wr)) (fun _ _ _ => 0)
    case atStart => exact ⟨rfl, rfl, S0⟩
    case round =>
      clear S0
      obtain ⟨rfl, rfl, S0⟩ := hrel
      go_wp2_with fail
      refine (insertion_any E.out cap a a d _ HS.out S0.out (Nat.le_refl _) hz).mono ?_
      rintro e w1 ⟨rfl, h1⟩
      have H1 := Lib.hid h1
      clear h1
      go_wp2
      refine bodyPost_ret (results_none rfl _ _ _) rfl ?_
      exact ⟨rfl, H1.out⟩
  | succ m ih =>
    intro a z l d w hs S haz hz hm hl hB
    have IH := Lib.hid ih
    have few := E.few
    have E := Lib.hid E
    have S0 := Lib.hid S
    have HS := Lib.hid hs
    have HB := Lib.hid hB
    clear S hs hB ih
    have mixed := follows
    unfold ofTab
    go_enter Try.func36, Try.ntmps36
    go_wp2_with fail
    go_loopw [1, 2, 3, 10, 11] (fun va vz vl vb vp wr => ∃ (a' z' l' : Nat) (wb wp : Bool) (dk : Array Ky), va = .int .i64 a' ∧ vz = .int .i64 z' ∧ vl = .int .i64 l' ∧ vb = .bool wb ∧ vp = .bool wp ∧ a ≤ a' ∧ a' ≤ z' ∧ z' ≤ z ∧ l' ≤ 1000 ∧
      Hid (dk.size = n) ∧ Hid (Sort.Below (ltOf cf) a' z' dk) ∧ Hid (Fins (ltOf cf) a z a' z' d dk) ∧ Hid (SW nam w0 b 0 dk wr)) (fun va vz _ _ _ _ => (intOf vz - intOf va).toNat)
    case atStart => exact ⟨a, z, l, true, true, d, rfl, rfl, rfl, rfl, rfl, Nat.le_refl _, haz, Nat.le_refl _, hl, HS, HB, Lib.hid (fun d' q1 q2 => ⟨q1, q2⟩), S0⟩
    case round =>
      clear S0 HS HB
      obtain ⟨a', z', l', wb, wp, dk, rfl, rfl, rfl, rfl, rfl, haa, haz', hzz, hl', hsk, HB, HF, S1⟩ := hrel
      by_cases h12 : z' - a' ≤ 12
      · have h12z : (z' : Int) - (a' : Int) ≤ 12 := by omega
        go_wp2_with fail
        refine (insertion_any E.out cap a' z' dk _ hsk.out S1.out haz' (by omega)).mono ?_
        rintro e w1 ⟨rfl, d', q1, q2, hS⟩
        have H1 := Lib.hid (And.intro (HF.out d' q1 q2) hS)
        clear q1 q2 hS
        go_wp2
        refine bodyPost_ret (results_none rfl _ _ _) rfl ?_
        exact ⟨rfl, d', H1.out.1.1, H1.out.1.2, H1.out.2⟩
      · have h12z : ¬ (z' : Int) - (a' : Int) ≤ 12 := by omega
        by_cases hl0 : l' = 0
        · have hl0z : ((l' : Int) == 0) = true := by rw [beq_iff_eq]; omega
          go_wp2_with fail
          refine (heap_any E.out cap a' z' dk _ hsk.out S1.out (by omega) (by omega)).mono ?_
          rintro e w1 ⟨rfl, d', q1, q2, hS⟩
          have H1 := Lib.hid (And.intro (HF.out d' q1 q2) hS)
          clear q1 q2 hS
          go_wp2
          refine bodyPost_ret (results_none rfl _ _ _) rfl ?_
          exact ⟨rfl, d', H1.out.1.1, H1.out.1.2, H1.out.2⟩
        · have hl0z : ((l' : Int) == 0) = false := by rw [beq_eq_false_iff_ne]; omega
          have hl1 : 1 ≤ (l' : Int) := by omega
          go_upto_if 39 with (fail)
          go_cut [3] from 21 to 147 (fun vl w' => ∃ (l2 : Nat) (d1 : Array Ky), vl = .int .i64 l2 ∧ l2 ≤ 1000 ∧ Hid (PermIn a' z' dk d1) ∧ Hid (SW nam w0 b 0 d1 w'))
          case first =>
            cases wb with
            | true =>
              go_wp2_with fail
              go_meet
              exact ⟨l', dk, rfl, hl', Lib.hid (permIn_refl _ _ _), S1⟩
            | false =>
              go_wp2_with fail
              refine (break_any E.out cap a' z' dk _ hsk.out S1.out (by omega) (by omega)).mono ?_
              rintro e w1 ⟨rfl, d1, q1, hS⟩
              have H1 := Lib.hid (And.intro q1 hS)
              clear q1 hS
              go_wp2_with fail
              go_meet
              exact ⟨l' - 1, d1, by go_num, by omega, Lib.hid H1.out.1, Lib.hid H1.out.2⟩
          case rest =>
            clear S1
            obtain ⟨l2, d1, rfl, hl2, P1, S1⟩ := hcut
            have hs1 : Hid (d1.size = n) := Lib.hid (P1.out.1.trans hsk.out)
            go_wp2_with fail
            refine (pivot_any E.out cap a' z' d1 _ hs1.out S1.out (by omega) (by omega)).mono ?_
            rintro e w2 ⟨x0, h0, rfl, hx1, hx2, hS⟩
            have S2 := Lib.hid hS
            clear hS S1
            go_upto_if 56 with (fail)
            go_cut [13, 14] from 21 to 147 (fun vx vh w' => ∃ (x : Nat) (h : Int) (d2 : Array Ky), vx = .int .i64 x ∧ vh = .int .i64 h ∧ a' ≤ x ∧ x < z' ∧ Hid (PermIn a' z' dk d2) ∧ Hid (SW nam w0 b 0 d2 w'))
            case first =>
              by_cases hh : h0 = 2
              · have hh1 : (h0 == 2) = true := by rw [beq_iff_eq]; exact hh
                clear hh
                go_wp2_with fail
                refine (reverse_any E.out cap a' z' d1 _ hs1.out S2.out (by omega) (by omega)).mono ?_
                rintro e w3 ⟨rfl, d2, q1, hS⟩
                have H1 := Lib.hid (And.intro q1 hS)
                clear q1 hS
                go_wp2_with fail
                go_meet
                exact ⟨(z' - 1) - (x0 - a'), 1, d2, by first | rfl | go_num | (congr 1; omega), rfl, by omega, by omega, Lib.hid (permIn_trans _ _ _ _ _ P1.out H1.out.1), Lib.hid H1.out.2⟩
              · have hh1 : (h0 == 2) = false := by rw [beq_eq_false_iff_ne]; exact hh
                clear hh
                go_wp2_with fail
                go_meet
                exact ⟨x0, h0, d1, rfl, rfl, hx1, hx2, P1, S2⟩
            case rest =>
              clear S2 hx1 hx2 P1 hs1
              obtain ⟨x, h, d2, rfl, rfl, hx1, hx2, P2, S3⟩ := hcut
              have hs2 : Hid (d2.size = n) := Lib.hid (P2.out.1.trans hsk.out)
              have HB2 := Lib.hid (HB.out.perm (by rw [hsk.out]; omega) P2.out)
              have HF2 : Hid (Fins (ltOf cf) a z a' z' d d2) := Lib.hid (HF.out.perm P2.out)
              clear HB HF P2
              go_upto_region 15 with (fail)
              go_cut [75] from 21 to 147 (fun v w' => ∃ (t : Bool), v = .bool t ∧ Hid (SW nam w0 b 0 d2 w'))
              case first =>
                cases hh : (h == 1) <;> cases wb <;> cases wp <;> go_wp2_with fail
                all_goals
                  go_meet
                  exact ⟨_, rfl, S3⟩
              case rest =>
              clear S3
              obtain ⟨t0, rfl, S3⟩ := hcut
              go_upto_if 75 with (fail)
              go_cut [14] from 21 to 147 (fun vh w' => ∃ (d3 : Array Ky), Hid (PermIn a' z' d2 d3) ∧ Hid (SW nam w0 b 0 d3 w'))
              case first =>
                have hpi := partialInsertionSort_holds (lt := ltOf cf) E.out.weak d2 a' z' (by omega) (by rw [hs2.out]; omega) HB2.out
                obtain ⟨⟨d3, t⟩, hr⟩ : ∃ r, r = Sort.partialInsertionSort (ltOf cf) d2 a' z' := ⟨_, rfl⟩
                rw [← hr] at hpi
                have HPI := Lib.hid hpi
                have HR := Lib.hid hr
                clear hpi hr
                cases t0 with
                | false =>
                  go_wp2_with fail
                  go_meet
                  exact ⟨d2, Lib.hid (permIn_refl _ _ _), S3⟩
                | true =>
                  go_wp2_with fail
                  refine (partial_any E.out cap a' z' d2 _ hs2.out S3.out (by omega) (by omega)).mono ?_
                  rw [← HR.out]
                  rintro e w4 ⟨rfl, hS⟩
                  have S4 := Lib.hid hS
                  clear hS
                  cases t with
                  | true =>
                    go_wp2_with fail
                    refine bodyPost_ret (results_none rfl _ _ _) rfl ?_
                    exact ⟨rfl, d3, (HF2.out d3 HPI.out.1 (HPI.out.2 trivial)).1, (HF2.out d3 HPI.out.1 (HPI.out.2 trivial)).2, S4.out⟩
                  | false =>
                    go_wp2_with fail
                    go_meet
                    exact ⟨d3, Lib.hid HPI.out.1, S4⟩
              case rest =>
                clear S3
                obtain ⟨d3, P3, S4⟩ := hcut
                have hs3 : Hid (d3.size = n) := Lib.hid (P3.out.1.trans hs2.out)
                have HB3 := Lib.hid (HB2.out.perm (by rw [hs2.out]; omega) P3.out)
                have HF3 : Hid (Fins (ltOf cf) a z a' z' d d3) := Lib.hid (HF2.out.perm P3.out)
                clear HB2 HF2 P3 hs2
                by_cases ha0 : 0 < a'
                · have hg1 : decide ((a' : Int) > 0) = true := decide_eq_true (by omega)
                  have hg2 : (0 : Int) < (a' : Int) := by omega
                  have hg3 : 1 ≤ (a' : Int) := by omega
                  cases hlv : ltOf cf d3[a' - 1]! d3[x]! with
                  | true =>
                    have HL := Lib.hid hlv
                    clear hlv
                    go_wp2_with fail
                    obtain ⟨I1, hI1⟩ : ∃ q, q = a' - 1 := ⟨_, rfl⟩
                    obtain ⟨J1, hJ1⟩ : ∃ q, q = x := ⟨_, rfl⟩
                    have u1 : ((a' : Int) - 1 : Int).toNat = I1 ∧ 0 ≤ ((a' : Int) - 1 : Int) ∧ ((a' : Int) - 1 : Int) < n ∧ IntKind.i64.wrap ((a' : Int) - 1 : Int) = (a' : Int) - 1 := ⟨by omega, by omega, by omega, by rw [IntKind.wrap_i64]; omega⟩
                    have v1 : ((x : Int) : Int).toNat = J1 ∧ 0 ≤ ((x : Int) : Int) ∧ ((x : Int) : Int) < n ∧ IntKind.i64.wrap ((x : Int) : Int) = (x : Int) := ⟨by omega, by omega, by omega, by rw [IntKind.wrap_i64]; omega⟩
                    obtain ⟨u1a, u1b, u1c, u1d⟩ := u1
                    obtain ⟨v1a, v1b, v1c, v1d⟩ := v1

                    obtain ⟨x1, hx1⟩ : ∃ q, q = d3[a' - 1]! := ⟨_, rfl⟩
                    obtain ⟨y1, hy1⟩ : ∃ q, q = d3[x]! := ⟨_, rfl⟩
                    have c1 : ∀ m os, (grow (wc.drewN m) os).cell? ⟨b, I1, none⟩ = some (.string (str x1)) := fun m os => by rw [hI1, hx1]; exact E.out.cellG S4.out hs3.out (i := a' - 1) (by omega) m os
                    have d1 : ∀ m os, (grow (wc.drewN m) os).cell? ⟨b, J1, none⟩ = some (.string (str y1)) := fun m os => by rw [hJ1, hy1]; exact E.out.cellG S4.out hs3.out (i := x) (by omega) m os
                    have a1 := E.out.tell S4.out hs3.out x1 y1
                    have r1 : ltOf cf x1 y1 = true := by rw [hx1, hy1]; exact HL.out
                    have s1 : decide (cf x1 y1 < 0) = true := r1
                    have t1 : cf x1 y1 < 0 := by simpa using s1
                    clear r1 hx1 hy1 hI1 hJ1
                    go_wp2_with fail
                    go_quiet_grown (first | (go_at_call 27; refine a1 _ _))
                    have S5 := Lib.hid (S4.out.grown nq osq)
                    clear c1 d1 a1 u1a v1a S4
                    generalize grow (wc.drewN nq) osq = w5 at S5 ⊢
                    clear nq osq
                    clear hg1
                    obtain ⟨⟨mid, pd, d4⟩, hx⟩ : ∃ r, r = Sort.partition (ltOf cf) d3 a' z' x := ⟨_, rfl⟩
                    have hrp := round_part (lt := ltOf cf) E.out.weak (partition_holds _) hx1 hx2 (by rw [hs3.out]; omega) HB3.out hx.symm
                    obtain ⟨g1, g2, hs4, hBa, hBr, hleft, hright⟩ := hrp
                    have HX := Lib.hid hx; have HS4 : Hid (d4.size = n) := Lib.hid (hs4.trans hs3.out); have HBA := Lib.hid hBa; have HBR := Lib.hid hBr; have HLE := Lib.hid hleft; have HRI := Lib.hid hright
                    clear hx hs4 hBa hBr hleft hright
                    go_wp2_with fail
                    refine (part_any E.out cap a' z' x d3 _ hs3.out S5.out hx1 hx2 (by omega)).mono ?_
                    rw [← HX.out]
                    rintro e w6 ⟨rfl, hS6⟩
                    have S6 : Hid (SW nam w0 b 0 d4 w6) := Lib.hid hS6
                    clear hS6 S5
                    by_cases hlr : mid - a' < z' - mid
                    · have hl1 : (mid : Int) - (a' : Int) < (z' : Int) - (mid : Int) := by omega
                      go_wp2_with fail
                      refine (IH.out a' mid l2 d4 _ HS4.out S6.out (by omega) (by omega) (by omega) (by omega) HBA.out).mono ?_
                      rintro e w7 ⟨rfl, d5, hp5, hs5, hS7⟩
                      obtain ⟨hB5, hf5⟩ := HLE.out d5 hp5 hs5
                      have S7 := Lib.hid hS7
                      have HS5 : Hid (d5.size = n) := Lib.hid (hp5.1.trans HS4.out)
                      have HB5 := Lib.hid hB5
                      have HF5 := Lib.hid hf5
                      clear hp5 hs5 hS7 hB5 hf5
                      go_wp2_with fail
                      go_roundw
                      case rel => first | exact ⟨mid + 1, z', l2, _, pd, d5, by go_num, rfl, rfl, rfl, rfl, by omega, by omega, by omega, by omega, HS5, HB5, Lib.hid (fun d' q1 q2 => HF3.out d' (HF5.out d' q1 q2).1 (HF5.out d' q1 q2).2), S7⟩ | ((repeat apply Exists.intro); exact ⟨⟨mid + 1, z', l2, _, pd, d5, by go_num, rfl, rfl, rfl, rfl, by omega, by omega, by omega, by omega, HS5, HB5, Lib.hid (fun d' q1 q2 => HF3.out d' (HF5.out d' q1 q2).1 (HF5.out d' q1 q2).2), S7⟩, rfl⟩)
                      case measure => simp [intOf]; omega
                    · have hl1 : ¬ (mid : Int) - (a' : Int) < (z' : Int) - (mid : Int) := by omega
                      go_wp2_with fail
                      have hIH := IH.out (mid + 1) z' l2 d4 w6 HS4.out S6.out (by omega) (by omega) (by omega) (by omega) HBR.out
                      rw [Int.natCast_add] at hIH
                      refine hIH.mono ?_
                      clear hIH
                      rintro e w7 ⟨rfl, d5, hp5, hs5, hS7⟩
                      obtain ⟨hB5, hf5⟩ := HRI.out d5 hp5 hs5
                      have S7 := Lib.hid hS7
                      have HS5 : Hid (d5.size = n) := Lib.hid (hp5.1.trans HS4.out)
                      have HB5 := Lib.hid hB5
                      have HF5 := Lib.hid hf5
                      clear hp5 hs5 hS7 hB5 hf5
                      go_wp2_with fail
                      go_roundw
                      case rel => first | exact ⟨a', mid, l2, _, pd, d5, rfl, rfl, rfl, rfl, rfl, by omega, by omega, by omega, by omega, HS5, HB5, Lib.hid (fun d' q1 q2 => HF3.out d' (HF5.out d' q1 q2).1 (HF5.out d' q1 q2).2), S7⟩ | ((repeat apply Exists.intro); exact ⟨⟨a', mid, l2, _, pd, d5, rfl, rfl, rfl, rfl, rfl, by omega, by omega, by omega, by omega, HS5, HB5, Lib.hid (fun d' q1 q2 => HF3.out d' (HF5.out d' q1 q2).1 (HF5.out d' q1 q2).2), S7⟩, rfl⟩)
                      case measure => simp [intOf]; omega
                  | false =>
                    have HL := Lib.hid hlv
                    clear hlv
                    go_wp2_with fail
                    obtain ⟨I2, hI2⟩ : ∃ q, q = a' - 1 := ⟨_, rfl⟩
                    obtain ⟨J2, hJ2⟩ : ∃ q, q = x := ⟨_, rfl⟩
                    have u2 : ((a' : Int) - 1 : Int).toNat = I2 ∧ 0 ≤ ((a' : Int) - 1 : Int) ∧ ((a' : Int) - 1 : Int) < n ∧ IntKind.i64.wrap ((a' : Int) - 1 : Int) = (a' : Int) - 1 := ⟨by omega, by omega, by omega, by rw [IntKind.wrap_i64]; omega⟩
                    have v2 : ((x : Int) : Int).toNat = J2 ∧ 0 ≤ ((x : Int) : Int) ∧ ((x : Int) : Int) < n ∧ IntKind.i64.wrap ((x : Int) : Int) = (x : Int) := ⟨by omega, by omega, by omega, by rw [IntKind.wrap_i64]; omega⟩
                    obtain ⟨u2a, u2b, u2c, u2d⟩ := u2
                    obtain ⟨v2a, v2b, v2c, v2d⟩ := v2

                    obtain ⟨x2, hx2⟩ : ∃ q, q = d3[a' - 1]! := ⟨_, rfl⟩
                    obtain ⟨y2, hy2⟩ : ∃ q, q = d3[x]! := ⟨_, rfl⟩
                    have c2 : ∀ m os, (grow (wc.drewN m) os).cell? ⟨b, I2, none⟩ = some (.string (str x2)) := fun m os => by rw [hI2, hx2]; exact E.out.cellG S4.out hs3.out (i := a' - 1) (by omega) m os
                    have d2 : ∀ m os, (grow (wc.drewN m) os).cell? ⟨b, J2, none⟩ = some (.string (str y2)) := fun m os => by rw [hJ2, hy2]; exact E.out.cellG S4.out hs3.out (i := x) (by omega) m os
                    have a2 := E.out.tell S4.out hs3.out x2 y2
                    have r2 : ltOf cf x2 y2 = false := by rw [hx2, hy2]; exact HL.out
                    have s2 : decide (cf x2 y2 < 0) = false := r2
                    have t2 : ¬ cf x2 y2 < 0 := by simpa using s2
                    clear r2 hx2 hy2 hI2 hJ2
                    go_wp2_with fail
                    go_quiet_grown (first | (go_at_call 27; refine a2 _ _))
                    have S5 := Lib.hid (S4.out.grown nq osq)
                    clear c2 d2 a2 u2a v2a S4
                    generalize grow (wc.drewN nq) osq = w5 at S5 ⊢
                    clear nq osq
                    clear hg1
                    obtain ⟨⟨mid, d4⟩, hx⟩ : ∃ r, r = Sort.partitionEqual (ltOf cf) d3 a' z' x := ⟨_, rfl⟩
                    have hre := round_eq (lt := ltOf cf) E.out.weak (partitionEqual_holds _) ha0 hx1 hx2 (by rw [hs3.out]; omega) HB3.out HL.out hx.symm
                    obtain ⟨g1, g2, hs4, hB4, hf4⟩ := hre
                    have HX := Lib.hid hx; have HS4 : Hid (d4.size = n) := Lib.hid (hs4.trans hs3.out); have HB4 := Lib.hid hB4; have HF4 := Lib.hid hf4
                    clear hx hs4 hB4 hf4
                    go_wp2_with fail
                    refine (parteq_any E.out cap a' z' x d3 _ hs3.out S5.out hx1 hx2 (by omega)).mono ?_
                    rw [← HX.out]
                    rintro e w6 ⟨rfl, hS6⟩
                    have S6 : Hid (SW nam w0 b 0 d4 w6) := Lib.hid hS6
                    clear hS6 S5
                    go_wp2_with fail
                    go_roundw
                    case rel => first | exact ⟨mid, z', l2, wb, wp, d4, rfl, rfl, rfl, rfl, rfl, by omega, by omega, by omega, by omega, HS4, HB4, Lib.hid (fun d' q1 q2 => HF3.out d' (HF4.out d' q1 q2).1 (HF4.out d' q1 q2).2), S6⟩ | ((repeat apply Exists.intro); exact ⟨⟨mid, z', l2, wb, wp, d4, rfl, rfl, rfl, rfl, rfl, by omega, by omega, by omega, by omega, HS4, HB4, Lib.hid (fun d' q1 q2 => HF3.out d' (HF4.out d' q1 q2).1 (HF4.out d' q1 q2).2), S6⟩, rfl⟩)
                    case measure => simp [intOf]; omega
                · have hg1 : decide ((a' : Int) > 0) = false := decide_eq_false (by omega)
                  have hg2 : ¬ (0 : Int) < (a' : Int) := by omega
                  go_wp2_with fail
                  go_big_region_o
                  have S5 := Lib.hid (S4.out.drew)
                  clear S4 hg1
                  generalize wc.drew = w5 at S5 ⊢
                  obtain ⟨⟨mid, pd, d4⟩, hx⟩ : ∃ r, r = Sort.partition (ltOf cf) d3 a' z' x := ⟨_, rfl⟩
                  have hrp := round_part (lt := ltOf cf) E.out.weak (partition_holds _) hx1 hx2 (by rw [hs3.out]; omega) HB3.out hx.symm
                  obtain ⟨g1, g2, hs4, hBa, hBr, hleft, hright⟩ := hrp
                  have HX := Lib.hid hx; have HS4 : Hid (d4.size = n) := Lib.hid (hs4.trans hs3.out); have HBA := Lib.hid hBa; have HBR := Lib.hid hBr; have HLE := Lib.hid hleft; have HRI := Lib.hid hright
                  clear hx hs4 hBa hBr hleft hright
                  go_wp2_with fail
                  refine (part_any E.out cap a' z' x d3 _ hs3.out S5.out hx1 hx2 (by omega)).mono ?_
                  rw [← HX.out]
                  rintro e w6 ⟨rfl, hS6⟩
                  have S6 : Hid (SW nam w0 b 0 d4 w6) := Lib.hid hS6
                  clear hS6 S5
                  by_cases hlr : mid - a' < z' - mid
                  · have hl1 : (mid : Int) - (a' : Int) < (z' : Int) - (mid : Int) := by omega
                    go_wp2_with fail
                    refine (IH.out a' mid l2 d4 _ HS4.out S6.out (by omega) (by omega) (by omega) (by omega) HBA.out).mono ?_
                    rintro e w7 ⟨rfl, d5, hp5, hs5, hS7⟩
                    obtain ⟨hB5, hf5⟩ := HLE.out d5 hp5 hs5
                    have S7 := Lib.hid hS7
                    have HS5 : Hid (d5.size = n) := Lib.hid (hp5.1.trans HS4.out)
                    have HB5 := Lib.hid hB5
                    have HF5 := Lib.hid hf5
                    clear hp5 hs5 hS7 hB5 hf5
                    go_wp2_with fail
                    go_roundw
                    case rel => first | exact ⟨mid + 1, z', l2, _, pd, d5, by go_num, rfl, rfl, rfl, rfl, by omega, by omega, by omega, by omega, HS5, HB5, Lib.hid (fun d' q1 q2 => HF3.out d' (HF5.out d' q1 q2).1 (HF5.out d' q1 q2).2), S7⟩ | ((repeat apply Exists.intro); exact ⟨⟨mid + 1, z', l2, _, pd, d5, by go_num, rfl, rfl, rfl, rfl, by omega, by omega, by omega, by omega, HS5, HB5, Lib.hid (fun d' q1 q2 => HF3.out d' (HF5.out d' q1 q2).1 (HF5.out d' q1 q2).2), S7⟩, rfl⟩)
                    case measure => simp [intOf]; omega
                  · have hl1 : ¬ (mid : Int) - (a' : Int) < (z' : Int) - (mid : Int) := by omega
                    go_wp2_with fail
                    have hIH := IH.out (mid + 1) z' l2 d4 w6 HS4.out S6.out (by omega) (by omega) (by omega) (by omega) HBR.out
                    rw [Int.natCast_add] at hIH
                    refine hIH.mono ?_
                    clear hIH
                    rintro e w7 ⟨rfl, d5, hp5, hs5, hS7⟩
                    obtain ⟨hB5, hf5⟩ := HRI.out d5 hp5 hs5
                    have S7 := Lib.hid hS7
                    have HS5 : Hid (d5.size = n) := Lib.hid (hp5.1.trans HS4.out)
                    have HB5 := Lib.hid hB5
                    have HF5 := Lib.hid hf5
                    clear hp5 hs5 hS7 hB5 hf5
                    go_wp2_with fail
                    go_roundw
                    case rel => first | exact ⟨a', mid, l2, _, pd, d5, rfl, rfl, rfl, rfl, rfl, by omega, by omega, by omega, by omega, HS5, HB5, Lib.hid (fun d' q1 q2 => HF3.out d' (HF5.out d' q1 q2).1 (HF5.out d' q1 q2).2), S7⟩ | ((repeat apply Exists.intro); exact ⟨⟨a', mid, l2, _, pd, d5, rfl, rfl, rfl, rfl, rfl, by omega, by omega, by omega, by omega, HS5, HB5, Lib.hid (fun d' q1 q2 => HF3.out d' (HF5.out d' q1 q2).1 (HF5.out d' q1 q2).2), S7⟩, rfl⟩)
                    case measure => simp [intOf]; omega

end Go.Proofs.Ytahccfljgmleiaa
