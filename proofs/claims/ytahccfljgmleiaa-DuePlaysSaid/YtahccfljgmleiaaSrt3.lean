/-
  The walk of slices.heapSortCmpFunc at names, by the table's own comparison. Conditions: as 'Env' tells; the places are not none.
-/
import Derived.Test.YtahccfljgmleiaaSrt2
namespace Go.Proofs.Ytahccfljgmleiaa
open Go.RowKit Go.Sort
set_option linter.unusedVariables false

theorem size_sift (lt : Ky → Ky → Bool) (hi F : Nat) : ∀ (m r : Nat) (d : Array Ky), hi - r ≤ m → (Sort.siftDown lt hi F r d).size = d.size
  | 0, r, d, h => by rw [sift_end lt hi F r d (by omega)]
  | m + 1, r, d, h => by
    by_cases h1 : hi ≤ 2 * r + 1
    · rw [sift_end lt hi F r d h1]
    · rw [sift_eq lt hi F r _ d rfl (by omega)]
      split
      · have hp : 2 * r + 1 ≤ pick lt hi F (2 * r + 1) d := by unfold pick; split <;> omega
        rw [size_sift lt hi F m _ _ (by omega), size_swp]
      · rfl

set_option maxHeartbeats 8000000 in
set_option maxRecDepth 100000 in
theorem heap_any {p : Value} {cf : Ky → Ky → Int} {w0 : World} {b n : Nat} (E : Env p cf w0 b n) (cap a z : Nat) (d : Array Ky) (w : World) (hs : d.size = n) (S : SW nam w0 b 0 d w) (haz : a < z) (hz : z ≤ n) :
    Calls Try.prog 41 #[.slice (some ⟨b, 0, none⟩) n cap, .int .i64 a, .int .i64 z, ofTab p] w (Sorts cf w0 b a z d) := by
  obtain ⟨h, rfl⟩ : ∃ h, z = a + h := ⟨z - a, by omega⟩
  suffices hh : Calls Try.prog 41 #[.slice (some ⟨b, 0, none⟩) n cap, .int .i64 a, .int .i64 ((a : Int) + (h : Int)), ofTab p] w fun e w' => e = .returned (.tuple #[]) ∧ SW nam w0 b 0 (Sort.heapSort (ltOf cf) d a (a + h)) w' from
    (show Calls Try.prog 41 #[.slice (some ⟨b, 0, none⟩) n cap, .int .i64 a, .int .i64 ((a + h : Nat) : Int), ofTab p] w _ from by
      rw [Int.natCast_add]
      refine hh.mono ?_
      rintro e w' ⟨rfl, h1⟩
      have h2 := heapSort_holds (lt := ltOf cf) E.weak d a (a + h) (by omega) (by omega)
      exact ⟨rfl, _, h2.1, h2.2, h1⟩)
  have mixed := follows
  have few := E.few
  have E := Lib.hid E
  have S0 := Lib.hid S
  have HS := Lib.hid hs
  have hh0 : 0 < h := by omega
  have HE : Hid (Sort.heapSort (ltOf cf) d a (a + h) = Sort.heapPop (ltOf cf) a h (Sort.heapBuild (ltOf cf) h a ((h - 1) / 2 + 1) d)) := Lib.hid (by unfold Sort.heapSort; rw [show a + h - a = h by omega])
  clear S hs haz
  have hq : ((h : Int) - 1) / 2 = (((h - 1) / 2 : Nat) : Int) := by omega
  have HQ := Lib.hid hq
  clear hq
  have zz : (a : Int) + (h : Int) - (a : Int) = (h : Int) := by omega
  unfold ofTab
  go_enter Try.func41, Try.ntmps41
  go_wp2
  go_loopw [11] (fun vi wr => ∃ (k : Nat) (iz : Int) (dk : Array Ky), vi = .int .i64 iz ∧ iz + 1 = (k : Int) ∧ k ≤ (h - 1) / 2 + 1 ∧ Hid (dk.size = n) ∧ Hid (Sort.heapBuild (ltOf cf) h a k dk = Sort.heapBuild (ltOf cf) h a ((h - 1) / 2 + 1) d) ∧ Hid (SW nam w0 b 0 dk wr)) (fun vi _ => (intOf vi + 1).toNat)
  case atStart => exact ⟨(h - 1) / 2 + 1, _, d, rfl, by omega, Nat.le_refl _, HS, Lib.hid rfl, S0⟩
  case round =>
    clear S0 HS HQ
    obtain ⟨k, iz, dk, rfl, hik, hkb, hsk, HX, S1⟩ := hrel
    cases k with
    | zero =>
      obtain rfl : iz = -1 := by omega
      clear hik
      go_wp2
      go_loopw [12] (fun vi wr => ∃ (k : Nat) (iz : Int) (dk : Array Ky), vi = .int .i64 iz ∧ iz + 1 = (k : Int) ∧ k ≤ h ∧ Hid (dk.size = n) ∧ Hid (Sort.heapPop (ltOf cf) a k dk = Sort.heapSort (ltOf cf) d a (a + h)) ∧ Hid (SW nam w0 b 0 dk wr)) (fun vi _ => (intOf vi + 1).toNat)
      case atStart => exact ⟨h, _, dk, rfl, by omega, Nat.le_refl _, hsk, Lib.hid (by rw [HE.out, ← HX.out]; rfl), S1⟩
      case round =>
        clear S1 HE HX hsk hkb
        obtain ⟨k, iz, dk, rfl, hik, hkb, hsk, HX, S1⟩ := hrel
        cases k with
        | zero =>
          obtain rfl : iz = -1 := by omega
          clear hik
          go_wp2
          go_end0
          refine ⟨rfl, ?_⟩
          rw [← HX.out]
          exact S1.out
        | succ k =>
          obtain rfl : iz = (k : Int) := by omega
          clear hik
          obtain ⟨I1, hI1⟩ : ∃ q, q = a := ⟨_, rfl⟩
          obtain ⟨J1, hJ1⟩ : ∃ q, q = a + k := ⟨_, rfl⟩
          have u1 : ((a : Int) : Int).toNat = I1 ∧ 0 ≤ ((a : Int) : Int) ∧ ((a : Int) : Int) < n ∧ IntKind.i64.wrap ((a : Int) : Int) = (a : Int) := ⟨by omega, by omega, by omega, by rw [IntKind.wrap_i64]; omega⟩
          have v1 : ((a : Int) + (k : Int) : Int).toNat = J1 ∧ 0 ≤ ((a : Int) + (k : Int) : Int) ∧ ((a : Int) + (k : Int) : Int) < n ∧ IntKind.i64.wrap ((a : Int) + (k : Int) : Int) = (a : Int) + (k : Int) := ⟨by omega, by omega, by omega, by rw [IntKind.wrap_i64]; omega⟩
          obtain ⟨u1a, u1b, u1c, u1d⟩ := u1
          obtain ⟨v1a, v1b, v1c, v1d⟩ := v1

          obtain ⟨x1, hx1⟩ : ∃ x, x = dk[a]! := ⟨_, rfl⟩
          obtain ⟨y1, hy1⟩ : ∃ x, x = dk[a + k]! := ⟨_, rfl⟩
          have S2 : Hid (SW nam w0 b 0 (swp dk (a) (a + k)) ((wr.setCell ⟨b, I1, none⟩ (.string (str y1))).setCell ⟨b, J1, none⟩ (.string (str x1))).drew) := Lib.hid (by rw [hI1, hJ1, hx1, hy1]; exact E.out.swap S1.out hsk.out (i := a) (j := a + k) (by omega) (by omega))
          obtain ⟨c1, f1⟩ : wr.cell? ⟨b, I1, none⟩ = some (.string (str x1)) ∧ wr.frozen? ⟨b, I1, none⟩ = false := by rw [hI1, hx1]; exact E.out.cell S1.out hsk.out (i := a) (by omega)
          obtain ⟨d1, g1⟩ : wr.cell? ⟨b, J1, none⟩ = some (.string (str y1)) ∧ wr.frozen? ⟨b, J1, none⟩ = false := by rw [hJ1, hy1]; exact E.out.cell S1.out hsk.out (i := a + k) (by omega)
          obtain ⟨o1, e1⟩ : ∃ u, (wr.setCell ⟨b, I1, none⟩ (.string (str y1))).cell? ⟨b, J1, none⟩ = some u := by rw [hI1, hJ1]; exact E.out.mid S1.out hsk.out (i := a) (j := a + k) (by omega) (by omega) _
          clear hx1 hy1 hI1 hJ1 S1
          go_wp2_with fail
          go_big_region_o
          clear c1 d1 e1 f1 g1 u1a v1a
          generalize ((wr.setCell ⟨b, I1, none⟩ (.string (str y1))).setCell ⟨b, J1, none⟩ (.string (str x1))).drew = w2 at S2 ⊢
          have hss : Hid ((swp dk a (a + k)).size = n) := Lib.hid ((size_swp _ _ _).trans hsk.out)
          go_wp2_with fail
          refine (sift_any E.out cap 0 k a _ _ hss.out S2.out (by omega) (by omega)).mono ?_
          rintro e w3 ⟨rfl, hS3⟩
          have S3 := Lib.hid hS3
          clear hS3
          go_wp2_with fail
          go_roundw
          case rel => exact ⟨k, _, Sort.siftDown (ltOf cf) k a 0 (swp dk a (a + k)), rfl, by omega, by omega, Lib.hid ((size_sift _ _ _ _ _ _ (Nat.le_refl _)).trans hss.out), Lib.hid (HX.out), S3⟩
          case measure => simp [intOf]
    | succ k =>
      obtain rfl : iz = (k : Int) := by omega
      clear hik
      go_wp2_with fail
      refine (sift_any E.out cap k h a dk _ hsk.out S1.out (by omega) (by omega)).mono ?_
      rintro e w3 ⟨rfl, hS3⟩
      have S3 := Lib.hid hS3
      clear hS3
      go_wp2_with fail
      go_roundw
      case rel => exact ⟨k, _, Sort.siftDown (ltOf cf) h a k dk, rfl, by omega, by omega, Lib.hid ((size_sift _ _ _ _ _ _ (Nat.le_refl _)).trans hsk.out), Lib.hid (HX.out), S3⟩
      case measure => simp [intOf]

end Go.Proofs.Ytahccfljgmleiaa
