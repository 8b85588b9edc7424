/-
  The contract of same: true, where both tables stand for one list of timers. Conditions: as stated.
-/
import Derived.Test.YtahccfljgmleiaaRfa
import Derived.Test.YtahccfljgmleiaaNms
namespace Go.Proofs.Ytahccfljgmleiaa
open Go.RowKit Go.Shelf Go.Maps
attribute [local go_sem] Oper.semAt_some
set_option linter.unusedVariables false

set_option maxRecDepth 100000 in
set_option maxHeartbeats 4000000 in
theorem same_any (tb bm rb : Nat) (L : List En) (w : World) (hD : Du w tb bm L) (hR : Rf w rb L) :
    Calls Try.prog 17 #[.pointer (some ⟨tb, 0, none⟩), .pointer (some ⟨rb, 0, none⟩)] w fun e w' => e = .returned (.bool true) ∧ Below w.heap.size w w' := by
  have HN := Lib.hid (names_any tb bm L w hD)
  have HD := Lib.hid hD
  have HRf := Lib.hid hR
  have hfew := hD.tbl.few
  clear hD hR
  go_enter Try.func17, Try.ntmps17
  go_wp2_with fail
  refine HN.out.mono ?_
  rintro e w1 ⟨v, rfl, hN, hb⟩
  obtain ⟨A, c, rfl, hlc, hne⟩ := hN
  have HD1 := Lib.hid (HD.out.after hb)
  have hR1 := HRf.out.kept (.below hb)
  obtain ⟨A2, c2, c0, h2c, h2m, hRow⟩ := hR1.look
  have HB := Lib.hid hb
  have HNE := Lib.hid hne
  have HROW := Lib.hid hRow
  have HR1 := Lib.hid hR1
  clear hb hne hRow hR1 HRf HN HD
  have hnl : (namesL L).length = L.length := by simp [namesL]
  obtain ⟨n, hn⟩ : ∃ n, n = L.length := ⟨_, rfl⟩
  rw [hnl, ← hn] at hlc ⊢
  rw [← hn] at c0 h2c hfew
  have HL := Lib.hid hn
  clear hn hnl
  unfold maxLen at h2m
  have l0 : ((n : Int) != (n : Int)) = false := by simp
  go_wp2_with fail
  go_loopw [6] (fun i wr => ∃ k q : Nat, k ≤ n ∧ i = .int .i64 k ∧ wr = w1.drewN q) (fun i _ => n - (intOf i).toNat)
  case atStart => exact ⟨0, 0, by omega, rfl, rfl⟩
  case round =>
    obtain ⟨k, q, hk, rfl, rfl⟩ := hrel
    by_cases hkn : k < n
    · obtain ⟨e, he⟩ : ∃ e, L[k]? = some e := ⟨_, List.getElem?_eq_getElem (by have := HL.out; omega)⟩
      obtain ⟨b, off, rfl, d0, d1⟩ := HROW.out.at he
      obtain ⟨g, rfl, hg1, hg2, hg3⟩ := HNE.out (by
        intro h2
        have h3 : (namesL L).length = 0 := by rw [h2]; rfl
        rw [show (namesL L).length = L.length from by simp [namesL]] at h3
        have := HL.out
        omega)
      have d3 := hg3 k e.1 (by unfold namesL; rw [List.getElem?_map, he]; rfl)
      have hm : (e.1, e.2) ∈ L := List.mem_of_getElem? he
      have hat := at_any tb bm L e.1 (w1.drewN q) (HD1.out.kept rfl rfl)
      rw [timeOf_mem HD1.out.tbl hm, inL_iff.2 ⟨_, hm⟩] at hat
      have HAT := Lib.hid hat
      have l1 : (k : Int) < (n : Int) := by omega
      clear hat hm hg1 hg2 hg3 he
      go_wp2_with fail
      refine HAT.out.mono ?_
      rintro e9 w9 ⟨rfl, rfl⟩
      go_wp2
      go_quiet (fail)
      go_wp2
      go_roundw
      case rel => exact ⟨k + 1, _, by omega, by go_num, rfl⟩
      case measure => simp [intOf]; omega
    · obtain rfl : k = n := by omega
      have HNX := Lib.hid (next_any' tb bm L (w1.drewN q) (HD1.out.kept rfl rfl))
      have l1 : ¬ (k : Int) < (k : Int) := by omega
      go_wp2_with fail
      refine HNX.out.mono ?_
      rintro e9 w2 ⟨rfl, hb2⟩
      have hb3 : Below w1.heap.size w1 w2 := (below_drewN' (Below.refl _ w1) q).trans hb2
      have hR2 := HR1.out.kept (.below hb3)
      obtain ⟨A3, c3, c4, h3c, h3m, hRow3⟩ := hR2.look
      have HEND : Hid (Below w.heap.size w w2) := Lib.hid (HB.out.trans (hb3.mono HB.out.size))
      rw [← HL.out] at c4 h3c
      have HROW3 := Lib.hid hRow3
      have HL2 := HL.out
      clear hb2 hb3 hR2 hRow3 HROW HNE HR1 HD1 HB HNX HL
      cases L with
      | nil =>
        simp only [List.length_nil] at HL2
        subst HL2
        rw [show firstOf [] = (⟨[], Nat.zero_le _⟩, 0, false) from rfl]
        have HQ : Hid ((str ⟨[], Nat.zero_le _⟩).toList.isEmpty = true) := Lib.hid (by rw [str_list]; rfl)
        have hq : ((str ⟨[], Nat.zero_le _⟩).toList = []) = True := eq_true (str_list _)
        go_wp2
        go_ret
        exact ⟨congrArg (fun b => Ending.returned (.bool b)) HQ.out, HEND.out⟩
      | cons e M =>
        rw [show firstOf (e :: M) = (e.1, e.2, true) from rfl]
        obtain ⟨b, off, rfl, d0, d1⟩ := HROW3.out.at (k := 0) rfl
        simp only [Nat.zero_mul, Nat.add_zero] at d0 d1
        have l3 : ((k : Int) == 0) = false := by
          rw [beq_eq_false_iff_ne]
          simp only [List.length_cons] at HL2
          omega
        have l4 : (0 : Int) < (k : Int) := by simp only [List.length_cons] at HL2; omega
        clear HL2
        go_wp2
        go_ret
        exact ⟨rfl, HEND.out⟩
end Go.Proofs.Ytahccfljgmleiaa
