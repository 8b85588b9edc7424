/-
  Contracts of the document's own Place and Digits, and strconv.Itoa's at every number of a place. Conditions: as each states.
-/
import Derived.Test.YtkemkbaomhjnbaaDoorPlace
import Derived.Test.YtkemkbaomhjnbaaDoorBts
import Derived.Lib.LaidTab
import Derived.Lib.AppendIntMem
import Derived.Lib.SmallJoins
namespace Go.Proofs.YtkemkbaomhjnbaaDoor
open Go.RowKit
set_option linter.unusedVariables false

theorem itoa_all (w : World) (h : Lib.TabIs Tryd.prog w "internal/strconv.uint64pow10" .u64 Lib.pow10Tab) (n : Int) (h0 : 0 ≤ n) (h1 : n ≤ 9223372036854775807) : ItoaAt w n := fun W hW => by
  refine (Tryd.strconv_Itoa n (by omega) h1 W ((Lib.tabBelow_of_tabIs h) W hW)).mono ?_
  rintro e w' ⟨rfl, k, os, rfl⟩
  refine ⟨?_, ?_⟩
  · unfold dig Lib.itoa
    rw [if_neg (by omega)]; rfl
  · exact Lib.below_grow _ W (Nat.le_refl _) k os

set_option maxRecDepth 100000 in
set_option maxHeartbeats 2000000 in
theorem rplace_any (h p i : Int) (v : Bool) (w : World) (h0 : 0 ≤ h) (h1 : h < 4294967296) : Calls Tryd.prog 22 #[plc h p i v] w fun e w' => e = .returned (.bool (mayP h p i v)) ∧ Below w.heap.size w w' := by
  have HM := Lib.hid (fun W => rmay_any h p W h0 h1)
  unfold adr at HM
  unfold plc
  obtain ⟨T, hT⟩ : ∃ T, mayP h p i v = T := ⟨_, rfl⟩
  rw [hT]
  unfold mayP at hT
  cases hm : mayA h p with
  | false =>
    rw [hm] at HM hT
    have HT : Hid (T = false) := Lib.hid (by rw [← hT]; simp)
    clear hm hT
    go_enter Tryd.func22, Tryd.ntmps22
    go_wp2_with fail
    refine (HM.out _).mono ?_
    rintro e w1 ⟨rfl, hb1⟩
    have HB1 : Hid (Below w.heap.size w w1) := Lib.hid (((Below.refl _ _).alloc (Nat.le_refl _) _).trans (hb1.mono (by simp)))
    clear hb1
    go_wp2
    go_ret
    exact ⟨ret_b' HT.out.symm, HB1.out⟩
  | true =>
    rw [hm] at HM hT
    have HT := Lib.hid hT
    clear hm hT
    by_cases hi0 : i < 0
    · go_enter Tryd.func22, Tryd.ntmps22
      go_wp2_with fail
      refine (HM.out _).mono ?_
      rintro e w1 ⟨rfl, hb1⟩
      have HB1 : Hid (Below w.heap.size w w1) := Lib.hid (((Below.refl _ _).alloc (Nat.le_refl _) _).trans (hb1.mono (by simp)))
      have c1 : w1.cell? ⟨w.heap.size, 2, none⟩ = some (.int .i64 i) := (hb1.cell (p := ⟨w.heap.size, 2, none⟩) (by simp)).trans (by simp)
      clear hb1
      go_wp2
      go_ret
      exact ⟨ret_b' (by rw [← HT.out, decide_eq_false (show ¬ 0 ≤ i by omega)]; simp), HB1.out⟩
    · by_cases hi1 : 2147483647 < i
      · go_enter Tryd.func22, Tryd.ntmps22
        go_wp2_with fail
        refine (HM.out _).mono ?_
        rintro e w1 ⟨rfl, hb1⟩
        have HB1 : Hid (Below w.heap.size w w1) := Lib.hid (((Below.refl _ _).alloc (Nat.le_refl _) _).trans (hb1.mono (by simp)))
        have c1 : w1.cell? ⟨w.heap.size, 2, none⟩ = some (.int .i64 i) := (hb1.cell (p := ⟨w.heap.size, 2, none⟩) (by simp)).trans (by simp)
        clear hb1
        go_wp2
        go_ret
        exact ⟨ret_b' (by rw [← HT.out, decide_eq_false (show ¬ i ≤ 2147483647 by omega)]; simp), HB1.out⟩
      · have HT2 : Hid (T = !(v && decide (i = 0))) := Lib.hid (by rw [← HT.out, decide_eq_true (show 0 ≤ i by omega), decide_eq_true (show i ≤ 2147483647 by omega)]; simp)
        cases v with
        | false =>
          go_enter Tryd.func22, Tryd.ntmps22
          go_wp2_with fail
          refine (HM.out _).mono ?_
          rintro e w1 ⟨rfl, hb1⟩
          have HB1 : Hid (Below w.heap.size w w1) := Lib.hid (((Below.refl _ _).alloc (Nat.le_refl _) _).trans (hb1.mono (by simp)))
          have c1 : w1.cell? ⟨w.heap.size, 2, none⟩ = some (.int .i64 i) := (hb1.cell (p := ⟨w.heap.size, 2, none⟩) (by simp)).trans (by simp)
          have c3 : w1.cell? ⟨w.heap.size, 3, none⟩ = some (.bool false) := (hb1.cell (p := ⟨w.heap.size, 3, none⟩) (by simp)).trans (by simp)
          clear hb1
          go_wp2
          go_ret
          exact ⟨ret_b' (by rw [HT2.out]; rfl), HB1.out⟩
        | true =>
          have HD : Hid (decide (0 < i) = T) := Lib.hid (by rw [HT2.out, Bool.eq_iff_iff]; simp; omega)
          go_enter Tryd.func22, Tryd.ntmps22
          go_wp2_with fail
          refine (HM.out _).mono ?_
          rintro e w1 ⟨rfl, hb1⟩
          have HB1 : Hid (Below w.heap.size w w1) := Lib.hid (((Below.refl _ _).alloc (Nat.le_refl _) _).trans (hb1.mono (by simp)))
          have c1 : w1.cell? ⟨w.heap.size, 2, none⟩ = some (.int .i64 i) := (hb1.cell (p := ⟨w.heap.size, 2, none⟩) (by simp)).trans (by simp)
          have c3 : w1.cell? ⟨w.heap.size, 3, none⟩ = some (.bool true) := (hb1.cell (p := ⟨w.heap.size, 3, none⟩) (by simp)).trans (by simp)
          clear hb1
          go_wp2
          go_ret
          exact ⟨ret_b' HD.out, HB1.out⟩

/-- the digits ahead of the last one -/
def preD (n : Nat) : List UInt8 := if n < 10 then [] else Lib.decDigits (n / 10)
theorem dec_pre (n : Nat) : Lib.decDigits n = preD n ++ [UInt8.ofNat (48 + n % 10)] := by
  rw [Lib.decDigits, preD]
  by_cases h : n < 10
  · rw [dif_pos h, if_pos h, Nat.mod_eq_of_lt h]; rfl
  · rw [dif_neg h, if_neg h]
theorem digit_text (x : Nat) (hx : x < 256) (W : World) : (convert 25 9 (.slice (some ⟨W.heap.size, 0, none⟩) 1 1)).run Tryd.prog (W.alloc (.cells #[.int .u8 (x : Int)] 5)) = .ok (.string (st [UInt8.ofNat x])) (W.alloc (.cells #[.int .u8 (x : Int)] 5)) :=
  run_convert_bytes_back (P := Tryd.prog) (W.alloc (.cells #[.int .u8 (x : Int)] 5)) 25 9 5 ⟨W.heap.size, 0, none⟩ 1 [UInt8.ofNat x] Tryd.underlying25 Tryd.underlying5 Tryd.underlying9 (fun j hj => by
    have : j = 0 := by simp at hj; omega
    subst this
    simp [Addr.add]
    omega)
set_option maxRecDepth 100000 in
set_option maxHeartbeats 2000000 in
theorem digits_any (n : Nat) (hn : n ≤ 2147483647) (w : World) : Calls Tryd.prog 25 #[.int .i64 (n : Int)] w fun e w' => e = .returned (.string (st (Lib.decDigits n))) ∧ Below w.heap.size w w' := by
  obtain ⟨d, hd⟩ : ∃ d : Nat, n % 10 = d := ⟨_, rfl⟩
  have hd9 : d ≤ 9 := by omega
  have t1 : ((n : Int)).tmod 10 = (d : Int) := by rw [Int.tmod_eq_emod_of_nonneg (by omega)]; omega
  have k1 := fun W => digit_text (48 + d) (by omega) W
  have k2 : ((48 + d : Nat) : Int) = 48 + (d : Int) := by omega
  rw [k2] at k1
  have HD := Lib.hid hd; clear hd
  obtain ⟨u0, hu0⟩ : ∃ u, UInt8.ofNat (48 + d) = u := ⟨_, rfl⟩
  rw [hu0] at k1
  have HU0 := Lib.hid hu0; clear hu0 k2
  go_enter Tryd.func25, Tryd.ntmps25
  go_wp2
  go_loopw [0, 3] (fun a b wr => ∃ (m : Nat) (t : List UInt8), a = .int .i64 (m : Int) ∧ b = .string (st t) ∧ m ≤ n ∧ preD m ++ t = Lib.decDigits n ∧ t.length ≤ 20 ∧ Below w.heap.size w wr) (fun a _ _ => (intOf a).toNat)
  case atStart => exact ⟨n, [u0], rfl, rfl, Nat.le_refl _, by rw [dec_pre, HD.out, HU0.out], by simp, (Below.refl _ _).alloc (Nat.le_refl _) _⟩
  case round =>
    obtain ⟨m, t, rfl, rfl, hmn, hp, htl, hB⟩ := hrel
    have HP := Lib.hid hp; have HB := Lib.hid hB; clear hp hB
    by_cases hlt : m < 10
    · go_wp2
      go_ret
      exact ⟨by rw [← HP.out, preD, if_pos hlt]; rfl, HB.out⟩
    · obtain ⟨q, hq⟩ : ∃ q : Nat, m / 10 = q := ⟨_, rfl⟩
      obtain ⟨c, hc⟩ : ∃ c : Nat, q % 10 = c := ⟨_, rfl⟩
      have e1 : ((m : Int)).tdiv 10 = (q : Int) := by rw [Int.tdiv_eq_ediv_of_nonneg (by omega)]; omega
      have e1' : (m : Int) / 10 = (q : Int) := by omega
      have e2 : ((q : Int)).tmod 10 = (c : Int) := by rw [Int.tmod_eq_emod_of_nonneg (by omega)]; omega
      have e2' : (q : Int) % 10 = (c : Int) := by omega
      have hc9 : c ≤ 9 := by omega
      have kd := fun W => digit_text (48 + c) (by omega) W
      have k3 : ((48 + c : Nat) : Int) = 48 + (c : Int) := by omega
      rw [k3] at kd
      obtain ⟨u, hu⟩ : ∃ u, UInt8.ofNat (48 + c) = u := ⟨_, rfl⟩
      rw [hu] at kd
      have ka := fun W => add_st [u] t (by simp; omega) W
      have HPN : Hid (preD q ++ (u :: t) = Lib.decDigits n) := Lib.hid (by
        rw [← HP.out]
        have e : preD m = preD q ++ [u] := by
          conv => lhs; unfold preD
          rw [if_neg hlt, hq, dec_pre, hc, hu]
        rw [e, List.append_assoc]; rfl)
      have hlen : t.length + 1 ≤ 20 := by
        have h1 := congrArg List.length HPN.out
        have h2 := dec_len 9 n (by omega)
        simp at h1
        omega
      have HT : Hid (st [u] ++ st t = st (u :: t)) := Lib.hid (st_app [u] t)
      rw [show [u] ++ t = u :: t from rfl] at ka
      clear hc hq hu k3
      go_wp2
      go_roundw
      case rel => exact ⟨q, u :: t, rfl, rfl, by omega, HPN.out, by simpa using hlen, HB.out.alloc HB.out.size _⟩
      case measure => simp [intOf]; omega
end Go.Proofs.YtkemkbaomhjnbaaDoor
