/-
  Contracts of embrasure/uvar.Get and of the document's own embrasureref01.Get: both answer what 'Uv.got' says of the bytes, and leave memory alone. Conditions: the slice reads as the list zs of bytes.
-/
import Derived.Test.YtebgfiibcmnfnaaDoorRows
import Derived.Test.YtebgfiibcmnfnaaDoorMath
import Derived.WalkKit
import Derived.WalkSpells
import Derived.WalkLawsBesides
import Derived.Below
import Derived.Lib.Hide
namespace Go.Proofs.YtebgfiibcmnfnaaDoor
open Go.RowKit
set_option linter.unusedVariables false

/-- the slice value '.slice A n c' reads, in w, as the bytes zs -/
def Bts (w : World) (A : Option Addr) (n : Nat) (zs : List Int) : Prop :=
  zs.length = n ∧ (∀ z ∈ zs, 0 ≤ z ∧ z ≤ 255) ∧
  (0 < n → ∃ b off, A = some ⟨b, off, none⟩ ∧ b < w.heap.size ∧ ∀ j, j < n → w.cell? ⟨b, off + j, none⟩ = some (.int .u8 (zs.getD j 0)))

theorem getD_bd {zs : List Int} (h : ∀ z ∈ zs, 0 ≤ z ∧ z ≤ 255) (j : Nat) : 0 ≤ zs.getD j 0 ∧ zs.getD j 0 ≤ 255 := by
  by_cases hj : j < zs.length
  · have := h zs[j] (List.getElem_mem hj)
    simpa [List.getD, hj] using this
  · simp [List.getD, List.getElem?_eq_none (by omega : zs.length ≤ j)]

def tup (t : Int × Int × Int) : Value := .tuple #[.int .u64 t.1, .int .i64 t.2.1, .int .i64 t.2.2]

theorem tup_eq {t : Int × Int × Int} {a b c : Int} (h : t = (a, b, c)) : Ending.returned (.tuple #[.int .u64 a, .int .i64 b, .int .i64 c]) = .returned (tup t) := by
  subst h; rfl

def Sofar (zs : List Int) (k : Nat) : Prop := ∀ i, i < k → 127 < zs.getD i 0
theorem Sofar.zero (zs : List Int) : Sofar zs 0 := fun i h => by omega
theorem Sofar.succ {zs : List Int} {k : Nat} {z : Int} (h : Sofar zs k) (hz : zs.getD k 0 = z) (h1 : 128 ≤ z) : Sofar zs (k + 1) := fun i hi => by
  rcases Nat.lt_or_ge i k with h' | h'
  · exact h i h'
  · obtain rfl : i = k := by omega
    omega
theorem val_step {zs : List Int} {k : Nat} {z V : Int} (hk : k ≤ 8) (hl : k < zs.length) (hz : zs.getD k 0 = z) (hV : V = Uv.num (zs.take k)) :
    bits .or .u64 V (IntKind.u64.wrap ((z % 128) * 2 ^ (7 * k))) = Uv.num (zs.take (k + 1)) := by
  have h0 := Uv.num_nonneg (zs.take k)
  have h1 := Uv.num_take_lt zs k
  subst hV
  rw [Uv.or_step _ _ k hk h0 h1 (by omega) (by omega), Uv.num_take zs k hl, hz]
theorem num_u64 {zs : List Int} {k : Nat} (hk : k ≤ 9) : 0 ≤ Uv.num (zs.take k) ∧ Uv.num (zs.take k) ≤ 9223372036854775807 := by
  refine ⟨Uv.num_nonneg _, ?_⟩
  have h1 := Uv.num_take_lt zs k
  have h2 : 128 ^ k ≤ 128 ^ 9 := Nat.pow_le_pow_right (by omega) hk
  have h4 : ((128 ^ k : Nat) : Int) ≤ ((128 ^ 9 : Nat) : Int) := Int.ofNat_le.2 h2
  simp only [Int.natCast_pow] at h4
  have := Int.lt_of_lt_of_le h1 h4
  have e : (((128 : Nat) : Int) ^ 9) = 9223372036854775808 := by decide
  rw [e] at this
  omega

theorem ok_end {zs : List Int} {k : Nat} {z V : Int} (hk : k ≤ 8) (hl : k < zs.length) (hS : Sofar zs k) (hz : zs.getD k 0 = z) (hz1 : z ≤ 127) (h0 : k = 0 ∨ ¬ z = 0)
    (hV : V = Uv.num (zs.take k)) : Uv.got zs = (bits .or .u64 V (IntKind.u64.wrap ((z % 128) * 2 ^ (7 * k))), (k : Int) + 1, 0) := by
  rw [val_step hk hl hz hV, Uv.got_ok zs k (by omega) hl hS (by omega) (by rw [hz]; exact h0)]
  simp
theorem bad_end {zs : List Int} {k : Nat} {z : Int} (hk : k ≤ 8) (hl : k < zs.length) (hS : Sofar zs k) (hz : zs.getD k 0 = z) (hz1 : z = 0) (h0 : 0 < k) : Uv.got zs = (0, 0, 3) :=
  Uv.got_bad zs k (by omega) hl hS (by omega) h0

set_option maxHeartbeats 1000000 in
theorem get_some (b off n c : Nat) (zs : List Int) (w : World) (hn : 0 < n) (hnc : n ≤ c) (hc : c ≤ maxLen) (hl : zs.length = n) (hbd : ∀ z ∈ zs, 0 ≤ z ∧ z ≤ 255)
    (hz : ∀ j, j < n → w.cell? ⟨b, off + j, none⟩ = some (.int .u8 (zs.getD j 0))) :
    Calls Tryd.prog 38 #[.slice (some ⟨b, off, none⟩) n c] w fun e w' => e = .returned (tup (Uv.got zs)) ∧ w = w' := by
  unfold maxLen at hc
  have HL := Lib.hid hl; clear hl
  have HZ := Lib.hid hz; clear hz
  have HB := Lib.hid hbd; clear hbd
  obtain ⟨m, hmn, hm9, hmm⟩ : ∃ m, m ≤ n ∧ m ≤ 9 ∧ ((n ≤ 9 ∧ n ≤ m) ∨ (9 < n ∧ 9 ≤ m)) := ⟨min n 9, by omega, by omega, by omega⟩
  rcases hmm with ⟨hn9, hmm⟩ | ⟨hn9, hmm⟩
  all_goals
    go_enter Tryd.func38, Tryd.ntmps38
    go_wp2
    go_loop [14, 5] (fun i v => ∃ (k : Nat) (V : Int), k ≤ m ∧ i = .int .i64 k ∧ v = .int .u64 V ∧ V = Uv.num (zs.take k) ∧ Sofar zs k) (fun i _ => m - (intOf i).toNat)
    case atStart => exact ⟨0, 0, by omega, rfl, rfl, by simp [Uv.num], Sofar.zero zs⟩
    case round =>
      obtain ⟨k, V, hk, rfl, rfl, hV, hS⟩ := hrel
      have HV := Lib.hid hV; clear hV
      have HS := Lib.hid hS; clear hS
      by_cases hkn : k < m
      · have hkn' : k < n := by omega
        have hk9 : k < 9 := by omega
        have hcell := HZ.out k hkn'
        have hb := getD_bd HB.out k
        obtain ⟨z, hzz⟩ : ∃ z, zs.getD k 0 = z := ⟨_, rfl⟩
        rw [hzz] at hcell hb
        have HZZ := Lib.hid hzz; clear hzz
        obtain ⟨hz0, hz1⟩ := hb
        have e2 := Uv.andNot128 z hz0 hz1
        by_cases h128 : 128 ≤ z
        · have e1 := Uv.and128_hi z h128 hz1
          go_wp2
          go_round
          case rel => exact ⟨k + 1, _, by omega, by go_num, rfl, val_step (by omega) (by have := HL.out; omega) HZZ.out HV.out, HS.out.succ HZZ.out h128⟩
          case measure => simp [intOf]; omega
        · have e1 := Uv.and128_lo z hz0 (by omega)
          have hkl : k < zs.length := by have := HL.out; omega
          by_cases hzk : z = 0 ∧ 0 < k
          · have E := Lib.hid (bad_end (by omega) hkl HS.out HZZ.out hzk.1 hzk.2)
            obtain ⟨hzk1, hzk2⟩ := hzk
            have hzk3 : (z == 0) = true := by simp [hzk1]
            clear hzk1
            go_wp2
            go_ret3
            exact ⟨tup_eq E.out, rfl⟩
          · have E := Lib.hid (ok_end (by omega) hkl HS.out HZZ.out (by omega) (by omega) HV.out)
            clear HS HV HZZ HZ HB HL
            by_cases hz3 : z = 0
            · have hzk3 : (z == 0) = true := by simp [hz3]
              have hk0 : k ≤ 0 := by omega
              clear hzk hz3
              go_wp2
              go_ret3
              exact ⟨tup_eq E.out, rfl⟩
            · have hzk3 : (z == 0) = false := by simp [hz3]
              clear hzk hz3
              go_wp2
              go_ret3
              exact ⟨tup_eq E.out, rfl⟩
      · by_cases hlt : n < 9
        · have E := Lib.hid (Uv.got_short zs (by have := HL.out; omega) (fun i hi => HS.out i (by have := HL.out; omega)))
          clear HS HV HZ HB HL
          go_wp2
          all_goals (go_ret3; exact ⟨tup_eq E.out, rfl⟩)
        · have E := Lib.hid (Uv.got_limit zs (by have := HL.out; omega) (fun i hi => HS.out i (by have := HL.out; omega)))
          clear HS HV HZ HB HL
          go_wp2
          all_goals (go_ret3; exact ⟨tup_eq E.out, rfl⟩)

set_option maxHeartbeats 1000000 in
theorem get_none (A : Option Addr) (c : Nat) (w : World) :
    Calls Tryd.prog 38 #[.slice A 0 c] w fun e w' => e = .returned (tup (Uv.got [])) ∧ w = w' := by
  go_enter Tryd.func38, Tryd.ntmps38
  go_wp2
  refine wp_loop_rounds 1 ?_
  rw [rounds_succ]
  go_wp2
  go_ret3
  exact ⟨tup_eq (Uv.got_short [] (by simp) (by simp)), rfl⟩

/-- uvar.Get, whatever the bytes -/
theorem get_any (A : Option Addr) (n c : Nat) (zs : List Int) (w : World) (hnc : n ≤ c) (hc : c ≤ maxLen) (h : Bts w A n zs) :
    Calls Tryd.prog 38 #[.slice A n c] w fun e w' => e = .returned (tup (Uv.got zs)) ∧ w = w' := by
  obtain ⟨hl, hbd, hcell⟩ := h
  rcases Nat.eq_zero_or_pos n with h0 | h0
  · subst h0
    obtain rfl : zs = [] := List.eq_nil_of_length_eq_zero hl
    exact get_none A c w
  · obtain ⟨b, off, rfl, _, hz⟩ := hcell h0
    exact get_some b off n c zs w h0 hnc hc hl hbd hz

/-! ### the document's own Get -/
theorem ref_ok {zs : List Int} {n : Nat} (h9 : n < 9) (hl : n < zs.length) (hS : Sofar zs n) (hz1 : zs.getD n 0 ≤ 127) (h0 : n = 0 ∨ ¬ zs.getD n 0 = 0) {V : Int}
    (hV : V = Uv.num ((zs.take (n + 1)).drop 0)) : Uv.got zs = (V, (n : Int) + 1, 0) := by
  rw [Uv.got_ok zs n h9 hl hS hz1 h0, hV]
  simp
theorem num_drop {zs : List Int} {n i : Nat} (hi : i ≤ n) (hl : n < zs.length) : Uv.num ((zs.take (n + 1)).drop i) = zs.getD i 0 % 128 + 128 * Uv.num ((zs.take (n + 1)).drop (i + 1)) := by
  have hlt : i < (zs.take (n + 1)).length := by simp; omega
  rw [List.drop_eq_getElem_cons hlt, Uv.num]
  simp [List.getD, show i < zs.length by omega]
theorem num_drop_u64 {zs : List Int} {n i : Nat} (hi : 1 ≤ i) (hn : n < 9) : 0 ≤ Uv.num ((zs.take (n + 1)).drop i) ∧ Uv.num ((zs.take (n + 1)).drop i) ≤ 72057594037927935 := by
  refine ⟨Uv.num_nonneg _, ?_⟩
  have h1 := Uv.num_lt ((zs.take (n + 1)).drop i)
  have h2 : 128 ^ ((zs.take (n + 1)).drop i).length ≤ 128 ^ 8 := Nat.pow_le_pow_right (by omega) (by simp; omega)
  have h4 : ((128 ^ ((zs.take (n + 1)).drop i).length : Nat) : Int) ≤ ((128 ^ 8 : Nat) : Int) := Int.ofNat_le.2 h2
  simp only [Int.natCast_pow] at h4
  have := Int.lt_of_lt_of_le h1 h4
  have e : (((128 : Nat) : Int) ^ 8) = 72057594037927936 := by decide
  rw [e] at this
  omega

set_option maxHeartbeats 1000000 in
theorem ref_get_some (b off n c : Nat) (zs : List Int) (w : World) (hn : 0 < n) (hnc : n ≤ c) (hc : c ≤ maxLen) (hl : zs.length = n) (hbd : ∀ z ∈ zs, 0 ≤ z ∧ z ≤ 255)
    (hz : ∀ j, j < n → w.cell? ⟨b, off + j, none⟩ = some (.int .u8 (zs.getD j 0))) :
    Calls Tryd.prog 31 #[.slice (some ⟨b, off, none⟩) n c] w fun e w' => e = .returned (tup (Uv.got zs)) ∧ w = w' := by
  unfold maxLen at hc
  have HL := Lib.hid hl; clear hl
  have HZ := Lib.hid hz; clear hz
  have HB := Lib.hid hbd; clear hbd
  go_enter Tryd.func31, Tryd.ntmps31
  go_wp2
  go_loop [5] (fun i => ∃ (k : Nat), k ≤ n ∧ k ≤ 9 ∧ i = .int .i64 k ∧ Sofar zs k) (fun i => n - (intOf i).toNat)
  case atStart => exact ⟨0, by omega, by omega, rfl, Sofar.zero zs⟩
  case round =>
    obtain ⟨k, hk, hk9, rfl, hS⟩ := hrel
    have HS := Lib.hid hS; clear hS
    by_cases hkn : k < n
    · have hcell := HZ.out k hkn
      have hb := getD_bd HB.out k
      obtain ⟨z, hzz⟩ : ∃ z, zs.getD k 0 = z := ⟨_, rfl⟩
      rw [hzz] at hcell hb
      have HZZ := Lib.hid hzz; clear hzz
      obtain ⟨hz0, hz1⟩ := hb
      by_cases hlt9 : k < 9
      · by_cases h128 : 127 < z
        · go_wp2
          go_round
          case rel => exact ⟨k + 1, by omega, by omega, by go_num, HS.out.succ HZZ.out (by omega)⟩
          case measure => simp [intOf]; omega
        · have k9 : ((k : Int) == 9) = false := by simp; omega
          have kn : ((k : Int) == (n : Int)) = false := by simp; omega
          have hkl : k < zs.length := by have := HL.out; omega
          by_cases hzk : z = 0 ∧ 0 < k
          · have E := Lib.hid (bad_end (by omega) hkl HS.out HZZ.out hzk.1 hzk.2)
            obtain ⟨hzk1, hzk2⟩ := hzk
            have hzk3 : (z == 0) = true := by simp [hzk1]
            clear hzk1
            go_wp2
            go_ret3
            exact ⟨tup_eq E.out, rfl⟩
          · have E : Hid (∀ V, V = Uv.num ((zs.take (k + 1)).drop 0) → Uv.got zs = (V, (k : Int) + 1, 0)) :=
              Lib.hid (fun V hV => ref_ok hlt9 hkl HS.out (by rw [HZZ.out]; omega) (by rw [HZZ.out]; omega) hV)
            have hzk3 : 0 < k → (z == 0) = false := fun h => by simp; omega
            clear hzk HS HZZ
            go_wp2
            all_goals
              go_loop [7, 6] (fun i v => ∃ V : Int, v = .int .u64 V ∧ ((∃ j : Nat, j ≤ k ∧ i = .int .i64 j ∧ V = Uv.num ((zs.take (k + 1)).drop (j + 1))) ∨ (i = .int .i64 (-1) ∧ V = Uv.num ((zs.take (k + 1)).drop 0)))) (fun i _ => (intOf i + 1).toNat)
              case atStart => exact ⟨0, rfl, .inl ⟨k, by omega, rfl, by rw [List.drop_of_length_le (List.length_take_le _ _)]; rfl⟩⟩
              case round =>
                obtain ⟨V, rfl, ⟨j, hj, rfl, hV⟩ | ⟨rfl, hV⟩⟩ := hrel
                · have hVb := num_drop_u64 (zs := zs) (n := k) (i := j + 1) (by omega) hlt9
                  rw [← hV] at hVb
                  obtain ⟨hV0, hV1⟩ := hVb
                  have HV := Lib.hid hV; clear hV
                  have hcell2 := HZ.out j (by omega)
                  have hb2 := getD_bd HB.out j
                  obtain ⟨y, hyy⟩ : ∃ y, zs.getD j 0 = y := ⟨_, rfl⟩
                  rw [hyy] at hcell2 hb2
                  have HY := Lib.hid hyy; clear hyy
                  obtain ⟨hy0, hy1⟩ := hb2
                  clear hcell
                  go_wp2
                  go_round
                  case rel =>
                    refine ⟨_, rfl, ?_⟩
                    have hst := num_drop (zs := zs) (i := j) hj hkl
                    rw [HY.out, ← HV.out] at hst
                    cases j with
                    | zero => exact .inr ⟨by go_num, by rw [hst]; omega⟩
                    | succ j => exact .inl ⟨j, by omega, by go_num, by rw [hst]; omega⟩
                  case measure => simp [intOf] <;> omega
                · have E2 := Lib.hid (E.out V hV)
                  clear E hV HZ HB
                  go_wp2
                  go_ret3
                  exact ⟨tup_eq E2.out, rfl⟩
      · have k9 : ((k : Int) == 9) = true := by simp; omega
        have E := Lib.hid (Uv.got_limit zs (by have := HL.out; omega) (fun i hi => HS.out i (by omega)))
        clear HS HZ HB HZZ
        go_wp2
        go_ret3
        exact ⟨tup_eq E.out, rfl⟩
    · by_cases hn9 : n < 9
      · have k9 : ((k : Int) == 9) = false := by simp; omega
        have kn : ((k : Int) == (n : Int)) = true := by simp; omega
        have E := Lib.hid (Uv.got_short zs (by have := HL.out; omega) (fun i hi => HS.out i (by have := HL.out; omega)))
        clear HS HZ HB
        go_wp2
        go_ret3
        exact ⟨tup_eq E.out, rfl⟩
      · have k9 : ((k : Int) == 9) = true := by simp; omega
        have E := Lib.hid (Uv.got_limit zs (by have := HL.out; omega) (fun i hi => HS.out i (by have := HL.out; omega)))
        clear HS HZ HB
        go_wp2
        go_ret3
        exact ⟨tup_eq E.out, rfl⟩

set_option maxHeartbeats 1000000 in
theorem ref_get_none (A : Option Addr) (c : Nat) (w : World) :
    Calls Tryd.prog 31 #[.slice A 0 c] w fun e w' => e = .returned (tup (Uv.got [])) ∧ w = w' := by
  go_enter Tryd.func31, Tryd.ntmps31
  go_wp2
  refine wp_loop_rounds 1 ?_
  rw [rounds_succ]
  go_wp2
  go_ret3
  exact ⟨tup_eq (Uv.got_short [] (by simp) (by simp)), rfl⟩

/-- the document's own Get, whatever the bytes -/
theorem ref_get_any (A : Option Addr) (n c : Nat) (zs : List Int) (w : World) (hnc : n ≤ c) (hc : c ≤ maxLen) (h : Bts w A n zs) :
    Calls Tryd.prog 31 #[.slice A n c] w fun e w' => e = .returned (tup (Uv.got zs)) ∧ w = w' := by
  obtain ⟨hl, hbd, hcell⟩ := h
  rcases Nat.eq_zero_or_pos n with h0 | h0
  · subst h0
    obtain rfl : zs = [] := List.eq_nil_of_length_eq_zero hl
    exact ref_get_none A c w
  · obtain ⟨b, off, rfl, _, hz⟩ := hcell h0
    exact ref_get_some b off n c zs w h0 hnc hc hl hbd hz

end Go.Proofs.YtebgfiibcmnfnaaDoor
