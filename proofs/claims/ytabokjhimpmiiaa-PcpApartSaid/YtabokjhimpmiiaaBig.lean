/-
  Contracts of the document's own Big and Num. Conditions: as each lemma states.
-/
import Derived.Test.YtabokjhimpmiiaaNum
namespace Go.Proofs.Ytabokjhimpmiiaa
open Go.RowKit
set_option linter.unusedVariables false

def bigRow (n k : Nat) (v : Int) : List Int := List.replicate (n - k) 0 ++ be k v
theorem bigRow_length {n k : Nat} (v : Int) (h : k ≤ n) : (bigRow n k v).length = n := by simp [bigRow]; omega
theorem bigRow_set {n k : Nat} (v : Int) (h : k < n) : (bigRow n k v).set (n - 1 - k) (v / 256 ^ k % 256) = bigRow n (k + 1) v := by
  unfold bigRow
  obtain ⟨m, rfl⟩ : ∃ m, n = k + 1 + m := ⟨n - (k + 1), by omega⟩
  have e1 : k + 1 + m - k = m + 1 := by omega
  have e2 : k + 1 + m - 1 - k = m := by omega
  have e3 : k + 1 + m - (k + 1) = m := by omega
  rw [e1, e2, e3, List.replicate_succ']
  simp [be]
theorem set_B {zs : List Int} (m : Nat) (z : Int) : (B zs).set m (.int .u8 z) = B (zs.set m z) := by simp [B, List.map_set]
theorem bigRow_zero (n : Nat) (v : Int) : List.replicate n (Value.int .u8 0) = B (bigRow n 0 v) := by simp [B, bigRow, be]

set_option maxHeartbeats 1000000 in
/-- the document's own Big -/
theorem big_any (n : Nat) (X : Nat) (w : World) (hn : n ≤ 4) (hX : X < 9223372036854775808) :
    Calls Try.prog 37 #[.int .i64 (X : Int), .int .i64 (n : Int)] w fun e w' => ∃ r, e = .returned r ∧ w'.ownsRow w.heap.size 5 1 r n (B (be n X)) ∧ Below w.heap.size w w' := by
  obtain ⟨i0, hi0, hz0, hz1, hz2⟩ := info_parts u8_info
  go_enter Try.func37, Try.ntmps37
  go_wp2_with (at_make; refine wpList_make_full _ rfl _ _ 27 rfl w.heap.size 5 i0 (.int .u8 0) 1 Try.underlying27 hi0 hz0 hz1 .i64 .i64 _ _ n rfl rfl rfl rfl (by rw [hz2]; omega) (by unfold maxLen; omega) (Nat.le_refl _) ?_; intro w1 hown1 hgrow1)
  go_loopw [6, 0] (fun i x wr => ∃ (k Y : Nat), k ≤ n ∧ i = .int .i64 ((n : Int) - 1 - k) ∧ x = .int .i64 (Y : Int) ∧ (Y : Int) = (X : Int) / 256 ^ k ∧ Y < 9223372036854775808 ∧ wr.ownsRow w.heap.size 5 1 (.slice (some ⟨w.heap.size, 0, none⟩) n n) n (B (bigRow n k X)) ∧ Below w.heap.size w wr)
    (fun i _ _ => (intOf i + 1).toNat)
  case atStart =>
    refine ⟨0, X, by omega, by go_num, rfl, by simp, hX, ?_, (Below.refl _ _).grown hgrow1 (Nat.le_refl _) (by simp)⟩
    rw [← bigRow_zero n X]
    have e := toList_madeCells_one (.int .u8 0) n
    simpa [Value.cells, e] using hown1
  case round =>
    obtain ⟨k, Y, hk, rfl, rfl, hY, hY2, hown, hbel⟩ := hrel
    clear hown1 hgrow1
    have HY := Lib.hid hY; clear hY
    have HB := Lib.hid hbel; clear hbel
    have HO := Lib.hid hown; clear hown
    by_cases hkn : k < n
    · obtain ⟨j, hj⟩ : ∃ j, n - 1 - k = j := ⟨_, rfl⟩
      have hj2 : (n : Int) - 1 - (k : Int) = (j : Int) := by omega
      have hjn : j < n := by omega
      have hcell := HO.out.cellAt j (by omega)
      have hfr := HO.out.frozenAt j
      rw [B_at _ j (by rw [bigRow_length _ (by omega)]; exact hjn)] at hcell
      obtain ⟨y, hy⟩ : ∃ y, (bigRow n k X).getD j 0 = y := ⟨_, rfl⟩
      rw [hy] at hcell
      clear hy
      rw [hj2]
      go_wp2
      go_roundw
      case rel =>
        refine ⟨k + 1, Y / 256, by omega, by go_num, by go_num, ?_, by omega, ?_, HB.out.setCell (p := ⟨w.heap.size, j, none⟩) (Nat.le_refl _) _⟩
        · have := HY.out
          rw [Int.pow_succ, ← Int.ediv_ediv_of_nonneg (Int.pow_nonneg (by decide)), ← this]; omega
        · have hst := (HO.out.stored j (.int .u8 ((Y : Int) % 256))).1
          rw [set_B, HY.out, ← hj, bigRow_set _ hkn, hj, ← HY.out] at hst
          exact hst
      case measure => simp [intOf]
    · obtain rfl : k = n := by omega
      have e : bigRow k k (X : Int) = be k X := by simp [bigRow]
      rw [e] at HO
      go_wp2
      go_ret
      exact ⟨_, rfl, HO.out, HB.out⟩

theorem nu_take {zs : List Int} {k : Nat} (h : k < zs.length) : nu (zs.take (k + 1)) = nu (zs.take k) * 256 + zs.getD k 0 := by
  rw [List.take_add_one, List.getElem?_eq_getElem h]
  simp only [Option.toList_some]
  rw [nu_snoc]
  simp [List.getD, h]
theorem bd_take {zs : List Int} (h : ∀ z ∈ zs, 0 ≤ z ∧ z ≤ 255) (k : Nat) : ∀ z ∈ zs.take k, 0 ≤ z ∧ z ≤ 255 := fun z hz => h z (List.mem_of_mem_take hz)
theorem nu_le4 {zs : List Int} (h : ∀ z ∈ zs, 0 ≤ z ∧ z ≤ 255) (hl : zs.length ≤ 4) : 0 ≤ nu zs ∧ nu zs < 4294967296 := by
  have h1 := nu_bd h
  have h2 : (256 : Int) ^ zs.length ≤ 4294967296 := by
    match zs.length, hl with
    | 0, _ => decide
    | 1, _ => decide
    | 2, _ => decide
    | 3, _ => decide
    | 4, _ => decide
  omega

set_option maxHeartbeats 1000000 in
/-- the document's own Num -/
theorem num_any (A : Option Addr) (n c : Nat) (zs : List Int) (w : World) (h : Bts w A n zs) (hn : n ≤ 4) :
    Calls Try.prog 40 #[.slice A n c] w fun e w' => e = .returned (.int .i64 (nu zs)) ∧ w = w' := by
  have H := Lib.hid h
  have hl := h.len
  have HBD := Lib.hid h.bd
  have HC : Hid (0 < n → ∃ b off, A = some ⟨b, off, none⟩ ∧ ∀ j, j < n → w.cell? ⟨b, off + j, none⟩ = some (.int .u8 (zs.getD j 0))) := Lib.hid (fun hn => by obtain ⟨b, off, e, _, hc⟩ := h.2.2 hn; exact ⟨b, off, e, hc⟩)
  have HL := Lib.hid hl
  clear h hl
  go_enter Try.func40, Try.ntmps40
  go_wp2
  go_loopw [4, 3] (fun i x wr => ∃ (k Y : Nat), k ≤ n ∧ i = .int .i64 (k : Int) ∧ x = .int .i64 (Y : Int) ∧ (Y : Int) = nu (zs.take k) ∧ wr = w) (fun i _ _ => n - (intOf i).toNat)
  case atStart => exact ⟨0, 0, by omega, rfl, rfl, by simp [nu], rfl⟩
  case round =>
    obtain ⟨k, Y, hk, rfl, rfl, hY, rfl⟩ := hrel
    have HY := Lib.hid hY; clear hY
    by_cases hkn : k < n
    · obtain ⟨b, off, rfl, hc⟩ := HC.out (by omega)
      have hcell := hc k hkn
      clear hc
      have hz := getD_bd HBD.out k
      obtain ⟨z, hzz⟩ : ∃ z : Nat, zs.getD k 0 = (z : Int) := ⟨(zs.getD k 0).toNat, by omega⟩
      have hlt : Y < 4294967296 := by
        have h1 := nu_le4 (bd_take HBD.out k) (by simp; omega)
        have h2 := HY.out
        omega
      rw [hzz] at hcell hz
      have HZ := Lib.hid hzz; clear hzz
      go_wp2
      go_roundw
      case rel =>
        refine ⟨k + 1, Y * 256 + z, by omega, by go_num, by go_num, ?_, trivial⟩
        rw [nu_take (by have := HL.out; omega), ← HY.out, HZ.out]; omega
      case measure => simp [intOf]; omega
    · obtain rfl : k = n := by omega
      have e : zs.take k = zs := List.take_of_length_le (by have := HL.out; omega)
      rw [e] at HY
      go_wp2
      go_ret
      exact ⟨ret_int HY.out, rfl⟩
end Go.Proofs.Ytabokjhimpmiiaa
