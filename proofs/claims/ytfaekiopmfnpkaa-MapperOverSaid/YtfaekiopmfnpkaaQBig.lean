/-
  Contracts of the document's own Big and Num. Conditions: as each lemma states.
-/
import Derived.Test.YtfaekiopmfnpkaaQNum
namespace Go.Proofs.Ytfaekiopmfnpkaa.Pp
open Go.RowKit
set_option linter.unusedVariables false

def bigRow (n k : Nat) (v : Int) : List Int := List.replicate (n - k) 0 ++ be k v
theorem bigRow_length {n k : Nat} (v : Int) (h : k ≤ n) : (bigRow n k v).length = n := by simp [bigRow]; omega
theorem bigRow_set {n k : Nat} (v : Int) (h : k < n) : (bigRow n k v).set (n - 1 - k) (v / 256 ^ k % 256) = bigRow n (k + 1) v := by
  unfold bigRow
  obtain ⟨m, rfl⟩ : ∃ m, n = k + 1 + m := ⟨n - (k + 1), by omega⟩
  have e1 : k + 1 + m - k = m + 1 := by omega
  have e2 : k + 1 + m - 1 - k = m := by omega
  have e3 : k + 1 + m - (k + 1) = m := by omega
  rw [e1, e2, e3, List.replicate_succ']
  simp [be]
theorem set_B {zs : List Int} (m : Nat) (z : Int) : (B zs).set m (.int .u8 z) = B (zs.set m z) := by simp [B, List.map_set]
theorem bigRow_zero (n : Nat) (v : Int) : List.replicate n (Value.int .u8 0) = B (bigRow n 0 v) := by simp [B, bigRow, be]

theorem nu_take {zs : List Int} {k : Nat} (h : k < zs.length) : nu (zs.take (k + 1)) = nu (zs.take k) * 256 + zs.getD k 0 := by
  rw [List.take_add_one, List.getElem?_eq_getElem h]
  simp only [Option.toList_some]
  rw [nu_snoc]
  simp [List.getD, h]
theorem bd_take {zs : List Int} (h : ∀ z ∈ zs, 0 ≤ z ∧ z ≤ 255) (k : Nat) : ∀ z ∈ zs.take k, 0 ≤ z ∧ z ≤ 255 := fun z hz => h z (List.mem_of_mem_take hz)
theorem nu_le4 {zs : List Int} (h : ∀ z ∈ zs, 0 ≤ z ∧ z ≤ 255) (hl : zs.length ≤ 4) : 0 ≤ nu zs ∧ nu zs < 4294967296 := by
  have h1 := nu_bd h
  have h2 : (256 : Int) ^ zs.length ≤ 4294967296 := by
    match zs.length, hl with
    | 0, _ => decide
    | 1, _ => decide
    | 2, _ => decide
    | 3, _ => decide
    | 4, _ => decide
  omega

end Go.Proofs.Ytfaekiopmfnpkaa.Pp
