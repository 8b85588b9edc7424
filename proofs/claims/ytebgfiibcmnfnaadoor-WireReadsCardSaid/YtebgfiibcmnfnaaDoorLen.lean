/-
  Contracts of math/bits.Len64 (walked in the library's own text) and of embrasure/uvar.Len: Len answers how many bytes a number has, and 0 from 2^63 on; memory is left alone. Conditions: the number is a uint64.
-/
import Derived.Test.YtebgfiibcmnfnaaDoorRows
import Derived.Test.YtebgfiibcmnfnaaDoorMath
import Derived.Test.YtebgfiibcmnfnaaDoorLenLib
import Derived.WalkKit
import Derived.WalkSpells
import Derived.WalkLawsBesides
import Derived.Lib.Walk
import Derived.Lib.BitFns
import Derived.Lib.Hide
namespace Go.Proofs.YtebgfiibcmnfnaaDoor
open Go.RowKit
set_option linter.unusedVariables false

theorem len64_any (x : Int) (w : World) (h0 : 0 ≤ x) (h1 : x ≤ 18446744073709551615) :
    Calls Tryd.prog 34 #[.int .u64 x] w fun e w' => e = .returned (.int .i64 (Lib.bitLen x.toNat)) ∧ w = w' :=
  (len64_lib x w h0 h1).mono fun _ _ h => ⟨h.1, h.2.symm⟩

theorem ret_int {k : IntKind} {a b : Int} (h : a = b) : Ending.returned (.int k a) = .returned (.int k b) := by rw [h]

/-- what uvar.Len answers -/
def lenOf (v : Nat) : Nat := if v < 9223372036854775808 then Uv.len v else 0

set_option maxHeartbeats 400000 in
theorem len_any (v : Nat) (w : World) (hv : v < 18446744073709551616) :
    Calls Tryd.prog 24 #[.int .u64 (v : Int)] w fun e w' => e = .returned (.int .i64 (lenOf v)) ∧ w = w' := by
  obtain ⟨X, hX⟩ : ∃ X, v ||| 1 = X := ⟨_, rfl⟩
  have e1 : bits .or .u64 (v : Int) 1 = (X : Int) := by
    rw [← hX]; exact u64_or_nat v 1 hv (by omega)
  have hX2 : X < 2 ^ 64 := by rw [← hX]; exact Uv.or_one_lt v (by omega)
  have hb := Uv.bitLen_len v hv
  rw [hX] at hb
  have HB := Lib.hid hb; clear hb
  have h64 := Lib.bitLen_le X 64 (by omega) hX2
  clear hX
  go_enter Tryd.func24, Tryd.ntmps24
  go_wp2_with (go_at_call 34; refine (len64_any _ _ (by omega) (by omega)).mono ?_; rintro e w' ⟨rfl, rfl⟩)
  · go_ret
    refine ⟨ret_int ?_, rfl⟩
    have hb := HB.out
    have h9 : 9 < Uv.len v := by omega
    unfold lenOf
    rw [if_neg]
    · rfl
    · intro h; have := Uv.len_small v h; omega
  · go_ret
    refine ⟨ret_int ?_, rfl⟩
    have hb := HB.out
    have h9 : Uv.len v ≤ 9 := by omega
    unfold lenOf
    rw [if_pos]
    · omega
    · rcases Nat.lt_or_ge v 9223372036854775808 with h | h
      · exact h
      · have := Uv.len_big v h hv; omega
theorem lenOf_enc (v : Nat) : lenOf v = (Uv.enc v).length := by
  unfold lenOf
  split
  · rename_i h; rw [Uv.enc_length v h]
  · rename_i h; rw [Uv.enc_big v h]; rfl

end Go.Proofs.YtebgfiibcmnfnaaDoor
