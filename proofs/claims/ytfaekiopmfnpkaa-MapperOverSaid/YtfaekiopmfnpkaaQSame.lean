/-
  The contract of the document's own embrasureref01.Same: whether two rows of bytes are the same. Conditions: the slices read as bytes.
-/
import Derived.Test.YtfaekiopmfnpkaaQBts
namespace Go.Proofs.Ytfaekiopmfnpkaa.Pp
open Go.RowKit
set_option linter.unusedVariables false

def Alike (xs ys : List Int) (k : Nat) : Prop := ∀ j, j < k → xs.getD j 0 = ys.getD j 0
theorem Alike.zero (xs ys : List Int) : Alike xs ys 0 := fun j h => by omega
theorem Alike.succ {xs ys : List Int} {k : Nat} (h : Alike xs ys k) {x y : Int} (hx : xs.getD k 0 = x) (hy : ys.getD k 0 = y) (e : x = y) : Alike xs ys (k + 1) := fun j hj => by
  rcases Nat.lt_or_ge j k with h' | h'
  · exact h j h'
  · obtain rfl : j = k := by omega
    omega
theorem Alike.eq {xs ys : List Int} {n : Nat} (h : Alike xs ys n) (hx : xs.length = n) (hy : ys.length = n) : xs = ys := by
  refine List.ext_getElem (by omega) fun i h1 h2 => ?_
  have := h i (by omega)
  simpa [List.getD, h1, h2] using this
theorem getD_ne {xs ys : List Int} {k : Nat} {x y : Int} (hx : xs.getD k 0 = x) (hy : ys.getD k 0 = y) (h : ¬ x = y) : ¬ xs = ys := fun e => h (by rw [← hx, ← hy, e])

end Go.Proofs.Ytfaekiopmfnpkaa.Pp
