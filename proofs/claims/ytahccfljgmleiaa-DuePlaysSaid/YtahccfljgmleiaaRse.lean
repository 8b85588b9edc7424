/-
  The contract of the document's Set, all ways. Conditions: as stated.
-/
import Derived.Test.YtahccfljgmleiaaRfd
namespace Go.Proofs.Ytahccfljgmleiaa
open Go.RowKit Go.Shelf Go.Maps
theorem rset_any (rb : Nat) (L : List En) (x : Ky) (t : Int) (w : World) (h : Rf w rb L) (hT : Tbl L) :
    Calls Try.prog 12 #[.pointer (some ⟨rb, 0, none⟩), .string (str x), .int .i64 t] w (Rturn w rb (setL L x t) (.int .i64 (setCode L x t))) := by
  by_cases ha : t < 0 ∨ 1099511627776 < t
  · rw [show setL L x t = L from if_pos ha, show setCode L x t = 1 from if_pos ha]
    refine (rset_arg rb L x t w ha).mono ?_
    rintro e w' ⟨rfl, rfl⟩
    exact ⟨rfl, h, Keeps.refl _ _⟩
  · by_cases hf : inL L x = false ∧ 200 ≤ L.length
    · rw [show setL L x t = L from by unfold setL; rw [if_neg ha, if_pos hf], show setCode L x t = 10 from by unfold setCode; rw [if_neg ha, if_pos hf]]
      refine (rset_full rb L x t w h (fun e => ha (.inl e)) (fun e => ha (.inr e)) hf.1 hf.2).mono ?_
      rintro e w' ⟨rfl, rfl⟩
      exact ⟨rfl, h, Keeps.refl _ _⟩
    · rw [show setL L x t = putL L x t from by unfold setL; rw [if_neg ha, if_neg hf], show setCode L x t = 0 from by unfold setCode; rw [if_neg ha, if_neg hf]]
      refine rset_put rb L x t w h hT (fun e => ha (.inl e)) (fun e => ha (.inr e)) ?_
      cases hi : inL L x with
      | true => exact .inl rfl
      | false => exact .inr (Nat.lt_of_not_le fun h2 => hf ⟨hi, h2⟩)
end Go.Proofs.Ytahccfljgmleiaa
