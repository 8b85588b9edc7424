/-
  Calls of the document's own one behind the other; what a call's own blocks are to it. Conditions: the box stands in memory.
-/
import Derived.Test.YtemlnkcokeckmaaRsw
namespace Go.Proofs.Ytemlnkcokeckmaa
open Go.RowKit
set_option linter.unusedVariables false

theorem RStep.trans {w w1 w2 : World} {rb : Nat} {x : Bx} {now n1 n2 : Int} {v v1 : Value} {L L1 L2 : List Rb} (h0 : Ra w rb x now v L) (h1 : Ra w1 rb x n1 v1 L1) (hk : Keeps (fun k => k = rb ∨ v.ownBlock = some k) w w1) (hf : ∀ g, RFoot rb v1 L1 g → RFoot rb v L g ∨ w.heap.size ≤ g) (h2 : RStep w1 w2 rb x v1 L1 n2 L2) : RStep w w2 rb x v L n2 L2 := by
  obtain ⟨v2, a1, a2, a3⟩ := h2
  refine ⟨v2, a1, ⟨a2.os.trans hk.os, a2.tape.trans hk.tape, a2.output.trans hk.output, Nat.le_trans hk.size a2.size, fun j hj hn => ?_⟩, fun g hg => (a3 g hg).elim (hf g) (fun h => .inr (Nat.le_trans hk.size h))⟩
  refine (a2.block j (Nat.lt_of_lt_of_le hj hk.size) (fun h => ?_)).trans (hk.block j hj hn)
  rcases h with h | h
  · exact hn (.inl h)
  · obtain ⟨C, hC⟩ := own_obj h1.row h
    rcases hf j (.inr (.inl h)) with h' | h'
    · rcases h' with h' | h' | ⟨f, hf, h'⟩
      · exact hn (.inl h')
      · exact hn (.inr h')
      · obtain ⟨_, C', hC'⟩ := (h0.nds f hf).lt h'
        rw [hk.block j hj hn] at hC
        exact clash hC' hC (by decide)
    · omega
/-- a block of one address stays as it was -/
theorem RStep.adr {w w1 : World} {rb g : Nat} {x : Bx} {now n1 : Int} {v : Value} {L L1 : List Rb} {C : Array Value} (h0 : Ra w rb x now v L) (h : RStep w w1 rb x v L n1 L1) (hg : w.heap[g]? = some (.cells C 38 (0, 0))) : w1.heap[g]? = some (.cells C 38 (0, 0)) := by
  obtain ⟨v2, _, a2, _⟩ := h
  refine (a2.block g (Array.getElem?_eq_some_iff.1 hg).1 (fun h => ?_)).trans hg
  rcases h with rfl | h
  · exact clash h0.top hg (by decide)
  · obtain ⟨C', hC'⟩ := own_obj h0.row h
    exact clash hC' hg (by decide)
end Go.Proofs.Ytemlnkcokeckmaa
