/-
  No cell of these rows narrows 'for every input' (looked for: loops, veiled, ifaces, maps, wideKeys, modest, calm, conditions, laid).
  DERIVED. THE GIVEN ROWS OF THIS SEAT. 4 by the template 'for every input the law returns true; each argument reads behind the call as it read before'; 0 by the template 'total and deterministic' (their statements: YtcinjfmmmmaelaaTotals.lean).
  GIVEN WITH THE SEED: the statements are not yours to turn. If you find one false, say at which input.
  Laid BY PROGRAM, IN A SANDBOX (cutbox-rows.mjs): the forced cells as the released guide's own fill.sh prints them over the translation f962bf474e0d71f2… (all of the seat's roots in one cut). By AI agents, Wed Nov 11 2026. No macro, syntax, notation, axiom, sorry.
-/
import Derived.Test.YtcinjfmmmmaelaaChecked
import GoSem.Claim
import GoSem.ClaimJoined
import GoSem.ClaimMapViews
import Derived.JoinedTies
import Derived.KernelRfl
namespace Go.Proofs.Ytcinjfmmmmaelaa
/- THE CELL 'sum', in the pinned program and in every row, IS THE sha256 OF THE DUMP (.gsa) THAT YtcinjfmmmmaelaaProg.lean LOADS. Nothing in Lean hashes anything: it is a label: what it is worth is what the hold of that sum in a sandbox is worth. -/
noncomputable def Try.pinned : Pinned := { name := "ytcinjfmmmmaelaa", sum := "f962bf474e0d71f2f247bd1f31253b1f0299930d9b9cf450d5e5f7a9558ae9f5", checked := Try.checked }
namespace Rows
def none {H : Type} : Left H := { results := [], args := [] }

/-- 'embrasurelaw04.NotaryPlays': WHATEVER THE INPUT: true; the input reads as it did. -/
def notaryPlaysSpec : ChangeSpec := { name := "notaryPlays", fn := fun _ => fun
  | [d] => { results := [.lit (.bool true)], args := [d] }
  | _ => none }
def notaryPlaysRow : OpenClaim := { program := "ytcinjfmmmmaelaa", sum := "f962bf474e0d71f2f247bd1f31253b1f0299930d9b9cf450d5e5f7a9558ae9f5", func := "embrasure/embrasurelaw04.NotaryPlays", spec := "notaryPlays", plainKeys := false, apart := false }
def NotaryPlaysSaid : Prop := notaryPlaysRow.holds Try.pinned (OpenSpec.ofChange notaryPlaysSpec)

/-- ITS FALSE NEIGHBOUR: 'it returns false'. Refute it at one input. -/
def notaryPlaysWrong : ChangeSpec := { name := "notaryPlays", fn := fun _ => fun
  | [d] => { results := [.lit (.bool false)], args := [d] }
  | _ => none }
def NotaryPlaysWrongFalsely : Prop := notaryPlaysRow.holds Try.pinned (OpenSpec.ofChange notaryPlaysWrong)

/-- 'embrasurelaw04.NotaryHolds': WHATEVER THE INPUT: true; the input reads as it did. -/
def notaryHoldsSpec : ChangeSpec := { name := "notaryHolds", fn := fun _ => fun
  | [d1, d2, d3] => { results := [.lit (.bool true)], args := [d1, d2, d3] }
  | _ => none }
def notaryHoldsRow : OpenClaim := { program := "ytcinjfmmmmaelaa", sum := "f962bf474e0d71f2f247bd1f31253b1f0299930d9b9cf450d5e5f7a9558ae9f5", func := "embrasure/embrasurelaw04.NotaryHolds", spec := "notaryHolds", plainKeys := false, apart := false }
def NotaryHoldsSaid : Prop := notaryHoldsRow.holds Try.pinned (OpenSpec.ofChange notaryHoldsSpec)

/-- ITS FALSE NEIGHBOUR: 'it returns false'. Refute it at one input. -/
def notaryHoldsWrong : ChangeSpec := { name := "notaryHolds", fn := fun _ => fun
  | [d1, d2, d3] => { results := [.lit (.bool false)], args := [d1, d2, d3] }
  | _ => none }
def NotaryHoldsWrongFalsely : Prop := notaryHoldsRow.holds Try.pinned (OpenSpec.ofChange notaryHoldsWrong)

/-- 'embrasurelaw04.NotaryRows': WHATEVER THE INPUT: true; the input reads as it did. -/
def notaryRowsSpec : ChangeSpec := { name := "notaryRows", fn := fun _ => fun
  | [d1, d2] => { results := [.lit (.bool true)], args := [d1, d2] }
  | _ => none }
def notaryRowsRow : OpenClaim := { program := "ytcinjfmmmmaelaa", sum := "f962bf474e0d71f2f247bd1f31253b1f0299930d9b9cf450d5e5f7a9558ae9f5", func := "embrasure/embrasurelaw04.NotaryRows", spec := "notaryRows", plainKeys := false, apart := false }
def NotaryRowsSaid : Prop := notaryRowsRow.holds Try.pinned (OpenSpec.ofChange notaryRowsSpec)

/-- ITS FALSE NEIGHBOUR: 'it returns false'. Refute it at one input. -/
def notaryRowsWrong : ChangeSpec := { name := "notaryRows", fn := fun _ => fun
  | [d1, d2] => { results := [.lit (.bool false)], args := [d1, d2] }
  | _ => none }
def NotaryRowsWrongFalsely : Prop := notaryRowsRow.holds Try.pinned (OpenSpec.ofChange notaryRowsWrong)

/-- 'embrasurelaw04.NotaryPeers': WHATEVER THE INPUT: true; the input reads as it did. -/
def notaryPeersSpec : ChangeSpec := { name := "notaryPeers", fn := fun _ => fun
  | [d1, d2] => { results := [.lit (.bool true)], args := [d1, d2] }
  | _ => none }
def notaryPeersRow : OpenClaim := { program := "ytcinjfmmmmaelaa", sum := "f962bf474e0d71f2f247bd1f31253b1f0299930d9b9cf450d5e5f7a9558ae9f5", func := "embrasure/embrasurelaw04.NotaryPeers", spec := "notaryPeers", plainKeys := false, apart := false }
def NotaryPeersSaid : Prop := notaryPeersRow.holds Try.pinned (OpenSpec.ofChange notaryPeersSpec)

/-- ITS FALSE NEIGHBOUR: 'it returns false'. Refute it at one input. -/
def notaryPeersWrong : ChangeSpec := { name := "notaryPeers", fn := fun _ => fun
  | [d1, d2] => { results := [.lit (.bool false)], args := [d1, d2] }
  | _ => none }
def NotaryPeersWrongFalsely : Prop := notaryPeersRow.holds Try.pinned (OpenSpec.ofChange notaryPeersWrong)

/- THE SECOND FORM. 'bulk': how many values and letters a reading holds, each counted each time it is reached (what is shared counts as often as it is met; a slice's spare places count too). A statement '..UptoSaid' is the law's where the arguments, and the package variables that the reading takes, are together of bulk at most 1048576: NARROWER than '..Said'. Prove '..Said' where nothing that the law and all that it calls make is longer than what came in: it says more and counts as full. Else prove '..UptoSaid'. A law counts once. -/
mutual
def uptoBulk {H : Type} : DataW H → Nat
  | .lit (.string bytes) => bytes.length + 1
  | .lit _ => 1
  | .nil => 1
  | .ptr d => uptoBulk d + 1
  | .slice elems spare => uptoBulkAll elems + uptoBulkAll spare + 1
  | .agg parts => uptoBulkAll parts + 1
  | .iface _ d => uptoBulk d + 1
  | .map entries => uptoBulkEntries entries + 1
  | .held _ => 1
def uptoBulkAll {H : Type} : List (DataW H) → Nat
  | [] => 0
  | d :: r => uptoBulk d + uptoBulkAll r
def uptoBulkEntries {H : Type} : List (Lit × DataW H) → Nat
  | [] => 0
  | x :: r => uptoBulkEntry x + uptoBulkEntries r
def uptoBulkEntry {H : Type} : Lit × DataW H → Nat
  | (.string bytes, d) => bytes.length + uptoBulk d + 1
  | (_, d) => uptoBulk d + 1
 end
def uptoSmall : (H : Type) → List (DataW H) → Bool := fun _ ds => decide (uptoBulkAll ds ≤ 1048576)
def OpenSpec.upto (s : _root_.Go.ChangeSpec) : _root_.Go.OpenSpec := { _root_.Go.OpenSpec.ofChange s with cond := some uptoSmall }

/-- 'embrasurelaw04.NotaryPlays', WHERE WHAT IT READS IS OF BULK AT MOST 1048576: true; the input reads as it did. -/
def notaryPlaysUptoRow : OpenClaim := { program := "ytcinjfmmmmaelaa", sum := "f962bf474e0d71f2f247bd1f31253b1f0299930d9b9cf450d5e5f7a9558ae9f5", func := "embrasure/embrasurelaw04.NotaryPlays", spec := "notaryPlays", plainKeys := false, apart := false, narrowed := true }
def NotaryPlaysUptoSaid : Prop := notaryPlaysUptoRow.holds Try.pinned (OpenSpec.upto notaryPlaysSpec)

/-- 'embrasurelaw04.NotaryHolds', WHERE WHAT IT READS IS OF BULK AT MOST 1048576: true; the input reads as it did. -/
def notaryHoldsUptoRow : OpenClaim := { program := "ytcinjfmmmmaelaa", sum := "f962bf474e0d71f2f247bd1f31253b1f0299930d9b9cf450d5e5f7a9558ae9f5", func := "embrasure/embrasurelaw04.NotaryHolds", spec := "notaryHolds", plainKeys := false, apart := false, narrowed := true }
def NotaryHoldsUptoSaid : Prop := notaryHoldsUptoRow.holds Try.pinned (OpenSpec.upto notaryHoldsSpec)

/-- 'embrasurelaw04.NotaryRows', WHERE WHAT IT READS IS OF BULK AT MOST 1048576: true; the input reads as it did. -/
def notaryRowsUptoRow : OpenClaim := { program := "ytcinjfmmmmaelaa", sum := "f962bf474e0d71f2f247bd1f31253b1f0299930d9b9cf450d5e5f7a9558ae9f5", func := "embrasure/embrasurelaw04.NotaryRows", spec := "notaryRows", plainKeys := false, apart := false, narrowed := true }
def NotaryRowsUptoSaid : Prop := notaryRowsUptoRow.holds Try.pinned (OpenSpec.upto notaryRowsSpec)

/-- 'embrasurelaw04.NotaryPeers', WHERE WHAT IT READS IS OF BULK AT MOST 1048576: true; the input reads as it did. -/
def notaryPeersUptoRow : OpenClaim := { program := "ytcinjfmmmmaelaa", sum := "f962bf474e0d71f2f247bd1f31253b1f0299930d9b9cf450d5e5f7a9558ae9f5", func := "embrasure/embrasurelaw04.NotaryPeers", spec := "notaryPeers", plainKeys := false, apart := false, narrowed := true }
def NotaryPeersUptoSaid : Prop := notaryPeersUptoRow.holds Try.pinned (OpenSpec.upto notaryPeersSpec)

end Rows
end Go.Proofs.Ytcinjfmmmmaelaa
