/-
  No cell of these rows narrows 'for every input' (looked for: loops, veiled, ifaces, maps, wideKeys, modest, calm, conditions, laid).
  DERIVED. THE GIVEN ROWS OF THIS SEAT. 5 by the template 'for every input the law returns true; each argument reads behind the call as it read before'; 0 by the template 'total and deterministic' (their statements: YtcamihbcfeengaaTotals.lean).
  GIVEN WITH THE SEED: the statements are not yours to turn. If you find one false, say at which input.
  Laid BY PROGRAM, IN A SANDBOX (cutbox-rows.mjs): the forced cells as the released guide's own fill.sh prints them over the translation 8c141e120c12e0d2… (all of the seat's roots in one cut). By AI agents, Wed Nov 11 2026. No macro, syntax, notation, axiom, sorry.
-/
import Derived.Test.YtcamihbcfeengaaChecked
import GoSem.Claim
import GoSem.ClaimJoined
import GoSem.ClaimMapViews
import Derived.JoinedTies
import Derived.KernelRfl
namespace Go.Proofs.Ytcamihbcfeengaa
/- THE CELL 'sum', in the pinned program and in every row, IS THE sha256 OF THE DUMP (.gsa) THAT YtcamihbcfeengaaProg.lean LOADS. Nothing in Lean hashes anything: it is a label: what it is worth is what the hold of that sum in a sandbox is worth. -/
noncomputable def Try.pinned : Pinned := { name := "ytcamihbcfeengaa", sum := "8c141e120c12e0d28903e79af0f074740a3b267d82ea4dae4615f088883303e8", checked := Try.checked }
namespace Rows
def none {H : Type} : Left H := { results := [], args := [] }

/-- 'embrasurelaw07.BackWaits': WHATEVER THE INPUT: true; the input reads as it did. -/
def backWaitsSpec : ChangeSpec := { name := "backWaits", fn := fun _ => fun
  | [d1, d2, d3] => { results := [.lit (.bool true)], args := [d1, d2, d3] }
  | _ => none }
def backWaitsRow : OpenClaim := { program := "ytcamihbcfeengaa", sum := "8c141e120c12e0d28903e79af0f074740a3b267d82ea4dae4615f088883303e8", func := "embrasure/embrasurelaw07.BackWaits", spec := "backWaits", apart := false }
def BackWaitsSaid : Prop := backWaitsRow.holds Try.pinned (OpenSpec.ofChange backWaitsSpec)

/-- ITS FALSE NEIGHBOUR: 'it returns false'. Refute it at one input. -/
def backWaitsWrong : ChangeSpec := { name := "backWaits", fn := fun _ => fun
  | [d1, d2, d3] => { results := [.lit (.bool false)], args := [d1, d2, d3] }
  | _ => none }
def BackWaitsWrongFalsely : Prop := backWaitsRow.holds Try.pinned (OpenSpec.ofChange backWaitsWrong)

/-- 'embrasurelaw07.BackTimes': WHATEVER THE INPUT: true; the input reads as it did. -/
def backTimesSpec : ChangeSpec := { name := "backTimes", fn := fun _ => fun
  | [d1, d2, d3] => { results := [.lit (.bool true)], args := [d1, d2, d3] }
  | _ => none }
def backTimesRow : OpenClaim := { program := "ytcamihbcfeengaa", sum := "8c141e120c12e0d28903e79af0f074740a3b267d82ea4dae4615f088883303e8", func := "embrasure/embrasurelaw07.BackTimes", spec := "backTimes", unfollowed := true, recurses := true, apart := false }
def BackTimesSaid : Prop := backTimesRow.holds Try.pinned (OpenSpec.ofChange backTimesSpec)

/-- ITS FALSE NEIGHBOUR: 'it returns false'. Refute it at one input. -/
def backTimesWrong : ChangeSpec := { name := "backTimes", fn := fun _ => fun
  | [d1, d2, d3] => { results := [.lit (.bool false)], args := [d1, d2, d3] }
  | _ => none }
def BackTimesWrongFalsely : Prop := backTimesRow.holds Try.pinned (OpenSpec.ofChange backTimesWrong)

/-- 'embrasurelaw07.BackSums': WHATEVER THE INPUT: true; the input reads as it did. -/
def backSumsSpec : ChangeSpec := { name := "backSums", fn := fun _ => fun
  | [d1, d2, d3] => { results := [.lit (.bool true)], args := [d1, d2, d3] }
  | _ => none }
def backSumsRow : OpenClaim := { program := "ytcamihbcfeengaa", sum := "8c141e120c12e0d28903e79af0f074740a3b267d82ea4dae4615f088883303e8", func := "embrasure/embrasurelaw07.BackSums", spec := "backSums", apart := false }
def BackSumsSaid : Prop := backSumsRow.holds Try.pinned (OpenSpec.ofChange backSumsSpec)

/-- ITS FALSE NEIGHBOUR: 'it returns false'. Refute it at one input. -/
def backSumsWrong : ChangeSpec := { name := "backSums", fn := fun _ => fun
  | [d1, d2, d3] => { results := [.lit (.bool false)], args := [d1, d2, d3] }
  | _ => none }
def BackSumsWrongFalsely : Prop := backSumsRow.holds Try.pinned (OpenSpec.ofChange backSumsWrong)

/-- 'embrasurelaw07.BackApart': WHATEVER THE INPUT: true; the input reads as it did. -/
def backApartSpec : ChangeSpec := { name := "backApart", fn := fun _ => fun
  | [d1, d2] => { results := [.lit (.bool true)], args := [d1, d2] }
  | _ => none }
def backApartRow : OpenClaim := { program := "ytcamihbcfeengaa", sum := "8c141e120c12e0d28903e79af0f074740a3b267d82ea4dae4615f088883303e8", func := "embrasure/embrasurelaw07.BackApart", spec := "backApart", unfollowed := true, recurses := true, apart := false }
def BackApartSaid : Prop := backApartRow.holds Try.pinned (OpenSpec.ofChange backApartSpec)

/-- ITS FALSE NEIGHBOUR: 'it returns false'. Refute it at one input. -/
def backApartWrong : ChangeSpec := { name := "backApart", fn := fun _ => fun
  | [d1, d2] => { results := [.lit (.bool false)], args := [d1, d2] }
  | _ => none }
def BackApartWrongFalsely : Prop := backApartRow.holds Try.pinned (OpenSpec.ofChange backApartWrong)

/-- 'embrasurelaw07.BackDoubles': WHATEVER THE INPUT: true; the input reads as it did. -/
def backDoublesSpec : ChangeSpec := { name := "backDoubles", fn := fun _ => fun
  | [d1, d2, d3] => { results := [.lit (.bool true)], args := [d1, d2, d3] }
  | _ => none }
def backDoublesRow : OpenClaim := { program := "ytcamihbcfeengaa", sum := "8c141e120c12e0d28903e79af0f074740a3b267d82ea4dae4615f088883303e8", func := "embrasure/embrasurelaw07.BackDoubles", spec := "backDoubles", apart := false }
def BackDoublesSaid : Prop := backDoublesRow.holds Try.pinned (OpenSpec.ofChange backDoublesSpec)

/-- ITS FALSE NEIGHBOUR: 'it returns false'. Refute it at one input. -/
def backDoublesWrong : ChangeSpec := { name := "backDoubles", fn := fun _ => fun
  | [d1, d2, d3] => { results := [.lit (.bool false)], args := [d1, d2, d3] }
  | _ => none }
def BackDoublesWrongFalsely : Prop := backDoublesRow.holds Try.pinned (OpenSpec.ofChange backDoublesWrong)

/- THE SECOND FORM. 'bulk': how many values and letters a reading holds, each counted each time it is reached (what is shared counts as often as it is met; a slice's spare places count too). A statement '..UptoSaid' is the law's where the arguments, and the package variables that the reading takes, are together of bulk at most 1048576: NARROWER than '..Said'. Prove '..Said' where nothing that the law and all that it calls make is longer than what came in: it says more and counts as full. Else prove '..UptoSaid'. A law counts once. -/
mutual
def uptoBulk {H : Type} : DataW H → Nat
  | .lit (.string bytes) => bytes.length + 1
  | .lit _ => 1
  | .nil => 1
  | .ptr d => uptoBulk d + 1
  | .slice elems spare => uptoBulkAll elems + uptoBulkAll spare + 1
  | .agg parts => uptoBulkAll parts + 1
  | .iface _ d => uptoBulk d + 1
  | .map entries => uptoBulkEntries entries + 1
  | .held _ => 1
def uptoBulkAll {H : Type} : List (DataW H) → Nat
  | [] => 0
  | d :: r => uptoBulk d + uptoBulkAll r
def uptoBulkEntries {H : Type} : List (Lit × DataW H) → Nat
  | [] => 0
  | x :: r => uptoBulkEntry x + uptoBulkEntries r
def uptoBulkEntry {H : Type} : Lit × DataW H → Nat
  | (.string bytes, d) => bytes.length + uptoBulk d + 1
  | (_, d) => uptoBulk d + 1
 end
def uptoSmall : (H : Type) → List (DataW H) → Bool := fun _ ds => decide (uptoBulkAll ds ≤ 1048576)
def OpenSpec.upto (s : _root_.Go.ChangeSpec) : _root_.Go.OpenSpec := { _root_.Go.OpenSpec.ofChange s with cond := some uptoSmall }

/-- 'embrasurelaw07.BackWaits', WHERE WHAT IT READS IS OF BULK AT MOST 1048576: true; the input reads as it did. -/
def backWaitsUptoRow : OpenClaim := { program := "ytcamihbcfeengaa", sum := "8c141e120c12e0d28903e79af0f074740a3b267d82ea4dae4615f088883303e8", func := "embrasure/embrasurelaw07.BackWaits", spec := "backWaits", apart := false, narrowed := true }
def BackWaitsUptoSaid : Prop := backWaitsUptoRow.holds Try.pinned (OpenSpec.upto backWaitsSpec)

/-- 'embrasurelaw07.BackTimes', WHERE WHAT IT READS IS OF BULK AT MOST 1048576: true; the input reads as it did. -/
def backTimesUptoRow : OpenClaim := { program := "ytcamihbcfeengaa", sum := "8c141e120c12e0d28903e79af0f074740a3b267d82ea4dae4615f088883303e8", func := "embrasure/embrasurelaw07.BackTimes", spec := "backTimes", unfollowed := true, recurses := true, apart := false, narrowed := true }
def BackTimesUptoSaid : Prop := backTimesUptoRow.holds Try.pinned (OpenSpec.upto backTimesSpec)

/-- 'embrasurelaw07.BackSums', WHERE WHAT IT READS IS OF BULK AT MOST 1048576: true; the input reads as it did. -/
def backSumsUptoRow : OpenClaim := { program := "ytcamihbcfeengaa", sum := "8c141e120c12e0d28903e79af0f074740a3b267d82ea4dae4615f088883303e8", func := "embrasure/embrasurelaw07.BackSums", spec := "backSums", apart := false, narrowed := true }
def BackSumsUptoSaid : Prop := backSumsUptoRow.holds Try.pinned (OpenSpec.upto backSumsSpec)

/-- 'embrasurelaw07.BackApart', WHERE WHAT IT READS IS OF BULK AT MOST 1048576: true; the input reads as it did. -/
def backApartUptoRow : OpenClaim := { program := "ytcamihbcfeengaa", sum := "8c141e120c12e0d28903e79af0f074740a3b267d82ea4dae4615f088883303e8", func := "embrasure/embrasurelaw07.BackApart", spec := "backApart", unfollowed := true, recurses := true, apart := false, narrowed := true }
def BackApartUptoSaid : Prop := backApartUptoRow.holds Try.pinned (OpenSpec.upto backApartSpec)

/-- 'embrasurelaw07.BackDoubles', WHERE WHAT IT READS IS OF BULK AT MOST 1048576: true; the input reads as it did. -/
def backDoublesUptoRow : OpenClaim := { program := "ytcamihbcfeengaa", sum := "8c141e120c12e0d28903e79af0f074740a3b267d82ea4dae4615f088883303e8", func := "embrasure/embrasurelaw07.BackDoubles", spec := "backDoubles", apart := false, narrowed := true }
def BackDoublesUptoSaid : Prop := backDoublesUptoRow.holds Try.pinned (OpenSpec.upto backDoublesSpec)

end Rows
end Go.Proofs.Ytcamihbcfeengaa
