/-
  No cell of these rows narrows 'for every input' (looked for: loops, veiled, ifaces, maps, wideKeys, modest, calm, conditions, laid).
  DERIVED. THE GIVEN ROWS OF THIS SEAT. 8 by the template 'for every input the law returns true; each argument reads behind the call as it read before'; 0 by the template 'total and deterministic' (their statements: YtabokjhimpmiiaaTotals.lean).
  GIVEN WITH THE SEED: the statements are not yours to turn. If you find one false, say at which input.
  Laid BY PROGRAM, IN A SANDBOX (cutbox-rows.mjs): the forced cells as the released guide's own fill.sh prints them over the translation d04b0ded022159d9… (all of the seat's roots in one cut). By AI agents, Wed Nov 11 2026. No macro, syntax, notation, axiom, sorry.
-/
import Derived.Test.YtabokjhimpmiiaaChecked
import GoSem.Claim
import GoSem.ClaimJoined
import GoSem.ClaimMapViews
import Derived.JoinedTies
import Derived.KernelRfl
namespace Go.Proofs.Ytabokjhimpmiiaa
/- THE CELL 'sum', in the pinned program and in every row, IS THE sha256 OF THE DUMP (.gsa) THAT YtabokjhimpmiiaaProg.lean LOADS. Nothing in Lean hashes anything: it is a label: what it is worth is what the hold of that sum in a sandbox is worth. -/
noncomputable def Try.pinned : Pinned := { name := "ytabokjhimpmiiaa", sum := "d04b0ded022159d962c84a4a34e84715a3983ced1271b8571f37967da2fb9cb7", checked := Try.checked }
namespace Rows
def none {H : Type} : Left H := { results := [], args := [] }

/-- 'embrasurelaw09.PmpTells': WHATEVER THE INPUT: true; the input reads as it did. -/
def pmpTellsSpec : ChangeSpec := { name := "pmpTells", fn := fun _ => fun
  | [d1, d2] => { results := [.lit (.bool true)], args := [d1, d2] }
  | _ => none }
def pmpTellsRow : OpenClaim := { program := "ytabokjhimpmiiaa", sum := "d04b0ded022159d962c84a4a34e84715a3983ced1271b8571f37967da2fb9cb7", func := "embrasure/embrasurelaw09.PmpTells", spec := "pmpTells", unfollowed := true, recurses := true, apart := false }
def PmpTellsSaid : Prop := pmpTellsRow.holds Try.pinned (OpenSpec.ofChange pmpTellsSpec)

/-- ITS FALSE NEIGHBOUR: 'it returns false'. Refute it at one input. -/
def pmpTellsWrong : ChangeSpec := { name := "pmpTells", fn := fun _ => fun
  | [d1, d2] => { results := [.lit (.bool false)], args := [d1, d2] }
  | _ => none }
def PmpTellsWrongFalsely : Prop := pmpTellsRow.holds Try.pinned (OpenSpec.ofChange pmpTellsWrong)

/-- 'embrasurelaw09.PmpReads': WHATEVER THE INPUT: true; the input reads as it did. -/
def pmpReadsSpec : ChangeSpec := { name := "pmpReads", fn := fun _ => fun
  | [d] => { results := [.lit (.bool true)], args := [d] }
  | _ => none }
def pmpReadsRow : OpenClaim := { program := "ytabokjhimpmiiaa", sum := "d04b0ded022159d962c84a4a34e84715a3983ced1271b8571f37967da2fb9cb7", func := "embrasure/embrasurelaw09.PmpReads", spec := "pmpReads", unfollowed := true, recurses := true, apart := false }
def PmpReadsSaid : Prop := pmpReadsRow.holds Try.pinned (OpenSpec.ofChange pmpReadsSpec)

/-- ITS FALSE NEIGHBOUR: 'it returns false'. Refute it at one input. -/
def pmpReadsWrong : ChangeSpec := { name := "pmpReads", fn := fun _ => fun
  | [d] => { results := [.lit (.bool false)], args := [d] }
  | _ => none }
def PmpReadsWrongFalsely : Prop := pmpReadsRow.holds Try.pinned (OpenSpec.ofChange pmpReadsWrong)

/-- 'embrasurelaw09.PmpApart': WHATEVER THE INPUT: true; the input reads as it did. -/
def pmpApartSpec : ChangeSpec := { name := "pmpApart", fn := fun _ => fun
  | [d1, d2, d3] => { results := [.lit (.bool true)], args := [d1, d2, d3] }
  | _ => none }
def pmpApartRow : OpenClaim := { program := "ytabokjhimpmiiaa", sum := "d04b0ded022159d962c84a4a34e84715a3983ced1271b8571f37967da2fb9cb7", func := "embrasure/embrasurelaw09.PmpApart", spec := "pmpApart", unfollowed := true, recurses := true, apart := false }
def PmpApartSaid : Prop := pmpApartRow.holds Try.pinned (OpenSpec.ofChange pmpApartSpec)

/-- ITS FALSE NEIGHBOUR: 'it returns false'. Refute it at one input. -/
def pmpApartWrong : ChangeSpec := { name := "pmpApart", fn := fun _ => fun
  | [d1, d2, d3] => { results := [.lit (.bool false)], args := [d1, d2, d3] }
  | _ => none }
def PmpApartWrongFalsely : Prop := pmpApartRow.holds Try.pinned (OpenSpec.ofChange pmpApartWrong)

/-- 'embrasurelaw09.PmpCut': WHATEVER THE INPUT: true; the input reads as it did. -/
def pmpCutSpec : ChangeSpec := { name := "pmpCut", fn := fun _ => fun
  | [d1, d2, d3] => { results := [.lit (.bool true)], args := [d1, d2, d3] }
  | _ => none }
def pmpCutRow : OpenClaim := { program := "ytabokjhimpmiiaa", sum := "d04b0ded022159d962c84a4a34e84715a3983ced1271b8571f37967da2fb9cb7", func := "embrasure/embrasurelaw09.PmpCut", spec := "pmpCut", unfollowed := true, recurses := true, apart := false }
def PmpCutSaid : Prop := pmpCutRow.holds Try.pinned (OpenSpec.ofChange pmpCutSpec)

/-- ITS FALSE NEIGHBOUR: 'it returns false'. Refute it at one input. -/
def pmpCutWrong : ChangeSpec := { name := "pmpCut", fn := fun _ => fun
  | [d1, d2, d3] => { results := [.lit (.bool false)], args := [d1, d2, d3] }
  | _ => none }
def PmpCutWrongFalsely : Prop := pmpCutRow.holds Try.pinned (OpenSpec.ofChange pmpCutWrong)

/-- 'embrasurelaw10.PcpTells': WHATEVER THE INPUT: true; the input reads as it did. -/
def pcpTellsSpec : ChangeSpec := { name := "pcpTells", fn := fun _ => fun
  | [d1, d2] => { results := [.lit (.bool true)], args := [d1, d2] }
  | _ => none }
def pcpTellsRow : OpenClaim := { program := "ytabokjhimpmiiaa", sum := "d04b0ded022159d962c84a4a34e84715a3983ced1271b8571f37967da2fb9cb7", func := "embrasure/embrasurelaw10.PcpTells", spec := "pcpTells", unfollowed := true, recurses := true, apart := false }
def PcpTellsSaid : Prop := pcpTellsRow.holds Try.pinned (OpenSpec.ofChange pcpTellsSpec)

/-- ITS FALSE NEIGHBOUR: 'it returns false'. Refute it at one input. -/
def pcpTellsWrong : ChangeSpec := { name := "pcpTells", fn := fun _ => fun
  | [d1, d2] => { results := [.lit (.bool false)], args := [d1, d2] }
  | _ => none }
def PcpTellsWrongFalsely : Prop := pcpTellsRow.holds Try.pinned (OpenSpec.ofChange pcpTellsWrong)

/-- 'embrasurelaw10.PcpReads': WHATEVER THE INPUT: true; the input reads as it did. -/
def pcpReadsSpec : ChangeSpec := { name := "pcpReads", fn := fun _ => fun
  | [d] => { results := [.lit (.bool true)], args := [d] }
  | _ => none }
def pcpReadsRow : OpenClaim := { program := "ytabokjhimpmiiaa", sum := "d04b0ded022159d962c84a4a34e84715a3983ced1271b8571f37967da2fb9cb7", func := "embrasure/embrasurelaw10.PcpReads", spec := "pcpReads", unfollowed := true, recurses := true, apart := false }
def PcpReadsSaid : Prop := pcpReadsRow.holds Try.pinned (OpenSpec.ofChange pcpReadsSpec)

/-- ITS FALSE NEIGHBOUR: 'it returns false'. Refute it at one input. -/
def pcpReadsWrong : ChangeSpec := { name := "pcpReads", fn := fun _ => fun
  | [d] => { results := [.lit (.bool false)], args := [d] }
  | _ => none }
def PcpReadsWrongFalsely : Prop := pcpReadsRow.holds Try.pinned (OpenSpec.ofChange pcpReadsWrong)

/-- 'embrasurelaw10.PcpApart': WHATEVER THE INPUT: true; the input reads as it did. -/
def pcpApartSpec : ChangeSpec := { name := "pcpApart", fn := fun _ => fun
  | [d1, d2, d3] => { results := [.lit (.bool true)], args := [d1, d2, d3] }
  | _ => none }
def pcpApartRow : OpenClaim := { program := "ytabokjhimpmiiaa", sum := "d04b0ded022159d962c84a4a34e84715a3983ced1271b8571f37967da2fb9cb7", func := "embrasure/embrasurelaw10.PcpApart", spec := "pcpApart", unfollowed := true, recurses := true, apart := false }
def PcpApartSaid : Prop := pcpApartRow.holds Try.pinned (OpenSpec.ofChange pcpApartSpec)

/-- ITS FALSE NEIGHBOUR: 'it returns false'. Refute it at one input. -/
def pcpApartWrong : ChangeSpec := { name := "pcpApart", fn := fun _ => fun
  | [d1, d2, d3] => { results := [.lit (.bool false)], args := [d1, d2, d3] }
  | _ => none }
def PcpApartWrongFalsely : Prop := pcpApartRow.holds Try.pinned (OpenSpec.ofChange pcpApartWrong)

/-- 'embrasurelaw10.PcpCut': WHATEVER THE INPUT: true; the input reads as it did. -/
def pcpCutSpec : ChangeSpec := { name := "pcpCut", fn := fun _ => fun
  | [d1, d2, d3] => { results := [.lit (.bool true)], args := [d1, d2, d3] }
  | _ => none }
def pcpCutRow : OpenClaim := { program := "ytabokjhimpmiiaa", sum := "d04b0ded022159d962c84a4a34e84715a3983ced1271b8571f37967da2fb9cb7", func := "embrasure/embrasurelaw10.PcpCut", spec := "pcpCut", unfollowed := true, recurses := true, apart := false }
def PcpCutSaid : Prop := pcpCutRow.holds Try.pinned (OpenSpec.ofChange pcpCutSpec)

/-- ITS FALSE NEIGHBOUR: 'it returns false'. Refute it at one input. -/
def pcpCutWrong : ChangeSpec := { name := "pcpCut", fn := fun _ => fun
  | [d1, d2, d3] => { results := [.lit (.bool false)], args := [d1, d2, d3] }
  | _ => none }
def PcpCutWrongFalsely : Prop := pcpCutRow.holds Try.pinned (OpenSpec.ofChange pcpCutWrong)

/- THE SECOND FORM. 'bulk': how many values and letters a reading holds, each counted each time it is reached (what is shared counts as often as it is met; a slice's spare places count too). A statement '..UptoSaid' is the law's where the arguments, and the package variables that the reading takes, are together of bulk at most 1048576: NARROWER than '..Said'. Prove '..Said' where nothing that the law and all that it calls make is longer than what came in: it says more and counts as full. Else prove '..UptoSaid'. A law counts once. -/
mutual
def uptoBulk {H : Type} : DataW H → Nat
  | .lit (.string bytes) => bytes.length + 1
  | .lit _ => 1
  | .nil => 1
  | .ptr d => uptoBulk d + 1
  | .slice elems spare => uptoBulkAll elems + uptoBulkAll spare + 1
  | .agg parts => uptoBulkAll parts + 1
  | .iface _ d => uptoBulk d + 1
  | .map entries => uptoBulkEntries entries + 1
  | .held _ => 1
def uptoBulkAll {H : Type} : List (DataW H) → Nat
  | [] => 0
  | d :: r => uptoBulk d + uptoBulkAll r
def uptoBulkEntries {H : Type} : List (Lit × DataW H) → Nat
  | [] => 0
  | x :: r => uptoBulkEntry x + uptoBulkEntries r
def uptoBulkEntry {H : Type} : Lit × DataW H → Nat
  | (.string bytes, d) => bytes.length + uptoBulk d + 1
  | (_, d) => uptoBulk d + 1
 end
def uptoSmall : (H : Type) → List (DataW H) → Bool := fun _ ds => decide (uptoBulkAll ds ≤ 1048576)
def OpenSpec.upto (s : _root_.Go.ChangeSpec) : _root_.Go.OpenSpec := { _root_.Go.OpenSpec.ofChange s with cond := some uptoSmall }

/-- 'embrasurelaw09.PmpTells', WHERE WHAT IT READS IS OF BULK AT MOST 1048576: true; the input reads as it did. -/
def pmpTellsUptoRow : OpenClaim := { program := "ytabokjhimpmiiaa", sum := "d04b0ded022159d962c84a4a34e84715a3983ced1271b8571f37967da2fb9cb7", func := "embrasure/embrasurelaw09.PmpTells", spec := "pmpTells", unfollowed := true, recurses := true, apart := false, narrowed := true }
def PmpTellsUptoSaid : Prop := pmpTellsUptoRow.holds Try.pinned (OpenSpec.upto pmpTellsSpec)

/-- 'embrasurelaw09.PmpReads', WHERE WHAT IT READS IS OF BULK AT MOST 1048576: true; the input reads as it did. -/
def pmpReadsUptoRow : OpenClaim := { program := "ytabokjhimpmiiaa", sum := "d04b0ded022159d962c84a4a34e84715a3983ced1271b8571f37967da2fb9cb7", func := "embrasure/embrasurelaw09.PmpReads", spec := "pmpReads", unfollowed := true, recurses := true, apart := false, narrowed := true }
def PmpReadsUptoSaid : Prop := pmpReadsUptoRow.holds Try.pinned (OpenSpec.upto pmpReadsSpec)

/-- 'embrasurelaw09.PmpApart', WHERE WHAT IT READS IS OF BULK AT MOST 1048576: true; the input reads as it did. -/
def pmpApartUptoRow : OpenClaim := { program := "ytabokjhimpmiiaa", sum := "d04b0ded022159d962c84a4a34e84715a3983ced1271b8571f37967da2fb9cb7", func := "embrasure/embrasurelaw09.PmpApart", spec := "pmpApart", unfollowed := true, recurses := true, apart := false, narrowed := true }
def PmpApartUptoSaid : Prop := pmpApartUptoRow.holds Try.pinned (OpenSpec.upto pmpApartSpec)

/-- 'embrasurelaw09.PmpCut', WHERE WHAT IT READS IS OF BULK AT MOST 1048576: true; the input reads as it did. -/
def pmpCutUptoRow : OpenClaim := { program := "ytabokjhimpmiiaa", sum := "d04b0ded022159d962c84a4a34e84715a3983ced1271b8571f37967da2fb9cb7", func := "embrasure/embrasurelaw09.PmpCut", spec := "pmpCut", unfollowed := true, recurses := true, apart := false, narrowed := true }
def PmpCutUptoSaid : Prop := pmpCutUptoRow.holds Try.pinned (OpenSpec.upto pmpCutSpec)

/-- 'embrasurelaw10.PcpTells', WHERE WHAT IT READS IS OF BULK AT MOST 1048576: true; the input reads as it did. -/
def pcpTellsUptoRow : OpenClaim := { program := "ytabokjhimpmiiaa", sum := "d04b0ded022159d962c84a4a34e84715a3983ced1271b8571f37967da2fb9cb7", func := "embrasure/embrasurelaw10.PcpTells", spec := "pcpTells", unfollowed := true, recurses := true, apart := false, narrowed := true }
def PcpTellsUptoSaid : Prop := pcpTellsUptoRow.holds Try.pinned (OpenSpec.upto pcpTellsSpec)

/-- 'embrasurelaw10.PcpReads', WHERE WHAT IT READS IS OF BULK AT MOST 1048576: true; the input reads as it did. -/
def pcpReadsUptoRow : OpenClaim := { program := "ytabokjhimpmiiaa", sum := "d04b0ded022159d962c84a4a34e84715a3983ced1271b8571f37967da2fb9cb7", func := "embrasure/embrasurelaw10.PcpReads", spec := "pcpReads", unfollowed := true, recurses := true, apart := false, narrowed := true }
def PcpReadsUptoSaid : Prop := pcpReadsUptoRow.holds Try.pinned (OpenSpec.upto pcpReadsSpec)

/-- 'embrasurelaw10.PcpApart', WHERE WHAT IT READS IS OF BULK AT MOST 1048576: true; the input reads as it did. -/
def pcpApartUptoRow : OpenClaim := { program := "ytabokjhimpmiiaa", sum := "d04b0ded022159d962c84a4a34e84715a3983ced1271b8571f37967da2fb9cb7", func := "embrasure/embrasurelaw10.PcpApart", spec := "pcpApart", unfollowed := true, recurses := true, apart := false, narrowed := true }
def PcpApartUptoSaid : Prop := pcpApartUptoRow.holds Try.pinned (OpenSpec.upto pcpApartSpec)

/-- 'embrasurelaw10.PcpCut', WHERE WHAT IT READS IS OF BULK AT MOST 1048576: true; the input reads as it did. -/
def pcpCutUptoRow : OpenClaim := { program := "ytabokjhimpmiiaa", sum := "d04b0ded022159d962c84a4a34e84715a3983ced1271b8571f37967da2fb9cb7", func := "embrasure/embrasurelaw10.PcpCut", spec := "pcpCut", unfollowed := true, recurses := true, apart := false, narrowed := true }
def PcpCutUptoSaid : Prop := pcpCutUptoRow.holds Try.pinned (OpenSpec.upto pcpCutSpec)

end Rows
end Go.Proofs.Ytabokjhimpmiiaa
