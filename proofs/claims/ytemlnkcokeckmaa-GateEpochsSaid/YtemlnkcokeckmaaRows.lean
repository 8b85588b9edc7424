/-
  No cell of these rows narrows 'for every input' (looked for: loops, veiled, ifaces, maps, wideKeys, modest, calm, conditions, laid).
  DERIVED. THE GIVEN ROWS OF THIS SEAT. 10 by the template 'for every input the law returns true; each argument reads behind the call as it read before'; 0 by the template 'total and deterministic' (their statements: YtemlnkcokeckmaaTotals.lean).
  GIVEN WITH THE SEED: the statements are not yours to turn. If you find one false, say at which input.
  Laid BY PROGRAM, IN A SANDBOX (cutbox-rows.mjs): the forced cells as the released guide's own fill.sh prints them over the translation 3c505c504f05df0a… (all of the seat's roots in one cut). By AI agents, Wed Nov 11 2026. No macro, syntax, notation, axiom, sorry.
-/
import Derived.Test.YtemlnkcokeckmaaChecked
import GoSem.Claim
import GoSem.ClaimJoined
import GoSem.ClaimMapViews
import Derived.JoinedTies
import Derived.KernelRfl
namespace Go.Proofs.Ytemlnkcokeckmaa
/- THE CELL 'sum', in the pinned program and in every row, IS THE sha256 OF THE DUMP (.gsa) THAT YtemlnkcokeckmaaProg.lean LOADS. Nothing in Lean hashes anything: it is a label: what it is worth is what the hold of that sum in a sandbox is worth. -/
noncomputable def Try.pinned : Pinned := { name := "ytemlnkcokeckmaa", sum := "3c505c504f05df0a364551e9662c92c9ffe7a36b28b1b14e198f1ce9c76cf001", checked := Try.checked }
namespace Rows
def none {H : Type} : Left H := { results := [], args := [] }

/-- 'embrasurelaw08.NatPlays': WHATEVER THE INPUT: true; the input reads as it did. -/
def natPlaysSpec : ChangeSpec := { name := "natPlays", fn := fun _ => fun
  | [d1, d2] => { results := [.lit (.bool true)], args := [d1, d2] }
  | _ => none }
def natPlaysRow : OpenClaim := { program := "ytemlnkcokeckmaa", sum := "3c505c504f05df0a364551e9662c92c9ffe7a36b28b1b14e198f1ce9c76cf001", func := "embrasure/embrasurelaw08.NatPlays", spec := "natPlays", unfollowed := true, recurses := true, plainKeys := false, apart := false }
def NatPlaysSaid : Prop := natPlaysRow.holds Try.pinned (OpenSpec.ofChange natPlaysSpec)

/-- ITS FALSE NEIGHBOUR: 'it returns false'. Refute it at one input. -/
def natPlaysWrong : ChangeSpec := { name := "natPlays", fn := fun _ => fun
  | [d1, d2] => { results := [.lit (.bool false)], args := [d1, d2] }
  | _ => none }
def NatPlaysWrongFalsely : Prop := natPlaysRow.holds Try.pinned (OpenSpec.ofChange natPlaysWrong)

/-- 'embrasurelaw08.NatBack': WHATEVER THE INPUT: true; the input reads as it did. -/
def natBackSpec : ChangeSpec := { name := "natBack", fn := fun _ => fun
  | [d1, d2, d3] => { results := [.lit (.bool true)], args := [d1, d2, d3] }
  | _ => none }
def natBackRow : OpenClaim := { program := "ytemlnkcokeckmaa", sum := "3c505c504f05df0a364551e9662c92c9ffe7a36b28b1b14e198f1ce9c76cf001", func := "embrasure/embrasurelaw08.NatBack", spec := "natBack", unfollowed := true, recurses := true, plainKeys := false, apart := false }
def NatBackSaid : Prop := natBackRow.holds Try.pinned (OpenSpec.ofChange natBackSpec)

/-- ITS FALSE NEIGHBOUR: 'it returns false'. Refute it at one input. -/
def natBackWrong : ChangeSpec := { name := "natBack", fn := fun _ => fun
  | [d1, d2, d3] => { results := [.lit (.bool false)], args := [d1, d2, d3] }
  | _ => none }
def NatBackWrongFalsely : Prop := natBackRow.holds Try.pinned (OpenSpec.ofChange natBackWrong)

/-- 'embrasurelaw08.NatOne': WHATEVER THE INPUT: true; the input reads as it did. -/
def natOneSpec : ChangeSpec := { name := "natOne", fn := fun _ => fun
  | [d1, d2, d3] => { results := [.lit (.bool true)], args := [d1, d2, d3] }
  | _ => none }
def natOneRow : OpenClaim := { program := "ytemlnkcokeckmaa", sum := "3c505c504f05df0a364551e9662c92c9ffe7a36b28b1b14e198f1ce9c76cf001", func := "embrasure/embrasurelaw08.NatOne", spec := "natOne", unfollowed := true, recurses := true, plainKeys := false, apart := false }
def NatOneSaid : Prop := natOneRow.holds Try.pinned (OpenSpec.ofChange natOneSpec)

/-- ITS FALSE NEIGHBOUR: 'it returns false'. Refute it at one input. -/
def natOneWrong : ChangeSpec := { name := "natOne", fn := fun _ => fun
  | [d1, d2, d3] => { results := [.lit (.bool false)], args := [d1, d2, d3] }
  | _ => none }
def NatOneWrongFalsely : Prop := natOneRow.holds Try.pinned (OpenSpec.ofChange natOneWrong)

/-- 'embrasurelaw08.NatAsked': WHATEVER THE INPUT: true; the input reads as it did. -/
def natAskedSpec : ChangeSpec := { name := "natAsked", fn := fun _ => fun
  | [d1, d2, d3] => { results := [.lit (.bool true)], args := [d1, d2, d3] }
  | _ => none }
def natAskedRow : OpenClaim := { program := "ytemlnkcokeckmaa", sum := "3c505c504f05df0a364551e9662c92c9ffe7a36b28b1b14e198f1ce9c76cf001", func := "embrasure/embrasurelaw08.NatAsked", spec := "natAsked", unfollowed := true, recurses := true, plainKeys := false, apart := false }
def NatAskedSaid : Prop := natAskedRow.holds Try.pinned (OpenSpec.ofChange natAskedSpec)

/-- ITS FALSE NEIGHBOUR: 'it returns false'. Refute it at one input. -/
def natAskedWrong : ChangeSpec := { name := "natAsked", fn := fun _ => fun
  | [d1, d2, d3] => { results := [.lit (.bool false)], args := [d1, d2, d3] }
  | _ => none }
def NatAskedWrongFalsely : Prop := natAskedRow.holds Try.pinned (OpenSpec.ofChange natAskedWrong)

/-- 'embrasurelaw08.NatFull': WHATEVER THE INPUT: true; the input reads as it did. -/
def natFullSpec : ChangeSpec := { name := "natFull", fn := fun _ => fun
  | [d1, d2, d3] => { results := [.lit (.bool true)], args := [d1, d2, d3] }
  | _ => none }
def natFullRow : OpenClaim := { program := "ytemlnkcokeckmaa", sum := "3c505c504f05df0a364551e9662c92c9ffe7a36b28b1b14e198f1ce9c76cf001", func := "embrasure/embrasurelaw08.NatFull", spec := "natFull", unfollowed := true, recurses := true, plainKeys := false, apart := false }
def NatFullSaid : Prop := natFullRow.holds Try.pinned (OpenSpec.ofChange natFullSpec)

/-- ITS FALSE NEIGHBOUR: 'it returns false'. Refute it at one input. -/
def natFullWrong : ChangeSpec := { name := "natFull", fn := fun _ => fun
  | [d1, d2, d3] => { results := [.lit (.bool false)], args := [d1, d2, d3] }
  | _ => none }
def NatFullWrongFalsely : Prop := natFullRow.holds Try.pinned (OpenSpec.ofChange natFullWrong)

/-- 'embrasurelaw08.NatLasts': WHATEVER THE INPUT: true; the input reads as it did. -/
def natLastsSpec : ChangeSpec := { name := "natLasts", fn := fun _ => fun
  | [d1, d2, d3] => { results := [.lit (.bool true)], args := [d1, d2, d3] }
  | _ => none }
def natLastsRow : OpenClaim := { program := "ytemlnkcokeckmaa", sum := "3c505c504f05df0a364551e9662c92c9ffe7a36b28b1b14e198f1ce9c76cf001", func := "embrasure/embrasurelaw08.NatLasts", spec := "natLasts", unfollowed := true, recurses := true, plainKeys := false, apart := false }
def NatLastsSaid : Prop := natLastsRow.holds Try.pinned (OpenSpec.ofChange natLastsSpec)

/-- ITS FALSE NEIGHBOUR: 'it returns false'. Refute it at one input. -/
def natLastsWrong : ChangeSpec := { name := "natLasts", fn := fun _ => fun
  | [d1, d2, d3] => { results := [.lit (.bool false)], args := [d1, d2, d3] }
  | _ => none }
def NatLastsWrongFalsely : Prop := natLastsRow.holds Try.pinned (OpenSpec.ofChange natLastsWrong)

/-- 'embrasurelaw11.GateGrants': WHATEVER THE INPUT: true; the input reads as it did. -/
def gateGrantsSpec : ChangeSpec := { name := "gateGrants", fn := fun _ => fun
  | [d1, d2, d3] => { results := [.lit (.bool true)], args := [d1, d2, d3] }
  | _ => none }
def gateGrantsRow : OpenClaim := { program := "ytemlnkcokeckmaa", sum := "3c505c504f05df0a364551e9662c92c9ffe7a36b28b1b14e198f1ce9c76cf001", func := "embrasure/embrasurelaw11.GateGrants", spec := "gateGrants", unfollowed := true, recurses := true, plainKeys := false, apart := false }
def GateGrantsSaid : Prop := gateGrantsRow.holds Try.pinned (OpenSpec.ofChange gateGrantsSpec)

/-- ITS FALSE NEIGHBOUR: 'it returns false'. Refute it at one input. -/
def gateGrantsWrong : ChangeSpec := { name := "gateGrants", fn := fun _ => fun
  | [d1, d2, d3] => { results := [.lit (.bool false)], args := [d1, d2, d3] }
  | _ => none }
def GateGrantsWrongFalsely : Prop := gateGrantsRow.holds Try.pinned (OpenSpec.ofChange gateGrantsWrong)

/-- 'embrasurelaw11.GateKeeps': WHATEVER THE INPUT: true; the input reads as it did. -/
def gateKeepsSpec : ChangeSpec := { name := "gateKeeps", fn := fun _ => fun
  | [d1, d2, d3] => { results := [.lit (.bool true)], args := [d1, d2, d3] }
  | _ => none }
def gateKeepsRow : OpenClaim := { program := "ytemlnkcokeckmaa", sum := "3c505c504f05df0a364551e9662c92c9ffe7a36b28b1b14e198f1ce9c76cf001", func := "embrasure/embrasurelaw11.GateKeeps", spec := "gateKeeps", unfollowed := true, recurses := true, plainKeys := false, apart := false }
def GateKeepsSaid : Prop := gateKeepsRow.holds Try.pinned (OpenSpec.ofChange gateKeepsSpec)

/-- ITS FALSE NEIGHBOUR: 'it returns false'. Refute it at one input. -/
def gateKeepsWrong : ChangeSpec := { name := "gateKeeps", fn := fun _ => fun
  | [d1, d2, d3] => { results := [.lit (.bool false)], args := [d1, d2, d3] }
  | _ => none }
def GateKeepsWrongFalsely : Prop := gateKeepsRow.holds Try.pinned (OpenSpec.ofChange gateKeepsWrong)

/-- 'embrasurelaw11.GateEpochs': WHATEVER THE INPUT: true; the input reads as it did. -/
def gateEpochsSpec : ChangeSpec := { name := "gateEpochs", fn := fun _ => fun
  | [d1, d2] => { results := [.lit (.bool true)], args := [d1, d2] }
  | _ => none }
def gateEpochsRow : OpenClaim := { program := "ytemlnkcokeckmaa", sum := "3c505c504f05df0a364551e9662c92c9ffe7a36b28b1b14e198f1ce9c76cf001", func := "embrasure/embrasurelaw11.GateEpochs", spec := "gateEpochs", unfollowed := true, recurses := true, plainKeys := false, apart := false }
def GateEpochsSaid : Prop := gateEpochsRow.holds Try.pinned (OpenSpec.ofChange gateEpochsSpec)

/-- ITS FALSE NEIGHBOUR: 'it returns false'. Refute it at one input. -/
def gateEpochsWrong : ChangeSpec := { name := "gateEpochs", fn := fun _ => fun
  | [d1, d2] => { results := [.lit (.bool false)], args := [d1, d2] }
  | _ => none }
def GateEpochsWrongFalsely : Prop := gateEpochsRow.holds Try.pinned (OpenSpec.ofChange gateEpochsWrong)

/-- 'embrasurelaw11.GateDeaf': WHATEVER THE INPUT: true; the input reads as it did. -/
def gateDeafSpec : ChangeSpec := { name := "gateDeaf", fn := fun _ => fun
  | [d1, d2, d3] => { results := [.lit (.bool true)], args := [d1, d2, d3] }
  | _ => none }
def gateDeafRow : OpenClaim := { program := "ytemlnkcokeckmaa", sum := "3c505c504f05df0a364551e9662c92c9ffe7a36b28b1b14e198f1ce9c76cf001", func := "embrasure/embrasurelaw11.GateDeaf", spec := "gateDeaf", unfollowed := true, recurses := true, plainKeys := false, apart := false }
def GateDeafSaid : Prop := gateDeafRow.holds Try.pinned (OpenSpec.ofChange gateDeafSpec)

/-- ITS FALSE NEIGHBOUR: 'it returns false'. Refute it at one input. -/
def gateDeafWrong : ChangeSpec := { name := "gateDeaf", fn := fun _ => fun
  | [d1, d2, d3] => { results := [.lit (.bool false)], args := [d1, d2, d3] }
  | _ => none }
def GateDeafWrongFalsely : Prop := gateDeafRow.holds Try.pinned (OpenSpec.ofChange gateDeafWrong)

/- THE SECOND FORM. 'bulk': how many values and letters a reading holds, each counted each time it is reached (what is shared counts as often as it is met; a slice's spare places count too). A statement '..UptoSaid' is the law's where the arguments, and the package variables that the reading takes, are together of bulk at most 1048576: NARROWER than '..Said'. Prove '..Said' where nothing that the law and all that it calls make is longer than what came in: it says more and counts as full. Else prove '..UptoSaid'. A law counts once. -/
mutual
def uptoBulk {H : Type} : DataW H → Nat
  | .lit (.string bytes) => bytes.length + 1
  | .lit _ => 1
  | .nil => 1
  | .ptr d => uptoBulk d + 1
  | .slice elems spare => uptoBulkAll elems + uptoBulkAll spare + 1
  | .agg parts => uptoBulkAll parts + 1
  | .iface _ d => uptoBulk d + 1
  | .map entries => uptoBulkEntries entries + 1
  | .held _ => 1
def uptoBulkAll {H : Type} : List (DataW H) → Nat
  | [] => 0
  | d :: r => uptoBulk d + uptoBulkAll r
def uptoBulkEntries {H : Type} : List (Lit × DataW H) → Nat
  | [] => 0
  | x :: r => uptoBulkEntry x + uptoBulkEntries r
def uptoBulkEntry {H : Type} : Lit × DataW H → Nat
  | (.string bytes, d) => bytes.length + uptoBulk d + 1
  | (_, d) => uptoBulk d + 1
 end
def uptoSmall : (H : Type) → List (DataW H) → Bool := fun _ ds => decide (uptoBulkAll ds ≤ 1048576)
def OpenSpec.upto (s : _root_.Go.ChangeSpec) : _root_.Go.OpenSpec := { _root_.Go.OpenSpec.ofChange s with cond := some uptoSmall }

/-- 'embrasurelaw08.NatPlays', WHERE WHAT IT READS IS OF BULK AT MOST 1048576: true; the input reads as it did. -/
def natPlaysUptoRow : OpenClaim := { program := "ytemlnkcokeckmaa", sum := "3c505c504f05df0a364551e9662c92c9ffe7a36b28b1b14e198f1ce9c76cf001", func := "embrasure/embrasurelaw08.NatPlays", spec := "natPlays", unfollowed := true, recurses := true, plainKeys := false, apart := false, narrowed := true }
def NatPlaysUptoSaid : Prop := natPlaysUptoRow.holds Try.pinned (OpenSpec.upto natPlaysSpec)

/-- 'embrasurelaw08.NatBack', WHERE WHAT IT READS IS OF BULK AT MOST 1048576: true; the input reads as it did. -/
def natBackUptoRow : OpenClaim := { program := "ytemlnkcokeckmaa", sum := "3c505c504f05df0a364551e9662c92c9ffe7a36b28b1b14e198f1ce9c76cf001", func := "embrasure/embrasurelaw08.NatBack", spec := "natBack", unfollowed := true, recurses := true, plainKeys := false, apart := false, narrowed := true }
def NatBackUptoSaid : Prop := natBackUptoRow.holds Try.pinned (OpenSpec.upto natBackSpec)

/-- 'embrasurelaw08.NatOne', WHERE WHAT IT READS IS OF BULK AT MOST 1048576: true; the input reads as it did. -/
def natOneUptoRow : OpenClaim := { program := "ytemlnkcokeckmaa", sum := "3c505c504f05df0a364551e9662c92c9ffe7a36b28b1b14e198f1ce9c76cf001", func := "embrasure/embrasurelaw08.NatOne", spec := "natOne", unfollowed := true, recurses := true, plainKeys := false, apart := false, narrowed := true }
def NatOneUptoSaid : Prop := natOneUptoRow.holds Try.pinned (OpenSpec.upto natOneSpec)

/-- 'embrasurelaw08.NatAsked', WHERE WHAT IT READS IS OF BULK AT MOST 1048576: true; the input reads as it did. -/
def natAskedUptoRow : OpenClaim := { program := "ytemlnkcokeckmaa", sum := "3c505c504f05df0a364551e9662c92c9ffe7a36b28b1b14e198f1ce9c76cf001", func := "embrasure/embrasurelaw08.NatAsked", spec := "natAsked", unfollowed := true, recurses := true, plainKeys := false, apart := false, narrowed := true }
def NatAskedUptoSaid : Prop := natAskedUptoRow.holds Try.pinned (OpenSpec.upto natAskedSpec)

/-- 'embrasurelaw08.NatFull', WHERE WHAT IT READS IS OF BULK AT MOST 1048576: true; the input reads as it did. -/
def natFullUptoRow : OpenClaim := { program := "ytemlnkcokeckmaa", sum := "3c505c504f05df0a364551e9662c92c9ffe7a36b28b1b14e198f1ce9c76cf001", func := "embrasure/embrasurelaw08.NatFull", spec := "natFull", unfollowed := true, recurses := true, plainKeys := false, apart := false, narrowed := true }
def NatFullUptoSaid : Prop := natFullUptoRow.holds Try.pinned (OpenSpec.upto natFullSpec)

/-- 'embrasurelaw08.NatLasts', WHERE WHAT IT READS IS OF BULK AT MOST 1048576: true; the input reads as it did. -/
def natLastsUptoRow : OpenClaim := { program := "ytemlnkcokeckmaa", sum := "3c505c504f05df0a364551e9662c92c9ffe7a36b28b1b14e198f1ce9c76cf001", func := "embrasure/embrasurelaw08.NatLasts", spec := "natLasts", unfollowed := true, recurses := true, plainKeys := false, apart := false, narrowed := true }
def NatLastsUptoSaid : Prop := natLastsUptoRow.holds Try.pinned (OpenSpec.upto natLastsSpec)

/-- 'embrasurelaw11.GateGrants', WHERE WHAT IT READS IS OF BULK AT MOST 1048576: true; the input reads as it did. -/
def gateGrantsUptoRow : OpenClaim := { program := "ytemlnkcokeckmaa", sum := "3c505c504f05df0a364551e9662c92c9ffe7a36b28b1b14e198f1ce9c76cf001", func := "embrasure/embrasurelaw11.GateGrants", spec := "gateGrants", unfollowed := true, recurses := true, plainKeys := false, apart := false, narrowed := true }
def GateGrantsUptoSaid : Prop := gateGrantsUptoRow.holds Try.pinned (OpenSpec.upto gateGrantsSpec)

/-- 'embrasurelaw11.GateKeeps', WHERE WHAT IT READS IS OF BULK AT MOST 1048576: true; the input reads as it did. -/
def gateKeepsUptoRow : OpenClaim := { program := "ytemlnkcokeckmaa", sum := "3c505c504f05df0a364551e9662c92c9ffe7a36b28b1b14e198f1ce9c76cf001", func := "embrasure/embrasurelaw11.GateKeeps", spec := "gateKeeps", unfollowed := true, recurses := true, plainKeys := false, apart := false, narrowed := true }
def GateKeepsUptoSaid : Prop := gateKeepsUptoRow.holds Try.pinned (OpenSpec.upto gateKeepsSpec)

/-- 'embrasurelaw11.GateEpochs', WHERE WHAT IT READS IS OF BULK AT MOST 1048576: true; the input reads as it did. -/
def gateEpochsUptoRow : OpenClaim := { program := "ytemlnkcokeckmaa", sum := "3c505c504f05df0a364551e9662c92c9ffe7a36b28b1b14e198f1ce9c76cf001", func := "embrasure/embrasurelaw11.GateEpochs", spec := "gateEpochs", unfollowed := true, recurses := true, plainKeys := false, apart := false, narrowed := true }
def GateEpochsUptoSaid : Prop := gateEpochsUptoRow.holds Try.pinned (OpenSpec.upto gateEpochsSpec)

/-- 'embrasurelaw11.GateDeaf', WHERE WHAT IT READS IS OF BULK AT MOST 1048576: true; the input reads as it did. -/
def gateDeafUptoRow : OpenClaim := { program := "ytemlnkcokeckmaa", sum := "3c505c504f05df0a364551e9662c92c9ffe7a36b28b1b14e198f1ce9c76cf001", func := "embrasure/embrasurelaw11.GateDeaf", spec := "gateDeaf", unfollowed := true, recurses := true, plainKeys := false, apart := false, narrowed := true }
def GateDeafUptoSaid : Prop := gateDeafUptoRow.holds Try.pinned (OpenSpec.upto gateDeafSpec)

end Rows
end Go.Proofs.Ytemlnkcokeckmaa
