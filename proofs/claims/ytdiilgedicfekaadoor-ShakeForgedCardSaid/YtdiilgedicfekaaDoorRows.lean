/-
  NARROWER THAN 'FOR EVERY INPUT', by the rows' own cells (each row's printed sentence says how): ShakePlays: laid · ShakeMeets: laid · ShakeTrue: laid · ShakeOver: laid · ShakeForged: laid · ShakeAgain: laid.
  DERIVED. THE GIVEN ROWS OF THIS SEAT. 6 by the template 'for every input the law returns true; each argument reads behind the call as it read before'; 0 by the template 'total and deterministic' (their statements: YtdiilgedicfekaaDoorTotals.lean).
  GIVEN WITH THE SEED: the statements are not yours to turn. If you find one false, say at which input.
  Laid BY PROGRAM, IN A SANDBOX (cutbox-rows.mjs): the forced cells as the released guide's own fill.sh prints them over the translation f515ed621daa4383… (all of the seat's roots in one cut). By AI agents, Wed Nov 11 2026. No macro, syntax, notation, axiom, sorry.
-/
import Derived.Test.YtdiilgedicfekaaDoorChecked
import GoSem.Claim
import GoSem.ClaimJoined
import GoSem.ClaimMapViews
import Derived.JoinedTies
import Derived.KernelRfl
namespace Go.Proofs.YtdiilgedicfekaaDoor
/- THE CELL 'sum', in the pinned program and in every row, IS THE sha256 OF THE DUMP (.gsa) THAT YtdiilgedicfekaaDoorProg.lean LOADS. Nothing in Lean hashes anything: it is a label: what it is worth is what the hold of that sum in a sandbox is worth. -/
noncomputable def Tryd.pinned : Pinned := { name := "ytdiilgedicfekaadoor", sum := "f515ed621daa4383bebcc9719a877b36583a63bc5226a088c200a5ad30285559", checked := Tryd.checked }
namespace Rows
def none {H : Type} : Left H := { results := [], args := [] }

/- WHAT THE LISTED PACKAGE-LEVEL VARIABLES READ AS WHEN THE CALL BEGINS. Each datum BY PROGRAM (the guide's laid-datum.mjs) off the statement by which the dump's own 'gosem.cut.vars' lays the variable. In a bare row this is a premise. The card (YtdiilgedicfekaaDoorCards.lean) ties it to the program's text. -/
def laid_embrasure_wire_counts {H : Type} : DataW H := .agg [.lit (.int .i64 0), .lit (.int .i64 4), .lit (.int .i64 5), .lit (.int .i64 5), .lit (.int .i64 6), .lit (.int .i64 1), .lit (.int .i64 1), .lit (.int .i64 3), .lit (.int .i64 1), .lit (.int .i64 2), .lit (.int .i64 2), .lit (.int .i64 2), .lit (.int .i64 4), .lit (.int .i64 2), .lit (.int .i64 4), .lit (.int .i64 2), .lit (.int .i64 1), .lit (.int .i64 2), .lit (.int .i64 1)]

/-- 'embrasurelaw15.ShakePlays': WHATEVER THE INPUT: true; the input reads as it did. -/
def shakePlaysSpec : ChangeSpec := { name := "shakePlays", fn := fun _ => fun
  | [d1, d2] => { results := [.lit (.bool true)], args := [d1, d2] }
  | _ => none }
def shakePlaysRow : OpenClaim := { program := "ytdiilgedicfekaadoor", sum := "f515ed621daa4383bebcc9719a877b36583a63bc5226a088c200a5ad30285559", func := "embrasure/embrasurelaw15.ShakePlays", spec := "shakePlays", unfollowed := true, recurses := true, named := ["embrasure/wire.counts"], plainKeys := false, apart := false, laid := [("embrasure/wire.counts", laid_embrasure_wire_counts)] }
def ShakePlaysSaid : Prop := shakePlaysRow.holds Tryd.pinned (OpenSpec.ofChange shakePlaysSpec)

/-- ITS FALSE NEIGHBOUR: 'it returns false'. Refute it at one input. -/
def shakePlaysWrong : ChangeSpec := { name := "shakePlays", fn := fun _ => fun
  | [d1, d2] => { results := [.lit (.bool false)], args := [d1, d2] }
  | _ => none }
def ShakePlaysWrongFalsely : Prop := shakePlaysRow.holds Tryd.pinned (OpenSpec.ofChange shakePlaysWrong)

/-- 'embrasurelaw15.ShakeMeets': WHATEVER THE INPUT: true; the input reads as it did. -/
def shakeMeetsSpec : ChangeSpec := { name := "shakeMeets", fn := fun _ => fun
  | [d1, d2, d3] => { results := [.lit (.bool true)], args := [d1, d2, d3] }
  | _ => none }
def shakeMeetsRow : OpenClaim := { program := "ytdiilgedicfekaadoor", sum := "f515ed621daa4383bebcc9719a877b36583a63bc5226a088c200a5ad30285559", func := "embrasure/embrasurelaw15.ShakeMeets", spec := "shakeMeets", unfollowed := true, recurses := true, named := ["embrasure/wire.counts"], plainKeys := false, apart := false, laid := [("embrasure/wire.counts", laid_embrasure_wire_counts)] }
def ShakeMeetsSaid : Prop := shakeMeetsRow.holds Tryd.pinned (OpenSpec.ofChange shakeMeetsSpec)

/-- ITS FALSE NEIGHBOUR: 'it returns false'. Refute it at one input. -/
def shakeMeetsWrong : ChangeSpec := { name := "shakeMeets", fn := fun _ => fun
  | [d1, d2, d3] => { results := [.lit (.bool false)], args := [d1, d2, d3] }
  | _ => none }
def ShakeMeetsWrongFalsely : Prop := shakeMeetsRow.holds Tryd.pinned (OpenSpec.ofChange shakeMeetsWrong)

/-- 'embrasurelaw15.ShakeTrue': WHATEVER THE INPUT: true; the input reads as it did. -/
def shakeTrueSpec : ChangeSpec := { name := "shakeTrue", fn := fun _ => fun
  | [d1, d2] => { results := [.lit (.bool true)], args := [d1, d2] }
  | _ => none }
def shakeTrueRow : OpenClaim := { program := "ytdiilgedicfekaadoor", sum := "f515ed621daa4383bebcc9719a877b36583a63bc5226a088c200a5ad30285559", func := "embrasure/embrasurelaw15.ShakeTrue", spec := "shakeTrue", unfollowed := true, recurses := true, named := ["embrasure/wire.counts"], plainKeys := false, apart := false, laid := [("embrasure/wire.counts", laid_embrasure_wire_counts)] }
def ShakeTrueSaid : Prop := shakeTrueRow.holds Tryd.pinned (OpenSpec.ofChange shakeTrueSpec)

/-- ITS FALSE NEIGHBOUR: 'it returns false'. Refute it at one input. -/
def shakeTrueWrong : ChangeSpec := { name := "shakeTrue", fn := fun _ => fun
  | [d1, d2] => { results := [.lit (.bool false)], args := [d1, d2] }
  | _ => none }
def ShakeTrueWrongFalsely : Prop := shakeTrueRow.holds Tryd.pinned (OpenSpec.ofChange shakeTrueWrong)

/-- 'embrasurelaw15.ShakeOver': WHATEVER THE INPUT: true; the input reads as it did. -/
def shakeOverSpec : ChangeSpec := { name := "shakeOver", fn := fun _ => fun
  | [d1, d2] => { results := [.lit (.bool true)], args := [d1, d2] }
  | _ => none }
def shakeOverRow : OpenClaim := { program := "ytdiilgedicfekaadoor", sum := "f515ed621daa4383bebcc9719a877b36583a63bc5226a088c200a5ad30285559", func := "embrasure/embrasurelaw15.ShakeOver", spec := "shakeOver", unfollowed := true, recurses := true, named := ["embrasure/wire.counts"], plainKeys := false, apart := false, laid := [("embrasure/wire.counts", laid_embrasure_wire_counts)] }
def ShakeOverSaid : Prop := shakeOverRow.holds Tryd.pinned (OpenSpec.ofChange shakeOverSpec)

/-- ITS FALSE NEIGHBOUR: 'it returns false'. Refute it at one input. -/
def shakeOverWrong : ChangeSpec := { name := "shakeOver", fn := fun _ => fun
  | [d1, d2] => { results := [.lit (.bool false)], args := [d1, d2] }
  | _ => none }
def ShakeOverWrongFalsely : Prop := shakeOverRow.holds Tryd.pinned (OpenSpec.ofChange shakeOverWrong)

/-- 'embrasurelaw15.ShakeForged': WHATEVER THE INPUT: true; the input reads as it did. -/
def shakeForgedSpec : ChangeSpec := { name := "shakeForged", fn := fun _ => fun
  | [d1, d2, d3] => { results := [.lit (.bool true)], args := [d1, d2, d3] }
  | _ => none }
def shakeForgedRow : OpenClaim := { program := "ytdiilgedicfekaadoor", sum := "f515ed621daa4383bebcc9719a877b36583a63bc5226a088c200a5ad30285559", func := "embrasure/embrasurelaw15.ShakeForged", spec := "shakeForged", unfollowed := true, recurses := true, named := ["embrasure/wire.counts"], plainKeys := false, apart := false, laid := [("embrasure/wire.counts", laid_embrasure_wire_counts)] }
def ShakeForgedSaid : Prop := shakeForgedRow.holds Tryd.pinned (OpenSpec.ofChange shakeForgedSpec)

/-- ITS FALSE NEIGHBOUR: 'it returns false'. Refute it at one input. -/
def shakeForgedWrong : ChangeSpec := { name := "shakeForged", fn := fun _ => fun
  | [d1, d2, d3] => { results := [.lit (.bool false)], args := [d1, d2, d3] }
  | _ => none }
def ShakeForgedWrongFalsely : Prop := shakeForgedRow.holds Tryd.pinned (OpenSpec.ofChange shakeForgedWrong)

/-- 'embrasurelaw15.ShakeAgain': WHATEVER THE INPUT: true; the input reads as it did. -/
def shakeAgainSpec : ChangeSpec := { name := "shakeAgain", fn := fun _ => fun
  | [d1, d2] => { results := [.lit (.bool true)], args := [d1, d2] }
  | _ => none }
def shakeAgainRow : OpenClaim := { program := "ytdiilgedicfekaadoor", sum := "f515ed621daa4383bebcc9719a877b36583a63bc5226a088c200a5ad30285559", func := "embrasure/embrasurelaw15.ShakeAgain", spec := "shakeAgain", unfollowed := true, recurses := true, named := ["embrasure/wire.counts"], plainKeys := false, apart := false, laid := [("embrasure/wire.counts", laid_embrasure_wire_counts)] }
def ShakeAgainSaid : Prop := shakeAgainRow.holds Tryd.pinned (OpenSpec.ofChange shakeAgainSpec)

/-- ITS FALSE NEIGHBOUR: 'it returns false'. Refute it at one input. -/
def shakeAgainWrong : ChangeSpec := { name := "shakeAgain", fn := fun _ => fun
  | [d1, d2] => { results := [.lit (.bool false)], args := [d1, d2] }
  | _ => none }
def ShakeAgainWrongFalsely : Prop := shakeAgainRow.holds Tryd.pinned (OpenSpec.ofChange shakeAgainWrong)

/- THE SECOND FORM. 'bulk': how many values and letters a reading holds, each counted each time it is reached (what is shared counts as often as it is met; a slice's spare places count too). A statement '..UptoSaid' is the law's where the arguments, and the package variables that the reading takes, are together of bulk at most 1048576: NARROWER than '..Said'. Prove '..Said' where nothing that the law and all that it calls make is longer than what came in: it says more and counts as full. Else prove '..UptoSaid'. A law counts once. -/
mutual
def uptoBulk {H : Type} : DataW H → Nat
  | .lit (.string bytes) => bytes.length + 1
  | .lit _ => 1
  | .nil => 1
  | .ptr d => uptoBulk d + 1
  | .slice elems spare => uptoBulkAll elems + uptoBulkAll spare + 1
  | .agg parts => uptoBulkAll parts + 1
  | .iface _ d => uptoBulk d + 1
  | .map entries => uptoBulkEntries entries + 1
  | .held _ => 1
def uptoBulkAll {H : Type} : List (DataW H) → Nat
  | [] => 0
  | d :: r => uptoBulk d + uptoBulkAll r
def uptoBulkEntries {H : Type} : List (Lit × DataW H) → Nat
  | [] => 0
  | x :: r => uptoBulkEntry x + uptoBulkEntries r
def uptoBulkEntry {H : Type} : Lit × DataW H → Nat
  | (.string bytes, d) => bytes.length + uptoBulk d + 1
  | (_, d) => uptoBulk d + 1
 end
def uptoSmall : (H : Type) → List (DataW H) → Bool := fun _ ds => decide (uptoBulkAll ds ≤ 1048576)
def OpenSpec.upto (s : _root_.Go.ChangeSpec) : _root_.Go.OpenSpec := { _root_.Go.OpenSpec.ofChange s with cond := some uptoSmall }

/-- 'embrasurelaw15.ShakePlays', WHERE WHAT IT READS IS OF BULK AT MOST 1048576: true; the input reads as it did. -/
def shakePlaysUptoRow : OpenClaim := { program := "ytdiilgedicfekaadoor", sum := "f515ed621daa4383bebcc9719a877b36583a63bc5226a088c200a5ad30285559", func := "embrasure/embrasurelaw15.ShakePlays", spec := "shakePlays", unfollowed := true, recurses := true, named := ["embrasure/wire.counts"], plainKeys := false, apart := false, laid := [("embrasure/wire.counts", laid_embrasure_wire_counts)], narrowed := true }
def ShakePlaysUptoSaid : Prop := shakePlaysUptoRow.holds Tryd.pinned (OpenSpec.upto shakePlaysSpec)

/-- 'embrasurelaw15.ShakeMeets', WHERE WHAT IT READS IS OF BULK AT MOST 1048576: true; the input reads as it did. -/
def shakeMeetsUptoRow : OpenClaim := { program := "ytdiilgedicfekaadoor", sum := "f515ed621daa4383bebcc9719a877b36583a63bc5226a088c200a5ad30285559", func := "embrasure/embrasurelaw15.ShakeMeets", spec := "shakeMeets", unfollowed := true, recurses := true, named := ["embrasure/wire.counts"], plainKeys := false, apart := false, laid := [("embrasure/wire.counts", laid_embrasure_wire_counts)], narrowed := true }
def ShakeMeetsUptoSaid : Prop := shakeMeetsUptoRow.holds Tryd.pinned (OpenSpec.upto shakeMeetsSpec)

/-- 'embrasurelaw15.ShakeTrue', WHERE WHAT IT READS IS OF BULK AT MOST 1048576: true; the input reads as it did. -/
def shakeTrueUptoRow : OpenClaim := { program := "ytdiilgedicfekaadoor", sum := "f515ed621daa4383bebcc9719a877b36583a63bc5226a088c200a5ad30285559", func := "embrasure/embrasurelaw15.ShakeTrue", spec := "shakeTrue", unfollowed := true, recurses := true, named := ["embrasure/wire.counts"], plainKeys := false, apart := false, laid := [("embrasure/wire.counts", laid_embrasure_wire_counts)], narrowed := true }
def ShakeTrueUptoSaid : Prop := shakeTrueUptoRow.holds Tryd.pinned (OpenSpec.upto shakeTrueSpec)

/-- 'embrasurelaw15.ShakeOver', WHERE WHAT IT READS IS OF BULK AT MOST 1048576: true; the input reads as it did. -/
def shakeOverUptoRow : OpenClaim := { program := "ytdiilgedicfekaadoor", sum := "f515ed621daa4383bebcc9719a877b36583a63bc5226a088c200a5ad30285559", func := "embrasure/embrasurelaw15.ShakeOver", spec := "shakeOver", unfollowed := true, recurses := true, named := ["embrasure/wire.counts"], plainKeys := false, apart := false, laid := [("embrasure/wire.counts", laid_embrasure_wire_counts)], narrowed := true }
def ShakeOverUptoSaid : Prop := shakeOverUptoRow.holds Tryd.pinned (OpenSpec.upto shakeOverSpec)

/-- 'embrasurelaw15.ShakeForged', WHERE WHAT IT READS IS OF BULK AT MOST 1048576: true; the input reads as it did. -/
def shakeForgedUptoRow : OpenClaim := { program := "ytdiilgedicfekaadoor", sum := "f515ed621daa4383bebcc9719a877b36583a63bc5226a088c200a5ad30285559", func := "embrasure/embrasurelaw15.ShakeForged", spec := "shakeForged", unfollowed := true, recurses := true, named := ["embrasure/wire.counts"], plainKeys := false, apart := false, laid := [("embrasure/wire.counts", laid_embrasure_wire_counts)], narrowed := true }
def ShakeForgedUptoSaid : Prop := shakeForgedUptoRow.holds Tryd.pinned (OpenSpec.upto shakeForgedSpec)

/-- 'embrasurelaw15.ShakeAgain', WHERE WHAT IT READS IS OF BULK AT MOST 1048576: true; the input reads as it did. -/
def shakeAgainUptoRow : OpenClaim := { program := "ytdiilgedicfekaadoor", sum := "f515ed621daa4383bebcc9719a877b36583a63bc5226a088c200a5ad30285559", func := "embrasure/embrasurelaw15.ShakeAgain", spec := "shakeAgain", unfollowed := true, recurses := true, named := ["embrasure/wire.counts"], plainKeys := false, apart := false, laid := [("embrasure/wire.counts", laid_embrasure_wire_counts)], narrowed := true }
def ShakeAgainUptoSaid : Prop := shakeAgainUptoRow.holds Tryd.pinned (OpenSpec.upto shakeAgainSpec)

end Rows
end Go.Proofs.YtdiilgedicfekaaDoor
