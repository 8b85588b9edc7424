/-
  NARROWER THAN 'FOR EVERY INPUT', by the rows' own cells (each row's printed sentence says how): WireTells: laid · WireReads: laid · WireApart: laid · WireFields: laid · WireKinds: laid · WireTurned: laid.
  DERIVED. THE GIVEN ROWS OF THIS SEAT. 6 by the template 'for every input the law returns true; each argument reads behind the call as it read before'; 0 by the template 'total and deterministic' (their statements: YtebgfiibcmnfnaaDoorTotals.lean).
  GIVEN WITH THE SEED: the statements are not yours to turn. If you find one false, say at which input.
  Laid BY PROGRAM, IN A SANDBOX (cutbox-rows.mjs): the forced cells as the released guide's own fill.sh prints them over the translation 91cac68d6820019e… (all of the seat's roots in one cut). By AI agents, Wed Nov 11 2026. No macro, syntax, notation, axiom, sorry.
-/
import Derived.Test.YtebgfiibcmnfnaaDoorChecked
import GoSem.Claim
import GoSem.ClaimJoined
import GoSem.ClaimMapViews
import Derived.JoinedTies
import Derived.KernelRfl
namespace Go.Proofs.YtebgfiibcmnfnaaDoor
/- THE CELL 'sum', in the pinned program and in every row, IS THE sha256 OF THE DUMP (.gsa) THAT YtebgfiibcmnfnaaDoorProg.lean LOADS. Nothing in Lean hashes anything: it is a label: what it is worth is what the hold of that sum in a sandbox is worth. -/
noncomputable def Tryd.pinned : Pinned := { name := "ytebgfiibcmnfnaadoor", sum := "91cac68d6820019e7b5beab8d18493c6bf3e23e70ea7aab371a485e6d17d5cf3", checked := Tryd.checked }
namespace Rows
def none {H : Type} : Left H := { results := [], args := [] }

/- WHAT THE LISTED PACKAGE-LEVEL VARIABLES READ AS WHEN THE CALL BEGINS. Each datum BY PROGRAM (the guide's laid-datum.mjs) off the statement by which the dump's own 'gosem.cut.vars' lays the variable. In a bare row this is a premise. The card (YtebgfiibcmnfnaaDoorCards.lean) ties it to the program's text. -/
def laid_embrasure_wire_counts {H : Type} : DataW H := .agg [.lit (.int .i64 0), .lit (.int .i64 4), .lit (.int .i64 5), .lit (.int .i64 5), .lit (.int .i64 6), .lit (.int .i64 1), .lit (.int .i64 1), .lit (.int .i64 3), .lit (.int .i64 1), .lit (.int .i64 2), .lit (.int .i64 2), .lit (.int .i64 2), .lit (.int .i64 4), .lit (.int .i64 2), .lit (.int .i64 4), .lit (.int .i64 2), .lit (.int .i64 1), .lit (.int .i64 2), .lit (.int .i64 1)]

/-- 'embrasurelaw05.WireTells': WHATEVER THE INPUT: true; the input reads as it did. -/
def wireTellsSpec : ChangeSpec := { name := "wireTells", fn := fun _ => fun
  | [d] => { results := [.lit (.bool true)], args := [d] }
  | _ => none }
def wireTellsRow : OpenClaim := { program := "ytebgfiibcmnfnaadoor", sum := "91cac68d6820019e7b5beab8d18493c6bf3e23e70ea7aab371a485e6d17d5cf3", func := "embrasure/embrasurelaw05.WireTells", spec := "wireTells", unfollowed := true, recurses := true, named := ["embrasure/wire.counts"], apart := false, laid := [("embrasure/wire.counts", laid_embrasure_wire_counts)] }
def WireTellsSaid : Prop := wireTellsRow.holds Tryd.pinned (OpenSpec.ofChange wireTellsSpec)

/-- ITS FALSE NEIGHBOUR: 'it returns false'. Refute it at one input. -/
def wireTellsWrong : ChangeSpec := { name := "wireTells", fn := fun _ => fun
  | [d] => { results := [.lit (.bool false)], args := [d] }
  | _ => none }
def WireTellsWrongFalsely : Prop := wireTellsRow.holds Tryd.pinned (OpenSpec.ofChange wireTellsWrong)

/-- 'embrasurelaw05.WireReads': WHATEVER THE INPUT: true; the input reads as it did. -/
def wireReadsSpec : ChangeSpec := { name := "wireReads", fn := fun _ => fun
  | [d] => { results := [.lit (.bool true)], args := [d] }
  | _ => none }
def wireReadsRow : OpenClaim := { program := "ytebgfiibcmnfnaadoor", sum := "91cac68d6820019e7b5beab8d18493c6bf3e23e70ea7aab371a485e6d17d5cf3", func := "embrasure/embrasurelaw05.WireReads", spec := "wireReads", unfollowed := true, recurses := true, named := ["embrasure/wire.counts"], apart := false, laid := [("embrasure/wire.counts", laid_embrasure_wire_counts)] }
def WireReadsSaid : Prop := wireReadsRow.holds Tryd.pinned (OpenSpec.ofChange wireReadsSpec)

/-- ITS FALSE NEIGHBOUR: 'it returns false'. Refute it at one input. -/
def wireReadsWrong : ChangeSpec := { name := "wireReads", fn := fun _ => fun
  | [d] => { results := [.lit (.bool false)], args := [d] }
  | _ => none }
def WireReadsWrongFalsely : Prop := wireReadsRow.holds Tryd.pinned (OpenSpec.ofChange wireReadsWrong)

/-- 'embrasurelaw05.WireApart': WHATEVER THE INPUT: true; the input reads as it did. -/
def wireApartSpec : ChangeSpec := { name := "wireApart", fn := fun _ => fun
  | [d1, d2, d3] => { results := [.lit (.bool true)], args := [d1, d2, d3] }
  | _ => none }
def wireApartRow : OpenClaim := { program := "ytebgfiibcmnfnaadoor", sum := "91cac68d6820019e7b5beab8d18493c6bf3e23e70ea7aab371a485e6d17d5cf3", func := "embrasure/embrasurelaw05.WireApart", spec := "wireApart", unfollowed := true, recurses := true, named := ["embrasure/wire.counts"], apart := false, laid := [("embrasure/wire.counts", laid_embrasure_wire_counts)] }
def WireApartSaid : Prop := wireApartRow.holds Tryd.pinned (OpenSpec.ofChange wireApartSpec)

/-- ITS FALSE NEIGHBOUR: 'it returns false'. Refute it at one input. -/
def wireApartWrong : ChangeSpec := { name := "wireApart", fn := fun _ => fun
  | [d1, d2, d3] => { results := [.lit (.bool false)], args := [d1, d2, d3] }
  | _ => none }
def WireApartWrongFalsely : Prop := wireApartRow.holds Tryd.pinned (OpenSpec.ofChange wireApartWrong)

/-- 'embrasurelaw05.WireFields': WHATEVER THE INPUT: true; the input reads as it did. -/
def wireFieldsSpec : ChangeSpec := { name := "wireFields", fn := fun _ => fun
  | [d] => { results := [.lit (.bool true)], args := [d] }
  | _ => none }
def wireFieldsRow : OpenClaim := { program := "ytebgfiibcmnfnaadoor", sum := "91cac68d6820019e7b5beab8d18493c6bf3e23e70ea7aab371a485e6d17d5cf3", func := "embrasure/embrasurelaw05.WireFields", spec := "wireFields", unfollowed := true, recurses := true, named := ["embrasure/wire.counts"], apart := false, laid := [("embrasure/wire.counts", laid_embrasure_wire_counts)] }
def WireFieldsSaid : Prop := wireFieldsRow.holds Tryd.pinned (OpenSpec.ofChange wireFieldsSpec)

/-- ITS FALSE NEIGHBOUR: 'it returns false'. Refute it at one input. -/
def wireFieldsWrong : ChangeSpec := { name := "wireFields", fn := fun _ => fun
  | [d] => { results := [.lit (.bool false)], args := [d] }
  | _ => none }
def WireFieldsWrongFalsely : Prop := wireFieldsRow.holds Tryd.pinned (OpenSpec.ofChange wireFieldsWrong)

/-- 'embrasurelaw05.WireKinds': WHATEVER THE INPUT: true; the input reads as it did. -/
def wireKindsSpec : ChangeSpec := { name := "wireKinds", fn := fun _ => fun
  | [d1, d2] => { results := [.lit (.bool true)], args := [d1, d2] }
  | _ => none }
def wireKindsRow : OpenClaim := { program := "ytebgfiibcmnfnaadoor", sum := "91cac68d6820019e7b5beab8d18493c6bf3e23e70ea7aab371a485e6d17d5cf3", func := "embrasure/embrasurelaw05.WireKinds", spec := "wireKinds", unfollowed := true, recurses := true, named := ["embrasure/wire.counts"], apart := false, laid := [("embrasure/wire.counts", laid_embrasure_wire_counts)] }
def WireKindsSaid : Prop := wireKindsRow.holds Tryd.pinned (OpenSpec.ofChange wireKindsSpec)

/-- ITS FALSE NEIGHBOUR: 'it returns false'. Refute it at one input. -/
def wireKindsWrong : ChangeSpec := { name := "wireKinds", fn := fun _ => fun
  | [d1, d2] => { results := [.lit (.bool false)], args := [d1, d2] }
  | _ => none }
def WireKindsWrongFalsely : Prop := wireKindsRow.holds Tryd.pinned (OpenSpec.ofChange wireKindsWrong)

/-- 'embrasurelaw05.WireTurned': WHATEVER THE INPUT: true; the input reads as it did. -/
def wireTurnedSpec : ChangeSpec := { name := "wireTurned", fn := fun _ => fun
  | [d1, d2, d3] => { results := [.lit (.bool true)], args := [d1, d2, d3] }
  | _ => none }
def wireTurnedRow : OpenClaim := { program := "ytebgfiibcmnfnaadoor", sum := "91cac68d6820019e7b5beab8d18493c6bf3e23e70ea7aab371a485e6d17d5cf3", func := "embrasure/embrasurelaw05.WireTurned", spec := "wireTurned", unfollowed := true, recurses := true, named := ["embrasure/wire.counts"], apart := false, laid := [("embrasure/wire.counts", laid_embrasure_wire_counts)] }
def WireTurnedSaid : Prop := wireTurnedRow.holds Tryd.pinned (OpenSpec.ofChange wireTurnedSpec)

/-- ITS FALSE NEIGHBOUR: 'it returns false'. Refute it at one input. -/
def wireTurnedWrong : ChangeSpec := { name := "wireTurned", fn := fun _ => fun
  | [d1, d2, d3] => { results := [.lit (.bool false)], args := [d1, d2, d3] }
  | _ => none }
def WireTurnedWrongFalsely : Prop := wireTurnedRow.holds Tryd.pinned (OpenSpec.ofChange wireTurnedWrong)

/- THE SECOND FORM. 'bulk': how many values and letters a reading holds, each counted each time it is reached (what is shared counts as often as it is met; a slice's spare places count too). A statement '..UptoSaid' is the law's where the arguments, and the package variables that the reading takes, are together of bulk at most 1048576: NARROWER than '..Said'. Prove '..Said' where nothing that the law and all that it calls make is longer than what came in: it says more and counts as full. Else prove '..UptoSaid'. A law counts once. -/
mutual
def uptoBulk {H : Type} : DataW H → Nat
  | .lit (.string bytes) => bytes.length + 1
  | .lit _ => 1
  | .nil => 1
  | .ptr d => uptoBulk d + 1
  | .slice elems spare => uptoBulkAll elems + uptoBulkAll spare + 1
  | .agg parts => uptoBulkAll parts + 1
  | .iface _ d => uptoBulk d + 1
  | .map entries => uptoBulkEntries entries + 1
  | .held _ => 1
def uptoBulkAll {H : Type} : List (DataW H) → Nat
  | [] => 0
  | d :: r => uptoBulk d + uptoBulkAll r
def uptoBulkEntries {H : Type} : List (Lit × DataW H) → Nat
  | [] => 0
  | x :: r => uptoBulkEntry x + uptoBulkEntries r
def uptoBulkEntry {H : Type} : Lit × DataW H → Nat
  | (.string bytes, d) => bytes.length + uptoBulk d + 1
  | (_, d) => uptoBulk d + 1
 end
def uptoSmall : (H : Type) → List (DataW H) → Bool := fun _ ds => decide (uptoBulkAll ds ≤ 1048576)
def OpenSpec.upto (s : _root_.Go.ChangeSpec) : _root_.Go.OpenSpec := { _root_.Go.OpenSpec.ofChange s with cond := some uptoSmall }

/-- 'embrasurelaw05.WireTells', WHERE WHAT IT READS IS OF BULK AT MOST 1048576: true; the input reads as it did. -/
def wireTellsUptoRow : OpenClaim := { program := "ytebgfiibcmnfnaadoor", sum := "91cac68d6820019e7b5beab8d18493c6bf3e23e70ea7aab371a485e6d17d5cf3", func := "embrasure/embrasurelaw05.WireTells", spec := "wireTells", unfollowed := true, recurses := true, named := ["embrasure/wire.counts"], apart := false, laid := [("embrasure/wire.counts", laid_embrasure_wire_counts)], narrowed := true }
def WireTellsUptoSaid : Prop := wireTellsUptoRow.holds Tryd.pinned (OpenSpec.upto wireTellsSpec)

/-- 'embrasurelaw05.WireReads', WHERE WHAT IT READS IS OF BULK AT MOST 1048576: true; the input reads as it did. -/
def wireReadsUptoRow : OpenClaim := { program := "ytebgfiibcmnfnaadoor", sum := "91cac68d6820019e7b5beab8d18493c6bf3e23e70ea7aab371a485e6d17d5cf3", func := "embrasure/embrasurelaw05.WireReads", spec := "wireReads", unfollowed := true, recurses := true, named := ["embrasure/wire.counts"], apart := false, laid := [("embrasure/wire.counts", laid_embrasure_wire_counts)], narrowed := true }
def WireReadsUptoSaid : Prop := wireReadsUptoRow.holds Tryd.pinned (OpenSpec.upto wireReadsSpec)

/-- 'embrasurelaw05.WireApart', WHERE WHAT IT READS IS OF BULK AT MOST 1048576: true; the input reads as it did. -/
def wireApartUptoRow : OpenClaim := { program := "ytebgfiibcmnfnaadoor", sum := "91cac68d6820019e7b5beab8d18493c6bf3e23e70ea7aab371a485e6d17d5cf3", func := "embrasure/embrasurelaw05.WireApart", spec := "wireApart", unfollowed := true, recurses := true, named := ["embrasure/wire.counts"], apart := false, laid := [("embrasure/wire.counts", laid_embrasure_wire_counts)], narrowed := true }
def WireApartUptoSaid : Prop := wireApartUptoRow.holds Tryd.pinned (OpenSpec.upto wireApartSpec)

/-- 'embrasurelaw05.WireFields', WHERE WHAT IT READS IS OF BULK AT MOST 1048576: true; the input reads as it did. -/
def wireFieldsUptoRow : OpenClaim := { program := "ytebgfiibcmnfnaadoor", sum := "91cac68d6820019e7b5beab8d18493c6bf3e23e70ea7aab371a485e6d17d5cf3", func := "embrasure/embrasurelaw05.WireFields", spec := "wireFields", unfollowed := true, recurses := true, named := ["embrasure/wire.counts"], apart := false, laid := [("embrasure/wire.counts", laid_embrasure_wire_counts)], narrowed := true }
def WireFieldsUptoSaid : Prop := wireFieldsUptoRow.holds Tryd.pinned (OpenSpec.upto wireFieldsSpec)

/-- 'embrasurelaw05.WireKinds', WHERE WHAT IT READS IS OF BULK AT MOST 1048576: true; the input reads as it did. -/
def wireKindsUptoRow : OpenClaim := { program := "ytebgfiibcmnfnaadoor", sum := "91cac68d6820019e7b5beab8d18493c6bf3e23e70ea7aab371a485e6d17d5cf3", func := "embrasure/embrasurelaw05.WireKinds", spec := "wireKinds", unfollowed := true, recurses := true, named := ["embrasure/wire.counts"], apart := false, laid := [("embrasure/wire.counts", laid_embrasure_wire_counts)], narrowed := true }
def WireKindsUptoSaid : Prop := wireKindsUptoRow.holds Tryd.pinned (OpenSpec.upto wireKindsSpec)

/-- 'embrasurelaw05.WireTurned', WHERE WHAT IT READS IS OF BULK AT MOST 1048576: true; the input reads as it did. -/
def wireTurnedUptoRow : OpenClaim := { program := "ytebgfiibcmnfnaadoor", sum := "91cac68d6820019e7b5beab8d18493c6bf3e23e70ea7aab371a485e6d17d5cf3", func := "embrasure/embrasurelaw05.WireTurned", spec := "wireTurned", unfollowed := true, recurses := true, named := ["embrasure/wire.counts"], apart := false, laid := [("embrasure/wire.counts", laid_embrasure_wire_counts)], narrowed := true }
def WireTurnedUptoSaid : Prop := wireTurnedUptoRow.holds Tryd.pinned (OpenSpec.upto wireTurnedSpec)

end Rows
end Go.Proofs.YtebgfiibcmnfnaaDoor
