/-
  No cell of these rows narrows 'for every input' (looked for: loops, veiled, ifaces, maps, wideKeys, modest, calm, conditions, laid).
  DERIVED. THE GIVEN ROWS OF THIS SEAT. 3 by the template 'for every input the law returns true; each argument reads behind the call as it read before'; 0 by the template 'total and deterministic' (their statements: YtidhdgcmagpkgaaTotals.lean).
  GIVEN WITH THE SEED: the statements are not yours to turn. If you find one false, say at which input.
  Laid BY PROGRAM, IN A SANDBOX (cutbox-rows.mjs): the forced cells as the released guide's own fill.sh prints them over the translation 924568e959c974e6… (all of the seat's roots in one cut). By AI agents, Wed Nov 11 2026. No macro, syntax, notation, axiom, sorry.
-/
import Derived.Test.YtidhdgcmagpkgaaChecked
import GoSem.Claim
import GoSem.ClaimJoined
import GoSem.ClaimMapViews
import Derived.JoinedTies
import Derived.KernelRfl
namespace Go.Proofs.Ytidhdgcmagpkgaa
/- THE CELL 'sum', in the pinned program and in every row, IS THE sha256 OF THE DUMP (.gsa) THAT YtidhdgcmagpkgaaProg.lean LOADS. Nothing in Lean hashes anything: it is a label: what it is worth is what the hold of that sum in a sandbox is worth. -/
noncomputable def Try.pinned : Pinned := { name := "ytidhdgcmagpkgaa", sum := "924568e959c974e6cfd08ba22c6bb0cfa6586148c58cca442a381217de99f5cd", checked := Try.checked }
namespace Rows
def none {H : Type} : Left H := { results := [], args := [] }

/-- 'embrasurelaw14.WorldBack': WHATEVER THE INPUT: true; the input reads as it did. -/
def worldBackSpec : ChangeSpec := { name := "worldBack", fn := fun _ => fun
  | [d1, d2] => { results := [.lit (.bool true)], args := [d1, d2] }
  | _ => none }
def worldBackRow : OpenClaim := { program := "ytidhdgcmagpkgaa", sum := "924568e959c974e6cfd08ba22c6bb0cfa6586148c58cca442a381217de99f5cd", func := "embrasure/embrasurelaw14.WorldBack", spec := "worldBack", unfollowed := true, recurses := true, apart := false }
def WorldBackSaid : Prop := worldBackRow.holds Try.pinned (OpenSpec.ofChange worldBackSpec)

/-- ITS FALSE NEIGHBOUR: 'it returns false'. Refute it at one input. -/
def worldBackWrong : ChangeSpec := { name := "worldBack", fn := fun _ => fun
  | [d1, d2] => { results := [.lit (.bool false)], args := [d1, d2] }
  | _ => none }
def WorldBackWrongFalsely : Prop := worldBackRow.holds Try.pinned (OpenSpec.ofChange worldBackWrong)

/-- 'embrasurelaw14.WorldOpen': WHATEVER THE INPUT: true; the input reads as it did. -/
def worldOpenSpec : ChangeSpec := { name := "worldOpen", fn := fun _ => fun
  | [d1, d2, d3] => { results := [.lit (.bool true)], args := [d1, d2, d3] }
  | _ => none }
def worldOpenRow : OpenClaim := { program := "ytidhdgcmagpkgaa", sum := "924568e959c974e6cfd08ba22c6bb0cfa6586148c58cca442a381217de99f5cd", func := "embrasure/embrasurelaw14.WorldOpen", spec := "worldOpen", unfollowed := true, recurses := true, apart := false }
def WorldOpenSaid : Prop := worldOpenRow.holds Try.pinned (OpenSpec.ofChange worldOpenSpec)

/-- ITS FALSE NEIGHBOUR: 'it returns false'. Refute it at one input. -/
def worldOpenWrong : ChangeSpec := { name := "worldOpen", fn := fun _ => fun
  | [d1, d2, d3] => { results := [.lit (.bool false)], args := [d1, d2, d3] }
  | _ => none }
def WorldOpenWrongFalsely : Prop := worldOpenRow.holds Try.pinned (OpenSpec.ofChange worldOpenWrong)

/-- 'embrasurelaw14.WorldTime': WHATEVER THE INPUT: true; the input reads as it did. -/
def worldTimeSpec : ChangeSpec := { name := "worldTime", fn := fun _ => fun
  | [d1, d2, d3] => { results := [.lit (.bool true)], args := [d1, d2, d3] }
  | _ => none }
def worldTimeRow : OpenClaim := { program := "ytidhdgcmagpkgaa", sum := "924568e959c974e6cfd08ba22c6bb0cfa6586148c58cca442a381217de99f5cd", func := "embrasure/embrasurelaw14.WorldTime", spec := "worldTime", unfollowed := true, recurses := true, apart := false }
def WorldTimeSaid : Prop := worldTimeRow.holds Try.pinned (OpenSpec.ofChange worldTimeSpec)

/-- ITS FALSE NEIGHBOUR: 'it returns false'. Refute it at one input. -/
def worldTimeWrong : ChangeSpec := { name := "worldTime", fn := fun _ => fun
  | [d1, d2, d3] => { results := [.lit (.bool false)], args := [d1, d2, d3] }
  | _ => none }
def WorldTimeWrongFalsely : Prop := worldTimeRow.holds Try.pinned (OpenSpec.ofChange worldTimeWrong)

/- THE SECOND FORM. 'bulk': how many values and letters a reading holds, each counted each time it is reached (what is shared counts as often as it is met; a slice's spare places count too). A statement '..UptoSaid' is the law's where the arguments, and the package variables that the reading takes, are together of bulk at most 1048576: NARROWER than '..Said'. Prove '..Said' where nothing that the law and all that it calls make is longer than what came in: it says more and counts as full. Else prove '..UptoSaid'. A law counts once. -/
mutual
def uptoBulk {H : Type} : DataW H → Nat
  | .lit (.string bytes) => bytes.length + 1
  | .lit _ => 1
  | .nil => 1
  | .ptr d => uptoBulk d + 1
  | .slice elems spare => uptoBulkAll elems + uptoBulkAll spare + 1
  | .agg parts => uptoBulkAll parts + 1
  | .iface _ d => uptoBulk d + 1
  | .map entries => uptoBulkEntries entries + 1
  | .held _ => 1
def uptoBulkAll {H : Type} : List (DataW H) → Nat
  | [] => 0
  | d :: r => uptoBulk d + uptoBulkAll r
def uptoBulkEntries {H : Type} : List (Lit × DataW H) → Nat
  | [] => 0
  | x :: r => uptoBulkEntry x + uptoBulkEntries r
def uptoBulkEntry {H : Type} : Lit × DataW H → Nat
  | (.string bytes, d) => bytes.length + uptoBulk d + 1
  | (_, d) => uptoBulk d + 1
 end
def uptoSmall : (H : Type) → List (DataW H) → Bool := fun _ ds => decide (uptoBulkAll ds ≤ 1048576)
def OpenSpec.upto (s : _root_.Go.ChangeSpec) : _root_.Go.OpenSpec := { _root_.Go.OpenSpec.ofChange s with cond := some uptoSmall }

/-- 'embrasurelaw14.WorldBack', WHERE WHAT IT READS IS OF BULK AT MOST 1048576: true; the input reads as it did. -/
def worldBackUptoRow : OpenClaim := { program := "ytidhdgcmagpkgaa", sum := "924568e959c974e6cfd08ba22c6bb0cfa6586148c58cca442a381217de99f5cd", func := "embrasure/embrasurelaw14.WorldBack", spec := "worldBack", unfollowed := true, recurses := true, apart := false, narrowed := true }
def WorldBackUptoSaid : Prop := worldBackUptoRow.holds Try.pinned (OpenSpec.upto worldBackSpec)

/-- 'embrasurelaw14.WorldOpen', WHERE WHAT IT READS IS OF BULK AT MOST 1048576: true; the input reads as it did. -/
def worldOpenUptoRow : OpenClaim := { program := "ytidhdgcmagpkgaa", sum := "924568e959c974e6cfd08ba22c6bb0cfa6586148c58cca442a381217de99f5cd", func := "embrasure/embrasurelaw14.WorldOpen", spec := "worldOpen", unfollowed := true, recurses := true, apart := false, narrowed := true }
def WorldOpenUptoSaid : Prop := worldOpenUptoRow.holds Try.pinned (OpenSpec.upto worldOpenSpec)

/-- 'embrasurelaw14.WorldTime', WHERE WHAT IT READS IS OF BULK AT MOST 1048576: true; the input reads as it did. -/
def worldTimeUptoRow : OpenClaim := { program := "ytidhdgcmagpkgaa", sum := "924568e959c974e6cfd08ba22c6bb0cfa6586148c58cca442a381217de99f5cd", func := "embrasure/embrasurelaw14.WorldTime", spec := "worldTime", unfollowed := true, recurses := true, apart := false, narrowed := true }
def WorldTimeUptoSaid : Prop := worldTimeUptoRow.holds Try.pinned (OpenSpec.upto worldTimeSpec)

end Rows
end Go.Proofs.Ytidhdgcmagpkgaa
