/-
  DERIVED. GIVEN WITH THE SEED: THE CARDS: each row of YtdiilgedicfekaaDoorRows.lean that lists a variable, with what it lists TIED to the program's text (the seventh form; the later family's looks); each row that meets fmt, with fmt's text TOLD by the authors' own Lean function (tested against real Go, not proved from fmt's source: count such statements apart). THE CARD IS WHAT COUNTS. Prove the row's statement (the work); the ties are given (YtdiilgedicfekaaDoorTie.lean); close each card by the builder's one call (the guide's Derived/Test/ToyasCard.lean, 'card_holds'). Laid BY PROGRAM, IN A SANDBOX (cutbox-door.mjs). By AI agents, Wed Nov 11 2026. No macro, syntax, notation, axiom, sorry.
-/
import Derived.Test.YtdiilgedicfekaaDoorRows
import GoSem.ClaimSeven
namespace Go.Proofs.YtdiilgedicfekaaDoor
namespace Rows

/-- THE TIED CARD OF 'embrasurelaw15.ShakePlays'. -/
def shakePlaysCard : Claim7 := { stood := { row := shakePlaysRow, standIns := [], harness := (true, "c99dd33ff23ae40eba11b9db5a9bc5dd074ff793e965781493bbe41fb132a972"), looks := false }, kinds := [], alts := [], laidByText := true, laidKinds := [.data], laidTests := true, laidLooks := .later }
def ShakePlaysCardSaid : Prop := Claim7.holds Tryd.pinned (.plain (OpenSpec.ofChange shakePlaysSpec)) shakePlaysCard

/-- THE TIED CARD OF 'embrasurelaw15.ShakeMeets'. -/
def shakeMeetsCard : Claim7 := { stood := { row := shakeMeetsRow, standIns := [], harness := (true, "c99dd33ff23ae40eba11b9db5a9bc5dd074ff793e965781493bbe41fb132a972"), looks := false }, kinds := [], alts := [], laidByText := true, laidKinds := [.data], laidTests := true, laidLooks := .later }
def ShakeMeetsCardSaid : Prop := Claim7.holds Tryd.pinned (.plain (OpenSpec.ofChange shakeMeetsSpec)) shakeMeetsCard

/-- THE TIED CARD OF 'embrasurelaw15.ShakeTrue'. -/
def shakeTrueCard : Claim7 := { stood := { row := shakeTrueRow, standIns := [], harness := (true, "c99dd33ff23ae40eba11b9db5a9bc5dd074ff793e965781493bbe41fb132a972"), looks := false }, kinds := [], alts := [], laidByText := true, laidKinds := [.data], laidTests := true, laidLooks := .later }
def ShakeTrueCardSaid : Prop := Claim7.holds Tryd.pinned (.plain (OpenSpec.ofChange shakeTrueSpec)) shakeTrueCard

/-- THE TIED CARD OF 'embrasurelaw15.ShakeOver'. -/
def shakeOverCard : Claim7 := { stood := { row := shakeOverRow, standIns := [], harness := (true, "c99dd33ff23ae40eba11b9db5a9bc5dd074ff793e965781493bbe41fb132a972"), looks := false }, kinds := [], alts := [], laidByText := true, laidKinds := [.data], laidTests := true, laidLooks := .later }
def ShakeOverCardSaid : Prop := Claim7.holds Tryd.pinned (.plain (OpenSpec.ofChange shakeOverSpec)) shakeOverCard

/-- THE TIED CARD OF 'embrasurelaw15.ShakeForged'. -/
def shakeForgedCard : Claim7 := { stood := { row := shakeForgedRow, standIns := [], harness := (true, "c99dd33ff23ae40eba11b9db5a9bc5dd074ff793e965781493bbe41fb132a972"), looks := false }, kinds := [], alts := [], laidByText := true, laidKinds := [.data], laidTests := true, laidLooks := .later }
def ShakeForgedCardSaid : Prop := Claim7.holds Tryd.pinned (.plain (OpenSpec.ofChange shakeForgedSpec)) shakeForgedCard

/-- THE TIED CARD OF 'embrasurelaw15.ShakeAgain'. -/
def shakeAgainCard : Claim7 := { stood := { row := shakeAgainRow, standIns := [], harness := (true, "c99dd33ff23ae40eba11b9db5a9bc5dd074ff793e965781493bbe41fb132a972"), looks := false }, kinds := [], alts := [], laidByText := true, laidKinds := [.data], laidTests := true, laidLooks := .later }
def ShakeAgainCardSaid : Prop := Claim7.holds Tryd.pinned (.plain (OpenSpec.ofChange shakeAgainSpec)) shakeAgainCard

/-- THE SECOND FORM's CARD OF 'embrasurelaw15.ShakePlays'. -/
def shakePlaysUptoCard : Claim7 := { stood := { row := shakePlaysUptoRow, standIns := [], harness := (true, "c99dd33ff23ae40eba11b9db5a9bc5dd074ff793e965781493bbe41fb132a972"), looks := false }, kinds := [], alts := [], laidByText := true, laidKinds := [.data], laidTests := true, laidLooks := .later }
def ShakePlaysUptoCardSaid : Prop := Claim7.holds Tryd.pinned (.plain (OpenSpec.upto shakePlaysSpec)) shakePlaysUptoCard

/-- THE SECOND FORM's CARD OF 'embrasurelaw15.ShakeMeets'. -/
def shakeMeetsUptoCard : Claim7 := { stood := { row := shakeMeetsUptoRow, standIns := [], harness := (true, "c99dd33ff23ae40eba11b9db5a9bc5dd074ff793e965781493bbe41fb132a972"), looks := false }, kinds := [], alts := [], laidByText := true, laidKinds := [.data], laidTests := true, laidLooks := .later }
def ShakeMeetsUptoCardSaid : Prop := Claim7.holds Tryd.pinned (.plain (OpenSpec.upto shakeMeetsSpec)) shakeMeetsUptoCard

/-- THE SECOND FORM's CARD OF 'embrasurelaw15.ShakeTrue'. -/
def shakeTrueUptoCard : Claim7 := { stood := { row := shakeTrueUptoRow, standIns := [], harness := (true, "c99dd33ff23ae40eba11b9db5a9bc5dd074ff793e965781493bbe41fb132a972"), looks := false }, kinds := [], alts := [], laidByText := true, laidKinds := [.data], laidTests := true, laidLooks := .later }
def ShakeTrueUptoCardSaid : Prop := Claim7.holds Tryd.pinned (.plain (OpenSpec.upto shakeTrueSpec)) shakeTrueUptoCard

/-- THE SECOND FORM's CARD OF 'embrasurelaw15.ShakeOver'. -/
def shakeOverUptoCard : Claim7 := { stood := { row := shakeOverUptoRow, standIns := [], harness := (true, "c99dd33ff23ae40eba11b9db5a9bc5dd074ff793e965781493bbe41fb132a972"), looks := false }, kinds := [], alts := [], laidByText := true, laidKinds := [.data], laidTests := true, laidLooks := .later }
def ShakeOverUptoCardSaid : Prop := Claim7.holds Tryd.pinned (.plain (OpenSpec.upto shakeOverSpec)) shakeOverUptoCard

/-- THE SECOND FORM's CARD OF 'embrasurelaw15.ShakeForged'. -/
def shakeForgedUptoCard : Claim7 := { stood := { row := shakeForgedUptoRow, standIns := [], harness := (true, "c99dd33ff23ae40eba11b9db5a9bc5dd074ff793e965781493bbe41fb132a972"), looks := false }, kinds := [], alts := [], laidByText := true, laidKinds := [.data], laidTests := true, laidLooks := .later }
def ShakeForgedUptoCardSaid : Prop := Claim7.holds Tryd.pinned (.plain (OpenSpec.upto shakeForgedSpec)) shakeForgedUptoCard

/-- THE SECOND FORM's CARD OF 'embrasurelaw15.ShakeAgain'. -/
def shakeAgainUptoCard : Claim7 := { stood := { row := shakeAgainUptoRow, standIns := [], harness := (true, "c99dd33ff23ae40eba11b9db5a9bc5dd074ff793e965781493bbe41fb132a972"), looks := false }, kinds := [], alts := [], laidByText := true, laidKinds := [.data], laidTests := true, laidLooks := .later }
def ShakeAgainUptoCardSaid : Prop := Claim7.holds Tryd.pinned (.plain (OpenSpec.upto shakeAgainSpec)) shakeAgainUptoCard
end Rows
end Go.Proofs.YtdiilgedicfekaaDoor
