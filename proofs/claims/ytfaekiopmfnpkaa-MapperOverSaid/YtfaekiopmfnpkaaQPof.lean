/-
  Contracts of the document's own readers of PCP's datagrams. Conditions: the slice reads as bytes.
-/
import Derived.Test.YtfaekiopmfnpkaaQPras
import Derived.Test.YtfaekiopmfnpkaaQRred
namespace Go.Proofs.Ytfaekiopmfnpkaa.Pp
open Go.RowKit
attribute [local go_sem] Oper.semAt_some
set_option linter.unusedVariables false
set_option linter.unusedSimpArgs false

/-- the lease that 60 bytes would be, as the document cuts them -/
def rofL (zs : List Int) : Le := ⟨2, ncut zs 40 2, ncut zs 42 2, ncut zs 4 4, ncut zs 28 4 * 4294967296 + ncut zs 32 4, 0, 0, ncut zs 56 4⟩
theorem rofL_eq {zs : List Int} (hb : Bd zs) (h : zs.length = 60) : rofL zs = pAskL zs := by
  unfold rofL pAskL
  rw [rof_non h, rof_hst hb h]

end Go.Proofs.Ytfaekiopmfnpkaa.Pp
