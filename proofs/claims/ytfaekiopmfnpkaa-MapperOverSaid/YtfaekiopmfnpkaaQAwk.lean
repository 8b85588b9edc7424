/-
  Embrasurelaw09's awake; a request is never an answer; leases that came in. Conditions: as each lemma states.
-/
import Derived.Test.YtfaekiopmfnpkaaQWds
import Derived.ProofKit
import Derived.OpenShut
import Derived.ChangeOld
import Derived.Lib.SmallJoins
import Derived.Deep.Slices
namespace Go.Proofs.Ytfaekiopmfnpkaa.Pp
open Go.RowKit Go.ChangeShapes
attribute [local go_sem] Oper.semAt_some
set_option linter.unusedVariables false
set_option linter.unusedSimpArgs false

theorem ask_snd {zs : List Int} {l : Le} {h : Bool} (hz : AskOf zs l h) : zs.getD 1 0 = if h then 0 else 1 := by
  obtain ⟨hb, rfl⟩ := hz
  unfold askR
  rw [if_pos hb]
  cases h <;> rfl
theorem ans_snd {zs : List Int} {l : Le} {h : Bool} (hz : AnsOf zs l h) : zs.getD 1 0 = if h then 128 else 129 := by
  obtain ⟨_, hb, rfl⟩ := hz
  unfold ansR
  rw [if_pos hb]
  cases h <;> rfl
theorem ask_ans {zs : List Int} {l l' : Le} {h h' : Bool} (h1 : AskOf zs l h) (h2 : AnsOf zs l' h') : False := by
  have a := ask_snd h1
  have b := ans_snd h2
  rw [a] at b
  cases h <;> cases h' <;> simp at b
def aL : Le := ⟨0, 5, 7, 60, 0, 0, 0, 0⟩
def bL : Le := ⟨0, 0, 0, 0, 0, 0, 0, 9⟩
theorem aL_is : isL aL := by constructor <;> simp [aL, W64]
theorem bL_is : isL bL := by constructor <;> simp [bL, W64]
theorem aL_row : askR aL false = [0, 1, 0, 0, 0, 5, 0, 7, 0, 0, 0, 60] := by decide +kernel
theorem bL_row : (ansR bL true).length = 12 := by decide +kernel

end Go.Proofs.Ytfaekiopmfnpkaa.Pp
