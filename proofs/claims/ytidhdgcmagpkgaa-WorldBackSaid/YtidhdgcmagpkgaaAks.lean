/-
  The contract of nat's Ask. Conditions: the box may be made so, and lies in memory; at most 100 bindings, each with at most sixteen seen ones.
-/
import Derived.Test.YtidhdgcmagpkgaaInn
namespace Go.Proofs.Ytidhdgcmagpkgaa
open Go.RowKit
attribute [local go_sem] Oper.semAt_some
set_option linter.unusedVariables false

def askB (a : A2) (p u : Int) : Bn := { inn := a, to := (0, 0), port := p, until_ := u, asked := true, seen := [] }
def tillB (u : Int) (d : Bn) : Bn := { d with until_ := u }
/-- what Ask answers: the port and the code, and the bindings that it leaves, at a time that may be -/
def askM (x : Bx) (M : List Bn) (t : Int) (a : A2) (s u : Int) : Int × Int × List Bn :=
  if mayA a = true ∧ t < u ∧ u ≤ 1099511627776 then
    match M.find? (askF a) with
    | some d => (d.port, 0, updF (askF a) (tillB u) M)
    | none => match addM x M s with
      | some p => (p, 0, M ++ [askB a p u])
      | none => (0, 10, M)
  else (0, 1, M)
def ansI (p c : Int) : Value := .tuple #[.int .i64 p, .int .i64 c]
/-- what Ask leaves -/
def AskR (w : World) (nb : Nat) (x : Bx) (now : Int) (kv : Value) (L : List Nd) (t : Int) (a : A2) (s u : Int) : Ending → World → Prop := fun e w' =>
  if goes now t = true then ∃ kv' L', e = .returned (ansI (askM x (liveM (L.map Nd.b) t) t a s u).1 (askM x (liveM (L.map Nd.b) t) t a s u).2.1) ∧ Mvd nb x kv L w t kv' L' w' ∧ L'.map Nd.b = (askM x (liveM (L.map Nd.b) t) t a s u).2.2
  else e = .returned (ansI 0 1) ∧ Mvd nb x kv L w now kv L w'

end Go.Proofs.Ytidhdgcmagpkgaa
