/-
  The contract of nat's Drop. Conditions: the box lies in memory; at most 100 bindings.
-/
import Derived.Test.YtidhdgcmagpkgaaPlb
namespace Go.Proofs.Ytidhdgcmagpkgaa
open Go.RowKit
attribute [local go_sem] Oper.semAt_some
set_option linter.unusedVariables false

/-- the first of which it holds is struck -/
def dropM (M : List Bn) (a : A2) : List Bn := M.eraseP (askF a)
theorem filter_one {L : List Nd} (hs : L.Pairwise Apart) (o : Option Nd) (f : Nd → Bool) (ho : L.find? f = o) :
    L.filter (fun d => !decide (o.map Nd.p = some d.p)) = L.eraseP f := by
  subst ho
  induction L with
  | nil => rfl
  | cons d L ih =>
    obtain ⟨h1, h2⟩ := List.pairwise_cons.1 hs
    cases hf : f d with
    | true =>
      rw [List.find?_cons_of_pos hf, List.eraseP_cons_of_pos hf, List.filter_cons_of_neg (by simp)]
      rw [List.filter_eq_self]
      intro e he
      have := (h1 e he).1
      simp [this]
    | false =>
      have hn : ¬ f d = true := by simp [hf]
      rw [List.find?_cons_of_neg hn, List.eraseP_cons_of_neg hn, List.filter_cons_of_pos ?_]
      · rw [ih h2]
      · cases hx : L.find? f with
        | none => simp
        | some e =>
          have := (h1 e (List.mem_of_find?_eq_some hx)).1
          simp [Ne.symm this]
/-- what Drop leaves -/
def DropR (w : World) (nb : Nat) (x : Bx) (now : Int) (kv : Value) (L : List Nd) (t : Int) (a : A2) : Ending → World → Prop := fun e w' =>
  if goes now t = true then ∃ kv' L', e = .returned (.bool ((liveM (L.map Nd.b) t).any (askF a))) ∧ Mvd nb x kv L w t kv' L' w' ∧ L'.map Nd.b = dropM (liveM (L.map Nd.b) t) a
  else e = .returned (.bool false) ∧ Mvd nb x kv L w now kv L w'

/-- what Drop answers and leaves, at any time -/
def dropS (now : Int) (M : List Bn) (t : Int) (a : A2) : Bool × Int × List Bn :=
  if goes now t = true then ((liveM M t).any (askF a), t, dropM (liveM M t) a) else (false, now, M)
end Go.Proofs.Ytidhdgcmagpkgaa
