/-
  Plain words for the sort of names: a name as a value, what is asked of the comparison, and what stands in each world of the sort. Conditions: as each lemma states.
-/
import Derived.Test.YtahccfljgmleiaaRows
import Derived.WalkKit
import Derived.Lib.Hide
import Derived.Shelf.SlSortCmp.Kit1
import Derived.Sort.LotD3
import Derived.Sort.LotB
import Derived.Sort.LotC
import Derived.Deep.LoopGhost
namespace Go.Proofs.Ytahccfljgmleiaa
theorem follows : Try.prog.follows .mixedOrders = true := by kernel_rfl
open Go.RowKit Go.Sort
set_option linter.unusedVariables false

/-- a name: its bytes -/
abbrev Ky := { x : List UInt8 // x.length ≤ maxLen }
instance : Inhabited Ky := ⟨⟨[], Nat.zero_le _⟩⟩
def str (x : Ky) : ByteArray := ⟨x.1.toArray⟩
def nam (x : Ky) : Value := .string (str x)
theorem nam_one : OneCell nam := fun _ => rfl
/-- the comparison that is handed on: the method of the table at p -/
def ofTab (p : Value) : Value := .func (.func 27) #[p] #[]

/-- what a sort of n names in block b is told once: the comparison answers cf in whatever world of the sort, and lays new blocks at most -/
structure Env (p : Value) (cf : Ky → Ky → Int) (w0 : World) (b n : Nat) : Prop where
  ask : ∀ W dk, SW nam w0 b 0 dk W → dk.size = n → ∀ x y, Calls Try.prog 27 #[p, .string (str x), .string (str y)] W fun e w' => e = .returned (.int .i64 (cf x y)) ∧ ∃ q os', w' = grow (W.drewN q) os'
  old : b < w0.heap.size
  row : ∃ d0, d0.size = n ∧ Holds nam w0 b 0 d0
  few : n ≤ 1000000
  weak : SWO (ltOf cf)

variable {p : Value} {cf : Ky → Ky → Int} {w0 W : World} {b n : Nat} {dk : Array Ky}

theorem Env.tell (E : Env p cf w0 b n) (S : SW nam w0 b 0 dk W) (hs : dk.size = n) (x y : Ky) (m : Nat) (os : Array Obj) :
    Calls Try.prog 27 #[p, .string (str x), .string (str y)] (grow (W.drewN m) os) fun e w'' => e = .returned (.int .i64 (cf x y)) ∧ ∃ q : GrownBy, w'' = grow (W.drewN q.n) q.os :=
  Calls.grown_of (E.ask _ _ (S.grown m os) hs x y)
theorem Env.cell (E : Env p cf w0 b n) (S : SW nam w0 b 0 dk W) (hs : dk.size = n) {i : Nat} (hi : i < n) : W.cell? ⟨b, i, none⟩ = some (.string (str dk[i]!)) ∧ W.frozen? ⟨b, i, none⟩ = false := by
  obtain ⟨d0, h0, hh⟩ := E.row
  have := S.holds E.old hh (hs.trans h0.symm) i (hs ▸ hi)
  rwa [Nat.zero_add] at this
theorem Env.cellG (E : Env p cf w0 b n) (S : SW nam w0 b 0 dk W) (hs : dk.size = n) {i : Nat} (hi : i < n) (m : Nat) (os : Array Obj) : (grow (W.drewN m) os).cell? ⟨b, i, none⟩ = some (.string (str dk[i]!)) :=
  (E.cell (S.grown m os) hs hi).1
/-- behind the first store of an exchange the second place still holds a name -/
theorem Env.mid (E : Env p cf w0 b n) (S : SW nam w0 b 0 dk W) (hs : dk.size = n) {i j : Nat} (hi : i < n) (hj : j < n) (v : Value) : ∃ u, (W.setCell ⟨b, i, none⟩ v).cell? ⟨b, j, none⟩ = some u := by
  by_cases e : i = j
  · subst e; exact ⟨v, World.cell?_setCell_same _ _ _ (E.cell S hs hi).1⟩
  · exact ⟨_, (World.cell?_setCell_other _ _ _ _ (by intro e'; simp only [Addr.mk.injEq] at e'; omega)).trans (E.cell S hs hj).1⟩
theorem Env.swap (E : Env p cf w0 b n) (S : SW nam w0 b 0 dk W) (hs : dk.size = n) {i j : Nat} (hi : i < n) (hj : j < n) :
    SW nam w0 b 0 (swp dk i j) ((W.setCell ⟨b, i, none⟩ (.string (str dk[j]!))).setCell ⟨b, j, none⟩ (.string (str dk[i]!))).drew := by
  have := (S.swap E.old i j (hs ▸ hi) (hs ▸ hj)).drew
  rwa [Nat.zero_add, Nat.zero_add] at this

end Go.Proofs.Ytahccfljgmleiaa
