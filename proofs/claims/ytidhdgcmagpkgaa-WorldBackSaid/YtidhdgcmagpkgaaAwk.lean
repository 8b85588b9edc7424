/-
  Contracts of the laws' Box and awake. Conditions: as each lemma states.
-/
import Derived.Test.YtidhdgcmagpkgaaPlb
namespace Go.Proofs.Ytidhdgcmagpkgaa
deriving instance DecidableEq for Bn
open Go.RowKit
attribute [local go_sem] Oper.semAt_some
set_option linter.unusedVariables false

/-- the laws' box -/
def bxC (n : Nat) : Bx := ⟨3405803777, 40000, 40009, (n : Int) % 3, (n : Int) / 3 % 3, 30, 12⟩
theorem bxC_is (n : Nat) : isBx (bxC n) := by
  refine ⟨⟨by simp [bxC], by simp [bxC]⟩, ?_, ?_, ?_, ?_, ?_, ?_⟩ <;> (unfold W64 bxC; dsimp only; omega)
theorem bxC_ok (n : Nat) : OkB (bxC n) := by constructor <;> (unfold bxC; dsimp only; omega)
theorem bxC_2 (n : Nat) : box2 (bxC n) = true := by
  have h1 : isWayB ((n : Int) % 3) = true := by
    unfold isWayB
    rw [Bool.and_eq_true, decide_eq_true_eq, decide_eq_true_eq]
    omega
  have h2 : isWayB ((n : Int) / 3 % 3) = true := by
    unfold isWayB
    rw [Bool.and_eq_true, decide_eq_true_eq, decide_eq_true_eq]
    omega
  unfold box2 bxC
  dsimp only
  rw [h1, h2]
  simp [mayA]
set_option maxHeartbeats 1000000 in
theorem box25 (n : Nat) (hn : n ≤ 255) (w : World) : Calls Try.prog 13 #[.int .u8 (n : Int)] w fun e w' => e = .returned (.agg (boxCells (bxC n))) ∧ Below w.heap.size w w' := by
  have HB : Hid (∀ o, Below w.heap.size w (w.alloc o)) := Lib.hid (fun o => (Below.refl _ w).alloc (Nat.le_refl _) _)
  have e1 : IntKind.i64.wrap (n : Int) = (n : Int) := by simp [IntKind.wrap, IntKind.signed, IntKind.bits] <;> omega
  unfold boxCells bxC
  go_enter Try.func13, Try.ntmps13
  go_wp2
  exact ⟨rfl, .agg #[.int .u32 3405803777, .int .i64 40000, .int .i64 40009, .int .i64 ((n : Int) % 3), .int .i64 ((n : Int) / 3 % 3), .int .i64 30, .int .i64 12], by simp [results, Try.results13, go_sem], rfl, HB.out _⟩

/-- two who talk, in awake -/
def inA0 : A2 := (167772161, 5)
def toA0 : A2 := (134744072, 53)
def b4 : Bn := ⟨inA0, (134744072, 0), 40000, 31, false, [toA0]⟩
theorem aw1 : outS (bxC 4) 0 [] 1 inA0 toA0 = ((3405803777, 40000), 0, 1, [b4]) := by decide
theorem aw2 : inS (bxC 4) 1 [b4] 2 40000 toA0 = (inA0, 0, 2, [b4]) := by decide
theorem aw3 : inS (bxC 4) 2 [b4] 2 40000 (9, 53) = ((0, 0), 8, 2, [b4]) := by decide
theorem aw4 : inS (bxC 4) 2 [b4] 31 40000 toA0 = ((0, 0), 8, 31, []) := by decide

section
variable {w0 V V' : World} {nb : Nat} {x : Bx} {now now' : Int} {M M' : List Bn} {os : List (Nat × Obj)}
theorem Pl.box {k : Nat} (h : Pl w0 nb x now M os V) (cs : Array Value) (t : TypeId) (hk : k = V.heap.size) : Pl w0 nb x now M ((k, .cells cs t (0, 0)) :: os) (V.alloc (.cells cs t)) := h.hold _ (by rw [hk]; exact World.alloc_heap_new V _) hk
theorem Pl.c2 {k : Nat} {u v : Value} (h : Pl w0 nb x now M os V) (hp : (k, Obj.cells #[u, v] 36 (0, 0)) ∈ os) : V.cell? ⟨k, 0, none⟩ = some u ∧ V.cell? ⟨k, 1, none⟩ = some v := ⟨(h.cells hp 0).1, (h.cells hp 1).1⟩
end
theorem ok_nil : OkM [] := ⟨by simp, by simp⟩
theorem ok_b4 : OkM [b4] := ⟨by simp, fun b hb => by simp at hb; subst hb; simp [b4]⟩
theorem noGuard24 : Try.prog.eqGuardType Try.prog.depth 24 = false := by kernel_rfl

end Go.Proofs.Ytidhdgcmagpkgaa
