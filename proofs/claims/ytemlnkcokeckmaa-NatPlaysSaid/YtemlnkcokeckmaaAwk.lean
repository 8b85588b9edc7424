/-
  Contracts of the laws' Box and awake. Conditions: as each lemma states.
-/
import Derived.Test.YtemlnkcokeckmaaPlb
namespace Go.Proofs.Ytemlnkcokeckmaa
deriving instance DecidableEq for Bn
open Go.RowKit
attribute [local go_sem] Oper.semAt_some
set_option linter.unusedVariables false

/-- the laws' box -/
def bxC (n : Nat) : Bx := ⟨3405803777, 40000, 40009, (n : Int) % 3, (n : Int) / 3 % 3, 30, 12⟩
theorem bxC_is (n : Nat) : isBx (bxC n) := by
  refine ⟨⟨by simp [bxC], by simp [bxC]⟩, ?_, ?_, ?_, ?_, ?_, ?_⟩ <;> (unfold W64 bxC; dsimp only; omega)
theorem bxC_ok (n : Nat) : OkB (bxC n) := by constructor <;> (unfold bxC; dsimp only; omega)
theorem bxC_2 (n : Nat) : box2 (bxC n) = true := by
  have h1 : isWayB ((n : Int) % 3) = true := by
    unfold isWayB
    rw [Bool.and_eq_true, decide_eq_true_eq, decide_eq_true_eq]
    omega
  have h2 : isWayB ((n : Int) / 3 % 3) = true := by
    unfold isWayB
    rw [Bool.and_eq_true, decide_eq_true_eq, decide_eq_true_eq]
    omega
  unfold box2 bxC
  dsimp only
  rw [h1, h2]
  simp [mayA]
set_option maxHeartbeats 1000000 in
theorem box25 (n : Nat) (hn : n ≤ 255) (w : World) : Calls Try.prog 29 #[.int .u8 (n : Int)] w fun e w' => e = .returned (.agg (boxCells (bxC n))) ∧ Below w.heap.size w w' := by
  have HB : Hid (∀ o, Below w.heap.size w (w.alloc o)) := Lib.hid (fun o => (Below.refl _ w).alloc (Nat.le_refl _) _)
  have e1 : IntKind.i64.wrap (n : Int) = (n : Int) := by simp [IntKind.wrap, IntKind.signed, IntKind.bits] <;> omega
  unfold boxCells bxC
  go_enter Try.func29, Try.ntmps29
  go_wp2
  exact ⟨rfl, .agg #[.int .u32 3405803777, .int .i64 40000, .int .i64 40009, .int .i64 ((n : Int) % 3), .int .i64 ((n : Int) / 3 % 3), .int .i64 30, .int .i64 12], by simp [results, Try.results29, go_sem], rfl, HB.out _⟩

/-- two who talk, in awake -/
def inA0 : A2 := (167772161, 5)
def toA0 : A2 := (134744072, 53)
def b4 : Bn := ⟨inA0, (134744072, 0), 40000, 31, false, [toA0]⟩
theorem aw1 : outS (bxC 4) 0 [] 1 inA0 toA0 = ((3405803777, 40000), 0, 1, [b4]) := by decide
theorem aw2 : inS (bxC 4) 1 [b4] 2 40000 toA0 = (inA0, 0, 2, [b4]) := by decide
theorem aw3 : inS (bxC 4) 2 [b4] 2 40000 (9, 53) = ((0, 0), 8, 2, [b4]) := by decide
theorem aw4 : inS (bxC 4) 2 [b4] 31 40000 toA0 = ((0, 0), 8, 31, []) := by decide

section
variable {w0 V V' : World} {nb : Nat} {x : Bx} {now now' : Int} {M M' : List Bn} {os : List (Nat × Obj)}
theorem Pl.box {k : Nat} (h : Pl w0 nb x now M os V) (cs : Array Value) (t : TypeId) (hk : k = V.heap.size) : Pl w0 nb x now M ((k, .cells cs t (0, 0)) :: os) (V.alloc (.cells cs t)) := h.hold _ (by rw [hk]; exact World.alloc_heap_new V _) hk
theorem Pl.c2 {k : Nat} {u v : Value} (h : Pl w0 nb x now M os V) (hp : (k, Obj.cells #[u, v] 38 (0, 0)) ∈ os) : V.cell? ⟨k, 0, none⟩ = some u ∧ V.cell? ⟨k, 1, none⟩ = some v := ⟨(h.cells hp 0).1, (h.cells hp 1).1⟩
end
theorem ok_nil : OkM [] := ⟨by simp, by simp⟩
theorem ok_b4 : OkM [b4] := ⟨by simp, fun b hb => by simp at hb; subst hb; simp [b4]⟩
theorem noGuard24 : Try.prog.eqGuardType Try.prog.depth 24 = false := by kernel_rfl

set_option maxRecDepth 100000 in
set_option maxHeartbeats 4000000 in
theorem awake_any (w : World) : Calls Try.prog 13 #[] w fun e w' => e = .returned (.bool true) ∧ Below w.heap.size w w' := by
  have hm1 := noGuard38
  have hm2 := noGuard24
  go_enter Try.func13, Try.ntmps13
  go_wp2_with fail
  have h25 := box25 4 (by omega) w
  refine h25.mono ?_
  rintro e w1 ⟨rfl, hb1⟩
  have h10 := new_pl (w0 := w) (V := w1) (bxC 4) (bxC_is 4) (bxC_2 4) [] hb1 (by simp)
  clear hb1 h25
  go_wp2_with fail
  refine h10.mono ?_
  rintro e V1 ⟨g, rfl, hp1⟩
  clear h10
  have hp2 := (hp1.box #[.int .u32 167772161, .int .i64 5] 38 rfl).box (k := V1.heap.size + 1) #[.int .u32 134744072, .int .i64 53] 38 (by simp)
  have hC := out_pl hp2 (bxC_ok 4) ok_nil 1 inA0 toA0 ⟨by decide, by decide⟩ ⟨by decide, by decide⟩ (by decide)
  rw [aw1] at hC
  unfold ansA adr at hC
  dsimp only [inA0, toA0] at hC
  have k1 : V1.heap.size + 1 < V1.heap.size + 2 := by omega
  clear hp1 hp2
  go_wp2_with fail
  refine hC.mono ?_
  rintro e V3 ⟨rfl, hp3⟩
  clear hC
  obtain ⟨a0, a1⟩ := hp3.c2 (k := V1.heap.size) (u := .int .u32 167772161) (v := .int .i64 5) (by simp)
  obtain ⟨b0, b1⟩ := hp3.c2 (k := V1.heap.size + 1) (u := .int .u32 134744072) (v := .int .i64 53) (by simp)
  have k3 := World.block_lt_of_cell? V3 _ b0
  dsimp only at k3
  have hp4 := hp3.box #[.int .u32 3405803777, .int .i64 40000] 38 rfl
  have hC := in_pl hp4 ok_b4 2 40000 toA0 ⟨by decide, by decide⟩
  rw [aw2] at hC
  unfold ansA adr at hC
  dsimp only [inA0, toA0] at hC
  clear hp3 hp4
  go_wp2_with fail
  refine hC.mono ?_
  rintro e V5 ⟨rfl, hp5⟩
  clear hC a0 a1 b0 b1
  obtain ⟨a0, a1⟩ := hp5.c2 (k := V1.heap.size) (u := .int .u32 167772161) (v := .int .i64 5) (by simp)
  obtain ⟨b0, b1⟩ := hp5.c2 (k := V1.heap.size + 1) (u := .int .u32 134744072) (v := .int .i64 53) (by simp)
  obtain ⟨r0, r1⟩ := hp5.c2 (k := V3.heap.size) (u := .int .u32 3405803777) (v := .int .i64 40000) (by simp)
  have k5a0 := World.block_lt_of_cell? V5 _ a0
  dsimp only at k5a0
  have k5b0 := World.block_lt_of_cell? V5 _ b0
  dsimp only at k5b0
  have k5r0 := World.block_lt_of_cell? V5 _ r0
  dsimp only at k5r0
  have hp6 := hp5.box #[.int .u32 167772161, .int .i64 5] 38 rfl
  have hC := in_pl hp6 ok_b4 2 40000 (9, 53) ⟨by decide, by decide⟩
  rw [aw3] at hC
  unfold ansA adr at hC
  dsimp only at hC
  clear hp5 hp6
  go_wp2_with fail
  refine hC.mono ?_
  rintro e V7 ⟨rfl, hp7⟩
  clear hC a0 a1 b0 b1 r0 r1
  obtain ⟨a0, a1⟩ := hp7.c2 (k := V1.heap.size) (u := .int .u32 167772161) (v := .int .i64 5) (by simp)
  obtain ⟨b0, b1⟩ := hp7.c2 (k := V1.heap.size + 1) (u := .int .u32 134744072) (v := .int .i64 53) (by simp)
  obtain ⟨r0, r1⟩ := hp7.c2 (k := V3.heap.size) (u := .int .u32 3405803777) (v := .int .i64 40000) (by simp)
  obtain ⟨s0, s1⟩ := hp7.c2 (k := V5.heap.size) (u := .int .u32 167772161) (v := .int .i64 5) (by simp)
  have k7a0 := World.block_lt_of_cell? V7 _ a0
  dsimp only at k7a0
  have k7b0 := World.block_lt_of_cell? V7 _ b0
  dsimp only at k7b0
  have k7r0 := World.block_lt_of_cell? V7 _ r0
  dsimp only at k7r0
  have k7s0 := World.block_lt_of_cell? V7 _ s0
  dsimp only at k7s0
  have hp8 := hp7.box #[.int .u32 0, .int .i64 0] 38 rfl
  have hC := in_pl hp8 ok_b4 31 40000 toA0 ⟨by decide, by decide⟩
  rw [aw4] at hC
  unfold ansA adr at hC
  dsimp only [toA0] at hC
  clear hp7 hp8
  go_wp2_with fail
  refine hC.mono ?_
  rintro e V9 ⟨rfl, hp9⟩
  clear hC a0 a1 b0 b1 r0 r1 s0 s1
  obtain ⟨a0, a1⟩ := hp9.c2 (k := V1.heap.size) (u := .int .u32 167772161) (v := .int .i64 5) (by simp)
  obtain ⟨r0, r1⟩ := hp9.c2 (k := V3.heap.size) (u := .int .u32 3405803777) (v := .int .i64 40000) (by simp)
  obtain ⟨s0, s1⟩ := hp9.c2 (k := V5.heap.size) (u := .int .u32 167772161) (v := .int .i64 5) (by simp)
  have k9a0 := World.block_lt_of_cell? V9 _ a0
  dsimp only at k9a0
  have k9r0 := World.block_lt_of_cell? V9 _ r0
  dsimp only at k9r0
  have k9s0 := World.block_lt_of_cell? V9 _ s0
  dsimp only at k9s0
  obtain ⟨kv, L, hN, -, -, -⟩ := (hp9.alloc (.cells #[.int .u32 0, .int .i64 0] 38)).bo
  have hC := box_any g (bxC 4) 31 kv L _ hN
  have HLOW := Lib.hid (hp9.alloc (.cells #[.int .u32 0, .int .i64 0] 38)).low
  have H25 := Lib.hid (fun W => box25 4 (by omega) W)
  clear hp9 hN
  go_wp2_with fail
  refine hC.mono ?_
  rintro e V10 ⟨rfl, hb10⟩
  have HB10 := Lib.hid hb10
  clear hb10 hC
  go_wp2_with fail
  refine (H25.out _).mono ?_
  rintro e V11 ⟨rfl, hb11⟩
  have HB11 := Lib.hid hb11
  clear hb11
  unfold boxCells bxC
  go_wp2
  go_ret
  exact ⟨rfl, HLOW.out.trans ((HB10.out.trans (HB11.out.mono HB10.out.size)).mono HLOW.out.size)⟩
end Go.Proofs.Ytemlnkcokeckmaa
