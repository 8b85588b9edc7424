/-
  The contract of the document's own Same: whether two datagrams are the same. Conditions: their bytes lie in memory.
-/
import Derived.Test.YthfdnidcmkjmoaaNt
namespace Go.Proofs.Ythfdnidcmkjmoaa
open Go.RowKit
attribute [local go_sem] Oper.semAt_some
set_option linter.unusedVariables false

theorem noGuardA : Try.prog.eqGuardType Try.prog.depth 33 = false := by kernel_rfl
theorem run_eqA (a b : A2) (w : World) : (binOp .eql 33 (.agg #[.int .u32 a.1, .int .i64 a.2]) (.agg #[.int .u32 b.1, .int .i64 b.2])).run Try.prog w = .ok (.bool (decide (a = b))) w := by
  have hm := noGuardA
  obtain ⟨h, p⟩ := a
  obtain ⟨h', p'⟩ := b
  dsimp only
  by_cases h1 : h = h'
  · subst h1
    by_cases h2 : p = p'
    · subst h2
      go_simp
    · go_simp
  · go_simp
/-- are two datagrams the same? -/
def sameD (a b : Dg) : Bool := decide (a.no = b.no) && decide (a.f = b.f) && decide (a.t = b.t) && decide (a.b = b.b)
theorem sameD_self (a : Dg) : sameD a a = true := by simp [sameD]
theorem sameD_eq {a b : Dg} (h : a = b) : sameD a b = true := by subst h; exact sameD_self a
set_option maxRecDepth 100000 in
set_option maxHeartbeats 4000000 in
theorem same_d (a b : Dg) (A1 A2' : Option Addr) (c1 c2 : Nat) (w : World) (h1 : Bts w A1 a.b.length a.b) (h2 : Bts w A2' b.b.length b.b) (hl : a.b.length ≤ 1000000) :
    Calls Try.prog 18 #[.agg (sentC a.no a.f a.t (.slice A1 a.b.length c1)), .agg (sentC b.no b.f b.t (.slice A2' b.b.length c2))] w fun e w' => e = .returned (.bool (sameD a b)) ∧ Below w.heap.size w w' := by
  have hE1 := fun W => run_eqA a.f b.f W
  have hE2 := fun W => run_eqA a.t b.t W
  have hb0 : Below w.heap.size w ((w.alloc (.cells (sentC a.no a.f a.t (.slice A1 a.b.length c1)) 43)).alloc (.cells (sentC b.no b.f b.t (.slice A2' b.b.length c2)) 43)) := ((Below.refl _ w).alloc (Nat.le_refl _) _).alloc (by simp) _
  have HS := Lib.hid (same_any A1 A2' a.b.length b.b.length c1 c2 a.b b.b _ (by unfold maxLen; omega) (h1.below hb0) (h2.below hb0))
  have HB0 := Lib.hid hb0
  clear h1 h2 hb0 hl
  have HR : Hid (sameD a b = (decide (a.no = b.no) && decide (a.f = b.f) && decide (a.t = b.t) && decide (a.b = b.b))) := Lib.hid rfl
  obtain ⟨no1, f1, t1, z1⟩ := a
  obtain ⟨no2, f2, t2, z2⟩ := b
  unfold sentC at *
  dsimp only at *
  obtain ⟨R, hR⟩ : ∃ R, sameD ⟨no1, f1, t1, z1⟩ ⟨no2, f2, t2, z2⟩ = R := ⟨_, rfl⟩
  rw [hR] at HR ⊢
  clear hR
  generalize z1.length = n1 at *
  generalize z2.length = n2 at *
  by_cases k1 : no1 = no2
  case neg =>
    have k1b : (no1 == no2) = false := by simpa using k1
    have HF : Hid (R = false) := Lib.hid (by rw [HR.out]; simp [k1])
    clear k1 hE1 hE2 HS
    go_enter Try.func18, Try.ntmps18
    go_wp2
    go_ret
    exact ⟨ret_bool HF.out.symm, HB0.out⟩
  have k1b : (no1 == no2) = true := by simpa using k1
  have k1d : decide (no1 = no2) = true := by simpa using k1
  cases k2 : decide (f1 = f2) with
  | false =>
    have HF : Hid (R = false) := Lib.hid (by rw [HR.out, k1d, k2]; rfl)
    rw [k2] at hE1
    clear k1 k2 hE2 HS k1d
    go_enter Try.func18, Try.ntmps18
    go_wp2
    go_ret
    exact ⟨ret_bool HF.out.symm, HB0.out⟩
  | true =>
    rw [k2] at hE1
    cases k3 : decide (t1 = t2) with
    | false =>
      have HF : Hid (R = false) := Lib.hid (by rw [HR.out, k1d, k2, k3]; rfl)
      rw [k3] at hE2
      clear k1 k2 k3 HS k1d
      go_enter Try.func18, Try.ntmps18
      go_wp2
      go_ret
      exact ⟨ret_bool HF.out.symm, HB0.out⟩
    | true =>
      rw [k3] at hE2
      have HF : Hid (R = decide (z1 = z2)) := Lib.hid (by rw [HR.out, k1d, k2, k3]; simp)
      generalize decide (z1 = z2) = r at *
      clear k1 k2 k3 HR k1d
      go_enter Try.func18, Try.ntmps18
      go_wp2_with fail
      refine HS.out.mono ?_
      rintro e w1 ⟨rfl, q, rfl⟩
      go_wp2
      go_ret
      exact ⟨ret_bool HF.out.symm, below_drw HB0.out q⟩
end Go.Proofs.Ythfdnidcmkjmoaa
