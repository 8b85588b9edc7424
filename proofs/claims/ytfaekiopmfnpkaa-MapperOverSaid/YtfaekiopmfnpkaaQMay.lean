/-
  A lease as plain numbers; contracts of embrasure/pmp.mayAnswer and mayAsk, and of the document's own fits and none. Conditions: as each lemma states.
-/
import Derived.Test.YtfaekiopmfnpkaaQNum
namespace Go.Proofs.Ytfaekiopmfnpkaa.Pp
open Go.RowKit
set_option linter.unusedVariables false
set_option linter.unusedSimpArgs false

structure Le where
  ver : Int
  ins : Int
  prt : Int
  secs : Int
  non : Int
  res : Int
  epo : Int
  hst : Int
deriving DecidableEq
def leA (l : Le) : Array Value := #[.int .i64 l.ver, .int .i64 l.ins, .int .i64 l.prt, .int .i64 l.secs, .int .u64 l.non, .int .i64 l.res, .int .i64 l.epo, .int .u32 l.hst]
def leV (l : Le) : Value := .agg (leA l)
def zeroL : Le := ⟨0, 0, 0, 0, 0, 0, 0, 0⟩
structure isL (l : Le) : Prop where
  ver : W64 l.ver
  ins : W64 l.ins
  prt : W64 l.prt
  secs : W64 l.secs
  non : 0 ≤ l.non ∧ l.non < 18446744073709551616
  res : W64 l.res
  epo : W64 l.epo
  hst : 0 ≤ l.hst ∧ l.hst < 4294967296
def noneB (l : Le) : Bool := (l.ins == 0) && ((l.prt == 0) && (l.secs == 0))
def portB (l : Le) : Bool := fitsB 65535 l.ins && (fitsB 65535 l.prt && (fitsB 4294967295 l.secs && (l.hst == 0)))
def ansB (l : Le) (h : Bool) : Bool := (l.ver == 0) && ((l.non == 0) && (fitsB 65535 l.res && (fitsB 4294967295 l.epo && (if h then noneB l else portB l))))
def askB (l : Le) (h : Bool) : Bool := ansB l h && ((l.res == 0) && ((l.epo == 0) && (l.hst == 0)))
def allB (l : Le) : Bool := (l.ver == 0) && ((l.non == 0) && (fitsB 65535 l.ins && (fitsB 65535 l.prt && (fitsB 4294967295 l.secs && (fitsB 65535 l.res && fitsB 4294967295 l.epo)))))
theorem bne_of {a : Int} {b : Bool} (h : (a == 0) = b) : (a != 0) = !b := by rw [← h]; rfl

def inB (m n : Int) : Bool := fitsB m n
set_option maxHeartbeats 2000000 in
theorem mayAnswer_any (l : Le) (h : Bool) (w : World) (hl : isL l) : Calls Try.prog 50 #[leV l, .bool h] w fun e w' => e = .returned (.bool (ansB l h)) ∧ Below w.heap.size w w' := by
  obtain ⟨Xver, Xins, Xprt, Xsecs, Xnon, Xres, Xepo, Xhst⟩ := hl
  obtain ⟨ver, ins, prt, secs, non, res, epo, hst⟩ := l
  unfold leV leA
  dsimp only at *
  have HBE : Hid (∀ C : Obj, Below w.heap.size w (w.alloc C)) := Lib.hid (fun C => (Below.refl _ w).alloc (Nat.le_refl _) _)
  go_enter Try.func50, Try.ntmps50
  cases t0 : (ver == 0) with
  | false =>
    have n0 := bne_of t0; simp only [Bool.not_false] at n0
    go_wp2
    go_ret
    exact ⟨ret_bool (by simp [ansB, t0]), HBE.out _⟩
  | true =>
    have n0 := bne_of t0; simp only [Bool.not_true] at n0
    cases t1 : (non == 0) with
    | false =>
      have n1 := bne_of t1; simp only [Bool.not_false] at n1
      go_wp2
      go_ret
      exact ⟨ret_bool (by simp [ansB, t0, t1]), HBE.out _⟩
    | true =>
      have n1 := bne_of t1; simp only [Bool.not_true] at n1
      go_wp2_with fail
      refine (fits2 res _ Xres).mono ?_
      rintro e w' ⟨rfl, rfl⟩
      cases t2 : fitsB 65535 res with
      | false =>
        go_wp2
        go_ret
        exact ⟨ret_bool (by simp [ansB, t0, t1, t2]), HBE.out _⟩
      | true =>
        go_wp2_with fail
        refine (fits4 epo _ Xepo).mono ?_
        rintro e w' ⟨rfl, rfl⟩
        cases t3 : fitsB 4294967295 epo with
        | false =>
          go_wp2
          go_ret
          exact ⟨ret_bool (by simp [ansB, t0, t1, t2, t3]), HBE.out _⟩
        | true =>
          cases h with
          | true =>
            cases s0 : (ins == 0) with
            | false =>
              have m0 := bne_of s0; simp only [Bool.not_false] at m0
              go_wp2
              go_ret
              exact ⟨ret_bool (by simp [ansB, noneB, t0, t1, t2, t3, s0]), HBE.out _⟩
            | true =>
              have m0 := bne_of s0; simp only [Bool.not_true] at m0
              cases s1 : (prt == 0) with
              | false =>
                have m1 := bne_of s1; simp only [Bool.not_false] at m1
                go_wp2
                go_ret
                exact ⟨ret_bool (by simp [ansB, noneB, t0, t1, t2, t3, s0, s1]), HBE.out _⟩
              | true =>
                have m1 := bne_of s1; simp only [Bool.not_true] at m1
                cases s2 : (secs == 0) with
                | false =>
                  have m2 := bne_of s2; simp only [Bool.not_false] at m2
                  go_wp2
                  go_ret
                  exact ⟨ret_bool (by simp [ansB, noneB, t0, t1, t2, t3, s0, s1, s2]), HBE.out _⟩
                | true =>
                  have m2 := bne_of s2; simp only [Bool.not_true] at m2
                  go_wp2
                  go_ret
                  exact ⟨ret_bool (by simp [ansB, noneB, t0, t1, t2, t3, s0, s1, s2]), HBE.out _⟩
          | false =>
            go_wp2_with fail
            refine (fits2 ins _ Xins).mono ?_
            rintro e w' ⟨rfl, rfl⟩
            cases s0 : fitsB 65535 ins with
            | false =>
              go_wp2
              go_ret
              exact ⟨ret_bool (by simp [ansB, portB, t0, t1, t2, t3, s0]), HBE.out _⟩
            | true =>
              go_wp2_with fail
              refine (fits2 prt _ Xprt).mono ?_
              rintro e w' ⟨rfl, rfl⟩
              cases s1 : fitsB 65535 prt with
              | false =>
                go_wp2
                go_ret
                exact ⟨ret_bool (by simp [ansB, portB, t0, t1, t2, t3, s0, s1]), HBE.out _⟩
              | true =>
                go_wp2_with fail
                refine (fits4 secs _ Xsecs).mono ?_
                rintro e w' ⟨rfl, rfl⟩
                cases s2 : fitsB 4294967295 secs with
                | false =>
                  go_wp2
                  go_ret
                  exact ⟨ret_bool (by simp [ansB, portB, t0, t1, t2, t3, s0, s1, s2]), HBE.out _⟩
                | true =>
                  cases s3 : (hst == 0) with
                  | false =>
                    have m3 := bne_of s3; simp only [Bool.not_false] at m3
                    go_wp2
                    go_ret
                    exact ⟨ret_bool (by simp [ansB, portB, t0, t1, t2, t3, s0, s1, s2, s3]), HBE.out _⟩
                  | true =>
                    have m3 := bne_of s3; simp only [Bool.not_true] at m3
                    go_wp2
                    go_ret
                    exact ⟨ret_bool (by simp [ansB, portB, t0, t1, t2, t3, s0, s1, s2, s3]), HBE.out _⟩

set_option maxHeartbeats 2000000 in
theorem mayAsk_any (l : Le) (h : Bool) (w : World) (hl : isL l) : Calls Try.prog 42 #[leV l, .bool h] w fun e w' => e = .returned (.bool (askB l h)) ∧ Below w.heap.size w w' := by
  have HM := Lib.hid (fun W => mayAnswer_any l h W hl)
  have HAB : askB l h = (ansB l h && ((l.res == 0) && ((l.epo == 0) && (l.hst == 0)))) := rfl
  rw [HAB]
  clear HAB
  generalize ansB l h = a at *
  obtain ⟨Xver, Xins, Xprt, Xsecs, Xnon, Xres, Xepo, Xhst⟩ := hl
  obtain ⟨ver, ins, prt, secs, non, res, epo, hst⟩ := l
  unfold leV leA at *
  dsimp only at *
  have HBE : Hid (∀ C : Obj, Below w.heap.size w (w.alloc C)) := Lib.hid (fun C => (Below.refl _ w).alloc (Nat.le_refl _) _)
  go_enter Try.func42, Try.ntmps42
  go_wp2_with fail
  refine (HM.out _).mono ?_
  rintro e w1 ⟨rfl, hb⟩
  have HB1 : Hid (Below w.heap.size w w1) := Lib.hid (((Below.refl _ w).alloc (Nat.le_refl _) _).trans (hb.mono (by simp)))
  have c5 : w1.cell? ⟨w.heap.size, 5, none⟩ = some (.int .i64 res) := (hb.cell (p := ⟨w.heap.size, 5, none⟩) (by simp)).trans (by go_simp)
  have c6 : w1.cell? ⟨w.heap.size, 6, none⟩ = some (.int .i64 epo) := (hb.cell (p := ⟨w.heap.size, 6, none⟩) (by simp)).trans (by go_simp)
  have c7 : w1.cell? ⟨w.heap.size, 7, none⟩ = some (.int .u32 hst) := (hb.cell (p := ⟨w.heap.size, 7, none⟩) (by simp)).trans (by go_simp)
  clear hb
  cases a with
  | false =>
    go_wp2
    go_ret
    exact ⟨ret_bool (by simp), HB1.out⟩
  | true =>
    cases t0 : (res == 0) with
    | false =>
      have n0 := bne_of t0; simp only [Bool.not_false] at n0
      go_wp2
      go_ret
      exact ⟨ret_bool (by simp [t0]), HB1.out⟩
    | true =>
      have n0 := bne_of t0; simp only [Bool.not_true] at n0
      cases t1 : (epo == 0) with
      | false =>
        have n1 := bne_of t1; simp only [Bool.not_false] at n1
        go_wp2
        go_ret
        exact ⟨ret_bool (by simp [t0, t1]), HB1.out⟩
      | true =>
        have n1 := bne_of t1; simp only [Bool.not_true] at n1
        cases t2 : (hst == 0) with
        | false =>
          have n2 := bne_of t2; simp only [Bool.not_false] at n2
          go_wp2
          go_ret
          exact ⟨ret_bool (by simp [t0, t1, t2]), HB1.out⟩
        | true =>
          have n2 := bne_of t2; simp only [Bool.not_true] at n2
          go_wp2
          go_ret
          exact ⟨ret_bool (by simp [t0, t1, t2]), HB1.out⟩

end Go.Proofs.Ytfaekiopmfnpkaa.Pp
