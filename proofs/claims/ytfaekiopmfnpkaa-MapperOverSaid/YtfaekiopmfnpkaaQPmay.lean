/-
  Contracts of embrasure/pcp.mayAnswer and mayAsk, and of the document's own may. Conditions: the lease's fields are of their types.
-/
import Derived.Test.YtfaekiopmfnpkaaQMay
namespace Go.Proofs.Ytfaekiopmfnpkaa.Pp
open Go.RowKit
set_option linter.unusedVariables false
set_option linter.unusedSimpArgs false

/-- a lease's fields may be so in an answer -/
def Pan (l : Le) : Prop := l.ver = 2 ∧ (0 ≤ l.ins ∧ l.ins ≤ 65535) ∧ (0 ≤ l.prt ∧ l.prt ≤ 65535) ∧ (0 ≤ l.secs ∧ l.secs ≤ 4294967295) ∧ (0 ≤ l.res ∧ l.res ≤ 255) ∧ (0 ≤ l.epo ∧ l.epo ≤ 4294967295)
def Pas (l : Le) : Prop := Pan l ∧ l.res = 0 ∧ l.epo = 0
instance (l : Le) : Decidable (Pan l) := by unfold Pan; infer_instance
instance (l : Le) : Decidable (Pas l) := by unfold Pas; infer_instance
theorem fits1 (v : Int) (w : World) (h : W64 v) : Calls Try.prog 37 #[.int .i64 1, .int .i64 v] w fun e w' => e = .returned (.bool (fitsB 255 v)) ∧ w = w' := by
  obtain ⟨h1, h2⟩ := h
  have e : fitsB 255 v = (v / 256 == 0) := by unfold fitsB; rw [Bool.eq_iff_iff]; simp; omega
  rw [e]
  clear e
  go_enter Try.func37, Try.ntmps37
  go_wp2
  go_ret
  exact ⟨rfl, rfl⟩
theorem fitsB_yes {m v : Int} (h : 0 ≤ v ∧ v ≤ m) : fitsB m v = true := by unfold fitsB; exact decide_eq_true h
theorem fitsB_no {m v : Int} (h : ¬ (0 ≤ v ∧ v ≤ m)) : fitsB m v = false := by unfold fitsB; exact decide_eq_false h

set_option maxHeartbeats 2000000 in
theorem pmayAnswer_any (l : Le) (w : World) (hl : isL l) : Calls Try.prog 22 #[leV l] w fun e w' => e = .returned (.bool (decide (Pan l))) ∧ Below w.heap.size w w' := by
  obtain ⟨Xver, Xins, Xprt, Xsecs, Xnon, Xres, Xepo, Xhst⟩ := hl
  obtain ⟨ver, ins, prt, secs, non, res, epo, hst⟩ := l
  unfold leV leA
  obtain ⟨r, hr⟩ : ∃ r, decide (Pan ⟨ver, ins, prt, secs, non, res, epo, hst⟩) = r := ⟨_, rfl⟩
  rw [hr]
  have HR := Lib.hid hr; clear hr
  dsimp only at *
  have HBE : Hid (∀ C : Obj, Below w.heap.size w (w.alloc C)) := Lib.hid (fun C => (Below.refl _ w).alloc (Nat.le_refl _) _)
  go_enter Try.func22, Try.ntmps22
  by_cases h0 : ver = 2
  · subst h0
    by_cases h1 : 0 ≤ ins ∧ ins ≤ 65535
    · go_wp2_with fail
      refine (fits2 ins _ Xins).mono ?_
      rw [fitsB_yes h1]
      rintro e w' ⟨rfl, rfl⟩
      by_cases h2 : 0 ≤ prt ∧ prt ≤ 65535
      · go_wp2_with fail
        refine (fits2 prt _ Xprt).mono ?_
        rw [fitsB_yes h2]
        rintro e w' ⟨rfl, rfl⟩
        by_cases h3 : 0 ≤ secs ∧ secs ≤ 4294967295
        · go_wp2_with fail
          refine (fits4 secs _ Xsecs).mono ?_
          rw [fitsB_yes h3]
          rintro e w' ⟨rfl, rfl⟩
          by_cases h4 : 0 ≤ res ∧ res ≤ 255
          · go_wp2_with fail
            refine (fits1 res _ Xres).mono ?_
            rw [fitsB_yes h4]
            rintro e w' ⟨rfl, rfl⟩
            by_cases h5 : 0 ≤ epo ∧ epo ≤ 4294967295
            · go_wp2_with fail
              refine (fits4 epo _ Xepo).mono ?_
              rw [fitsB_yes h5]
              rintro e w' ⟨rfl, rfl⟩
              go_wp2
              go_ret
              exact ⟨ret_bool (by rw [← HR.out]; exact (decide_eq_true (by unfold Pan; dsimp only; omega)).symm), HBE.out _⟩
            · go_wp2_with fail
              refine (fits4 epo _ Xepo).mono ?_
              rw [fitsB_no h5]
              rintro e w' ⟨rfl, rfl⟩
              go_wp2
              go_ret
              exact ⟨ret_bool (by rw [← HR.out]; exact (decide_eq_false (by unfold Pan; dsimp only; omega)).symm), HBE.out _⟩
          · go_wp2_with fail
            refine (fits1 res _ Xres).mono ?_
            rw [fitsB_no h4]
            rintro e w' ⟨rfl, rfl⟩
            go_wp2
            go_ret
            exact ⟨ret_bool (by rw [← HR.out]; exact (decide_eq_false (by unfold Pan; dsimp only; omega)).symm), HBE.out _⟩
        · go_wp2_with fail
          refine (fits4 secs _ Xsecs).mono ?_
          rw [fitsB_no h3]
          rintro e w' ⟨rfl, rfl⟩
          go_wp2
          go_ret
          exact ⟨ret_bool (by rw [← HR.out]; exact (decide_eq_false (by unfold Pan; dsimp only; omega)).symm), HBE.out _⟩
      · go_wp2_with fail
        refine (fits2 prt _ Xprt).mono ?_
        rw [fitsB_no h2]
        rintro e w' ⟨rfl, rfl⟩
        go_wp2
        go_ret
        exact ⟨ret_bool (by rw [← HR.out]; exact (decide_eq_false (by unfold Pan; dsimp only; omega)).symm), HBE.out _⟩
    · go_wp2_with fail
      refine (fits2 ins _ Xins).mono ?_
      rw [fitsB_no h1]
      rintro e w' ⟨rfl, rfl⟩
      go_wp2
      go_ret
      exact ⟨ret_bool (by rw [← HR.out]; exact (decide_eq_false (by unfold Pan; dsimp only; omega)).symm), HBE.out _⟩
  · have n0 : (ver == 2) = false := by simpa using h0
    go_wp2
    go_ret
    exact ⟨ret_bool (by rw [← HR.out]; exact (decide_eq_false (by unfold Pan; dsimp only; omega)).symm), HBE.out _⟩

set_option maxHeartbeats 2000000 in
theorem pmayAsk_any (l : Le) (w : World) (hl : isL l) : Calls Try.prog 51 #[leV l] w fun e w' => e = .returned (.bool (decide (Pas l))) ∧ Below w.heap.size w w' := by
  have HM := Lib.hid (fun W => pmayAnswer_any l W hl)
  have HAB : decide (Pas l) = (decide (Pan l) && ((l.res == 0) && (l.epo == 0))) := by rw [Bool.eq_iff_iff]; simp only [Bool.and_eq_true, decide_eq_true_iff, beq_iff_eq]; rfl
  rw [HAB]
  clear HAB
  generalize decide (Pan l) = a at *
  obtain ⟨Xver, Xins, Xprt, Xsecs, Xnon, Xres, Xepo, Xhst⟩ := hl
  obtain ⟨ver, ins, prt, secs, non, res, epo, hst⟩ := l
  unfold leV leA at *
  obtain ⟨r, hr⟩ : ∃ r, (a && ((res == 0) && (epo == 0))) = r := ⟨_, rfl⟩
  dsimp only at *
  rw [hr]
  have HR := Lib.hid hr; clear hr
  go_enter Try.func51, Try.ntmps51
  go_wp2_with fail
  refine (HM.out _).mono ?_
  rintro e w1 ⟨rfl, hb⟩
  have HB1 : Hid (Below w.heap.size w w1) := Lib.hid (((Below.refl _ w).alloc (Nat.le_refl _) _).trans (hb.mono (by simp)))
  have c5 : w1.cell? ⟨w.heap.size, 5, none⟩ = some (.int .i64 res) := (hb.cell (p := ⟨w.heap.size, 5, none⟩) (by simp)).trans (by go_simp)
  have c6 : w1.cell? ⟨w.heap.size, 6, none⟩ = some (.int .i64 epo) := (hb.cell (p := ⟨w.heap.size, 6, none⟩) (by simp)).trans (by go_simp)
  clear hb
  cases a with
  | false =>
    go_wp2
    go_ret
    exact ⟨ret_bool (by rw [← HR.out]; rfl), HB1.out⟩
  | true =>
    cases t0 : (res == 0) with
    | false =>
      go_wp2
      go_ret
      exact ⟨ret_bool (by rw [← HR.out, t0]; rfl), HB1.out⟩
    | true =>
      cases t1 : (epo == 0) with
      | false =>
        go_wp2
        go_ret
        exact ⟨ret_bool (by rw [← HR.out, t0, t1]; rfl), HB1.out⟩
      | true =>
        go_wp2
        go_ret
        exact ⟨ret_bool (by rw [← HR.out, t0, t1]; rfl), HB1.out⟩

end Go.Proofs.Ytfaekiopmfnpkaa.Pp
