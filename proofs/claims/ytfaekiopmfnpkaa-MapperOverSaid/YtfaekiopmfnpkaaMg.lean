/-
  A client that hears PCP's answers: contracts of take and Hear. Conditions: the client stands; it asks by PCP; the answer is one.
-/
import Derived.Test.YtfaekiopmfnpkaaMf
namespace Go.Proofs.Ytfaekiopmfnpkaa.Mp
open Go.RowKit Go.Maps Go.ChangeMaps Go.MapKept
attribute [local go_sem] Oper.semAt_some
set_option linter.unusedVariables false
set_option linter.unusedSimpArgs false
section
variable {V V' : World} {mb : Nat} {m : Mpr} {sv : Value}
set_option maxHeartbeats 8000000 in
theorem take_p (h : MpAt V mb m sv) (t : Int) (ht : 0 ≤ t ∧ t ≤ 1099511627776) (l : Pp.Le) (hst : m.st ≠ 2) (hr : l.res = 0) (h0 : l.ver ≠ 0) (hs : 1 ≤ l.secs ∧ l.secs ≤ 4294967295) (hp : 1 ≤ l.prt) (hh : 1 ≤ l.hst) (h1 : 0 ≤ m.tat ∧ m.tat ≤ t) (h3 : 0 ≤ m.epo ∧ m.epo ≤ 4294967295) :
    Calls Try.prog 21 #[pt mb, .int .i64 t, Pp.leV l, .bool false] V fun e V' => e = .returned (.slice none 0 0) ∧ MpAt V' mb (heldM (toldM m t l.epo) t l) sv ∧ Kp mb V V' := by
  have hA := h.alloc (.cells (Pp.leA l) 36)
  have hla : Pp.LeAt (V.alloc (.cells (Pp.leA l) 36)) V.heap.size l := by show (V.heap.push _)[V.heap.size]? = _; simp
  have KA := Lib.hid ((Kp.refl mb V).alloc (.cells (Pp.leA l) 36))
  have HIA := Lib.hid (isAnew_any hA t l.epo h1 ht.2 h3)
  obtain ⟨q0, q1, q2, q3, q4, q5, q6, q7⟩ := hla.cells
  have ql := hla.lt
  have hrb : (l.res != (0 : Int)) = false := by simp [hr]
  have hne : V.heap.size ≠ mb := by have := h.lt; omega
  have HLA := Lib.hid hla
  have HNE := Lib.hid hne
  have HHO := Lib.hid (fun W (hW : MpAt W mb (toldM m t l.epo) sv) => hold_p hW t ht l h0 hs hp hh)
  have hstb : (m.st == (2 : Int)) = false := by simpa using hst
  clear h hA hla hne h0 hs hp hh h1 h3 ht hr hst
  unfold pt Pp.leV at *
  unfold Pp.leA at HIA q0 q1 q2 q3 q4 q5 q6 q7 ql HHO ⊢
  generalize anewB m t l.epo = ab at *
  go_enter Try.func21, Try.ntmps21
  go_wp2_with fail
  refine HIA.out.mono ?_
  rintro e W1 ⟨rfl, h1, k1⟩
  have H1 := Lib.hid h1
  have K1 := Lib.hid k1
  have hl1 : Pp.LeAt W1 V.heap.size l := (k1.block _ (by simp) HNE.out).trans HLA.out
  clear q0 q1 q2 q3 q4 q5 q6 q7 ql
  obtain ⟨q0, q1, q2, q3, q4, q5, q6, q7⟩ := hl1.cells
  have ql := hl1.lt
  obtain ⟨c0, c1, c2, c3, c4, c5, c6, c7, c8, c9, c10, c11, c12, c13, c14, c15, c16, c17, cf, cl⟩ := h1.cells
  have e3 : (toldM m t l.epo).st = m.st := rfl
  rw [e3] at c3
  have HHW := Lib.hid (HHO.out _ h1)
  clear h1 k1 hl1 e3
  go_wp2_with fail
  refine HHW.out.mono ?_
  rintro e W2 ⟨rfl, h2, k2⟩
  have H2 := Lib.hid h2
  have K2 := Lib.hid ((KA.out.trans K1.out).trans k2)
  clear h2 k2
  go_wp2
  go_ret
  exact ⟨rfl, H2.out, K2.out⟩
set_option maxHeartbeats 8000000 in
/-- an answer of another's number is nothing -/
theorem hear_no (h : MpAt V mb m sv) (t : Int) (hg : goesB m t = true) (hr : restsB m = false) {v : Value} {zs : List Int} {l : Pp.Le} (hrow : ∀ W, Kp mb V W → Pp.Row W v zs) (hz : Pp.PAnsOf zs l) (hv : l.ver = m.ver) (hi : l.ins = m.ins) (hn : l.non ≠ m.non) (hres : l.res ≠ 1) :
    Calls Try.prog 8 #[pt mb, .int .i64 t, v] V fun e V' => e = .returned (.slice none 0 0) ∧ MpAt V' mb { m with now := t } sv ∧ Kp mb V V' := by
  have h0 : l.ver ≠ 0 := by rw [hz.may.1]; decide
  have HR := Lib.hid (rests_any h)
  rw [hr] at HR
  have HG := Lib.hid (goesOn_yes h t hg)
  have HRD : Hid (∀ W, Kp mb V W → Calls Try.prog 18 #[v] W fun e V' => e = .returned (.tuple #[Pp.leV l, .bool false, .int .i64 0]) ∧ Below W.heap.size W V') := Lib.hid (fun W hW => read_p (hrow W hW) hz)
  have HOW := Lib.hid (fun W (hW : MpAt W mb { m with now := t } sv) => isOwn_p hW l hv hi h0)
  have hnb : (l.non == m.non) = false := by simpa using hn
  rw [show (l.non == ({ m with now := t } : Mpr).non) = (l.non == m.non) from rfl, hnb] at HOW
  have hrb : (l.res == (1 : Int)) = false := by simpa using hres
  obtain ⟨A, c, rfl⟩ := row_form (hrow V (Kp.refl mb V))
  have HML := Lib.hid h.lt
  clear h hg hr hrow hz hv hi hn hres h0 hnb
  unfold pt Pp.leV Pp.leA at *
  generalize zs.length = n at *
  go_enter Try.func8, Try.ntmps8
  go_wp2_with fail
  refine HR.out.mono ?_
  rintro e W0 ⟨rfl, rfl⟩
  go_wp2_with fail
  refine HG.out.mono ?_
  rintro e W1 ⟨rfl, h1, k1⟩
  have K1 := Lib.hid k1
  have H1 := Lib.hid h1
  have HRW := Lib.hid (HRD.out _ k1)
  clear h1 k1
  go_wp2_with fail
  refine HRW.out.mono ?_
  rintro e W2 ⟨rfl, hb2⟩
  have H3 := Lib.hid ((H1.out.below hb2).alloc (.cells (Pp.leA l) 36))
  have K3 := Lib.hid ((K1.out.trans (.below hb2)).alloc (.cells (Pp.leA l) 36))
  unfold Pp.leA at H3 K3
  have HO3 := Lib.hid (HOW.out _ H3.out)
  clear hb2
  go_wp2_with fail
  refine HO3.out.mono ?_
  rintro e W4 ⟨rfl, hb4⟩
  have H4 := Lib.hid (H3.out.below hb4)
  have K4 := Lib.hid (K3.out.trans (.below hb4))
  clear hb4
  go_wp2
  go_ret
  exact ⟨rfl, H4.out, K4.out⟩
set_option maxHeartbeats 8000000 in
/-- what is granted it has -/
theorem hear_hold (h : MpAt V mb m sv) (t : Int) (hg : goesB m t = true) (hr : restsB m = false) {v : Value} {zs : List Int} {l : Pp.Le} (hrow : ∀ W, Kp mb V W → Pp.Row W v zs) (hz : Pp.PAnsOf zs l) (hv : l.ver = m.ver) (hi : l.ins = m.ins) (hn : l.non = m.non) (hres : l.res = 0) (hst : m.st ≠ 2) (ht0 : 0 ≤ t) (hs : 1 ≤ l.secs ∧ l.secs ≤ 4294967295) (hp : 1 ≤ l.prt) (hh : 1 ≤ l.hst) (hta : 0 ≤ m.tat ∧ m.tat ≤ t) (he : 0 ≤ m.epo ∧ m.epo ≤ 4294967295) :
    Calls Try.prog 8 #[pt mb, .int .i64 t, v] V fun e V' => e = .returned (.slice none 0 0) ∧ MpAt V' mb (heldM (toldM { m with now := t } t l.epo) t l) sv ∧ Kp mb V V' := by
  have h0 : l.ver ≠ 0 := by rw [hz.may.1]; decide
  have HR := Lib.hid (rests_any h)
  rw [hr] at HR
  have HG := Lib.hid (goesOn_yes h t hg)
  have HRD : Hid (∀ W, Kp mb V W → Calls Try.prog 18 #[v] W fun e V' => e = .returned (.tuple #[Pp.leV l, .bool false, .int .i64 0]) ∧ Below W.heap.size W V') := Lib.hid (fun W hW => read_p (hrow W hW) hz)
  have HOW := Lib.hid (fun W (hW : MpAt W mb { m with now := t } sv) => isOwn_p hW l hv hi h0)
  have hnb : (l.non == m.non) = true := by simp [hn]
  rw [show (l.non == ({ m with now := t } : Mpr).non) = (l.non == m.non) from rfl, hnb] at HOW
  have hrb : (l.res == (1 : Int)) = false := by simp [hres]
  have ht1 : 0 ≤ t ∧ t ≤ 1099511627776 := by
    unfold goesB at hg; simp only [Bool.and_eq_true, decide_eq_true_eq] at hg
    omega
  have HTK := Lib.hid (fun W (hW : MpAt W mb { m with now := t } sv) => take_p hW t ht1 l hst hres h0 hs hp hh hta he)
  obtain ⟨A, c, rfl⟩ := row_form (hrow V (Kp.refl mb V))
  have HML := Lib.hid h.lt
  clear h hg hr hrow hz hv hi hn hres h0 hnb hst ht0 hs hp hh hta he ht1
  unfold pt Pp.leV Pp.leA at *
  generalize zs.length = n at *
  go_enter Try.func8, Try.ntmps8
  go_wp2_with fail
  refine HR.out.mono ?_
  rintro e W0 ⟨rfl, rfl⟩
  go_wp2_with fail
  refine HG.out.mono ?_
  rintro e W1 ⟨rfl, h1, k1⟩
  have K1 := Lib.hid k1
  have H1 := Lib.hid h1
  have HRW := Lib.hid (HRD.out _ k1)
  clear h1 k1
  go_wp2_with fail
  refine HRW.out.mono ?_
  rintro e W2 ⟨rfl, hb2⟩
  have H3 := Lib.hid ((H1.out.below hb2).alloc (.cells (Pp.leA l) 36))
  have K3 := Lib.hid ((K1.out.trans (.below hb2)).alloc (.cells (Pp.leA l) 36))
  unfold Pp.leA at H3 K3
  have HO3 := Lib.hid (HOW.out _ H3.out)
  clear hb2
  go_wp2_with fail
  refine HO3.out.mono ?_
  rintro e W4 ⟨rfl, hb4⟩
  have HT4 := Lib.hid (HTK.out _ (H3.out.below hb4))
  have K4 := Lib.hid (K3.out.trans (.below hb4))
  have hla : Pp.LeAt W4 W2.heap.size l := (hb4.block _ (by simp)).trans (by show (W2.heap.push _)[W2.heap.size]? = _; simp; rfl)
  obtain ⟨q0, q1, q2, q3, q4, q5, q6, q7⟩ := hla.cells
  have ql := hla.lt
  clear hb4 hla
  go_wp2_with fail
  refine HT4.out.mono ?_
  rintro e W5 ⟨rfl, h5, k5⟩
  have H5 := Lib.hid h5
  have K5 := Lib.hid (K4.out.trans k5)
  clear h5 k5
  go_wp2
  go_ret
  exact ⟨rfl, H5.out, K5.out⟩
/-- a client that was made -/
def newM (host ins secs non : Int) : Mpr := ⟨host, secs, non, 0, 0, ins, 0, 0, 0, 0, 0, 0, 0, 0, 0, 0, 0⟩
set_option maxHeartbeats 8000000 in
theorem new_ok (V : World) (host ins secs non : Int) (h0 : host ≠ 0) (h1 : 1 ≤ ins ∧ ins ≤ 65535) (h2 : 1 ≤ secs ∧ secs ≤ 4294967295) :
    Calls Try.prog 5 #[.int .u32 host, .int .i64 ins, .int .i64 secs, .int .u64 non] V fun e V' => ∃ mb am, e = .returned (.tuple #[pt mb, .int .i64 0]) ∧ MpAt V' mb (newM host ins secs non) (.map (some am)) ∧ StAt V' mb am ∧ am ≠ mb ∧ V.heap.size ≤ mb ∧ V.heap.size ≤ am ∧ Below V.heap.size V V' := by
  have hma : MpAt (V.alloc (.cells (mpC (newM host ins secs non) (.map none)) 48)) V.heap.size (newM host ins secs non) (.map none) := by show (V.heap.push _)[V.heap.size]? = _; simp
  have hb0 : Below V.heap.size V (V.alloc (.cells (mpC (newM host ins secs non) (.map none)) 48)) := (Below.refl _ V).alloc (Nat.le_refl _) _
  obtain ⟨W1, W2, W3, r1, r2, r3, hst, hb⟩ := ins3 V.heap.size (V.heap.size + 1) (V.alloc (.cells (mpC (newM host ins secs non) (.map none)) 48)) (by simp)
  have h3 : MpAt W3 V.heap.size (newM host ins secs non) (.map none) := hma.below hb
  have h4 := h3.set (v := .map (some (V.heap.size + 1))) (m' := newM host ins secs non) (sv' := .map (some (V.heap.size + 1))) 17 rfl
  have HMM := @run_makeMap Try.prog
  have HF : Hid (∃ mb am, Ending.returned (.tuple #[pt V.heap.size, .int .i64 0]) = .returned (.tuple #[pt mb, .int .i64 0]) ∧ MpAt (W3.setCell ⟨V.heap.size, 17, none⟩ (.map (some (V.heap.size + 1)))) mb (newM host ins secs non) (.map (some am)) ∧ StAt (W3.setCell ⟨V.heap.size, 17, none⟩ (.map (some (V.heap.size + 1)))) mb am ∧ am ≠ mb ∧ V.heap.size ≤ mb ∧ V.heap.size ≤ am ∧ Below V.heap.size V (W3.setCell ⟨V.heap.size, 17, none⟩ (.map (some (V.heap.size + 1))))) := Lib.hid ⟨V.heap.size, V.heap.size + 1, rfl, h4, hst.kept (heap_setCell_other W3 ⟨V.heap.size, 17, none⟩ (V.heap.size + 1) _ (by show V.heap.size + 1 ≠ V.heap.size; omega)), by omega, Nat.le_refl _, by omega, (hb0.trans (hb.mono (by simp))).setCell (p := ⟨V.heap.size, 17, none⟩) (Nat.le_refl _) _⟩
  have c17 := h3.cells.c17
  have cf := h3.cells.fz
  have cl := h3.lt
  have h0b : (host == (0 : Int)) = false := by simpa using h0
  obtain ⟨i0, i1⟩ := h1
  obtain ⟨s0, s1⟩ := h2
  clear hma hb0 hst hb h3 h4 h0
  unfold fnV at r1 r2 r3
  unfold mpC newM at r1
  dsimp only at r1
  unfold pt at HF ⊢
  go_enter Try.func5, Try.ntmps5
  go_wp2
  refine ⟨rfl, .tuple #[.pointer (some ⟨V.heap.size, 0, none⟩), .int .i64 0], by simp [results, Try.results5, go_sem], ?_⟩
  exact HF.out
theorem new_bad (V : World) (host ins secs non : Int) (hb : host = 0 ∨ ins < 1 ∨ 65535 < ins ∨ secs < 1 ∨ 4294967295 < secs) :
    Calls Try.prog 5 #[.int .u32 host, .int .i64 ins, .int .i64 secs, .int .u64 non] V fun e V' => e = .returned (.tuple #[.pointer none, .int .i64 1]) ∧ V' = V := by
  by_cases h0 : host = 0
  · subst h0
    clear hb
    go_enter Try.func5, Try.ntmps5
    go_wp2
    exact ⟨rfl, .tuple #[.pointer none, .int .i64 1], by simp [results, Try.results5, go_sem], rfl, rfl⟩
  · have h0b : (host == (0 : Int)) = false := by simpa using h0
    by_cases h1 : ins < 1
    · clear hb h0
      go_enter Try.func5, Try.ntmps5
      go_wp2
      exact ⟨rfl, .tuple #[.pointer none, .int .i64 1], by simp [results, Try.results5, go_sem], rfl, rfl⟩
    · by_cases h2 : 65535 < ins
      · clear hb h0
        go_enter Try.func5, Try.ntmps5
        go_wp2
        exact ⟨rfl, .tuple #[.pointer none, .int .i64 1], by simp [results, Try.results5, go_sem], rfl, rfl⟩
      · by_cases h3 : secs < 1
        · clear hb h0
          go_enter Try.func5, Try.ntmps5
          go_wp2
          exact ⟨rfl, .tuple #[.pointer none, .int .i64 1], by simp [results, Try.results5, go_sem], rfl, rfl⟩
        · have h4 : 4294967295 < secs := by omega
          clear hb h0
          go_enter Try.func5, Try.ntmps5
          go_wp2
          exact ⟨rfl, .tuple #[.pointer none, .int .i64 1], by simp [results, Try.results5, go_sem], rfl, rfl⟩
end
end Go.Proofs.Ytfaekiopmfnpkaa.Mp
