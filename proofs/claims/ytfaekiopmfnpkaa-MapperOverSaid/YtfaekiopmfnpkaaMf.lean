/-
  A client that is made, and that hears PCP's answers: contracts of New, read, isOwn, isAnew, hold, take and Hear. Conditions: the client stands; it asks by PCP; the answer is one.
-/
import Derived.Test.YtfaekiopmfnpkaaMe
namespace Go.Proofs.Ytfaekiopmfnpkaa.Mp
open Go.RowKit Go.Maps Go.ChangeMaps Go.MapKept
attribute [local go_sem] Oper.semAt_some
set_option linter.unusedVariables false
set_option linter.unusedSimpArgs false

theorem version_row {V : Value} {zs : List Int} {w : World} (hr : Pp.Row w V zs) : Calls Try.prog 32 #[V] w fun e w' => e = .returned (.int .i64 (if zs.length = 0 then -1 else zs.getD 0 0)) ∧ w' = w := by
  obtain ⟨A, c, rfl, h1, h2, h3, h4⟩ := hr
  exact Pp.pversion_any A _ c zs w h1
theorem pread_ans {V : Value} {zs : List Int} {w : World} (hr : Pp.Row w V zs) : Calls Try.prog 34 #[V] w fun e w' => e = .returned (Pp.pbR zs) ∧ Below w.heap.size w w' := by
  obtain ⟨A, c, rfl, h1, h2, h3, h4⟩ := hr
  exact Pp.preadAns_any A _ c zs w h1 h2 h3 h4
set_option maxHeartbeats 4000000 in
theorem read_p {V : World} {v : Value} {zs : List Int} {l : Pp.Le} (hr : Pp.Row V v zs) (hz : Pp.PAnsOf zs l) : Calls Try.prog 18 #[v] V fun e V' => e = .returned (.tuple #[Pp.leV l, .bool false, .int .i64 0]) ∧ Below V.heap.size V V' := by
  have hb0 : Below V.heap.size V (V.alloc (.cells #[.int .i64 0, .int .i64 0, .int .i64 0, .int .i64 0, .int .u64 0, .int .i64 0, .int .i64 0, .int .u32 0] 36)) := (Below.refl _ V).alloc (Nat.le_refl _) _
  have HV := Lib.hid (version_row (hr.below hb0))
  have e2 : (if zs.length = 0 then -1 else zs.getD 0 0) = (2 : Int) := by
    rw [if_neg (by rw [hz.len]; decide)]
    exact hz.snd.2
  rw [e2] at HV
  have HR := Lib.hid (pread_ans (hr.below hb0))
  rw [Pp.pbR_yes hz] at HR
  have HB := Lib.hid hb0
  obtain ⟨A, c, rfl⟩ := row_form hr
  clear hr hb0 e2
  unfold Pp.pbT Pp.leV Pp.leA at HR
  unfold Pp.leV Pp.leA
  generalize zs.length = n at HR HV ⊢
  go_enter Try.func18, Try.ntmps18
  go_wp2_with fail
  refine HV.out.mono ?_
  rintro e W1 ⟨rfl, rfl⟩
  go_wp2_with fail
  refine HR.out.mono ?_
  rintro e W2 ⟨rfl, hb2⟩
  have hla : Pp.LeAt W2 V.heap.size Pp.zeroL := (hb2.block _ (by simp)).trans (by show (V.heap.push _)[V.heap.size]? = _; simp; rfl)
  have hll := hla.lt
  have hlf : ∀ j, W2.frozen? ⟨V.heap.size, j, none⟩ = false := fun j => (cells_of hla j).2
  obtain ⟨q0, q1, q2, q3, q4, q5, q6, q7⟩ := hla.cells
  have HLOW := Lib.hid (HB.out.trans (hb2.mono HB.out.size))
  have hsz : V.heap.size ≤ W2.heap.size := HLOW.out.size
  have h8 := Pp.put8_res (l := l) hla
  have HLW := Lib.hid ((Pp.put8_below (g := V.heap.size) (l := l) HLOW.out (Nat.le_refl _)).alloc (by have := (Pp.put8_below (b := V.heap.size) (g := V.heap.size) (l := l) HLOW.out (Nat.le_refl _)).size; exact this) (.cells (Pp.leA l) 36))
  have HRES := Lib.hid (show Pp.LeAt ((Pp.put8 W2 V.heap.size l).alloc (.cells (Pp.leA l) 36)) V.heap.size l from h8.below ((Below.refl _ _).alloc (Nat.le_refl _) _) h8.lt)
  clear hla hb2 h8
  go_wp2
  have hc := HRES.out.cells
  obtain ⟨z0, z1, z2, z3, z4, z5, z6, z7⟩ := hc
  unfold Pp.put8 at z0 z1 z2 z3 z4 z5 z6 z7
  unfold Pp.leA at z0 z1 z2 z3 z4 z5 z6 z7
  exact ⟨rfl, .tuple #[.agg #[.int .i64 l.ver, .int .i64 l.ins, .int .i64 l.prt, .int .i64 l.secs, .int .u64 l.non, .int .i64 l.res, .int .i64 l.epo, .int .u32 l.hst], .bool false, .int .i64 0], by simp [results, Try.results18, go_sem, z0, z1, z2, z3, z4, z5, z6, z7], rfl, HLW.out⟩
section
variable {V V' : World} {mb : Nat} {m : Mpr} {sv : Value}
theorem isOwn_p (h : MpAt V mb m sv) (l : Pp.Le) (hv : l.ver = m.ver) (hi : l.ins = m.ins) (h0 : l.ver ≠ 0) : Calls Try.prog 20 #[pt mb, Pp.leV l, .bool false] V fun e V' => e = .returned (.bool (l.non == m.non)) ∧ Below V.heap.size V V' := by
  have h1 := h.alloc (.cells (Pp.leA l) 36)
  have hla : Pp.LeAt (V.alloc (.cells (Pp.leA l) 36)) V.heap.size l := by show (V.heap.push _)[V.heap.size]? = _; simp
  obtain ⟨q0, q1, q2, q3, q4, q5, q6, q7⟩ := hla.cells
  have ql := hla.lt
  have HB : Hid (Below V.heap.size V (V.alloc (.cells (Pp.leA l) 36))) := Lib.hid ((Below.refl _ V).alloc (Nat.le_refl _) _)
  obtain ⟨c0, c1, c2, c3, c4, c5, c6, c7, c8, c9, c10, c11, c12, c13, c14, c15, c16, c17, cf, cl⟩ := h1.cells
  rw [← hv] at c4
  rw [← hi] at c5
  have h0b : (l.ver == (0 : Int)) = false := by simpa using h0
  clear h h1 hla hv hi h0
  unfold pt Pp.leV
  unfold Pp.leA at q0 q1 q2 q3 q4 q5 q6 q7 ql HB c0 c1 c2 c3 c4 c5 c6 c7 c8 c9 c10 c11 c12 c13 c14 c15 c16 c17 cf cl ⊢
  go_enter Try.func20, Try.ntmps20
  go_upto_region 1 with (fail)
  go_quiet (fail)
  go_wp2
  go_quiet (fail)
  go_wp2
  go_ret
  exact ⟨rfl, below_drw (below_drw HB.out _) _⟩
/-- it has been told an epoch -/
def toldM (m : Mpr) (t e : Int) : Mpr := { m with epo := e, tat := t }
def anewB (m : Mpr) (t e : Int) : Bool := decide (e < m.epo + 7 * (t - m.tat) / 8 - 2)
set_option maxHeartbeats 4000000 in
theorem isAnew_any (h : MpAt V mb m sv) (t e : Int) (h1 : 0 ≤ m.tat ∧ m.tat ≤ t) (h2 : t ≤ 1099511627776) (h3 : 0 ≤ m.epo ∧ m.epo ≤ 4294967295) :
    Calls Try.prog 35 #[pt mb, .int .i64 t, .int .i64 e] V fun en V' => en = .returned (.bool (anewB m t e)) ∧ MpAt V' mb (toldM m t e) sv ∧ Kp mb V V' := by
  have HM := Lib.hid (fun q => (h.drewN q).set (v := .int .i64 e) (m' := { m with epo := e }) (sv' := sv) 14 rfl |>.set (v := .int .i64 t) (m' := toldM m t e) (sv' := sv) 15 rfl)
  have HK := Lib.hid (fun q => (((Kp.refl mb V).drewN q).set 14 (.int .i64 e)).set 15 (.int .i64 t))
  have HR : Hid (anewB m t e = decide (e < m.epo + 7 * (t - m.tat) / 8 - 2)) := Lib.hid rfl
  obtain ⟨c0, c1, c2, c3, c4, c5, c6, c7, c8, c9, c10, c11, c12, c13, c14, c15, c16, c17, cf, cl⟩ := h.cells
  obtain ⟨D, hD⟩ : ∃ D, D = t - m.tat := ⟨_, rfl⟩
  obtain ⟨Q, hQ⟩ : ∃ Q, Q = 7 * D / 8 := ⟨_, rfl⟩
  rw [← hD, ← hQ] at HR
  have hD0 : 0 ≤ D ∧ D ≤ 1099511627776 := by omega
  have hQ0 : 0 ≤ Q ∧ Q ≤ 1099511627776 := by omega
  have w1 : IntKind.i64.wrap (t - m.tat) = D := by rw [← hD]; exact IntWalk.i64_in _ (by omega)
  have w2 : IntKind.i64.wrap (7 * D) = 7 * D := IntWalk.i64_in _ (by omega)
  have w3 : IntKind.i64.wrap ((7 * D).tdiv 8) = Q := by rw [Int.tdiv_eq_ediv_of_nonneg (by omega), ← hQ]; exact IntWalk.i64_in _ (by omega)
  have w3' : (7 * D).tdiv 8 = Q := by rw [Int.tdiv_eq_ediv_of_nonneg (by omega), ← hQ]
  have w4 : IntKind.i64.wrap (m.epo + Q) = m.epo + Q := IntWalk.i64_in _ (by omega)
  have w5 : IntKind.i64.wrap (m.epo + Q - 2) = m.epo + Q - 2 := IntWalk.i64_in _ (by omega)
  clear h hD hQ
  unfold pt
  generalize anewB m t e = r at *
  go_enter Try.func35, Try.ntmps35
  go_upto_region 1 with (fail)
  go_quiet (fail)
  go_wp2
  go_ret
  exact ⟨ret_b HR.out.symm, HM.out _, HK.out _⟩
/-- it has what was granted -/
def heldM (m : Mpr) (t : Int) (l : Pp.Le) : Mpr := { m with hh := l.hst, hp := l.prt, st := 2, ver := l.ver, ins := l.ins, oh := l.hst, op := l.prt, til := min (t + l.secs) 1099511627776, tries := 0, next := t + max (l.secs / 2) 1 }
set_option maxHeartbeats 8000000 in
theorem hold_p (h : MpAt V mb m sv) (t : Int) (ht : 0 ≤ t ∧ t ≤ 1099511627776) (l : Pp.Le) (h0 : l.ver ≠ 0) (hs : 1 ≤ l.secs ∧ l.secs ≤ 4294967295) (hp : 1 ≤ l.prt) (hh : 1 ≤ l.hst) :
    Calls Try.prog 36 #[pt mb, .int .i64 t, Pp.leV l] V fun e V' => e = .returned (.tuple #[]) ∧ MpAt V' mb (heldM m t l) sv ∧ Kp mb V V' := by
  have hA := h.alloc (.cells (Pp.leA l) 36)
  have hla : Pp.LeAt (V.alloc (.cells (Pp.leA l) 36)) V.heap.size l := by show (V.heap.push _)[V.heap.size]? = _; simp
  obtain ⟨q0, q1, q2, q3, q4, q5, q6, q7⟩ := hla.cells
  have ql := hla.lt
  have qf : ∀ j, (V.alloc (.cells (Pp.leA l) 36)).frozen? ⟨V.heap.size, j, none⟩ = false := fun j => (cells_of hla j).2
  obtain ⟨c0, c1, c2, c3, c4, c5, c6, c7, c8, c9, c10, c11, c12, c13, c14, c15, c16, c17, cf, cl⟩ := h.cells
  have hml := h.lt
  have h0b : (l.ver == (0 : Int)) = false := by simpa using h0
  have hsb : (l.secs == (0 : Int)) = false := by simp; omega
  have hpb : (l.prt == (0 : Int)) = false := by simp; omega
  have hhb : (l.hst == (0 : Int)) = false := by simp; omega
  obtain ⟨s0, s1⟩ := hs
  obtain ⟨t0, t1⟩ := ht
  have HF : Hid (∀ A B : Int, A = min (t + l.secs) 1099511627776 → B = t + max (l.secs / 2) 1 →
      MpAt (((((((((((((V.setCell ⟨mb, 11, none⟩ (.int .u32 l.hst)).setCell ⟨mb, 12, none⟩ (.int .i64 l.prt)).setCell ⟨mb, 3, none⟩ (.int .i64 2)).setCell ⟨mb, 4, none⟩ (.int .i64 l.ver)).setCell ⟨mb, 5, none⟩ (.int .i64 l.ins)).setCell ⟨mb, 6, none⟩ (.int .u32 l.hst)).setCell ⟨mb, 7, none⟩ (.int .i64 l.prt)).setCell ⟨mb, 8, none⟩ (.int .i64 A)).setCell ⟨mb, 9, none⟩ (.int .i64 0)).setCell ⟨mb, 10, none⟩ (.int .i64 B)).alloc (.cells (Pp.leA l) 36)).alloc (.cells #[.int .u32 l.hst, .int .i64 l.prt] 41))) mb (heldM m t l) sv ∧
      Kp mb V (((((((((((((V.setCell ⟨mb, 11, none⟩ (.int .u32 l.hst)).setCell ⟨mb, 12, none⟩ (.int .i64 l.prt)).setCell ⟨mb, 3, none⟩ (.int .i64 2)).setCell ⟨mb, 4, none⟩ (.int .i64 l.ver)).setCell ⟨mb, 5, none⟩ (.int .i64 l.ins)).setCell ⟨mb, 6, none⟩ (.int .u32 l.hst)).setCell ⟨mb, 7, none⟩ (.int .i64 l.prt)).setCell ⟨mb, 8, none⟩ (.int .i64 A)).setCell ⟨mb, 9, none⟩ (.int .i64 0)).setCell ⟨mb, 10, none⟩ (.int .i64 B)).alloc (.cells (Pp.leA l) 36)).alloc (.cells #[.int .u32 l.hst, .int .i64 l.prt] 41)))) := Lib.hid (fun A B hA hB => by
    subst hA hB
    refine ⟨MpAt.alloc (MpAt.alloc ?_ _) _, Kp.alloc (Kp.alloc ?_ _) _⟩
    · exact (((((((((h.set (v := .int .u32 l.hst) (m' := { m with hh := l.hst }) (sv' := sv) 11 rfl).set (v := .int .i64 l.prt) (m' := { m with hh := l.hst, hp := l.prt }) (sv' := sv) 12 rfl).set (v := .int .i64 2) (m' := { m with hh := l.hst, hp := l.prt, st := 2 }) (sv' := sv) 3 rfl).set (v := .int .i64 l.ver) (m' := { m with hh := l.hst, hp := l.prt, st := 2, ver := l.ver }) (sv' := sv) 4 rfl).set (v := .int .i64 l.ins) (m' := { m with hh := l.hst, hp := l.prt, st := 2, ver := l.ver, ins := l.ins }) (sv' := sv) 5 rfl).set (v := .int .u32 l.hst) (m' := { m with hh := l.hst, hp := l.prt, st := 2, ver := l.ver, ins := l.ins, oh := l.hst }) (sv' := sv) 6 rfl).set (v := .int .i64 l.prt) (m' := { m with hh := l.hst, hp := l.prt, st := 2, ver := l.ver, ins := l.ins, oh := l.hst, op := l.prt }) (sv' := sv) 7 rfl).set (v := .int .i64 (min (t + l.secs) 1099511627776)) (m' := { m with hh := l.hst, hp := l.prt, st := 2, ver := l.ver, ins := l.ins, oh := l.hst, op := l.prt, til := min (t + l.secs) 1099511627776 }) (sv' := sv) 8 rfl).set (v := .int .i64 0) (m' := { m with hh := l.hst, hp := l.prt, st := 2, ver := l.ver, ins := l.ins, oh := l.hst, op := l.prt, til := min (t + l.secs) 1099511627776, tries := 0 }) (sv' := sv) 9 rfl).set (v := .int .i64 (t + max (l.secs / 2) 1)) (m' := heldM m t l) (sv' := sv) 10 rfl
    · exact (((((((((Kp.refl mb V).set 11 _).set 12 _).set 3 _).set 4 _).set 5 _).set 6 _).set 7 _).set 8 _).set 9 _ |>.set 10 _)
  clear h hA hla h0
  unfold pt Pp.leV
  unfold Pp.leA at *
  go_enter Try.func36, Try.ntmps36
  go_wp2
  all_goals go_end0
  all_goals exact ⟨rfl, (HF.out _ _ (by omega) (by omega)).1, (HF.out _ _ (by omega) (by omega)).2⟩
end
end Go.Proofs.Ytfaekiopmfnpkaa.Mp
