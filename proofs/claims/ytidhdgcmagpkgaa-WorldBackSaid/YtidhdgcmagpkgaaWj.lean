/-
  More inputs of the laws read as plain data; what holds of a plan that may be; the laws' Small. Conditions: as each lemma states.
-/
import Derived.Test.YtidhdgcmagpkgaaWi
namespace Go.Proofs.Ytidhdgcmagpkgaa
open Go.RowKit Go.ChangeShapes
attribute [local go_sem] Oper.semAt_some
set_option linter.unusedVariables false
set_option linter.unusedSimpArgs false

def IsEnds (w : World) (v : Value) (s : Int × Int) : Prop := v = .agg #[.int .i64 s.1, .int .i64 s.2] ∧ W64 s.1 ∧ W64 s.2
def IsPorts (w : World) (v : Value) (s : Int × Int) : Prop := v = .agg #[.int .u16 s.1, .int .u16 s.2] ∧ (0 ≤ s.1 ∧ s.1 ≤ 65535) ∧ 0 ≤ s.2 ∧ s.2 ≤ 65535
/-- a step, as plain data -/
structure Gs where
  wait : Int
  host : Int
  port : Int
  to : A2
  back : Bool
instance : Inhabited Gs := ⟨⟨0, 0, 0, (0, 0), false⟩⟩
def gsCells (g : Gs) : Array Value := #[.int .i64 g.wait, .int .i64 g.host, .int .i64 g.port, .int .u32 g.to.1, .int .i64 g.to.2, .bool g.back]
def isG (g : Gs) : Prop := W64 g.wait ∧ W64 g.host ∧ W64 g.port ∧ isA g.to
def IsGo (w : World) (v : Value) (g : Gs) : Prop := v = .agg (gsCells g) ∧ isG g
def IsGos (w : World) (v : Value) (l : List Gs) : Prop := ∃ A cap, v = .slice A l.length cap ∧ l.length ≤ cap ∧ cap ≤ maxLen ∧ (0 < l.length → ∃ b off, A = some ⟨b, off, none⟩ ∧ b < w.heap.size ∧ ∀ (j : Nat) (g : Gs), l[j]? = some g → ∀ i, i < 6 → w.cell? ⟨b, off + j * 6 + i, none⟩ = (gsCells g)[i]?) ∧ ∀ g ∈ l, isG g
section
variable {H : Type} {enc : TypeId × Value → H} {W : World}
set_option maxRecDepth 100000 in
theorem open_ends {r : Reach} {b0 : Nat} {v : Value} {d : DataW H} {p : List MemPlace} (hv : Value.okWide Try.prog W r b0 45 v) (h : DataW.Trod enc Try.prog W 0 (fun _ => true) true  45 v d p) : ∃ s, IsEnds W v s := by
  obtain ⟨cs, rfl, hsz⟩ := okWide_arr Try.underlying45 hv
  have hsz2 : cs.toList.length = 2 := by rw [Array.length_toList]; exact hsz.trans (by kernel_rfl)
  obtain ⟨c0, c1, rfl⟩ : ∃ c0 c1, cs = #[c0, c1] := by
    match h : cs.toList, hsz2 with
    | [c0, c1], _ => exact ⟨c0, c1, by rw [← Array.toArray_toList (xs := cs), h]⟩
  obtain ⟨fuel, hf⟩ := h
  obtain ⟨xs, m, rfl, _, _, hx, hel⟩ := DataW.trod_array Try.underlying45 hf
  have e0 := hel 0 (by omega)
  have e1 := hel 1 (by omega)
  match xs, hx with
  | [x0, x1], _ =>
    rw [cell1.1] at e0 e1
    simp only [Value.cells, Nat.zero_mul, List.drop_zero, List.take_succ_cons, List.take_zero, Nat.one_mul, List.drop_succ_cons, List.getElem?_cons_zero, List.getElem?_cons_succ] at e0 e1
    obtain ⟨a, rfl, ha⟩ := trod_i e0
    obtain ⟨b, rfl, hb⟩ := trod_i e1
    exact ⟨(a, b), rfl, ha, hb⟩
set_option maxRecDepth 100000 in
theorem open_ports {r : Reach} {b0 : Nat} {v : Value} {d : DataW H} {p : List MemPlace} (hv : Value.okWide Try.prog W r b0 47 v) (h : DataW.Trod enc Try.prog W 0 (fun _ => true) true  47 v d p) : ∃ s, IsPorts W v s := by
  obtain ⟨cs, rfl, hsz⟩ := okWide_arr Try.underlying47 hv
  have hsz2 : cs.toList.length = 2 := by rw [Array.length_toList]; exact hsz.trans (by kernel_rfl)
  obtain ⟨c0, c1, rfl⟩ : ∃ c0 c1, cs = #[c0, c1] := by
    match h : cs.toList, hsz2 with
    | [c0, c1], _ => exact ⟨c0, c1, by rw [← Array.toArray_toList (xs := cs), h]⟩
  obtain ⟨fuel, hf⟩ := h
  obtain ⟨xs, m, rfl, _, _, hx, hel⟩ := DataW.trod_array Try.underlying47 hf
  have c16 : Try.prog.cellsOf 46 = 1 := by kernel_rfl
  have e0 := hel 0 (by omega)
  have e1 := hel 1 (by omega)
  match xs, hx with
  | [x0, x1], _ =>
    rw [c16] at e0 e1
    simp only [Value.cells, Nat.zero_mul, List.drop_zero, List.take_succ_cons, List.take_zero, Nat.one_mul, List.drop_succ_cons, List.getElem?_cons_zero, List.getElem?_cons_succ] at e0 e1
    obtain ⟨a, q0, _, ha⟩ := DataW.trod_int Try.underlying46 e0
    obtain ⟨b, q1, _, hb⟩ := DataW.trod_int Try.underlying46 e1
    simp only [List.cons.injEq, and_true] at q0 q1
    subst q0 q1
    exact ⟨(a, b), rfl, bounds_u16 ha, bounds_u16 hb⟩
theorem gs_of {n : Nat} {x0 x1 x2 x3 x4 x5 : Value} {y : DataW H × List MemPlace} (h : DataW.trod enc Try.prog W 0 (fun _ => true) true n 38 [x0, x1, x2, x3, x4, x5] = some y) : ∃ g, #[x0, x1, x2, x3, x4, x5] = gsCells g ∧ isG g := by
  obtain ⟨ys, k, _, _, _, hlen2, hel2⟩ := DataW.trod_struct Try.underlying38 h
  obtain ⟨e3, e22⟩ := cell1
  have eA : Try.prog.cellsOf 36 = 2 := by kernel_rfl
  have eB : Try.prog.cellsOf 4 = 1 := by kernel_rfl
  match ys, hlen2 with
  | [z0, z1, z2, z3, z4], _ =>
    have f0 : DataW.trod enc Try.prog W 0 (fun _ => true) true k 3 (([x0, x1, x2, x3, x4, x5].drop 0).take (Try.prog.cellsOf 3)) = some z0 := hel2 0 _ rfl
    have f1 : DataW.trod enc Try.prog W 0 (fun _ => true) true k 3 (([x0, x1, x2, x3, x4, x5].drop 1).take (Try.prog.cellsOf 3)) = some z1 := hel2 1 _ rfl
    have f2 : DataW.trod enc Try.prog W 0 (fun _ => true) true k 3 (([x0, x1, x2, x3, x4, x5].drop 2).take (Try.prog.cellsOf 3)) = some z2 := hel2 2 _ rfl
    have f3 : DataW.trod enc Try.prog W 0 (fun _ => true) true k 36 (([x0, x1, x2, x3, x4, x5].drop 3).take (Try.prog.cellsOf 36)) = some z3 := hel2 3 _ rfl
    have f4 : DataW.trod enc Try.prog W 0 (fun _ => true) true k 4 (([x0, x1, x2, x3, x4, x5].drop 5).take (Try.prog.cellsOf 4)) = some z4 := hel2 4 _ rfl
    rw [e3] at f0 f1 f2; rw [eA] at f3; rw [eB] at f4
    obtain ⟨b0, rfl, p0⟩ := trod_i f0
    obtain ⟨b1, rfl, p1⟩ := trod_i f1
    obtain ⟨b2, rfl, p2⟩ := trod_i f2
    simp only [List.drop_succ_cons, List.drop_zero, List.take_succ_cons, List.take_zero] at f3 f4
    obtain ⟨y0, y1, n', h0, h1⟩ := trod_struct2 Try.underlying36 f3
    have c3 : Try.prog.cellsOf 3 = 1 := cell1.1
    have c22 : Try.prog.cellsOf 34 = 1 := cell1.2
    simp only [c3, c22, List.drop_zero, List.drop_succ_cons, List.take_succ_cons, List.take_zero] at h0 h1
    obtain ⟨a, rfl, rfl, ha⟩ := adr_of h0 h1
    obtain ⟨b, hb, _⟩ := DataW.trod_bool Try.underlying4 f4
    simp only [List.cons.injEq, and_true] at hb
    subst hb
    exact ⟨⟨b0, b1, b2, a, b⟩, rfl, p0, p1, p2, ha⟩
set_option maxRecDepth 100000 in
theorem open_go {r : Reach} {b0 : Nat} {v : Value} {d : DataW H} {p : List MemPlace} (hv : Value.okWide Try.prog W r b0 38 v) (h : DataW.Trod enc Try.prog W 0 (fun _ => true) true  38 v d p) : ∃ s, IsGo W v s := by
  obtain ⟨cs, rfl, hsz⟩ := Go.WideShapes.okWide_struct Try.underlying38 hv
  have hsz2 : cs.toList.length = 6 := by rw [Array.length_toList]; exact hsz.trans (by kernel_rfl)
  obtain ⟨c0, c1, c2, c3, c4, c5, rfl⟩ : ∃ c0 c1 c2 c3 c4 c5, cs = #[c0, c1, c2, c3, c4, c5] := by
    match h : cs.toList, hsz2 with
    | [c0, c1, c2, c3, c4, c5], _ => exact ⟨c0, c1, c2, c3, c4, c5, by rw [← Array.toArray_toList (xs := cs), h]⟩
  obtain ⟨fuel, hf⟩ := h
  obtain ⟨g, e, hg⟩ := gs_of (by simpa [Value.cells] using hf)
  exact ⟨g, by rw [e], hg⟩
set_option maxRecDepth 100000 in
theorem open_gos {r : Reach} {b0 : Nat} {v : Value} {d : DataW H} {p : List MemPlace} (hv : Value.okWide Try.prog W r b0 27 v) (h : DataW.Trod enc Try.prog W 0 (fun _ => true) true  27 v d p) : ∃ ds, IsGos W v ds := by
  obtain ⟨A, l, c, rfl⟩ := WideShapes.okWide_slice Try.underlying27 hv
  obtain ⟨fuel, hf⟩ := h
  rcases Deep.open_slice Try.underlying27 hf with ⟨hcs, _⟩ | ⟨a, len, cap, m, n, D, Pl, hcs, _, hl, hm, hmm, _, hi⟩
  · simp [Value.cells] at hcs
    obtain ⟨rfl, rfl, rfl⟩ := hcs
    exact ⟨[], none, 0, rfl, Nat.le_refl _, Nat.zero_le _, fun h => by simp at h, by simp⟩
  · simp [Value.cells] at hcs
    obtain ⟨rfl, rfl, rfl⟩ := hcs
    have hmc : m = c := by simpa using hmm
    subst hmc
    have hall : ∀ j, ∃ s : Gs, isG s ∧ (j < l → ∀ i, i < 6 → W.cell? ((a.add (j * 6)).add i) = (gsCells s)[i]?) := fun j => by
      by_cases hj : j < l
      · obtain ⟨cs, hc, ht⟩ := hi j (by omega)
        obtain ⟨_, hlen, hat⟩ := World.cells?_some hc
        have h2 : Try.prog.cellsOf 38 = 6 := by kernel_rfl
        rw [h2] at hlen hat
        match cs, hlen with
        | [x0, x1, x2, x3, x4, x5], _ =>
          obtain ⟨g, e, hg⟩ := gs_of ht
          exact ⟨g, hg, fun _ i hi => by rw [hat i hi, ← e]; simp⟩
      · exact ⟨default, ⟨by unfold W64; decide, by unfold W64; decide, by unfold W64; decide, isA_0⟩, fun h => absurd h hj⟩
    obtain ⟨f, hf⟩ := Classical.axiomOfChoice hall
    refine ⟨(List.range l).map f, some a, m, by simp, by simpa using hl, hm, fun hpos => ?_, fun z hz => ?_⟩
    · have hl0 : 0 < l := by simpa using hpos
      obtain ⟨b, off, spot⟩ := a
      have h9 : W.cell? (((⟨b, off, spot⟩ : Addr).add (0 * 6)).add 0) = some (.int .i64 (f 0).wait) := (hf 0).2 hl0 0 (by omega)
      have h8 := World.cell?_spot h9
      have hspot : spot = none := by simpa [Addr.add] using h8
      subst hspot
      refine ⟨b, off, rfl, ?_, fun j z hj i hi => ?_⟩
      · rw [add_spot, add_spot] at h9
        exact lt_of_cell h9
      · have hjl : j < l := by have := (List.getElem?_eq_some_iff.1 hj).1; simpa using this
        have hz : z = f j := by
          rw [List.getElem?_map, List.getElem?_range hjl] at hj
          simpa using hj.symm
        have h1 := (hf j).2 hjl i hi
        rw [add_spot, add_spot] at h1
        rw [hz, h1]
    · obtain ⟨j, _, rfl⟩ := List.mem_map.1 hz
      exact (hf j).1
end
theorem BAt.below {w w' : World} {A : Option Addr} {l : List Bx} (h : BAt w A l) (hb : Below w.heap.size w w') : BAt w' A l := fun hl => by
  obtain ⟨b, off, e, h1, h2⟩ := h hl
  exact ⟨b, off, e, Nat.lt_of_lt_of_le h1 hb.size, fun j x hj i hi => (hb.cell (p := ⟨b, _, none⟩) h1).trans (h2 j x hj i hi)⟩
theorem IAt.below {w w' : World} {A : Option Addr} {l : List Int} (h : IAt w A l) (hb : Below w.heap.size w w') : IAt w' A l := fun hl => by
  obtain ⟨b, off, e, h1, h2⟩ := h hl
  exact ⟨b, off, e, Nat.lt_of_lt_of_le h1 hb.size, fun j x hj => (hb.cell (p := ⟨b, _, none⟩) h1).trans (h2 j x hj)⟩
theorem PlanV.below {w w' : World} {p : Pn} {A0 A1 A2 : Option Addr} {c0 c1 c2 : Nat} (h : PlanV w p A0 A1 A2 c0 c1 c2) (hb : Below w.heap.size w w') : PlanV w' p A0 A1 A2 c0 c1 c2 :=
  ⟨h.b.below hb, h.i.below hb, h.s.below hb, h.nil, h.lb, h.li, h.ls, h.ib, h.is⟩
theorem PlanV.new {w : World} {p : Pn} {A0 A1 A2 : Option Addr} {c0 c1 c2 : Nat} (h : PlanV w p A0 A1 A2 c0 c1 c2) : Calls Try.prog 8 #[.slice A0 p.bx.length c0, .slice A1 p.bh.length c1, .slice A2 p.hs.length c2] w (MadeW w p.bx p.bh p.hs) :=
  new_wd A0 A1 A2 c0 c1 c2 p.bx p.bh p.hs w h.b h.i h.s h.nil h.ib
def smallP (p : Pn) : Bool := decide (p.bx.length ≤ 40) && (decide (p.bh.length ≤ 40) && decide (p.hs.length ≤ 40))
set_option maxHeartbeats 1000000 in
theorem small_wd {w : World} {p : Pn} {A0 A1 A2 : Option Addr} {c0 c1 c2 : Nat} (h : PlanV w p A0 A1 A2 c0 c1 c2) (V : World) :
    Calls Try.prog 7 #[.agg #[.slice A0 p.bx.length c0, .slice A1 p.bh.length c1, .slice A2 p.hs.length c2]] V fun e V' => e = .returned (.bool (smallP p)) ∧ Below V.heap.size V V' := by
  have HB : Hid (∀ o, Below V.heap.size V (V.alloc o)) := Lib.hid (fun o => (Below.refl _ V).alloc (Nat.le_refl _) _)
  have h1 := h.lb; have h2 := h.li; have h3 := h.ls
  unfold maxLen at h1 h2 h3
  unfold smallP
  obtain ⟨n, hn⟩ : ∃ n, p.bx.length = n := ⟨_, rfl⟩
  obtain ⟨m, hm⟩ : ∃ n, p.bh.length = n := ⟨_, rfl⟩
  obtain ⟨r, hr⟩ : ∃ n, p.hs.length = n := ⟨_, rfl⟩
  rw [hn, hm, hr]
  rw [hn] at h1; rw [hm] at h2; rw [hr] at h3
  clear h hn hm hr
  go_enter Try.func7, Try.ntmps7
  by_cases g1 : n ≤ 40
  · have g1z : (n : Int) ≤ 40 := by omega
    by_cases g2 : m ≤ 40
    · have g2z : (m : Int) ≤ 40 := by omega
      by_cases g3 : r ≤ 40
      · have g3z : (r : Int) ≤ 40 := by omega
        go_wp2
        go_ret
        exact ⟨by simp [g1, g2, g3], HB.out _⟩
      · have g3z : ¬ (r : Int) ≤ 40 := by omega
        go_wp2
        go_ret
        exact ⟨by simp [g3], HB.out _⟩
    · have g2z : ¬ (m : Int) ≤ 40 := by omega
      go_wp2
      go_ret
      exact ⟨by simp [g2], HB.out _⟩
  · have g1z : ¬ (n : Int) ≤ 40 := by omega
    go_wp2
    go_ret
    exact ⟨by simp [g1], HB.out _⟩
/-- what holds of a plan that may be -/
structure OkPlan (S H : List St) (bs : List Bp) : Prop where
  s16 : S.length ≤ 16
  h16 : H.length ≤ 16
  len : bs.length = S.length
  ok : ∀ b ∈ bs, OkP b
  okS : OkS S
  okH : OkH S H
  h1 : ∀ (i j : Nat) s, H[i]? = some s → H[j]? = some s → i = j
  s1 : ∀ (i j : Nat) s, S[i]? = some s → S[j]? = some s → i = j
  sh : ∀ s ∈ S, s ∉ H
  hst : ∀ (i : Nat) b s, bs[i]? = some b → S[i]? = some s → s.1 = b.x.host
theorem okNew_parts {p : Pn} (h : okNew p.bx p.bh p.hs = true) (hb : ∀ x ∈ p.bx, isBx x) (hs : ∀ s ∈ p.hs, isS s) : OkPlan (sitesOf p.bx p.bh) p.hs (p.bx.map freshP) := by
  unfold okNew at h
  simp only [Bool.and_eq_true, decide_eq_true_eq] at h
  obtain ⟨h1, h2, h3, h4, h5⟩ := h
  have hl := sitesOf_len h2
  unfold standB at h5
  rw [Bool.and_eq_true, Bool.and_eq_true, List.all_eq_true, List.all_eq_true, List.all_eq_true] at h5
  obtain ⟨g1, g2, g3⟩ := h5
  rw [List.all_eq_true] at h4
  have hidx : ∀ (i : Nat) s, (sitesOf p.bx p.bh ++ p.hs)[i]? = some s → idxS (sitesOf p.bx p.bh ++ p.hs) s = (i : Int) := fun i s hi => by
    have := g3 i (List.mem_range.2 (List.getElem?_eq_some_iff.1 hi).1)
    rw [getS_at hi] at this
    simpa using this
  have huni : ∀ (i j : Nat) s, (sitesOf p.bx p.bh ++ p.hs)[i]? = some s → (sitesOf p.bx p.bh ++ p.hs)[j]? = some s → i = j := fun i j s hi hj => by
    have e1 := hidx i s hi
    have e2 := hidx j s hj
    omega
  have hH : ∀ (i : Nat) s, p.hs[i]? = some s → (sitesOf p.bx p.bh ++ p.hs)[(sitesOf p.bx p.bh).length + i]? = some s := fun i s hi => by
    rw [List.getElem?_append_right (by omega), show (sitesOf p.bx p.bh).length + i - (sitesOf p.bx p.bh).length = i by omega]; exact hi
  have hSS : ∀ (i : Nat) s, (sitesOf p.bx p.bh)[i]? = some s → (sitesOf p.bx p.bh ++ p.hs)[i]? = some s := fun i s hi => by
    rw [List.getElem?_append_left (List.getElem?_eq_some_iff.1 hi).1]; exact hi
  refine ⟨by omega, h3, by rw [List.length_map, hl], fun b hbm => ?_, fun i s hi => ?_, fun s hsm => ?_, fun i j s hi hj => ?_, fun i j s hi hj => huni i j s (hSS i s hi) (hSS j s hj), fun s hs1 hs2 => ?_, fun i b s hi hj => ?_⟩
  · obtain ⟨x, hx, rfl⟩ := List.mem_map.1 hbm
    exact okP_fresh (hb x hx) (h4 x hx)
  · have := g1 i (List.mem_range.2 (List.getElem?_eq_some_iff.1 hi).1)
    rw [getS_at hi] at this
    unfold okSite openB at this
    simp only [Bool.or_eq_true, Bool.and_eq_true, decide_eq_true_eq] at this
    rcases this with e | ⟨e1, e2, e3⟩
    · exact .inl e
    · obtain ⟨j, hj, hjl⟩ := inB_t e2
      exact .inr ⟨j, hj, by omega, by rw [← hj]; exact e3⟩
  · have := g2 s hsm
    unfold okHost at this
    simp only [Bool.or_eq_true, Bool.and_eq_true, decide_eq_true_eq, Bool.not_eq_true', decide_eq_false_iff_not] at this
    refine ⟨hs s hsm, this.1, this.2.imp id (fun e => ?_)⟩
    exact inB_t e
  · have := huni _ _ s (hH i s hi) (hH j s hj)
    omega
  · obtain ⟨i, hi⟩ := List.getElem?_of_mem hs1
    obtain ⟨j, hj⟩ := List.getElem?_of_mem hs2
    have e := huni _ _ s (hSS i s hi) (hH j s hj)
    have := (List.getElem?_eq_some_iff.1 hi).1
    omega
  · unfold sitesOf at hj
    rw [List.getElem?_zipWith] at hj
    rw [List.getElem?_map] at hi
    cases hx : p.bx[i]? with
    | none => rw [hx] at hi; cases hi
    | some x =>
      rw [hx] at hi hj
      cases hz : p.bh[i]? with
      | none => rw [hz] at hj; cases hj
      | some z =>
        rw [hz] at hj
        cases hi
        cases hj
        rfl
end Go.Proofs.Ytidhdgcmagpkgaa
