/-
  The walks of slices.order2CmpFunc, medianCmpFunc, medianAdjacentCmpFunc and choosePivotCmpFunc at names: which place is chosen is left open; it is one of the places; the row stays. Conditions: as 'Env' tells; more than twelve places.
-/
import Derived.Test.YtahccfljgmleiaaSrt1
namespace Go.Proofs.Ytahccfljgmleiaa
open Go.RowKit Go.Sort
set_option linter.unusedVariables false

/-- a world of the sort in which block c holds a count -/
structure Cnt (w0 : World) (b c : Nat) (dk : Array Ky) (W : World) : Prop where
  sort : SW nam w0 b 0 dk W
  new : w0.heap.size ≤ c
  lt : c < W.heap.size
  cell : ∃ s : Int, W.cell? ⟨c, 0, none⟩ = some (.int .i64 s)
  free : W.frozen? ⟨c, 0, none⟩ = false
theorem Cnt.grown {w0 W : World} {b c : Nat} {dk : Array Ky} (h : Cnt w0 b c dk W) (m : Nat) (os : Array Obj) : Cnt w0 b c dk (grow (W.drewN m) os) := by
  obtain ⟨s, hc⟩ := h.cell
  exact ⟨h.sort.grown m os, h.new, by rw [size_grow]; exact Nat.lt_of_lt_of_le h.lt (Nat.le_add_right _ _), ⟨s, cell_grown h.lt hc m os⟩, by rw [frozen?_grow _ _ _ (by exact h.lt)]; exact h.free⟩
theorem Cnt.set {w0 W : World} {b c : Nat} {dk : Array Ky} (h : Cnt w0 b c dk W) (t : Int) : Cnt w0 b c dk (W.setCell ⟨c, 0, none⟩ (.int .i64 t)) := by
  obtain ⟨s, hc⟩ := h.cell
  exact ⟨h.sort.setCell_new c 0 _ h.new, h.new, by simpa using h.lt, ⟨t, World.cell?_setCell_same' _ _ _ (by rw [hc]; rfl)⟩, by rw [World.frozen?_setCell]; exact h.free⟩

/-- two places between lo and hi are handed back -/
def Twos (w0 : World) (b c : Nat) (dk : Array Ky) (lo hi : Nat) : Ending → World → Prop := fun e w' =>
  ∃ x y : Int, e = .returned (.tuple #[.int .i64 x, .int .i64 y]) ∧ (lo : Int) ≤ x ∧ x < (hi : Int) ∧ (lo : Int) ≤ y ∧ y < (hi : Int) ∧ Cnt w0 b c dk w'
/-- one place between lo and hi is handed back -/
def Ones (w0 : World) (b c : Nat) (dk : Array Ky) (lo hi : Nat) : Ending → World → Prop := fun e w' =>
  ∃ x : Int, e = .returned (.int .i64 x) ∧ (lo : Int) ≤ x ∧ x < (hi : Int) ∧ Cnt w0 b c dk w'

variable {p : Value} {cf : Ky → Ky → Int} {w0 : World} {b n : Nat}

set_option maxHeartbeats 8000000 in
set_option maxRecDepth 100000 in
theorem order2_any (E : Env p cf w0 b n) (cap lo hi c : Nat) (x y : Int) (dk : Array Ky) (W : World) (hs : dk.size = n) (S : Cnt w0 b c dk W) (hx : (lo : Int) ≤ x ∧ x < hi) (hy : (lo : Int) ≤ y ∧ y < hi) (hn : hi ≤ n) :
    Calls Try.prog 55 #[.slice (some ⟨b, 0, none⟩) n cap, .int .i64 x, .int .i64 y, .pointer (some ⟨c, 0, none⟩), ofTab p] W (Twos w0 b c dk lo hi) := by
  have mixed := follows
  have few := E.few
  have E := Lib.hid E
  have HCN := Lib.hid S
  have S1 := Lib.hid S.sort
  have hsk := Lib.hid hs
  obtain ⟨hx0, hx1⟩ := hx
  obtain ⟨hy0, hy1⟩ := hy
  clear S hs
  cases hlv : ltOf cf dk[y.toNat]! dk[x.toNat]! with
  | true =>
    have HL := Lib.hid hlv
    clear hlv
    unfold ofTab
    go_enter Try.func55, Try.ntmps55
    obtain ⟨I1, hI1⟩ : ∃ q, q = y.toNat := ⟨_, rfl⟩
    obtain ⟨J1, hJ1⟩ : ∃ q, q = x.toNat := ⟨_, rfl⟩
    have u1 : (y : Int).toNat = I1 ∧ 0 ≤ (y : Int) ∧ (y : Int) < n ∧ IntKind.i64.wrap (y : Int) = y := ⟨by omega, by omega, by omega, by rw [IntKind.wrap_i64]; omega⟩
    have v1 : (x : Int).toNat = J1 ∧ 0 ≤ (x : Int) ∧ (x : Int) < n ∧ IntKind.i64.wrap (x : Int) = x := ⟨by omega, by omega, by omega, by rw [IntKind.wrap_i64]; omega⟩
    obtain ⟨u1a, u1b, u1c, u1d⟩ := u1
    obtain ⟨v1a, v1b, v1c, v1d⟩ := v1

    obtain ⟨x1, hx1⟩ : ∃ q, q = dk[y.toNat]! := ⟨_, rfl⟩
    obtain ⟨y1, hy1⟩ : ∃ q, q = dk[x.toNat]! := ⟨_, rfl⟩
    have c1 : ∀ m os, (grow (W.drewN m) os).cell? ⟨b, I1, none⟩ = some (.string (str x1)) := fun m os => by rw [hI1, hx1]; exact E.out.cellG S1.out hsk.out (i := y.toNat) (by omega) m os
    have d1 : ∀ m os, (grow (W.drewN m) os).cell? ⟨b, J1, none⟩ = some (.string (str y1)) := fun m os => by rw [hJ1, hy1]; exact E.out.cellG S1.out hsk.out (i := x.toNat) (by omega) m os
    have a1 := E.out.tell S1.out hsk.out x1 y1
    have r1 : ltOf cf x1 y1 = true := by rw [hx1, hy1]; exact HL.out
    have s1 : decide (cf x1 y1 < 0) = true := r1
    have t1 : cf x1 y1 < 0 := by simpa using s1
    clear r1 hx1 hy1 hI1 hJ1
    go_wp2_with fail
    go_quiet_grown (first | (go_at_call 27; refine a1 _ _))
    have HC2 := Lib.hid (HCN.out.grown nq osq)
    have S2 := Lib.hid (S1.out.grown nq osq)
    clear c1 d1 a1 u1a v1a S1
    generalize grow (W.drewN nq) osq = w2 at S2 HC2 ⊢
    clear nq osq
    obtain ⟨s, hc⟩ := HC2.out.cell
    have hf := HC2.out.free
    go_wp2
    go_ret2
    exact ⟨_, _, rfl, hy0, hy1, hx0, hx1, HC2.out.set _⟩
  | false =>
    have HL := Lib.hid hlv
    clear hlv
    unfold ofTab
    go_enter Try.func55, Try.ntmps55
    obtain ⟨I2, hI2⟩ : ∃ q, q = y.toNat := ⟨_, rfl⟩
    obtain ⟨J2, hJ2⟩ : ∃ q, q = x.toNat := ⟨_, rfl⟩
    have u2 : (y : Int).toNat = I2 ∧ 0 ≤ (y : Int) ∧ (y : Int) < n ∧ IntKind.i64.wrap (y : Int) = y := ⟨by omega, by omega, by omega, by rw [IntKind.wrap_i64]; omega⟩
    have v2 : (x : Int).toNat = J2 ∧ 0 ≤ (x : Int) ∧ (x : Int) < n ∧ IntKind.i64.wrap (x : Int) = x := ⟨by omega, by omega, by omega, by rw [IntKind.wrap_i64]; omega⟩
    obtain ⟨u2a, u2b, u2c, u2d⟩ := u2
    obtain ⟨v2a, v2b, v2c, v2d⟩ := v2

    obtain ⟨x2, hx2⟩ : ∃ q, q = dk[y.toNat]! := ⟨_, rfl⟩
    obtain ⟨y2, hy2⟩ : ∃ q, q = dk[x.toNat]! := ⟨_, rfl⟩
    have c2 : ∀ m os, (grow (W.drewN m) os).cell? ⟨b, I2, none⟩ = some (.string (str x2)) := fun m os => by rw [hI2, hx2]; exact E.out.cellG S1.out hsk.out (i := y.toNat) (by omega) m os
    have d2 : ∀ m os, (grow (W.drewN m) os).cell? ⟨b, J2, none⟩ = some (.string (str y2)) := fun m os => by rw [hJ2, hy2]; exact E.out.cellG S1.out hsk.out (i := x.toNat) (by omega) m os
    have a2 := E.out.tell S1.out hsk.out x2 y2
    have r2 : ltOf cf x2 y2 = false := by rw [hx2, hy2]; exact HL.out
    have s2 : decide (cf x2 y2 < 0) = false := r2
    have t2 : ¬ cf x2 y2 < 0 := by simpa using s2
    clear r2 hx2 hy2 hI2 hJ2
    go_wp2_with fail
    go_quiet_grown (first | (go_at_call 27; refine a2 _ _))
    have HC2 := Lib.hid (HCN.out.grown nq osq)
    have S2 := Lib.hid (S1.out.grown nq osq)
    clear c2 d2 a2 u2a v2a S1
    generalize grow (W.drewN nq) osq = w2 at S2 HC2 ⊢
    clear nq osq
    go_wp2
    go_ret2
    exact ⟨_, _, rfl, hx0, hx1, hy0, hy1, HC2.out⟩

set_option maxHeartbeats 4000000 in
theorem median_any (E : Env p cf w0 b n) (cap lo hi c : Nat) (x y z : Int) (dk : Array Ky) (W : World) (hs : dk.size = n) (S : Cnt w0 b c dk W) (hx : (lo : Int) ≤ x ∧ x < hi) (hy : (lo : Int) ≤ y ∧ y < hi) (hz : (lo : Int) ≤ z ∧ z < hi) (hn : hi ≤ n) :
    Calls Try.prog 54 #[.slice (some ⟨b, 0, none⟩) n cap, .int .i64 x, .int .i64 y, .int .i64 z, .pointer (some ⟨c, 0, none⟩), ofTab p] W (Ones w0 b c dk lo hi) := by
  have E := Lib.hid E
  have S1 := Lib.hid S
  have hsk := Lib.hid hs
  have HX := Lib.hid hx; have HY := Lib.hid hy; have HZ := Lib.hid hz
  clear S hs hx hy hz
  go_enter Try.func54, Try.ntmps54
  go_wp2_with fail
  refine (order2_any E.out cap lo hi c x y dk _ hsk.out S1.out HX.out HY.out hn).mono ?_
  rintro e w1 ⟨x1, y1, rfl, h1, h2, h3, h4, hS⟩
  have S2 := Lib.hid hS; have HX1 := Lib.hid (And.intro h1 h2); have HY1 := Lib.hid (And.intro h3 h4)
  clear hS h1 h2 h3 h4
  go_wp2_with fail
  refine (order2_any E.out cap lo hi c y1 z dk _ hsk.out S2.out HY1.out HZ.out hn).mono ?_
  rintro e w2 ⟨x2, y2, rfl, h1, h2, h3, h4, hS⟩
  have S3 := Lib.hid hS; have HX2 := Lib.hid (And.intro h1 h2); have HY2 := Lib.hid (And.intro h3 h4)
  clear hS h1 h2 h3 h4
  go_wp2_with fail
  refine (order2_any E.out cap lo hi c x1 x2 dk _ hsk.out S3.out HX1.out HX2.out hn).mono ?_
  rintro e w3 ⟨x3, y3, rfl, h1, h2, h3, h4, hS⟩
  have S4 := Lib.hid hS; have HY3 := Lib.hid (And.intro h3 h4)
  clear hS h1 h2 h3 h4
  go_wp2_with fail
  go_ret
  exact ⟨_, rfl, HY3.out.1, HY3.out.2, S4.out⟩

set_option maxHeartbeats 4000000 in
theorem adjacent_any (E : Env p cf w0 b n) (cap lo hi c : Nat) (x : Int) (dk : Array Ky) (W : World) (hs : dk.size = n) (S : Cnt w0 b c dk W) (hx : (lo : Int) < x ∧ x + 1 < hi) (hn : hi ≤ n) :
    Calls Try.prog 53 #[.slice (some ⟨b, 0, none⟩) n cap, .int .i64 x, .pointer (some ⟨c, 0, none⟩), ofTab p] W (Ones w0 b c dk lo hi) := by
  have few := E.few
  have E := Lib.hid E
  have S1 := Lib.hid S
  have hsk := Lib.hid hs
  obtain ⟨hx0, hx1⟩ := hx
  have hx2 : x < 1000000 := by omega
  have hx3 : 1 ≤ x := by omega
  clear S hs
  go_enter Try.func53, Try.ntmps53
  go_wp2_with fail
  refine (median_any E.out cap lo hi c _ _ _ dk _ hsk.out S1.out ⟨by omega, by omega⟩ ⟨by omega, by omega⟩ ⟨by omega, by omega⟩ hn).mono ?_
  rintro e w1 ⟨x1, rfl, h1, h2, hS⟩
  have S2 := Lib.hid hS
  clear hS
  go_wp2_with fail
  go_ret
  exact ⟨_, rfl, h1, h2, S2.out⟩

/-- a place of those from a to z, and a hint, are handed back; the row stays -/
def Picks (w0 : World) (b : Nat) (d : Array Ky) (a z : Nat) : Ending → World → Prop := fun e w' =>
  ∃ (x : Nat) (h : Int), e = .returned (.tuple #[.int .i64 x, .int .i64 h]) ∧ a ≤ x ∧ x < z ∧ SW nam w0 b 0 d w'

set_option maxHeartbeats 8000000 in
set_option maxRecDepth 100000 in
theorem pivot_any (E : Env p cf w0 b n) (cap a z : Nat) (d : Array Ky) (w : World) (hs : d.size = n) (S : SW nam w0 b 0 d w) (haz : a + 12 < z) (hz : z ≤ n) :
    Calls Try.prog 43 #[.slice (some ⟨b, 0, none⟩) n cap, .int .i64 a, .int .i64 z, ofTab p] w (Picks w0 b d a z) := by
  have few := E.few
  have E := Lib.hid E
  have hsk := Lib.hid hs
  have HC0 : Hid (Cnt w0 b w.heap.size d (w.alloc (.cells #[.int .i64 0] 3))) := Lib.hid ⟨S.alloc _, S.le, by simp, ⟨0, by simp⟩, by simp⟩
  clear S hs
  obtain ⟨l, hl⟩ : ∃ l : Nat, l = z - a := ⟨_, rfl⟩
  obtain ⟨q, hq⟩ : ∃ q : Nat, q = l / 4 := ⟨_, rfl⟩
  have HL : Hid ((z : Int) - (a : Int) = (l : Int)) := Lib.hid (by omega)
  have HQ : Hid ((l : Int) / 4 = (q : Int)) := Lib.hid (by omega)
  have hql : 3 ≤ q ∧ 4 * q ≤ l ∧ l < 4 * q + 4 := by omega
  have hla : a + l = z := by omega
  have hl12 : 12 < l := by omega
  have hzz : Hid (a + l = z) := Lib.hid hla
  clear hl hq
  have hl1 : 8 ≤ (l : Int) := by omega
  go_enter Try.func43, Try.ntmps43
  go_wp2_with (fail)
  · refine (adjacent_any E.out cap a z _ _ d _ hsk.out HC0.out ⟨by omega, by omega⟩ hz).mono ?_
    rintro e w1 ⟨x1, rfl, h1, h2, hS⟩
    have S1 := Lib.hid hS; have H1 := Lib.hid (And.intro h1 h2)
    clear hS h1 h2
    go_wp2_with (fail)
    refine (adjacent_any E.out cap a z _ _ d _ hsk.out S1.out ⟨by omega, by omega⟩ hz).mono ?_
    rintro e w2 ⟨x2, rfl, h1, h2, hS⟩
    have S2 := Lib.hid hS; have H2 := Lib.hid (And.intro h1 h2)
    clear hS h1 h2
    go_wp2_with (fail)
    refine (adjacent_any E.out cap a z _ _ d _ hsk.out S2.out ⟨by omega, by omega⟩ hz).mono ?_
    rintro e w3 ⟨x3, rfl, h1, h2, hS⟩
    have S3 := Lib.hid hS; have H3 := Lib.hid (And.intro h1 h2)
    clear hS h1 h2
    go_wp2_with (fail)
    refine (median_any E.out cap a z _ _ _ _ d _ hsk.out S3.out H1.out H2.out H3.out hz).mono ?_
    rintro e w4 ⟨x4, rfl, h1, h2, hS⟩
    have S4 := Lib.hid hS
    obtain ⟨x, rfl⟩ : ∃ x : Nat, x4 = x := ⟨x4.toNat, by omega⟩
    obtain ⟨s, hc⟩ := hS.cell
    clear hS
    go_wp2
    all_goals
      go_ret2
      exact ⟨x, _, rfl, by omega, by omega, S4.out.sort⟩
  · refine (median_any E.out cap a z _ _ _ _ d _ hsk.out HC0.out ⟨by omega, by omega⟩ ⟨by omega, by omega⟩ ⟨by omega, by omega⟩ hz).mono ?_
    rintro e w4 ⟨x4, rfl, h1, h2, hS⟩
    have S4 := Lib.hid hS
    obtain ⟨x, rfl⟩ : ∃ x : Nat, x4 = x := ⟨x4.toNat, by omega⟩
    obtain ⟨s, hc⟩ := hS.cell
    clear hS
    go_wp2
    all_goals
      go_ret2
      exact ⟨x, _, rfl, by omega, by omega, S4.out.sort⟩

end Go.Proofs.Ytahccfljgmleiaa
