/-
  A client that asks a gateway for a port, in memory: its state as plain data; contracts of the small functions. Conditions: the client stands.
-/
import Derived.Test.YtfaekiopmfnpkaaQWds
import Derived.Test.YtfaekiopmfnpkaaQPrda
import Derived.Test.YtfaekiopmfnpkaaBk
import Derived.Deep.RegionWith
import Derived.Deep.Cut
import Derived.Maps.OwnSet
import Derived.Laws.IdiomRangeMap
import Derived.Maps.Ext
namespace Go.Proofs.Ytfaekiopmfnpkaa.Mp
open Go.RowKit Go.Maps
attribute [local go_sem] Oper.semAt_some
set_option linter.unusedVariables false
set_option linter.unusedSimpArgs false

theorem below_drw {B : Nat} {a w : World} (h : Below B a w) (q : Nat) : Below B a (w.drewN q) := ⟨h.os, h.tape, h.output, h.size, h.block⟩
/-- of the old blocks none but the client's may be other than it was -/
structure Kp (mb : Nat) (w w' : World) : Prop where
  os : w'.os = w.os
  tape : w'.tape = w.tape
  output : w'.output = w.output
  size : w.heap.size ≤ w'.heap.size
  block : ∀ k, k < w.heap.size → k ≠ mb → w'.heap[k]? = w.heap[k]?
theorem Kp.refl (mb : Nat) (w : World) : Kp mb w w := ⟨rfl, rfl, rfl, Nat.le_refl _, fun _ _ _ => rfl⟩
theorem Kp.trans {mb : Nat} {a b c : World} (h : Kp mb a b) (k : Kp mb b c) : Kp mb a c :=
  ⟨k.os.trans h.os, k.tape.trans h.tape, k.output.trans h.output, Nat.le_trans h.size k.size, fun i hi hn => (k.block i (Nat.lt_of_lt_of_le hi h.size) hn).trans (h.block i hi hn)⟩
theorem Kp.below {mb : Nat} {a b : World} (h : Below a.heap.size a b) : Kp mb a b := ⟨h.os, h.tape, h.output, h.size, fun k hk _ => h.block k hk⟩
theorem Kp.low {mb n : Nat} {a b : World} (h : Kp mb a b) (h1 : n ≤ mb) (h2 : n ≤ a.heap.size) : Below n a b := ⟨h.os, h.tape, h.output, h.size, fun k hk => h.block k (by omega) (by omega)⟩
theorem Kp.alloc {mb : Nat} {a b : World} (h : Kp mb a b) (o : Obj) : Kp mb a (b.alloc o) := h.trans (.below ((Below.refl _ b).alloc (Nat.le_refl _) o))
theorem Kp.drewN {mb : Nat} {a b : World} (h : Kp mb a b) (q : Nat) : Kp mb a (b.drewN q) := h.trans (.below (below_drw (Below.refl _ b) q))
theorem Kp.set {mb : Nat} {a b : World} (h : Kp mb a b) (o : Nat) (v : Value) : Kp mb a (b.setCell ⟨mb, o, none⟩ v) :=
  h.trans ⟨rfl, rfl, rfl, by simp, fun k hk hn => heap_setCell_other b ⟨mb, o, none⟩ k v (fun e => hn e)⟩
/-- a client's state, as plain data -/
structure Mpr where
  host : Int
  secs : Int
  non : Int
  st : Int
  ver : Int
  ins : Int
  oh : Int
  op : Int
  til : Int
  tries : Int
  next : Int
  hh : Int
  hp : Int
  ph : Int
  epo : Int
  tat : Int
  now : Int
def mpC (m : Mpr) (sv : Value) : Array Value := #[.int .u32 m.host, .int .i64 m.secs, .int .u64 m.non, .int .i64 m.st, .int .i64 m.ver, .int .i64 m.ins, .int .u32 m.oh, .int .i64 m.op, .int .i64 m.til, .int .i64 m.tries, .int .i64 m.next, .int .u32 m.hh, .int .i64 m.hp, .int .u32 m.ph, .int .i64 m.epo, .int .i64 m.tat, .int .i64 m.now, sv]
def MpAt (V : World) (mb : Nat) (m : Mpr) (sv : Value) : Prop := V.heap[mb]? = some (.cells (mpC m sv) 48 (0, 0))
def pt (mb : Nat) : Value := .pointer (some ⟨mb, 0, none⟩)
section
variable {V V' : World} {mb : Nat} {m : Mpr} {sv : Value}
theorem cells_of {w : World} {b : Nat} {C : Array Value} {t : TypeId} (h : w.heap[b]? = some (.cells C t (0, 0))) (j : Nat) : w.cell? ⟨b, j, none⟩ = C[j]? ∧ w.frozen? ⟨b, j, none⟩ = false := by
  constructor
  · simp [World.cell?, h]
  · simp [World.frozen?, h]
/-- the cells of a client -/
structure Cells (V : World) (mb : Nat) (m : Mpr) (sv : Value) : Prop where
  c0 : V.cell? ⟨mb, 0, none⟩ = some (.int .u32 m.host)
  c1 : V.cell? ⟨mb, 1, none⟩ = some (.int .i64 m.secs)
  c2 : V.cell? ⟨mb, 2, none⟩ = some (.int .u64 m.non)
  c3 : V.cell? ⟨mb, 3, none⟩ = some (.int .i64 m.st)
  c4 : V.cell? ⟨mb, 4, none⟩ = some (.int .i64 m.ver)
  c5 : V.cell? ⟨mb, 5, none⟩ = some (.int .i64 m.ins)
  c6 : V.cell? ⟨mb, 6, none⟩ = some (.int .u32 m.oh)
  c7 : V.cell? ⟨mb, 7, none⟩ = some (.int .i64 m.op)
  c8 : V.cell? ⟨mb, 8, none⟩ = some (.int .i64 m.til)
  c9 : V.cell? ⟨mb, 9, none⟩ = some (.int .i64 m.tries)
  c10 : V.cell? ⟨mb, 10, none⟩ = some (.int .i64 m.next)
  c11 : V.cell? ⟨mb, 11, none⟩ = some (.int .u32 m.hh)
  c12 : V.cell? ⟨mb, 12, none⟩ = some (.int .i64 m.hp)
  c13 : V.cell? ⟨mb, 13, none⟩ = some (.int .u32 m.ph)
  c14 : V.cell? ⟨mb, 14, none⟩ = some (.int .i64 m.epo)
  c15 : V.cell? ⟨mb, 15, none⟩ = some (.int .i64 m.tat)
  c16 : V.cell? ⟨mb, 16, none⟩ = some (.int .i64 m.now)
  c17 : V.cell? ⟨mb, 17, none⟩ = some sv
  fz : ∀ j, V.frozen? ⟨mb, j, none⟩ = false
  lt : mb < V.heap.size
theorem MpAt.cells (h : MpAt V mb m sv) : Cells V mb m sv := by
  have e := fun j => (cells_of h j).1
  exact ⟨e 0, e 1, e 2, e 3, e 4, e 5, e 6, e 7, e 8, e 9, e 10, e 11, e 12, e 13, e 14, e 15, e 16, e 17, fun j => (cells_of h j).2, (Array.getElem?_eq_some_iff.1 h).1⟩
theorem MpAt.lt (h : MpAt V mb m sv) : mb < V.heap.size := (Array.getElem?_eq_some_iff.1 h).1
theorem MpAt.below (h : MpAt V mb m sv) (hb : Below V.heap.size V V') : MpAt V' mb m sv := (hb.block _ h.lt).trans h
theorem MpAt.drewN (h : MpAt V mb m sv) (q : Nat) : MpAt (V.drewN q) mb m sv := h
theorem MpAt.alloc (h : MpAt V mb m sv) (o : Obj) : MpAt (V.alloc o) mb m sv := h.below ((Below.refl _ V).alloc (Nat.le_refl _) o)
theorem MpAt.set {m' : Mpr} {sv' v : Value} (h : MpAt V mb m sv) (j : Nat) (he : (mpC m sv).setIfInBounds j v = mpC m' sv') : MpAt (V.setCell ⟨mb, j, none⟩ v) mb m' sv' := by
  have := heap_setCell_same V mb j (mpC m sv) 48 v h
  rw [he] at this
  exact this
end
/-- neither asks nor has anything · has an address -/
def restsB (m : Mpr) : Bool := decide (m.st = 0) || decide (m.st = 4)
def hasB (m : Mpr) : Bool := decide (m.st = 2) || decide (m.st = 3)
def goesB (m : Mpr) (t : Int) : Bool := decide (m.now ≤ t) && decide (t ≤ 1099511627776)
theorem ret_b {a b : Bool} (h : a = b) : Ending.returned (.bool a) = .returned (.bool b) := by rw [h]
section
variable {V V' : World} {mb : Nat} {m : Mpr} {sv : Value}
theorem rests_any (h : MpAt V mb m sv) : Calls Try.prog 15 #[pt mb] V fun e V' => e = .returned (.bool (restsB m)) ∧ V' = V := by
  obtain ⟨c0, c1, c2, c3, c4, c5, c6, c7, c8, c9, c10, c11, c12, c13, c14, c15, c16, c17, cf, cl⟩ := h.cells
  clear h
  unfold pt
  have HR : Hid (restsB m = (decide (m.st = 0) || decide (m.st = 4))) := Lib.hid rfl
  generalize restsB m = r at *
  by_cases h0 : m.st = 0
  · have HE : Hid (true = r) := Lib.hid (by rw [HR.out]; simp [h0])
    rw [h0] at c3
    clear h0 HR
    go_enter Try.func15, Try.ntmps15
    go_wp2
    go_ret
    exact ⟨ret_b HE.out, rfl⟩
  · have z0 : (m.st == (0 : Int)) = false := by simpa using h0
    by_cases h4 : m.st = 4
    · have HE : Hid (true = r) := Lib.hid (by rw [HR.out]; simp [h4])
      rw [h4] at c3
      clear h0 h4 z0 HR
      go_enter Try.func15, Try.ntmps15
      go_wp2
      go_ret
      exact ⟨ret_b HE.out, rfl⟩
    · have HE : Hid (false = r) := Lib.hid (by rw [HR.out]; simp [h0, h4])
      have z4 : (m.st == (4 : Int)) = false := by simpa using h4
      clear h0 h4 HR
      go_enter Try.func15, Try.ntmps15
      go_wp2
      go_ret
      exact ⟨ret_b HE.out, rfl⟩
theorem has_any (h : MpAt V mb m sv) : Calls Try.prog 26 #[pt mb] V fun e V' => e = .returned (.bool (hasB m)) ∧ V' = V := by
  obtain ⟨c0, c1, c2, c3, c4, c5, c6, c7, c8, c9, c10, c11, c12, c13, c14, c15, c16, c17, cf, cl⟩ := h.cells
  clear h
  unfold pt
  have HR : Hid (hasB m = (decide (m.st = 2) || decide (m.st = 3))) := Lib.hid rfl
  generalize hasB m = r at *
  by_cases h0 : m.st = 2
  · have HE : Hid (true = r) := Lib.hid (by rw [HR.out]; simp [h0])
    rw [h0] at c3
    clear h0 HR
    go_enter Try.func26, Try.ntmps26
    go_wp2
    go_ret
    exact ⟨ret_b HE.out, rfl⟩
  · have z0 : (m.st == (2 : Int)) = false := by simpa using h0
    by_cases h4 : m.st = 3
    · have HE : Hid (true = r) := Lib.hid (by rw [HR.out]; simp [h4])
      rw [h4] at c3
      clear h0 h4 z0 HR
      go_enter Try.func26, Try.ntmps26
      go_wp2
      go_ret
      exact ⟨ret_b HE.out, rfl⟩
    · have HE : Hid (false = r) := Lib.hid (by rw [HR.out]; simp [h0, h4])
      have z4 : (m.st == (3 : Int)) = false := by simpa using h4
      clear h0 h4 HR
      go_enter Try.func26, Try.ntmps26
      go_wp2
      go_ret
      exact ⟨ret_b HE.out, rfl⟩
theorem goesOn_yes (h : MpAt V mb m sv) (t : Int) (hg : goesB m t = true) : Calls Try.prog 16 #[pt mb, .int .i64 t] V fun e V' => e = .returned (.bool true) ∧ MpAt V' mb { m with now := t } sv ∧ Kp mb V V' := by
  have HM := Lib.hid (h.set (v := .int .i64 t) (m' := { m with now := t }) (sv' := sv) 16 rfl)
  have HK := Lib.hid ((Kp.refl mb V).set 16 (.int .i64 t))
  obtain ⟨c0, c1, c2, c3, c4, c5, c6, c7, c8, c9, c10, c11, c12, c13, c14, c15, c16, c17, cf, cl⟩ := h.cells
  unfold goesB at hg
  simp only [Bool.and_eq_true, decide_eq_true_eq] at hg
  obtain ⟨g1, g2⟩ := hg
  clear h
  unfold pt
  go_enter Try.func16, Try.ntmps16
  go_wp2
  go_ret
  exact ⟨rfl, HM.out, HK.out⟩
theorem goesOn_no (h : MpAt V mb m sv) (t : Int) (hg : goesB m t = false) : Calls Try.prog 16 #[pt mb, .int .i64 t] V fun e V' => e = .returned (.bool false) ∧ V' = V := by
  obtain ⟨c0, c1, c2, c3, c4, c5, c6, c7, c8, c9, c10, c11, c12, c13, c14, c15, c16, c17, cf, cl⟩ := h.cells
  unfold goesB at hg
  clear h
  unfold pt
  by_cases h1 : m.now ≤ t
  · have h2 : 1099511627776 < t := by simpa [h1] using hg
    clear hg
    go_enter Try.func16, Try.ntmps16
    go_wp2
    go_ret
    exact ⟨rfl, rfl⟩
  · have h2 : t < m.now := by omega
    clear hg
    go_enter Try.func16, Try.ntmps16
    go_wp2
    go_ret
    exact ⟨rfl, rfl⟩
theorem state_any (h : MpAt V mb m sv) : Calls Try.prog 10 #[pt mb] V fun e V' => e = .returned (.agg #[.int .i64 m.st, .int .i64 m.ver, .int .i64 m.ins, .int .u32 m.oh, .int .i64 m.op, .int .i64 m.til, .int .i64 m.tries, .int .i64 m.next]) ∧ Below V.heap.size V V' := by
  obtain ⟨c0, c1, c2, c3, c4, c5, c6, c7, c8, c9, c10, c11, c12, c13, c14, c15, c16, c17, cf, cl⟩ := h.cells
  have HB : Hid (∀ o, Below V.heap.size V (V.alloc o)) := Lib.hid (fun o => (Below.refl _ V).alloc (Nat.le_refl _) o)
  clear h
  unfold pt
  go_enter Try.func10, Try.ntmps10
  go_wp2
  exact ⟨rfl, .agg #[.int .i64 m.st, .int .i64 m.ver, .int .i64 m.ins, .int .u32 m.oh, .int .i64 m.op, .int .i64 m.til, .int .i64 m.tries, .int .i64 m.next], by simp [results, Try.results10, go_sem], rfl, HB.out _⟩
end
end Go.Proofs.Ytfaekiopmfnpkaa.Mp
