/-
  Plain words on a box that turns addresses, and how it lies in memory: the box, the row of its bindings, each binding, and the row of those that it has seen. Conditions: as each lemma states.
-/
import Derived.Test.YtidhdgcmagpkgaaProg
import Derived.WalkKit
import Derived.RangeFuncBox
import Derived.RangeFuncNested
import Derived.Laws.OwnMore
import Derived.Maps.AppendAt
import Derived.Lib.Hide
import Derived.Deep.Draws
namespace Go.Proofs.Ytidhdgcmagpkgaa
open Go.RowKit
set_option linter.unusedVariables false

theorem below_drw {B : Nat} {a w : World} (h : Below B a w) (q : Nat) : Below B a (w.drewN q) := ⟨h.os, h.tape, h.output, h.size, h.block⟩
/-- of the old blocks only those of S may be other than they were -/
structure Keeps (S : Nat → Prop) (w w' : World) : Prop where
  os : w'.os = w.os
  tape : w'.tape = w.tape
  output : w'.output = w.output
  size : w.heap.size ≤ w'.heap.size
  block : ∀ k, k < w.heap.size → ¬ S k → w'.heap[k]? = w.heap[k]?
theorem Keeps.refl (S : Nat → Prop) (w : World) : Keeps S w w := ⟨rfl, rfl, rfl, Nat.le_refl _, fun _ _ _ => rfl⟩
theorem Keeps.trans {S : Nat → Prop} {a b c : World} (h : Keeps S a b) (k : Keeps S b c) : Keeps S a c :=
  ⟨k.os.trans h.os, k.tape.trans h.tape, k.output.trans h.output, Nat.le_trans h.size k.size, fun i hi hn => (k.block i (Nat.lt_of_lt_of_le hi h.size) hn).trans (h.block i hi hn)⟩
/-- .. where what the second may turn, of the first world's blocks, the first may turn too -/
theorem Keeps.then {S T : Nat → Prop} {a b c : World} (h : Keeps S a b) (k : Keeps T b c) (ht : ∀ i, i < a.heap.size → T i → S i) : Keeps S a c :=
  ⟨k.os.trans h.os, k.tape.trans h.tape, k.output.trans h.output, Nat.le_trans h.size k.size, fun i hi hn => (k.block i (Nat.lt_of_lt_of_le hi h.size) (fun e => hn (ht i hi e))).trans (h.block i hi hn)⟩
theorem Keeps.mono {S S' : Nat → Prop} {a b : World} (h : Keeps S a b) (hs : ∀ k, k < a.heap.size → S k → S' k) : Keeps S' a b :=
  ⟨h.os, h.tape, h.output, h.size, fun i hi hn => h.block i hi (fun e => hn (hs i hi e))⟩
theorem Keeps.below {S : Nat → Prop} {a b : World} {n : Nat} (h : Keeps S a b) (hs : ∀ k, S k → n ≤ k) (hn : n ≤ a.heap.size) : Below n a b :=
  ⟨h.os, h.tape, h.output, h.size, fun k hk => h.block k (by omega) (fun e => by have := hs k e; omega)⟩
theorem Keeps.ofBelow {S : Nat → Prop} {a b : World} {n : Nat} (h : Below n a b) (hn : ∀ k, n ≤ k → k < a.heap.size → S k) : Keeps S a b :=
  ⟨h.os, h.tape, h.output, h.size, fun k hk hs => h.block k (Nat.lt_of_not_le fun h1 => hs (hn k h1 hk))⟩
theorem Keeps.all {S : Nat → Prop} {a b : World} (h : Below a.heap.size a b) : Keeps S a b := .ofBelow h (fun k h1 h2 => by omega)
theorem Keeps.grown {S : Nat → Prop} {a b : World} {row : Option Nat} (h : a.grownBy b row) (hr : ∀ g, row = some g → S g) : Keeps S a b :=
  ⟨h.os, h.tape, h.output, h.size, fun k hk hn => h.block k hk (fun e => hn (hr k e.symm))⟩
theorem Keeps.alloc {w w' : World} {S : Nat → Prop} (h : Keeps S w w') (o : Obj) : Keeps S w (w'.alloc o) := h.trans (.all ((Below.refl _ w').alloc (Nat.le_refl _) o))
theorem Keeps.drewN {w w' : World} {S : Nat → Prop} (h : Keeps S w w') (q : Nat) : Keeps S w (w'.drewN q) := h.trans (.all (below_drw (Below.refl _ w') q))
theorem Keeps.set {w w' : World} {S : Nat → Prop} (h : Keeps S w w') (b o : Nat) (v : Value) (hb : S b) : Keeps S w (w'.setCell ⟨b, o, none⟩ v) :=
  h.trans ⟨rfl, rfl, rfl, by simp, fun k hk hn => heap_setCell_other w' ⟨b, o, none⟩ k v (fun e => hn (by have e2 : k = b := e; rw [e2]; exact hb))⟩

theorem cells_of {w : World} {b : Nat} {C : Array Value} {t : TypeId} (h : w.heap[b]? = some (.cells C t (0, 0))) (j : Nat) : w.cell? ⟨b, j, none⟩ = C[j]? ∧ w.frozen? ⟨b, j, none⟩ = false := by
  constructor
  · simp [World.cell?, h]
  · simp [World.frozen?, h]

/-- an address: its host, its port -/
abbrev A2 := Int × Int
def adr (a : A2) : Value := .agg #[.int .u32 a.1, .int .i64 a.2]
def isA (a : A2) : Prop := (0 ≤ a.1 ∧ a.1 < 4294967296) ∧ -9223372036854775808 ≤ a.2 ∧ a.2 ≤ 9223372036854775807
def mayA (a : A2) : Bool := decide (a.1 ≠ 0) && decide (1 ≤ a.2) && decide (a.2 ≤ 65535)
theorem mayA_t {a : A2} (h1 : ¬ a.1 = 0) (h2 : 1 ≤ a.2) (h3 : a.2 ≤ 65535) : mayA a = true := by simp [mayA, h1, h2, h3]
theorem mayA_f {a : A2} (h : a.1 = 0 ∨ a.2 < 1 ∨ 65535 < a.2) : mayA a = false := by
  unfold mayA
  rcases h with h | h | h
  · simp [h]
  · have : ¬ 1 ≤ a.2 := Int.not_le.2 h
    simp [this]
  · have : ¬ a.2 ≤ 65535 := Int.not_le.2 h
    simp [this]
theorem mayA_iff (a : A2) : mayA a = true ↔ a.1 ≠ 0 ∧ 1 ≤ a.2 ∧ a.2 ≤ 65535 := by simp [mayA, and_assoc]
/-- how a box is made -/
structure Bx where
  host : Int
  lo : Int
  hi : Int
  map : Int
  filter : Int
  life : Int
  most : Int
/-- a binding, and who is seen by it -/
structure Bn where
  inn : A2
  to : A2
  port : Int
  until_ : Int
  asked : Bool
  seen : List A2
def Bn.cells (b : Bn) : List Value := [.int .u32 b.inn.1, .int .i64 b.inn.2, .int .u32 b.to.1, .int .i64 b.to.2, .int .i64 b.port, .int .i64 b.until_, .bool b.asked]
def bnCells (b : Bn) (sv : Value) : Array Value := #[.int .u32 b.inn.1, .int .i64 b.inn.2, .int .u32 b.to.1, .int .i64 b.to.2, .int .i64 b.port, .int .i64 b.until_, .bool b.asked, sv]
def natCells (x : Bx) (kv : Value) (now : Int) : Array Value := #[.int .u32 x.host, .int .i64 x.lo, .int .i64 x.hi, .int .i64 x.map, .int .i64 x.filter, .int .i64 x.life, .int .i64 x.most, kv, .int .i64 now]
def boxCells (x : Bx) : Array Value := #[.int .u32 x.host, .int .i64 x.lo, .int .i64 x.hi, .int .i64 x.map, .int .i64 x.filter, .int .i64 x.life, .int .i64 x.most]
/-- addresses in a row -/
def cellsA (l : List A2) : List Value := l.flatMap fun a => [.int .u32 a.1, .int .i64 a.2]
theorem cellsA_cons (a : A2) (l : List A2) : cellsA (a :: l) = .int .u32 a.1 :: .int .i64 a.2 :: cellsA l := rfl
theorem cellsA_append (l m : List A2) : cellsA (l ++ m) = cellsA l ++ cellsA m := by simp [cellsA]
theorem cellsA_len : ∀ l : List A2, (cellsA l).length = l.length * 2
  | [] => rfl
  | a :: l => by rw [cellsA_cons]; simp only [List.length_cons, cellsA_len l]; omega
theorem cellsA_one (l : List A2) : ∀ u ∈ cellsA l, u.oneCell' = true := by
  intro u hu
  unfold cellsA at hu
  rw [List.mem_flatMap] at hu
  obtain ⟨a, _, h⟩ := hu
  simp only [List.mem_cons, List.not_mem_nil, or_false] at h
  rcases h with rfl | rfl <;> rfl
theorem cellsA_at {l : List A2} {k : Nat} {a : A2} (h : l[k]? = some a) : (cellsA l)[k * 2]? = some (.int .u32 a.1) ∧ (cellsA l)[k * 2 + 1]? = some (.int .i64 a.2) := by
  induction l generalizing k with
  | nil => simp at h
  | cons b l ih =>
    rw [cellsA_cons]
    cases k with
    | zero =>
      simp only [List.getElem?_cons_zero, Option.some.injEq] at h
      subst h
      exact ⟨rfl, rfl⟩
    | succ k =>
      have := ih (k := k) (by simpa using h)
      rw [show (k + 1) * 2 = k * 2 + 1 + 1 by omega]
      exact ⟨this.1, this.2⟩
/-- pointers to bindings in a row -/
def ptr (p : Nat) : Value := .pointer (some ⟨p, 0, none⟩)
def cellsP (l : List Nat) : List Value := l.map ptr
theorem cellsP_one (l : List Nat) : ∀ u ∈ cellsP l, u.oneCell' = true := by
  intro u hu
  obtain ⟨p, _, rfl⟩ := List.mem_map.1 hu
  rfl
theorem cellsP_at {l : List Nat} {k p : Nat} (h : l[k]? = some p) : (cellsP l)[k]? = some (ptr p) := by unfold cellsP; rw [List.getElem?_map, h]; rfl

/-- a row is kept with its block -/
theorem own_at {w w' : World} {base : Nat} {e : TypeId} {k : Nat} {v : Value} {n : Nat} {xs : List Value} (h : w.ownsRow base e k v n xs) (hg : ∀ g, v.ownBlock = some g → w'.heap[g]? = w.heap[g]?) : w'.ownsRow base e k v n xs := by
  refine ⟨h.1, ?_⟩
  rcases h.2 with hn | ⟨g, cap, cur, rfl, hb, hgg, rest⟩
  · exact .inl hn
  · exact .inr ⟨g, cap, cur, rfl, hb, (hg g rfl).trans hgg, rest⟩
theorem own_obj {w : World} {base : Nat} {e : TypeId} {k : Nat} {v : Value} {n : Nat} {xs : List Value} (h : w.ownsRow base e k v n xs) {g : Nat} (hg : v.ownBlock = some g) : ∃ C, w.heap[g]? = some (.cells C e (0, 0)) := by
  rcases h.2 with ⟨rfl, _⟩ | ⟨g', cap, cur, rfl, _, hgg, _⟩
  · cases hg
  · cases hg
    exact ⟨cur, hgg⟩

/-- a binding in memory: its block, what it is, and its row of seen ones as a value -/
structure Nd where
  p : Nat
  b : Bn
  sv : Value
/-- bindings that lie apart -/
def Apart (d e : Nd) : Prop := d.p ≠ e.p ∧ ∀ g, d.sv.ownBlock = some g → e.sv.ownBlock ≠ some g
theorem Apart.symm {d e : Nd} (h : Apart d e) : Apart e d := ⟨fun x => h.1 x.symm, fun g h1 h2 => h.2 g h2 h1⟩
structure NdAt (w : World) (d : Nd) : Prop where
  own : w.heap[d.p]? = some (.cells (bnCells d.b d.sv) 75 (0, 0))
  row : w.ownsRow 0 36 2 d.sv d.b.seen.length (cellsA d.b.seen)
/-- a box in memory -/
structure Na (w : World) (nb : Nat) (x : Bx) (now : Int) (kv : Value) (L : List Nd) : Prop where
  top : w.heap[nb]? = some (.cells (natCells x kv now) 69 (0, 0))
  row : w.ownsRow 0 70 1 kv L.length (cellsP (L.map Nd.p))
  nds : ∀ d ∈ L, NdAt w d
  sep : L.Pairwise Apart
/-- the blocks of a box -/
def Foot (nb : Nat) (kv : Value) (L : List Nd) (k : Nat) : Prop := k = nb ∨ kv.ownBlock = some k ∨ ∃ d ∈ L, k = d.p ∨ d.sv.ownBlock = some k
section
variable {w w' : World} {nb : Nat} {x : Bx} {now : Int} {kv : Value} {L : List Nd} {d : Nd}
theorem NdAt.kept (h : NdAt w d) (h1 : w'.heap[d.p]? = w.heap[d.p]?) (h2 : ∀ g, d.sv.ownBlock = some g → w'.heap[g]? = w.heap[g]?) : NdAt w' d := ⟨h1.trans h.own, own_at h.row h2⟩
theorem NdAt.lt (h : NdAt w d) : d.p < w.heap.size := (Array.getElem?_eq_some_iff.1 h.own).1
theorem NdAt.rowlt (h : NdAt w d) {g : Nat} (hg : d.sv.ownBlock = some g) : g < w.heap.size := by
  obtain ⟨C, hC⟩ := own_obj h.row hg
  exact (Array.getElem?_eq_some_iff.1 hC).1
theorem Na.kept (h : Na w nb x now kv L) (hk : ∀ k, Foot nb kv L k → w'.heap[k]? = w.heap[k]?) : Na w' nb x now kv L :=
  ⟨(hk nb (.inl rfl)).trans h.top, own_at h.row (fun g hg => hk g (.inr (.inl hg))), fun d hd => (h.nds d hd).kept (hk _ (.inr (.inr ⟨d, hd, .inl rfl⟩))) (fun g hg => hk g (.inr (.inr ⟨d, hd, .inr hg⟩))), h.sep⟩
theorem Na.lt (h : Na w nb x now kv L) : nb < w.heap.size := (Array.getElem?_eq_some_iff.1 h.top).1
theorem Na.foot_lt (h : Na w nb x now kv L) {k : Nat} (hk : Foot nb kv L k) : k < w.heap.size := by
  rcases hk with rfl | hk | ⟨d, hd, rfl | hk⟩
  · exact h.lt
  · obtain ⟨C, hC⟩ := own_obj h.row hk
    exact (Array.getElem?_eq_some_iff.1 hC).1
  · exact (h.nds d hd).lt
  · exact (h.nds d hd).rowlt hk
theorem Na.below (h : Na w nb x now kv L) (hb : Below w.heap.size w w') : Na w' nb x now kv L := h.kept fun k hk => hb.block k (h.foot_lt hk)
theorem Na.keeps {S : Nat → Prop} (h : Na w nb x now kv L) (hb : Keeps S w w') (hs : ∀ k, Foot nb kv L k → ¬ S k) : Na w' nb x now kv L := h.kept fun k hk => hb.block k (h.foot_lt hk) (hs k hk)
/-- what a block of the box is -/
theorem Na.kind (h : Na w nb x now kv L) {k : Nat} (hk : Foot nb kv L k) : ∃ C t, w.heap[k]? = some (.cells C t (0, 0)) ∧ (t = 69 ∨ t = 70 ∨ t = 75 ∨ t = 36) := by
  rcases hk with rfl | hk | ⟨d, hd, rfl | hk⟩
  · exact ⟨_, _, h.top, .inl rfl⟩
  · obtain ⟨C, hC⟩ := own_obj h.row hk
    exact ⟨_, _, hC, .inr (.inl rfl)⟩
  · exact ⟨_, _, (h.nds d hd).own, .inr (.inr (.inl rfl))⟩
  · obtain ⟨C, hC⟩ := own_obj (h.nds d hd).row hk
    exact ⟨_, _, hC, .inr (.inr (.inr rfl))⟩
theorem clash {b : Nat} {C C' : Array Value} {t t' : TypeId} (h : w.heap[b]? = some (.cells C t (0, 0))) (h' : w.heap[b]? = some (.cells C' t' (0, 0))) (hn : t ≠ t') : False := by
  rw [h] at h'
  simp only [Option.some.injEq, Obj.cells.injEq] at h'
  exact hn h'.2.1
theorem Na.ne_row (h : Na w nb x now kv L) : kv.ownBlock ≠ some nb := fun e => by
  obtain ⟨C, hC⟩ := own_obj h.row e
  exact clash h.top hC (by decide)
theorem Na.ne_nd (h : Na w nb x now kv L) (hd : d ∈ L) : d.p ≠ nb := fun e => by
  have := (h.nds d hd).own
  rw [e] at this
  exact clash h.top this (by decide)
theorem Na.ne_seen (h : Na w nb x now kv L) (hd : d ∈ L) : d.sv.ownBlock ≠ some nb := fun e => by
  obtain ⟨C, hC⟩ := own_obj (h.nds d hd).row e
  exact clash h.top hC (by decide)
theorem Na.row_nd (h : Na w nb x now kv L) (hd : d ∈ L) : kv.ownBlock ≠ some d.p := fun e => by
  obtain ⟨C, hC⟩ := own_obj h.row e
  exact clash (h.nds d hd).own hC (by decide)
theorem Na.row_seen (h : Na w nb x now kv L) (hd : d ∈ L) {g : Nat} (hg : kv.ownBlock = some g) : d.sv.ownBlock ≠ some g := fun e => by
  obtain ⟨C, hC⟩ := own_obj h.row hg
  obtain ⟨C', hC'⟩ := own_obj (h.nds d hd).row e
  exact clash hC hC' (by decide)
theorem Na.nd_seen (h : Na w nb x now kv L) {e : Nd} (hd : d ∈ L) (he : e ∈ L) : d.sv.ownBlock ≠ some e.p := fun h1 => by
  obtain ⟨C, hC⟩ := own_obj (h.nds d hd).row h1
  exact clash (h.nds e he).own hC (by decide)
/-- the box's cells in the walk's words -/
theorem Na.cells (h : Na w nb x now kv L) : (w.cell? ⟨nb, 0, none⟩ = some (.int .u32 x.host) ∧ w.cell? ⟨nb, 1, none⟩ = some (.int .i64 x.lo) ∧ w.cell? ⟨nb, 2, none⟩ = some (.int .i64 x.hi) ∧ w.cell? ⟨nb, 3, none⟩ = some (.int .i64 x.map) ∧ w.cell? ⟨nb, 4, none⟩ = some (.int .i64 x.filter) ∧ w.cell? ⟨nb, 5, none⟩ = some (.int .i64 x.life) ∧ w.cell? ⟨nb, 6, none⟩ = some (.int .i64 x.most)) ∧ w.cell? ⟨nb, 7, none⟩ = some kv ∧ w.cell? ⟨nb, 8, none⟩ = some (.int .i64 now) ∧ ∀ j, w.frozen? ⟨nb, j, none⟩ = false := by
  have h0 := fun j => (cells_of h.top j).1
  exact ⟨⟨h0 0, h0 1, h0 2, h0 3, h0 4, h0 5, h0 6⟩, h0 7, h0 8, fun j => (cells_of h.top j).2⟩
theorem NdAt.cells (h : NdAt w d) : (w.cell? ⟨d.p, 0, none⟩ = some (.int .u32 d.b.inn.1) ∧ w.cell? ⟨d.p, 1, none⟩ = some (.int .i64 d.b.inn.2) ∧ w.cell? ⟨d.p, 2, none⟩ = some (.int .u32 d.b.to.1) ∧ w.cell? ⟨d.p, 3, none⟩ = some (.int .i64 d.b.to.2) ∧ w.cell? ⟨d.p, 4, none⟩ = some (.int .i64 d.b.port) ∧ w.cell? ⟨d.p, 5, none⟩ = some (.int .i64 d.b.until_) ∧ w.cell? ⟨d.p, 6, none⟩ = some (.bool d.b.asked)) ∧ w.cell? ⟨d.p, 7, none⟩ = some d.sv ∧ ∀ j, w.frozen? ⟨d.p, j, none⟩ = false := by
  have h0 := fun j => (cells_of h.own j).1
  exact ⟨⟨h0 0, h0 1, h0 2, h0 3, h0 4, h0 5, h0 6⟩, h0 7, fun j => (cells_of h.own j).2⟩
/-- the row of bindings: where it lies -/
theorem Na.rowAt (h : Na w nb x now kv L) : (kv = .slice none 0 0 ∧ L = []) ∨ ∃ g cap cur, kv = .slice (some ⟨g, 0, none⟩) L.length cap ∧ w.heap[g]? = some (.cells cur 70 (0, 0)) ∧ L.length ≤ cap ∧ cap ≤ maxLen ∧ cur.size = cap ∧ ∀ (j : Nat) (d : Nd), L[j]? = some d → cur[j]? = some (ptr d.p) := by
  rcases h.row.2 with ⟨h1, h2⟩ | ⟨g, cap, cur, h1, _, h2, h3, h4, h5, h6⟩
  · exact .inl ⟨h1, List.eq_nil_of_length_eq_zero h2⟩
  · refine .inr ⟨g, cap, cur, h1, h2, h3, h4, by omega, fun j d hd => ?_⟩
    have hj := (List.getElem?_eq_some_iff.1 hd).1
    have h7 := cellsP_at (l := L.map Nd.p) (k := j) (p := d.p) (by rw [List.getElem?_map, hd]; rfl)
    rw [← h6, List.getElem?_take_of_lt (by omega)] at h7
    simpa using h7
end
/-- what a call leaves of a box's blocks: of the old ones these are the box's alone -/
def Grew (G G' : Nat → Prop) (w : World) : Prop := ∀ k, G' k → G k ∨ w.heap.size ≤ k
/-- block nb is a box made so, its time now, its bindings M; its blocks are G -/
def Bo (w : World) (nb : Nat) (G : Nat → Prop) (x : Bx) (now : Int) (M : List Bn) : Prop := ∃ kv L, Na w nb x now kv L ∧ L.map Nd.b = M ∧ G = Foot nb kv L
section
variable {w w' : World} {nb : Nat} {x : Bx} {now : Int} {M : List Bn} {G : Nat → Prop}
theorem Bo.below (h : Bo w nb G x now M) (hb : Below w.heap.size w w') : Bo w' nb G x now M := by
  obtain ⟨kv, L, h1, h2, h3⟩ := h
  exact ⟨kv, L, h1.below hb, h2, h3⟩
theorem Bo.keeps {S : Nat → Prop} (h : Bo w nb G x now M) (hb : Keeps S w w') (hs : ∀ k, G k → ¬ S k) : Bo w' nb G x now M := by
  obtain ⟨kv, L, h1, h2, rfl⟩ := h
  exact ⟨kv, L, h1.keeps hb hs, h2, rfl⟩
theorem Bo.lt (h : Bo w nb G x now M) {k : Nat} (hk : G k) : k < w.heap.size := by
  obtain ⟨kv, L, h1, h2, rfl⟩ := h
  exact h1.foot_lt hk
theorem Bo.self (h : Bo w nb G x now M) : G nb := by
  obtain ⟨kv, L, h1, h2, rfl⟩ := h
  exact .inl rfl
end
end Go.Proofs.Ytidhdgcmagpkgaa
