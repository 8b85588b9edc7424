/-
  The document's own Out. Conditions: the box stands in memory, and may be.
-/
import Derived.Test.YtemlnkcokeckmaaRpu
import Derived.Test.YtemlnkcokeckmaaRtr
import Derived.Deep.CutRange
import Derived.Deep.RegionHeld
namespace Go.Proofs.Ytemlnkcokeckmaa
open Go.RowKit
attribute [local go_sem] Oper.semAt_some
set_option linter.unusedVariables false
set_option linter.unusedSimpArgs false

/-- who is seen, once more one is -/
def seenR (l : List A2) (b : A2) : List A2 := if 16 < (l.filter (fun c => !decide (c = b)) ++ [b]).length then (l.filter (fun c => !decide (c = b)) ++ [b]).drop 1 else l.filter (fun c => !decide (c = b)) ++ [b]
/-- a binding by which something goes out -/
def outB (x : Bx) (t : Int) (c : A2) (b : Bn) : Bn := { b with until_ := if b.asked then b.until_ else if 1099511627776 < t + x.life then 1099511627776 else t + x.life, seen := seenR b.seen c }
/-- no binding serves -/
def NoneR (x : Bx) (LL : List Rb) (a b : A2) : Prop := (∀ d ∈ LL, findP a true b d.b = false) ∧ ∀ d ∈ LL, findP a false (partA b x.map) d.b = false
/-- the first that serves -/
def ServR (x : Bx) (LL : List Rb) (a b : A2) (k : Nat) (d : Rb) : Prop := LL[k]? = some d ∧
  ((findP a true b d.b = true ∧ ∀ (j : Nat) (e : Rb), j < k → LL[j]? = some e → findP a true b e.b = false) ∨
   ((∀ d ∈ LL, findP a true b d.b = false) ∧ findP a false (partA b x.map) d.b = true ∧ ∀ (j : Nat) (e : Rb), j < k → LL[j]? = some e → findP a false (partA b x.map) e.b = false))
/-- what the document's Out answers and leaves; LL: those that are left at that time -/
def RoutAns (w : World) (rb : Nat) (x : Bx) (v : Value) (now : Int) (L LL : List Rb) (t : Int) (a b : A2) (e : Ending) (w' : World) : Prop :=
  (¬ (mayA a = true ∧ mayA b = true ∧ goes now t = true) ∧ e = .returned (ansA (0, 0) 1) ∧ RStep w w' rb x v L now L) ∨
  ((mayA a = true ∧ mayA b = true ∧ goes now t = true) ∧
    ((∃ (k : Nat) (d d' : Rb), ServR x LL a b k d ∧ d'.b = outB x t b d.b ∧ e = .returned (ansA (x.host, d.b.port) 0) ∧ RStep w w' rb x v L t (LL.set k d')) ∨
     (NoneR x LL a b ∧ (x.most ≤ (LL.length : Int) ∨ NoPort x (LL.map Rb.b) a.2) ∧ e = .returned (ansA (0, 0) 10) ∧ RStep w w' rb x v L t LL) ∨
     (NoneR x LL a b ∧ ∃ (p : Int) (k : Nat) (d' : Rb), (LL.length : Int) < x.most ∧ PortR x (LL.map Rb.b) a.2 p ∧ PlaceR LL p k ∧ d'.b = outB x t b (newR a (partA b x.map) false p).b ∧ e = .returned (ansA (x.host, p) 0) ∧ RStep w w' rb x v L t ((insR LL k (newR a (partA b x.map) false p)).set k d'))))
/-- the call's own three blocks -/
structure Own3 (W : World) (g : Nat) (a b : A2) : Prop where
  ca : W.heap[g]? = some (.cells #[.int .u32 a.1, .int .i64 a.2] 38 (0, 0))
  cb : W.heap[g + 1]? = some (.cells #[.int .u32 b.1, .int .i64 b.2] 38 (0, 0))
  cr : W.heap[g + 2]? = some (.cells #[.int .u32 0, .int .i64 0] 38 (0, 0))
theorem Own3.kept {W W' : World} {g : Nat} {a b : A2} (h : Own3 W g a b) (hk : ∀ j, g ≤ j → j < g + 3 → W'.heap[j]? = W.heap[j]?) : Own3 W' g a b :=
  ⟨(hk _ (by omega) (by omega)).trans h.ca, (hk _ (by omega) (by omega)).trans h.cb, (hk _ (by omega) (by omega)).trans h.cr⟩
theorem Own3.below {W W' : World} {g : Nat} {a b : A2} (h : Own3 W g a b) (hb : Below W.heap.size W W') : Own3 W' g a b :=
  ⟨(hb.block _ (Array.getElem?_eq_some_iff.1 h.ca).1).trans h.ca, (hb.block _ (Array.getElem?_eq_some_iff.1 h.cb).1).trans h.cb, (hb.block _ (Array.getElem?_eq_some_iff.1 h.cr).1).trans h.cr⟩
theorem Own3.cells {W : World} {g : Nat} {a b : A2} (h : Own3 W g a b) : (W.cell? ⟨g, 0, none⟩ = some (.int .u32 a.1) ∧ W.cell? ⟨g, 1, none⟩ = some (.int .i64 a.2)) ∧ (W.cell? ⟨g + 1, 0, none⟩ = some (.int .u32 b.1) ∧ W.cell? ⟨g + 1, 1, none⟩ = some (.int .i64 b.2)) ∧ (W.cell? ⟨g + 2, 0, none⟩ = some (.int .u32 0) ∧ W.cell? ⟨g + 2, 1, none⟩ = some (.int .i64 0)) ∧ (W.frozen? ⟨g + 2, 0, none⟩ = false ∧ W.frozen? ⟨g + 2, 1, none⟩ = false) ∧ g < W.heap.size ∧ g + 1 < W.heap.size ∧ g + 2 < W.heap.size :=
  ⟨⟨(cells_of h.ca 0).1, (cells_of h.ca 1).1⟩, ⟨(cells_of h.cb 0).1, (cells_of h.cb 1).1⟩, ⟨(cells_of h.cr 0).1, (cells_of h.cr 1).1⟩, ⟨(cells_of h.cr 0).2, (cells_of h.cr 1).2⟩, (Array.getElem?_eq_some_iff.1 h.ca).1, (Array.getElem?_eq_some_iff.1 h.cb).1, (Array.getElem?_eq_some_iff.1 h.cr).1⟩

/-- behind the choice: which binding it is, and what an answer by it is -/
structure Chose (w wx : World) (rb : Nat) (x : Bx) (v : Value) (now : Int) (L LL LLx : List Rb) (t : Int) (a b : A2) (k : Nat) (vx : Value) (d : Rb) : Prop where
  at_ : LLx[k]? = some d
  ra : Ra wx rb x t vx LLx
  kp : Keeps (fun k => k = rb ∨ v.ownBlock = some k) w wx
  ft : ∀ g, RFoot rb vx LLx g → RFoot rb v L g ∨ w.heap.size ≤ g
  ow : Own3 wx w.heap.size a b
  sb : ∀ d ∈ LLx, blockOf d.sv ≠ some (w.heap.size + 2)
  sn : d.b.seen.length ≤ 16
  fin : ∀ (d' : Rb) (w' : World), d'.b = outB x t b d.b → RStep w w' rb x v L t (LLx.set k d') → RoutAns w rb x v now L LL t a b (.returned (ansA (x.host, d.b.port) 0)) w'
theorem insRo_at {L : List Rb} {k : Nat} {d : Rb} (h : k ≤ L.length) : (insR L k d)[k]? = some d := by
  unfold insR
  rw [List.nil_append, List.append_assoc, List.getElem?_append_right (by rw [List.length_take]; omega), List.length_take, Nat.min_eq_left h, Nat.sub_self]
  rfl
theorem insR_mem {L : List Rb} {k : Nat} {d e : Rb} (h : e ∈ insR L k d) : e ∈ L ∨ e = d := by
  unfold insR at h
  rw [List.nil_append, List.append_assoc] at h
  rcases List.mem_append.1 h with h | h
  · exact .inl (List.mem_of_mem_take h)
  · rcases List.mem_append.1 h with h | h
    · exact .inr (by simpa using h)
    · exact .inl (List.mem_of_mem_drop h)
theorem wpList_append_ad {w : World} {ops : Array Oper} {rest : List Oper} {o : Oper} {a : Act} {Q : Exit → Act → World → Prop} (hgd : o.guard = none) (s x : Operand)
    (ho : o.op = .call { callee := .builtin .append, args := #[s, x], argTypes := #[56, 56] }) (base : Nat) (v : Value) (n : Nat) (l : List A2) (hs : a.eval s = v) (hown : w.ownsRow base 38 2 v n (cellsA l))
    (b : Nat) (y : A2) (hx : a.eval x = .slice (some ⟨b, 0, none⟩) 1 1) (hc : w.heap[b]? = some (.cells #[.int .u32 y.1, .int .i64 y.2] 38 (0, 0))) (hn : n ≤ 1000) (hbase : base ≤ w.heap.size)
    (h : ∀ v' w', w'.ownsRow base 38 2 v' (n + 1) (cellsA (l ++ [y])) → w.grownBy w' v.ownBlock → wpList Try.prog ops Q rest (a.put o.dst v') w') : wpList Try.prog ops Q (o :: rest) a w := by
  obtain ⟨i0, hi0, hz0, hz1, hz2⟩ := info_parts info38
  refine wpList_append_own w hgd s x 56 ho base 38 i0 _ 2 16 Try.underlying56 hi0 hz0 hz1 hz2 rfl (by decide) v n (cellsA l) hs hown ⟨b, 0, none⟩ 1 1 [.int .u32 y.1, .int .i64 y.2] hx rfl (fun j u hj => ?_) (fun u hu => ?_) (by unfold maxLen; omega) (by omega) hbase ?_
  · have e : (⟨b, 0, none⟩ : Addr).add j = ⟨b, j, none⟩ := by unfold Addr.add; split <;> simp_all
    rw [e, (cells_of hc j).1]
    simpa using hj
  · simp only [List.mem_cons, List.not_mem_nil, or_false] at hu
    rcases hu with rfl | rfl <;> rfl
  · intro v' w' h1 h2 _
    have e : cellsA l ++ [.int .u32 y.1, .int .i64 y.2] = cellsA (l ++ [y]) := by rw [cellsA_append]; rfl
    rw [e] at h1
    exact h v' w' h1 h2
/-- a row of the call's own reads as who is seen -/
theorem own_seen {w : World} {base : Nat} {v : Value} {l : List A2} (h : w.ownsRow base 38 2 v l.length (cellsA l)) : SeenAt w v l := by
  rcases h.2 with ⟨h1, h2⟩ | ⟨g, cap, cur, h1, _, h2, h3, h4, h5, h6⟩
  · exact ⟨none, 0, by rw [h1, h2], by omega, Nat.zero_le _, fun _ => ⟨h2, rfl⟩, fun ad h => by cases h⟩
  · refine ⟨some ⟨g, 0, none⟩, cap, h1, h3, h4, (by intro h; cases h), fun ad e => ?_⟩
    cases e
    refine ⟨g, 0, cur, rfl, h2, fun j y hj => ?_⟩
    rw [Nat.zero_add, ← Array.getElem?_toList]
    rw [← h6, List.getElem?_take] at hj
    split at hj
    · exact hj
    · cases hj
theorem cellsA_tail (l : List A2) (j : Nat) : (cellsA (l.drop 1))[j]? = (cellsA l)[2 + j]? ∨ l = [] := by
  cases l with
  | nil => exact .inr rfl
  | cons a l => exact .inl (by rw [List.drop_one, List.tail_cons, cellsA_cons, Nat.add_comm]; rfl)
/-- .. but the first -/
theorem own_seen1 {w : World} {base g c m : Nat} {l : List A2} (h : w.ownsRow base 38 2 (.slice (some ⟨g, 0, none⟩) (m + 1) c) l.length (cellsA l)) (hl : l.length = m + 1) : SeenAt w (.slice (some ⟨g, 2, none⟩) m (c - 1)) (l.drop 1) := by
  have hd : (l.drop 1).length = m := by rw [List.length_drop]; omega
  rcases h.2 with ⟨h1, _⟩ | ⟨g', cap, cur, h1, _, h2, h3, h4, h5, h6⟩
  · cases h1
  · simp only [Value.slice.injEq, Option.some.injEq, Addr.mk.injEq, and_true] at h1
    obtain ⟨rfl, -, rfl⟩ := h1
    refine ⟨some ⟨g, 2, none⟩, c - 1, by rw [hd], by omega, by omega, (by intro h; cases h), fun ad e => ?_⟩
    cases e
    refine ⟨g, 2, cur, rfl, h2, fun j y hj => ?_⟩
    rcases cellsA_tail l j with h7 | h7
    · rw [h7] at hj
      rw [← Array.getElem?_toList]
      rw [← h6, List.getElem?_take] at hj
      split at hj
      · exact hj
      · cases hj
    · rw [h7] at hl; simp at hl
theorem filt_take {l : List A2} {k : Nat} {y b : A2} (h : l[k]? = some y) : (l.take (k + 1)).filter (fun c => !decide (c = b)) = (l.take k).filter (fun c => !decide (c = b)) ++ (if y = b then [] else [y]) := by
  rw [List.take_add_one, h]
  simp only [Option.toList_some, List.filter_append]
  congr 1
  by_cases hy : y = b
  · simp [hy]
  · simp [hy]
theorem own_form38 {w : World} {base m : Nat} {v : Value} {xs : List Value} (h : w.ownsRow base 38 2 v (m + 1) xs) : ∃ g c, v = .slice (some ⟨g, 0, none⟩) (m + 1) c ∧ base ≤ g ∧ m + 1 ≤ c ∧ c ≤ maxLen ∧ g < w.heap.size := by
  rcases h.2 with ⟨h1, h2⟩ | ⟨g, cap, cur, h1, h0, h2, h3, h4, h5, h6⟩
  · omega
  · exact ⟨g, cap, h1, h0, h3, h4, (Array.getElem?_eq_some_iff.1 h2).1⟩
theorem drew_heap (W : World) (j : Nat) : W.drew.heap[j]? = W.heap[j]? := rfl
theorem drew_cell (W : World) (p : Addr) : W.drew.cell? p = W.cell? p := rfl
theorem filt_le (l : List A2) (b : A2) (k : Nat) : ((l.take k).filter (fun c => !decide (c = b))).length ≤ l.length := Nat.le_trans (List.length_filter_le _ _) (by rw [List.length_take]; omega)

theorem Own3.step {W W' : World} {rb g : Nat} {x : Bx} {now n1 : Int} {v : Value} {L L1 : List Rb} {a b : A2} (h : Own3 W g a b) (h0 : Ra W rb x now v L) (hs : RStep W W' rb x v L n1 L1) : Own3 W' g a b :=
  ⟨RStep.adr h0 hs h.ca, RStep.adr h0 hs h.cb, RStep.adr h0 hs h.cr⟩

set_option maxRecDepth 100000 in
set_option maxHeartbeats 8000000 in
theorem rout_any {w : World} {rb : Nat} {x : Bx} {now : Int} {v : Value} {L : List Rb} (h : Ra w rb x now v L) (t : Int) (a b : A2) (ha : isA a) (hb : isA b) (hL : L.length ≤ 100) (h1 : 1 ≤ x.lo) (h2 : x.hi ≤ 65535) (h3 : 1 ≤ x.life ∧ x.life ≤ 1099511627776) (h4 : -9223372036854775808 ≤ t) (h5 : ∀ d ∈ L, d.b.seen.length ≤ 16) :
    Calls Try.prog 18 #[.pointer (some ⟨rb, 0, none⟩), .int .i64 t, adr a, adr b] w (RoutAns w rb x v now L (liveR L t) t a b) := by
  have HMA := Lib.hid (fun W => may33 a W ha)
  have HMB := Lib.hid (fun W => may33 b W hb)
  have HRA := Lib.hid h
  have HX1 := Lib.hid h1; have HX2 := Lib.hid h2; have HX3 := Lib.hid h3; have HX4 := Lib.hid h4; have HX5 := Lib.hid h5
  have HSB : Hid (∀ d ∈ L, blockOf d.sv ≠ some (w.heap.size + 2)) := Lib.hid (fun d hd e => by have := ((h.nds d hd).lt e).1; omega)
  have HB : Hid (∀ C C' C'' : Obj, Below w.heap.size w (((w.alloc C).alloc C').alloc C'')) := Lib.hid (fun C C' C'' => (((Below.refl _ w).alloc (Nat.le_refl _) _).alloc (by simp) _).alloc (by simp; omega) _)
  obtain ⟨W0, hW0⟩ : ∃ W0, (((w.alloc (.cells #[.int .u32 a.1, .int .i64 a.2] 38)).alloc (.cells #[.int .u32 b.1, .int .i64 b.2] 38)).alloc (.cells #[.int .u32 0, .int .i64 0] 38)) = W0 := ⟨_, rfl⟩
  have HB0 : Hid (Below w.heap.size w W0) := Lib.hid (by rw [← hW0]; exact HB.out _ _ _)
  have HO0 : Hid (Own3 W0 w.heap.size a b) := Lib.hid (by
    rw [← hW0]
    have s1 : (w.alloc (.cells #[.int .u32 a.1, .int .i64 a.2] 38)).heap.size = w.heap.size + 1 := by simp
    have s2 : ((w.alloc (.cells #[.int .u32 a.1, .int .i64 a.2] 38)).alloc (.cells #[.int .u32 b.1, .int .i64 b.2] 38)).heap.size = w.heap.size + 2 := by simp
    refine ⟨?_, ?_, ?_⟩
    · rw [Below.heap_alloc _ _ _ (by simp; omega), Below.heap_alloc _ _ _ (by simp)]
      exact World.alloc_heap_new w _
    · rw [Below.heap_alloc _ _ _ (by simp)]
      have := World.alloc_heap_new (w.alloc (.cells #[.int .u32 a.1, .int .i64 a.2] 38)) (.cells #[.int .u32 b.1, .int .i64 b.2] 38)
      rwa [s1] at this
    · have := World.alloc_heap_new ((w.alloc (.cells #[.int .u32 a.1, .int .i64 a.2] 38)).alloc (.cells #[.int .u32 b.1, .int .i64 b.2] 38)) (.cells #[.int .u32 0, .int .i64 0] 38)
      rwa [s2] at this)
  -- an answer that leaves the box as it is
  have HEMP : Hid (∀ (W : World) (c : Int) (LL : List Rb) (tt : Int), RStep w W rb x v L tt LL → Own3 W w.heap.size a b → (∀ d ∈ LL, blockOf d.sv ≠ some (w.heap.size + 2)) → (put2 W (w.heap.size + 2) (0, 0)).cell? ⟨w.heap.size + 2, 0, none⟩ = some (.int .u32 0) ∧ (put2 W (w.heap.size + 2) (0, 0)).cell? ⟨w.heap.size + 2, 1, none⟩ = some (.int .i64 0) ∧ RStep w (put2 W (w.heap.size + 2) (0, 0)) rb x v L tt LL) := Lib.hid (fun W c LL tt hs ho hd => ⟨(put2_at ho.cr (0, 0)).1, (put2_at ho.cr (0, 0)).2, RStep.put2 hs _ _ (by omega) ho.cr hd⟩)
  unfold adr at HMA HMB ⊢
  clear h h1 h2 h3 h4 h5 ha hb HB
  obtain ⟨⟨a0, a1⟩, ⟨b0, b1⟩, ⟨r0, r1⟩, ⟨f0, f1⟩, g0, g1, g2⟩ := HO0.out.cells
  go_enter Try.func18, Try.ntmps18
  go_wp2_with fail
  try rw [hW0]
  clear hW0
  refine (HMA.out _).mono ?_
  rintro e w1 ⟨rfl, hb⟩
  have HB1 : Hid (Below w.heap.size w w1) := Lib.hid (HB0.out.trans (hb.mono HB0.out.size))
  have HO1 := Lib.hid (HO0.out.below hb)
  clear hb HMA HO0 HB0 a0 a1 b0 b1 r0 r1 f0 f1 g0 g1 g2
  cases hma : mayA a with
  | false =>
    have HMF := Lib.hid hma
    obtain ⟨⟨a0, a1⟩, ⟨b0, b1⟩, ⟨r0, r1⟩, ⟨f0, f1⟩, g0, g1, g2⟩ := HO1.out.cells
    obtain ⟨z0, z1, HFIN⟩ := HEMP.out _ 1 _ _ (RStep.same HRA.out HB1.out) HO1.out HSB.out
    clear hma
    go_wp2
    obtain ⟨w9, hw9⟩ : ∃ w9, put2 w1 (w.heap.size + 2) (0, 0) = w9 := ⟨_, rfl⟩
    rw [hw9] at z0 z1 HFIN
    unfold put2 at hw9
    dsimp only at hw9
    rw [hw9]
    exact ⟨rfl, ansA (0, 0) 1, by simp [results, Try.results18, go_sem, z0, z1, ansA, adr], Or.inl ⟨by simp [HMF.out], rfl, HFIN⟩⟩
  | true =>
    have HMF := Lib.hid hma
    clear hma
    obtain ⟨⟨a0, a1⟩, ⟨b0, b1⟩, ⟨r0, r1⟩, ⟨f0, f1⟩, g0, g1, g2⟩ := HO1.out.cells
    go_wp2_with fail
    refine (HMB.out _).mono ?_
    rintro e w2 ⟨rfl, hb⟩
    have HB2 : Hid (Below w.heap.size w w2) := Lib.hid (HB1.out.trans (hb.mono HB1.out.size))
    have HO2 := Lib.hid (HO1.out.below hb)
    clear hb HMB HO1 HB1 a0 a1 b0 b1 r0 r1 f0 f1 g0 g1 g2
    cases hmb : mayA b with
    | false =>
      have HMG := Lib.hid hmb
      clear hmb
      obtain ⟨⟨a0, a1⟩, ⟨b0, b1⟩, ⟨r0, r1⟩, ⟨f0, f1⟩, g0, g1, g2⟩ := HO2.out.cells
      obtain ⟨z0, z1, HFIN⟩ := HEMP.out _ 1 _ _ (RStep.same HRA.out HB2.out) HO2.out HSB.out
      go_wp2
      obtain ⟨w9, hw9⟩ : ∃ w9, put2 w2 (w.heap.size + 2) (0, 0) = w9 := ⟨_, rfl⟩
      rw [hw9] at z0 z1 HFIN
      unfold put2 at hw9
      dsimp only at hw9
      rw [hw9]
      exact ⟨rfl, ansA (0, 0) 1, by simp [results, Try.results18, go_sem, z0, z1, ansA, adr], Or.inl ⟨by simp [HMG.out], rfl, HFIN⟩⟩
    | true =>
      have HMG := Lib.hid hmb
      clear hmb
      have HR2 := Lib.hid (HRA.out.below HB2.out)
      cases hgo : goes now t with
      | false =>
        have HGO := Lib.hid hgo
        have HC := Lib.hid (on_no HR2.out t hgo)
        clear hgo
        go_wp2_with fail
        refine HC.out.mono ?_
        rintro e w3 ⟨rfl, rfl⟩
        obtain ⟨⟨a0, a1⟩, ⟨b0, b1⟩, ⟨r0, r1⟩, ⟨f0, f1⟩, g0, g1, g2⟩ := HO2.out.cells
        obtain ⟨z0, z1, HFIN⟩ := HEMP.out _ 1 _ _ (RStep.same HRA.out HB2.out) HO2.out HSB.out
        go_wp2
        obtain ⟨w9, hw9⟩ : ∃ w9, put2 w2 (w.heap.size + 2) (0, 0) = w9 := ⟨_, rfl⟩
        rw [hw9] at z0 z1 HFIN
        unfold put2 at hw9
        dsimp only at hw9
        rw [hw9]
        exact ⟨rfl, ansA (0, 0) 1, by simp [results, Try.results18, go_sem, z0, z1, ansA, adr], Or.inl ⟨by simp [HGO.out], rfl, HFIN⟩⟩
      | true =>
        have HGO := Lib.hid hgo
        have HOK : Hid (mayA a = true ∧ mayA b = true ∧ goes now t = true) := Lib.hid ⟨HMF.out, HMG.out, hgo⟩
        have HC := Lib.hid (on_yes HR2.out t hgo hL)
        clear hgo
        go_wp2_with fail
        refine HC.out.mono ?_
        rintro e w3 ⟨rfl, v', hr3, hv', hk3⟩
        have hlt := HRA.out.lt
        have HO3 : Hid (Own3 w3 w.heap.size a b) := Lib.hid (HO2.out.kept (fun j h1 h2 => hk3.block j (by have := (Array.getElem?_eq_some_iff.1 HO2.out.cr).1; omega) (by omega)))
        have HST : Hid (∀ w', Below w3.heap.size w3 w' → RStep w w' rb x v L t (liveR L t)) := Lib.hid (fun w' hb => RStep.on HRA.out HB2.out hr3 hv' hk3 hb)
        have HR3 := Lib.hid hr3
        have HLE : Hid ((liveR L t).length ≤ 100) := Lib.hid (Nat.le_trans (List.length_filter_le _ _) hL)
        have HSB2 : Hid (∀ d ∈ liveR L t, blockOf d.sv ≠ some (w.heap.size + 2)) := Lib.hid (fun d hd => HSB.out d (List.mem_filter.1 hd).1)
        have HSN : Hid (∀ d ∈ liveR L t, d.b.seen.length ≤ 16) := Lib.hid (fun d hd => HX5.out d (List.mem_filter.1 hd).1)
        clear hr3 hv' hk3 HC HR2 HO2
        obtain ⟨LL, hLL⟩ : ∃ LL, liveR L t = LL := ⟨_, rfl⟩
        rw [hLL] at HST HR3 HLE HSB2 HSN
        have HLL := Lib.hid hLL
        clear hLL
        have HF := Lib.hid (find_any HR3.out a true b)
        unfold adr at HF
        obtain ⟨⟨a0, a1⟩, ⟨b0, b1⟩, ⟨r0, r1⟩, ⟨f0, f1⟩, g0, g1, g2⟩ := HO3.out.cells
        go_wp2_with fail
        refine HF.out.mono ?_
        rintro e w4 ⟨⟨r, rfl, hfr⟩, hb4⟩
        have HR4 := Lib.hid (HR3.out.below hb4)
        have HST4 : Hid (∀ w', Below w4.heap.size w4 w' → RStep w w' rb x v L t LL) := Lib.hid (fun w' hb => (HST.out _ hb4).more hb)
        have HO4 := Lib.hid (HO3.out.below hb4)
        clear HF HO3 hb4 HST HR3 a0 a1 b0 b1 r0 r1 f0 f1 g0 g1 g2
        have HFR := Lib.hid hfr
        clear hfr
        have HK := Lib.hid (fun W (hb : Below w4.heap.size w4 W) => key_any (HR4.out.below hb) b)
        have HF2 := Lib.hid (fun W (hb : Below w4.heap.size w4 W) => find_any (HR4.out.below hb) a false (partA b x.map))
        unfold adr at HK HF2
        go_upto_if 34 with (fail)
        go_cut [10] from 33 to 40 (fun u wx => ∃ r : Int, u = .int .i64 r ∧ Hid ((∃ (k : Nat) (d : Rb), r = (k : Int) ∧ ServR x LL a b k d) ∨ (r = -1 ∧ NoneR x LL a b)) ∧ Hid (Below w4.heap.size w4 wx))
        case first =>
          rcases HFR.out with ⟨k, d, hd, hp, hmin, rfl⟩ | ⟨hno, rfl⟩
          · go_wp2_with fail
            go_meet
            exact ⟨_, rfl, Lib.hid (.inl ⟨k, d, rfl, hd, .inl ⟨hp, hmin⟩⟩), Lib.hid (Below.refl _ _)⟩
          · have HNO := Lib.hid hno
            clear hno
            go_wp2_with fail
            refine wp_region_held_drew (S := fun W => Own3 W w.heap.size a b) (by kernel_rfl) (HO4.out.kept (fun _ _ _ => rfl)) (fun hHeld => ?_)
            refine wpAnyH_take (i := 0) (oi := _) (v := ?_) rfl (by kernel_rfl) (by kernel_rfl) (by kernel_rfl) (fun _ _ _ h => h) (Or.inl ⟨by rfl, ?_⟩) (by assumption) ?_
            case refine_2 => intro w hSw; (try dsimp only at hSw); have hcs := Own3.cells hSw; obtain ⟨⟨q0, q1⟩, ⟨q2, q3⟩, -, -, q4, q5, -⟩ := hcs; clear hSw; go_simp; first | done | (with_reducible rfl)
            try simp only [Act.put, List.getElem_toArray, List.getElem_cons_zero, List.setIfInBounds_toArray, List.set_cons_zero, List.set_cons_succ]
            refine wpAnyH_take (i := 1) (oi := _) (v := ?_) rfl (by kernel_rfl) (by kernel_rfl) (by kernel_rfl) (fun _ _ _ h => h) (Or.inl ⟨by rfl, ?_⟩) (by assumption) ?_
            case refine_2 => intro w hSw; (try dsimp only at hSw); have hcs := Own3.cells hSw; obtain ⟨⟨q0, q1⟩, ⟨q2, q3⟩, -, -, q4, q5, -⟩ := hcs; clear hSw; go_simp; first | done | (with_reducible rfl)
            try simp only [Act.put, List.getElem_toArray, List.getElem_cons_zero, List.getElem_cons_succ, List.setIfInBounds_toArray, List.set_cons_zero, List.set_cons_succ]
            refine wpAnyH_take (i := 2) (oi := _) (v := ?_) rfl (by kernel_rfl) (by kernel_rfl) (by kernel_rfl) (fun _ _ _ h => h) (Or.inl ⟨by rfl, ?_⟩) (by assumption) ?_
            case refine_2 => intro w hSw; (try dsimp only at hSw); have hcs := Own3.cells hSw; obtain ⟨⟨q0, q1⟩, ⟨q2, q3⟩, -, -, q4, q5, -⟩ := hcs; clear hSw; go_simp; first | done | (with_reducible rfl)
            try simp only [Act.put, List.getElem_toArray, List.getElem_cons_zero, List.getElem_cons_succ, List.setIfInBounds_toArray, List.set_cons_zero, List.set_cons_succ]
            refine wpAnyH_take (i := 3) (oi := _) (v := ?_) rfl (by kernel_rfl) (by kernel_rfl) (by kernel_rfl) (fun _ _ _ h => h) (Or.inl ⟨by rfl, ?_⟩) (by assumption) ?_
            case refine_2 => intro w hSw; (try dsimp only at hSw); have hcs := Own3.cells hSw; obtain ⟨⟨q0, q1⟩, ⟨q2, q3⟩, -, -, q4, q5, -⟩ := hcs; clear hSw; go_simp; first | done | (with_reducible rfl)
            try simp only [Act.put, List.getElem_toArray, List.getElem_cons_zero, List.getElem_cons_succ, List.setIfInBounds_toArray, List.set_cons_zero, List.set_cons_succ]
            refine wpAnyH_ready (rs := [4]) (by kernel_rfl) (by simp) ?_
            refine AllReadyH.cons rfl (fun K hK => ?_) AllReadyH.nil
            go_simp
            go_at_call 49
            refine (HK.out _ (below_drw (Below.refl _ w4) 1)).mono ?_
            rintro e w5 ⟨rfl, hb5⟩
            have HB5 := Lib.hid ((below_drw (Below.refl _ w4) 1).trans hb5)
            clear hb5
            refine hK.out _ _ (HO4.out.below HB5.out) (fun hHeld => ?_)
            clear hK K
            try simp only [Act.put, List.getElem_toArray, List.getElem_cons_zero, List.getElem_cons_succ, List.setIfInBounds_toArray, List.set_cons_zero, List.set_cons_succ]
            refine wpAnyH_ready (rs := [5]) (by kernel_rfl) (by simp) ?_
            refine AllReadyH.cons rfl (fun K hK => ?_) AllReadyH.nil
            go_simp
            go_at_call 48
            refine (HF2.out _ HB5.out).mono ?_
            rintro e w6 ⟨⟨r2, rfl, hfr2⟩, hb6⟩
            have HB6 := Lib.hid (HB5.out.trans (hb6.mono HB5.out.size))
            have HFR2 := Lib.hid hfr2
            clear hb6 hfr2
            refine hK.out _ _ (HO4.out.below HB6.out) (fun hHeld => ?_)
            clear hK K
            try simp only [Act.put, List.getElem_toArray, List.getElem_cons_zero, List.getElem_cons_succ, List.setIfInBounds_toArray, List.set_cons_zero, List.set_cons_succ]
            refine wpAnyH_take (i := 6) (oi := _) (v := ?_) rfl (by kernel_rfl) (by kernel_rfl) (by kernel_rfl) (fun _ _ _ h => h) (Or.inl ⟨by rfl, ?_⟩) (by assumption) ?_
            case refine_2 => intro w hSw; (try dsimp only at hSw); have hcs := Own3.cells hSw; obtain ⟨⟨q0, q1⟩, ⟨q2, q3⟩, -, -, q4, q5, -⟩ := hcs; clear hSw; go_simp; first | done | (with_reducible rfl)
            try simp only [Act.put, List.getElem_toArray, List.getElem_cons_zero, List.getElem_cons_succ, List.setIfInBounds_toArray, List.set_cons_zero, List.set_cons_succ]
            refine wpAnyH_done (by kernel_rfl) ?_ _
            go_wp2_with fail
            go_meet
            rcases HFR2.out with ⟨k, d, hd, hp, hmin, rfl⟩ | ⟨hno2, rfl⟩
            · exact ⟨_, rfl, Lib.hid (.inl ⟨k, d, rfl, hd, .inr ⟨HNO.out, hp, hmin⟩⟩), HB6⟩
            · exact ⟨_, rfl, Lib.hid (.inr ⟨rfl, HNO.out, hno2⟩), HB6⟩
        case rest =>
        obtain ⟨r, rfl, HR1, HBc⟩ := hcut
        have HO5 := Lib.hid (HO4.out.below HBc.out)
        clear HFR HF2
        go_upto_if 42 with (fail)
        go_cut [10] from 41 to 51 (fun u wx => (u = .int .i64 (-1) ∧ Hid (NoneR x LL a b ∧ (x.most ≤ (LL.length : Int) ∨ NoPort x (LL.map Rb.b) a.2)) ∧ Hid (RStep w wx rb x v L t LL) ∧ Hid (Own3 wx w.heap.size a b)) ∨ ∃ (k : Nat) (LLx : List Rb) (vx : Value) (d : Rb), u = .int .i64 (k : Int) ∧ Hid (Chose w wx rb x v now L LL LLx t a b k vx d))
        case first =>
          rcases HR1.out with ⟨k, d, rfl, hs⟩ | ⟨rfl, hn⟩
          · go_wp2_with fail
            go_meet
            obtain ⟨v5, a1, a2, a3⟩ := HST4.out _ HBc.out
            exact .inr ⟨k, LL, v5, d, rfl, Lib.hid ⟨hs.1, a1, a2, a3, HO5.out, HSB2.out, HSN.out d (List.mem_of_getElem? hs.1), fun d' w' hd hst => Or.inr ⟨HOK.out, Or.inl ⟨k, d, d', hs, hd, rfl, hst⟩⟩⟩⟩
          · have HNN := Lib.hid hn
            clear hn
            go_wp2_with fail
            refine wp_region_held_drew (S := fun W => Own3 W w.heap.size a b) (by kernel_rfl) (HO5.out.kept (fun _ _ _ => rfl)) (fun hHeld => ?_)
            refine wpAnyH_take (i := 0) (oi := _) (v := ?_) rfl (by kernel_rfl) (by kernel_rfl) (by kernel_rfl) (fun _ _ _ h => h) (Or.inl ⟨by rfl, ?_⟩) (by assumption) ?_
            case refine_2 => intro w hSw; (try dsimp only at hSw); have hcs := Own3.cells hSw; obtain ⟨⟨q0, q1⟩, ⟨q2, q3⟩, -, -, q4, q5, -⟩ := hcs; clear hSw; go_simp; first | done | (with_reducible rfl)
            try simp only [Act.put, List.getElem_toArray, List.getElem_cons_zero, List.setIfInBounds_toArray, List.set_cons_zero, List.set_cons_succ]
            refine wpAnyH_take (i := 1) (oi := _) (v := ?_) rfl (by kernel_rfl) (by kernel_rfl) (by kernel_rfl) (fun _ _ _ h => h) (Or.inl ⟨by rfl, ?_⟩) (by assumption) ?_
            case refine_2 => intro w hSw; (try dsimp only at hSw); have hcs := Own3.cells hSw; obtain ⟨⟨q0, q1⟩, ⟨q2, q3⟩, -, -, q4, q5, -⟩ := hcs; clear hSw; go_simp; first | done | (with_reducible rfl)
            try simp only [Act.put, List.getElem_toArray, List.getElem_cons_zero, List.getElem_cons_succ, List.setIfInBounds_toArray, List.set_cons_zero, List.set_cons_succ]
            refine wpAnyH_take (i := 2) (oi := _) (v := ?_) rfl (by kernel_rfl) (by kernel_rfl) (by kernel_rfl) (fun _ _ _ h => h) (Or.inl ⟨by rfl, ?_⟩) (by assumption) ?_
            case refine_2 => intro w hSw; (try dsimp only at hSw); have hcs := Own3.cells hSw; obtain ⟨⟨q0, q1⟩, ⟨q2, q3⟩, -, -, q4, q5, -⟩ := hcs; clear hSw; go_simp; first | done | (with_reducible rfl)
            try simp only [Act.put, List.getElem_toArray, List.getElem_cons_zero, List.getElem_cons_succ, List.setIfInBounds_toArray, List.set_cons_zero, List.set_cons_succ]
            refine wpAnyH_take (i := 3) (oi := _) (v := ?_) rfl (by kernel_rfl) (by kernel_rfl) (by kernel_rfl) (fun _ _ _ h => h) (Or.inl ⟨by rfl, ?_⟩) (by assumption) ?_
            case refine_2 => intro w hSw; (try dsimp only at hSw); have hcs := Own3.cells hSw; obtain ⟨⟨q0, q1⟩, ⟨q2, q3⟩, -, -, q4, q5, -⟩ := hcs; clear hSw; go_simp; first | done | (with_reducible rfl)
            try simp only [Act.put, List.getElem_toArray, List.getElem_cons_zero, List.getElem_cons_succ, List.setIfInBounds_toArray, List.set_cons_zero, List.set_cons_succ]
            refine wpAnyH_take (i := 6) (oi := _) (v := ?_) rfl (by kernel_rfl) (by kernel_rfl) (by kernel_rfl) (fun _ _ _ h => h) (Or.inl ⟨by rfl, ?_⟩) (by assumption) ?_
            case refine_2 => intro w hSw; (try dsimp only at hSw); have hcs := Own3.cells hSw; obtain ⟨⟨q0, q1⟩, ⟨q2, q3⟩, -, -, q4, q5, -⟩ := hcs; clear hSw; go_simp; first | done | (with_reducible rfl)
            try simp only [Act.put, List.getElem_toArray, List.getElem_cons_zero, List.getElem_cons_succ, List.setIfInBounds_toArray, List.set_cons_zero, List.set_cons_succ]
            refine wpAnyH_take (i := 7) (oi := _) (v := ?_) rfl (by kernel_rfl) (by kernel_rfl) (by kernel_rfl) (fun _ _ _ h => h) (Or.inl ⟨by rfl, ?_⟩) (by assumption) ?_
            case refine_2 => intro w hSw; (try dsimp only at hSw); have hcs := Own3.cells hSw; obtain ⟨⟨q0, q1⟩, ⟨q2, q3⟩, -, -, q4, q5, -⟩ := hcs; clear hSw; go_simp; first | done | (with_reducible rfl)
            try simp only [Act.put, List.getElem_toArray, List.getElem_cons_zero, List.getElem_cons_succ, List.setIfInBounds_toArray, List.set_cons_zero, List.set_cons_succ]
            refine wpAnyH_ready (rs := [4]) (by kernel_rfl) (by simp) ?_
            refine AllReadyH.cons rfl (fun K hK => ?_) AllReadyH.nil
            go_simp
            go_at_call 49
            refine (HK.out _ (HBc.out.trans ((below_drw (Below.refl _ wc) 1).mono HBc.out.size))).mono ?_
            rintro e w5 ⟨rfl, hb5⟩
            have HB5 := Lib.hid ((HBc.out.trans ((below_drw (Below.refl _ wc) 1).mono HBc.out.size)).trans (hb5.mono HBc.out.size))
            clear hb5
            obtain ⟨v5, a1, a2, a3⟩ := HST4.out _ HB5.out
            have HA5 := Lib.hid a1
            have HK5 := Lib.hid a2
            have HF5 := Lib.hid a3
            clear a1 a2 a3
            refine hK.out _ _ (HO4.out.below HB5.out) (fun hHeld => ?_)
            clear hK K
            try simp only [Act.put, List.getElem_toArray, List.getElem_cons_zero, List.getElem_cons_succ, List.setIfInBounds_toArray, List.set_cons_zero, List.set_cons_succ]
            refine wpAnyH_take (i := 5) (oi := _) (v := ?_) rfl (by kernel_rfl) (by kernel_rfl) (by kernel_rfl) (fun _ _ _ h => h) (Or.inl ⟨by rfl, ?_⟩) (by assumption) ?_
            case refine_2 => intro w hSw; (try dsimp only at hSw); have hcs := Own3.cells hSw; obtain ⟨⟨q0, q1⟩, ⟨q2, q3⟩, -, -, q4, q5, -⟩ := hcs; clear hSw; go_simp; first | done | (with_reducible rfl)
            try simp only [Act.put, List.getElem_toArray, List.getElem_cons_zero, List.getElem_cons_succ, List.setIfInBounds_toArray, List.set_cons_zero, List.set_cons_succ]
            refine wpAnyH_ready (rs := [8]) (by kernel_rfl) (by simp) ?_
            refine AllReadyH.cons rfl (fun K hK => ?_) AllReadyH.nil
            go_simp
            go_at_call 50
            refine (rput_any (now := t) (RStep.same HA5.out (Below.refl _ _)) HA5.out a (partA b x.map) false a.2 HLE.out HX1.out HX2.out).mono ?_
            intro e w6 hans
            have HANS := Lib.hid hans
            clear hans
            obtain ⟨u6, he6⟩ : ∃ u6, e = .returned (.int .i64 u6) := (by rcases HANS.out with ⟨_, h, _⟩ | ⟨p, k, _, _, _, h, _⟩ <;> exact ⟨_, h⟩)
            subst he6
            have HO6 : Hid (Own3 w6 w.heap.size a b) := Lib.hid (by rcases HANS.out with ⟨_, _, h⟩ | ⟨p, k, _, _, _, _, h⟩; exact (HO4.out.below HB5.out).below h; exact (HO4.out.below HB5.out).step HA5.out h)
            refine hK.out _ _ HO6.out (fun hHeld => ?_)
            clear hK K
            try simp only [Act.put, List.getElem_toArray, List.getElem_cons_zero, List.getElem_cons_succ, List.setIfInBounds_toArray, List.set_cons_zero, List.set_cons_succ]
            refine wpAnyH_take (i := 9) (oi := _) (v := ?_) rfl (by kernel_rfl) (by kernel_rfl) (by kernel_rfl) (fun _ _ _ h => h) (Or.inl ⟨by rfl, ?_⟩) (by assumption) ?_
            case refine_2 => intro w hSw; (try dsimp only at hSw); have hcs := Own3.cells hSw; obtain ⟨⟨q0, q1⟩, ⟨q2, q3⟩, -, -, q4, q5, -⟩ := hcs; clear hSw; go_simp; first | done | (with_reducible rfl)
            try simp only [Act.put, List.getElem_toArray, List.getElem_cons_zero, List.getElem_cons_succ, List.setIfInBounds_toArray, List.set_cons_zero, List.set_cons_succ]
            refine wpAnyH_done (by kernel_rfl) ?_ _
            go_wp2_with fail
            go_meet
            rcases HANS.out with ⟨h1, h2, h3⟩ | ⟨p, k, h1, h2, h3, h4, h5⟩
            · cases h2
              exact .inl ⟨rfl, Lib.hid ⟨HNN.out, h1⟩, Lib.hid ((HST4.out _ HB5.out).more h3), HO6⟩
            · cases h4
              obtain ⟨v6, b1, b2, b3⟩ := RStep.trans HRA.out HA5.out HK5.out HF5.out h5
              refine .inr ⟨k, _, v6, newR a (partA b x.map) false p, rfl, Lib.hid ⟨insRo_at h3.1, b1, b2, b3, HO6.out, fun d hd => ?_, Nat.zero_le _, fun d' w' hd hst => Or.inr ⟨HOK.out, Or.inr (Or.inr ⟨HNN.out, p, k, d', h1, h2, h3, hd, rfl, hst⟩)⟩⟩⟩
              rcases insR_mem hd with h | rfl
              · exact HSB2.out d h
              · intro h; cases h
        case rest =>
        rcases hcut with ⟨rfl, HFU, HSF, HO7⟩ | ⟨k, LLx, vx, d, rfl, HCH⟩
        · obtain ⟨⟨a0, a1⟩, ⟨b0, b1⟩, ⟨r0, r1⟩, ⟨f0, f1⟩, g0, g1, g2⟩ := HO7.out.cells
          obtain ⟨z0, z1, HFIN⟩ := HEMP.out _ 1 _ _ HSF.out HO7.out HSB2.out
          go_wp2
          obtain ⟨w9, hw9⟩ : ∃ w9, put2 wc (w.heap.size + 2) (0, 0) = w9 := ⟨_, rfl⟩
          rw [hw9] at z0 z1 HFIN
          unfold put2 at hw9
          dsimp only at hw9
          rw [hw9]
          exact ⟨rfl, ansA (0, 0) 10, by simp [results, Try.results18, go_sem, z0, z1, ansA, adr], Or.inr ⟨HOK.out, Or.inr (Or.inl ⟨by rw [HLL.out]; exact HFU.out.1, by rw [HLL.out]; exact HFU.out.2, rfl, by rw [HLL.out]; exact HFIN⟩)⟩⟩
        · generalize wc = wm at *
          have HOW := Lib.hid HCH.out.ow
          have HRW := Lib.hid HCH.out.ra
          have HNM : Hid (d.b.seen.length ≤ 16) := Lib.hid HCH.out.sn
          obtain ⟨gr, cr, erow, hlc, hcm, hat, hfz, hgl⟩ := HRW.out.at HCH.out.at_
          subst erow
          have HKL := Lib.hid (List.getElem?_eq_some_iff.1 HCH.out.at_).1
          have hmem := List.mem_of_getElem? HCH.out.at_
          obtain ⟨Av, cv, esv, _⟩ := HRW.out.nds d hmem
          have HSV := Lib.hid (HRW.out.nds d hmem)
          rw [esv] at HSV
          obtain ⟨ak, hak⟩ : ∃ q, d.b.asked = q := ⟨_, rfl⟩
          have HAK := Lib.hid hak
          have e0 : wm.cell? ⟨gr, k * 8, none⟩ = some (.int .u32 d.b.inn.1) := hat 0 (by omega)
          have e1 : wm.cell? ⟨gr, k * 8 + 1, none⟩ = some (.int .i64 d.b.inn.2) := hat 1 (by omega)
          have e2 : wm.cell? ⟨gr, k * 8 + 2, none⟩ = some (.int .u32 d.b.to.1) := hat 2 (by omega)
          have e3 : wm.cell? ⟨gr, k * 8 + 3, none⟩ = some (.int .i64 d.b.to.2) := hat 3 (by omega)
          have e4 : wm.cell? ⟨gr, k * 8 + 4, none⟩ = some (.int .i64 d.b.port) := hat 4 (by omega)
          have e5 : wm.cell? ⟨gr, k * 8 + 5, none⟩ = some (.int .i64 d.b.until_) := hat 5 (by omega)
          have e6 : wm.cell? ⟨gr, k * 8 + 6, none⟩ = some (.bool ak) := by rw [← hak]; exact hat 6 (by omega)
          obtain ⟨n, hn⟩ : ∃ n, d.b.seen.length = n := ⟨_, rfl⟩
          have HN := Lib.hid hn
          rw [hn] at HSV esv
          have e7 : wm.cell? ⟨gr, k * 8 + 7, none⟩ = some (.slice Av n cv) := by rw [← esv]; exact hat 7 (by omega)
          obtain ⟨⟨-, -, -, -, -, tx5, -⟩, tx7, -, -⟩ := HRW.out.cells
          have hkl : (k : Int) < (LLx.length : Int) := by have := HKL.out; omega
          have hrl := HRW.out.lt
          have htl := HX3.out
          have htb := HX4.out
          have htg : t ≤ 1099511627776 := by have := HGO.out; unfold goes at this; simp at this; omega
          clear hat hfz esv hak hn hmem
          go_upto_if 65 with (fail)
          go_cut [] from 55 to 80 (fun wx => ∃ U : Int, Hid (U = (if ak = true then d.b.until_ else if 1099511627776 < t + x.life then 1099511627776 else t + x.life)) ∧ Hid (wx.heap[wm.heap.size]? = some (.cells #[.int .u32 d.b.inn.1, .int .i64 d.b.inn.2, .int .u32 d.b.to.1, .int .i64 d.b.to.2, .int .i64 d.b.port, .int .i64 U, .bool ak, .slice Av n cv] 104 (0, 0))) ∧ Hid (Below wm.heap.size wm wx))
          case first =>
            cases ak with
            | true =>
              go_wp2_with fail
              go_meet
              exact ⟨_, Lib.hid rfl, Lib.hid (World.alloc_heap_new wm _), Lib.hid ((Below.refl _ wm).alloc (Nat.le_refl _) _)⟩
            | false =>
              by_cases hc : 1099511627776 < t + x.life
              · have t1 : decide (1099511627776 < t + x.life) = true := decide_eq_true hc
                go_wp2_with fail
                go_meet
                exact ⟨_, Lib.hid (by rw [if_neg (by simp), if_pos (by omega)]), Lib.hid (World.alloc_heap_new wm _), Lib.hid ((Below.refl _ wm).alloc (Nat.le_refl _) _)⟩
              · have t1 : decide (1099511627776 < t + x.life) = false := decide_eq_false hc
                go_wp2_with fail
                go_meet
                exact ⟨_, Lib.hid (by rw [if_neg (by simp), if_neg (by omega)]), Lib.hid (World.alloc_heap_new wm _), Lib.hid ((Below.refl _ wm).alloc (Nat.le_refl _) _)⟩
          case rest =>
          obtain ⟨U, HU, HBK, HBD⟩ := hcut
          generalize wc = wd at *
          clear e0 e1 e2 e3 e4 e5 e6 e7 tx5 tx7 hkl hrl htl htb htg
          have HSD : Hid (SeenAt wd (.slice Av n cv) d.b.seen) := Lib.hid (HSV.out.kept (fun j hj => HBD.out.block j (HSV.out.lt hj).1))
          have HOd := Lib.hid (HOW.out.below HBD.out)
          have hn16 : n ≤ 16 := by have := HN.out; have := HNM.out; omega
          have HLB : Hid (wm.heap.size < wd.heap.size) := Lib.hid (Array.getElem?_eq_some_iff.1 HBK.out).1
          go_wp2
          go_loopw [13, 12] (fun i u wr => ∃ j : Nat, j ≤ n ∧ i = .int .i64 (j : Int) ∧ Hid (wr.ownsRow wd.heap.size 38 2 u ((d.b.seen.take j).filter (fun c => !decide (c = b))).length (cellsA ((d.b.seen.take j).filter (fun c => !decide (c = b))))) ∧ Hid (Below wd.heap.size wd wr)) (fun i _ _ => n - (intOf i).toNat)
          case atStart => exact ⟨0, by omega, rfl, Lib.hid (World.ownsRow_nil _ _ _ _), Lib.hid (Below.refl _ _)⟩
          case round =>
            obtain ⟨j, hj, rfl, HO, HB⟩ := hrel
            have hbk := (HB.out.block wm.heap.size HLB.out).trans HBK.out
            have c7 : _root_.Go.World.cell? wr ⟨wm.heap.size, 7, none⟩ = some (.slice Av n cv) := (cells_of hbk 7).1
            have hlt : wm.heap.size < wr.heap.size := (Array.getElem?_eq_some_iff.1 hbk).1
            have HBKr := Lib.hid hbk
            clear hbk
            by_cases hjn : j < n
            · obtain ⟨y, hy⟩ : ∃ y, d.b.seen[j]? = some y := ⟨_, List.getElem?_eq_getElem (by have := HN.out; omega)⟩
              obtain ⟨bs, off, cs', es', _, _, hbs, s0, s1⟩ := seen_at (HSD.out.kept (fun i hi => HB.out.block i (HSD.out.lt hi).1)) hy
              rw [HN.out] at es'
              cases es'
              obtain ⟨-, ⟨p0, p1⟩, -, -, -, hg1, -⟩ := (HOd.out.below HB.out).cells
              have HFT := Lib.hid (filt_take (b := b) hy)
              have hq := fun W => neq_adr y b W
              clear hy
              by_cases hyb : y = b
              · rw [decide_eq_true hyb] at hq
                rw [if_pos hyb, List.append_nil] at HFT
                clear hyb
                simp only [Bool.not_true] at hq
                go_wp2
                go_quiet (fail)
                go_wp2
                go_roundw
                case rel => exact ⟨j + 1, by omega, by go_num, by rw [HFT.out]; exact HO, Lib.hid (below_drw HB.out _)⟩
                case measure => simp [intOf]; omega
              · rw [decide_eq_false hyb] at hq
                rw [if_neg hyb] at HFT
                clear hyb
                simp only [Bool.not_false] at hq
                go_wp2
                go_quiet (fail)
                obtain ⟨wq, hwq⟩ : ∃ W, wr.drewN nq = W := ⟨_, rfl⟩
                rw [hwq]
                have HOq : Hid (wq.ownsRow wd.heap.size 38 2 _ ((d.b.seen.take j).filter (fun c => !decide (c = b))).length (cellsA ((d.b.seen.take j).filter (fun c => !decide (c = b))))) := Lib.hid (by rw [← hwq]; exact HO.out)
                have HBq : Hid (Below wd.heap.size wd wq) := Lib.hid (by rw [← hwq]; exact below_drw HB.out nq)
                have z7 : wq.cell? ⟨wm.heap.size, 7, none⟩ = some (.slice (some ⟨bs, off, none⟩) n cv) := by rw [← hwq]; exact c7
                have z0 : wq.cell? ⟨bs, off + j * 2, none⟩ = some (.int .u32 y.1) := by rw [← hwq]; exact s0
                have z1 : wq.cell? ⟨bs, off + j * 2 + 1, none⟩ = some (.int .i64 y.2) := by rw [← hwq]; exact s1
                have zl : wm.heap.size < wq.heap.size := by rw [← hwq]; exact hlt
                have zb : bs < wq.heap.size := by rw [← hwq]; exact hbs
                clear hwq hq c7 s0 s1 p0 p1 hg1 hlt hbs HO HB
                have HAL := Lib.hid (HOq.out.alloc (.cells #[.int .u32 y.1, .int .i64 y.2] 38))
                have HAN := Lib.hid (World.alloc_heap_new wq (.cells #[.int .u32 y.1, .int .i64 y.2] 38))
                have HAS : Hid (wd.heap.size ≤ (wq.alloc (.cells #[.int .u32 y.1, .int .i64 y.2] 38)).heap.size) := Lib.hid (by have := HBq.out.size; simp; omega)
                have HAB := Lib.hid (HBq.out.alloc HBq.out.size (.cells #[.int .u32 y.1, .int .i64 y.2] 38))
                have HAM : Hid (((d.b.seen.take j).filter (fun c => !decide (c = b))).length ≤ 1000) := Lib.hid (Nat.le_trans (filt_le _ _ _) (by have := HN.out; have := HNM.out; omega))
                go_wp2_with (at_builtin; refine wpList_append_ad rfl (.tmp 95) (.tmp 101) rfl wd.heap.size _ _ _ rfl HAL.out wq.heap.size y rfl HAN.out HAM.out HAS.out ?_; intro v5 w5 ho5 hg5; have HO5 := Lib.hid ho5; have HB5 : Hid (Below wd.heap.size wd w5) := Lib.hid (HAB.out.trans ((Below.refl _ _).grown hg5 HAS.out (fun g' h' => (HAL.out.lt g' h').1))); clear ho5 hg5)
                go_roundw
                case rel => exact ⟨j + 1, by omega, by go_num, by rw [HFT.out, List.length_append]; exact HO5, HB5⟩
                case measure => simp [intOf]; omega
            · have e : d.b.seen.take j = d.b.seen := List.take_of_length_le (by have := HN.out; omega)
              rw [e] at HO
              have hjn' : n = j := by omega
              subst hjn'
              clear e hjn hj
              obtain ⟨-, ⟨p0, p1⟩, -, -, -, hg1, -⟩ := (HOd.out.below HB.out).cells
              obtain ⟨m, hm⟩ : ∃ m, (d.b.seen.filter (fun c => !decide (c = b))).length = m := ⟨_, rfl⟩
              rw [hm] at HO
              have HM := Lib.hid hm
              have HM16 : Hid (m ≤ 16) := Lib.hid (by rw [← hm]; exact Nat.le_trans (List.length_filter_le _ _) HNM.out)
              have HAL := Lib.hid (HO.out.alloc (.cells #[.int .u32 b.1, .int .i64 b.2] 38))
              have HAN := Lib.hid (World.alloc_heap_new wr (.cells #[.int .u32 b.1, .int .i64 b.2] 38))
              have HAS : Hid (wd.heap.size ≤ (wr.alloc (.cells #[.int .u32 b.1, .int .i64 b.2] 38)).heap.size) := Lib.hid (by have := HB.out.size; simp; omega)
              have HAB := Lib.hid (HB.out.alloc HB.out.size (.cells #[.int .u32 b.1, .int .i64 b.2] 38))
              have HAM : Hid (m ≤ 1000) := Lib.hid (by have := HM16.out; omega)
              clear hm
              go_upto_if 109 with (at_builtin; refine wpList_append_ad rfl (.tmp 103) (.tmp 105) rfl wd.heap.size _ m _ rfl HAL.out wr.heap.size b rfl HAN.out HAM.out HAS.out ?_; intro v9 w9 ho9 hg9; obtain ⟨g9, c9, rfl, hb9, hn9, hm9, hl9⟩ := own_form38 ho9; have HO9 := Lib.hid ho9; have HB9 : Hid (Below wd.heap.size wd w9) := Lib.hid (HAB.out.trans ((Below.refl _ _).grown hg9 HAS.out (fun g' h' => (HAL.out.lt g' h').1))); clear ho9 hg9)
              have HG9 := Lib.hid hb9
              have HLS : Hid ((d.b.seen.filter (fun c => !decide (c = b)) ++ [b]).length = m + 1) := Lib.hid (by rw [List.length_append, HM.out]; rfl)
              have HSR : Hid (seenR d.b.seen b = if 16 < m + 1 then (d.b.seen.filter (fun c => !decide (c = b)) ++ [b]).drop 1 else d.b.seen.filter (fun c => !decide (c = b)) ++ [b]) := Lib.hid (by unfold seenR; rw [HLS.out])
              go_cut [12] from 103 to 111 (fun u wx => ∃ Ax nx cx, u = .slice Ax nx cx ∧ Hid ((seenR d.b.seen b).length = nx) ∧ Hid (SeenAt wx (.slice Ax nx cx) (seenR d.b.seen b)) ∧ Hid (∀ g, blockOf (.slice Ax nx cx) = some g → wd.heap.size ≤ g) ∧ Hid (Below wd.heap.size wd wx))
              case first =>
                unfold maxLen at hm9
                by_cases h16 : 16 < m + 1
                · have t1 : decide ((16 : Int) < ((m + 1 : Nat) : Int)) = true := by simp; omega
                  have t2 : decide ((16 : Int) < ((m : Int) + 1)) = true := by simp; omega
                  have t3 : (1 : Int) ≤ (c9 : Int) := by omega
                  have t4 : ¬ c9 = 1 := by omega
                  have HRR := Lib.hid (HSR.out.trans (if_pos h16))
                  have HSE := Lib.hid (own_seen1 (l := d.b.seen.filter (fun c => !decide (c = b)) ++ [b]) (by rw [HLS.out]; exact HO9.out) HLS.out)
                  go_wp2_with fail
                  go_meet
                  exact ⟨_, _, _, rfl, Lib.hid (by rw [HRR.out, List.length_drop, HLS.out]; omega), Lib.hid (by rw [HRR.out]; exact HSE.out), Lib.hid (fun g hg => by cases hg; exact HG9.out), HB9⟩
                · have t1 : decide ((16 : Int) < ((m + 1 : Nat) : Int)) = false := by simp; omega
                  have t2 : decide ((16 : Int) < ((m : Int) + 1)) = false := by simp; omega
                  have HRR := Lib.hid (HSR.out.trans (if_neg h16))
                  have HSE := Lib.hid (own_seen (l := d.b.seen.filter (fun c => !decide (c = b)) ++ [b]) (by rw [HLS.out]; exact HO9.out))
                  go_wp2_with fail
                  go_meet
                  exact ⟨_, _, _, rfl, Lib.hid (by rw [HRR.out, HLS.out]), Lib.hid (by rw [HRR.out]; exact HSE.out), Lib.hid (fun g hg => by cases hg; exact HG9.out), HB9⟩
              case rest =>
              obtain ⟨Ax, nx, cx, rfl, HNX, HSX, HGX, HBX⟩ := hcut
              generalize wc = we at *
              clear hb9 hn9 hm9 hl9 p0 p1 hg1
              have hbe := (HBX.out.block wm.heap.size HLB.out).trans HBK.out
              have hle : wm.heap.size < we.heap.size := (Array.getElem?_eq_some_iff.1 hbe).1
              have c7e : we.cell? ⟨wm.heap.size, 7, none⟩ = some (.slice Av n cv) := (cells_of hbe 7).1
              have f7e : we.frozen? ⟨wm.heap.size, 7, none⟩ = false := (cells_of hbe 7).2
              have HBE := Lib.hid hbe
              clear hbe c7 hlt HBKr
              go_wp2_with fail
              have HBW : Hid (Below wm.heap.size wm (we.setCell ⟨wm.heap.size, 7, none⟩ (.slice Ax nx cx))) := Lib.hid ((HBD.out.trans (HBX.out.mono HBD.out.size)).setCell (p := ⟨wm.heap.size, 7, none⟩) (Nat.le_refl _) _)
              have HBF : Hid ((we.setCell ⟨wm.heap.size, 7, none⟩ (.slice Ax nx cx)).heap[wm.heap.size]? = some (.cells #[.int .u32 d.b.inn.1, .int .i64 d.b.inn.2, .int .u32 d.b.to.1, .int .i64 d.b.to.2, .int .i64 d.b.port, .int .i64 U, .bool ak, .slice Ax nx cx] 104 (0, 0))) := Lib.hid (set_top HBE.out 7 _)
              have HSF : Hid (SeenAt (we.setCell ⟨wm.heap.size, 7, none⟩ (.slice Ax nx cx)) (.slice Ax nx cx) (seenR d.b.seen b)) := Lib.hid (HSX.out.kept (fun j hj => set_else (fun e => by have := HGX.out j hj; have := HLB.out; omega)))
              generalize we.setCell ⟨wm.heap.size, 7, none⟩ (.slice Ax nx cx) = wf at *
              clear c7e f7e hle
              have HRF := Lib.hid (HRW.out.below HBW.out)
              have HOF := Lib.hid (HOW.out.below HBW.out)
              have hD : ∃ d' : Rb, d' = ⟨⟨d.b.inn, d.b.to, d.b.port, U, ak, seenR d.b.seen b⟩, .slice Ax nx cx⟩ := ⟨_, rfl⟩
              obtain ⟨d', hd'⟩ := hD
              have HD := Lib.hid hd'
              have HDB : Hid (d'.b = outB x t b d.b) := Lib.hid (by rw [hd']; unfold outB; rw [HU.out, HAK.out])
              have HST8 : Hid (RStep w (w8 wf gr (k * 8) d').drew rb x v L t (LLx.set k d')) := Lib.hid (RStep.more (rstep_all HRA.out HRW.out HCH.out.kp HCH.out.ft (w' := wf) HBW.out rfl HKL.out (by rw [hd']; exact HSF.out) (by rw [hd']; exact fun j hj => Nat.le_trans HBD.out.size (HGX.out j hj))) (below_drw (Below.refl _ _) 1))
              have HGR : Hid (gr ≠ wm.heap.size ∧ gr ≠ rb ∧ gr < wm.heap.size) := Lib.hid (by
                obtain ⟨C, hC⟩ := own_obj HRW.out.row rfl
                have h1 := (Array.getElem?_eq_some_iff.1 hC).1
                exact ⟨by omega, fun e => HRW.out.ne_row (by rw [← e]; rfl), h1⟩)
              clear hd'
              obtain ⟨gr', cr', erow, hlc, hcm, hat, hfz, hgl⟩ := HRF.out.at HCH.out.at_
              cases erow
              have e0 : wf.cell? ⟨gr, k * 8, none⟩ = some (.int .u32 d.b.inn.1) := hat 0 (by omega)
              have e1 : wf.cell? ⟨gr, k * 8 + 1, none⟩ = some (.int .i64 d.b.inn.2) := hat 1 (by omega)
              have e2 : wf.cell? ⟨gr, k * 8 + 2, none⟩ = some (.int .u32 d.b.to.1) := hat 2 (by omega)
              have e3 : wf.cell? ⟨gr, k * 8 + 3, none⟩ = some (.int .i64 d.b.to.2) := hat 3 (by omega)
              have e4 : wf.cell? ⟨gr, k * 8 + 4, none⟩ = some (.int .i64 d.b.port) := hat 4 (by omega)
              have e5 : wf.cell? ⟨gr, k * 8 + 5, none⟩ = some (.int .i64 d.b.until_) := hat 5 (by omega)
              have e6 : wf.cell? ⟨gr, k * 8 + 6, none⟩ = some (.bool d.b.asked) := hat 6 (by omega)
              have e7 : wf.cell? ⟨gr, k * 8 + 7, none⟩ = some d.sv := hat 7 (by omega)
              have hkl : (k : Int) < (LLx.length : Int) := by have := HKL.out; omega
              have HTP : Hid (wf.heap[rb]? = some (.cells #[.int .u32 x.host, .int .i64 x.lo, .int .i64 x.hi, .int .i64 x.map, .int .i64 x.filter, .int .i64 x.life, .int .i64 x.most, .slice (some ⟨gr, 0, none⟩) LLx.length cr, .int .i64 t] 36 (0, 0))) := Lib.hid HRF.out.top
              clear hat
              have HGO3 : Hid (∀ j, w.heap.size ≤ j → j < w.heap.size + 3 → gr ≠ j) := Lib.hid (fun j h1 h2 e => by
                obtain ⟨C, hC⟩ := own_obj HRW.out.row rfl
                have ho := HOW.out
                have h3 : j = w.heap.size ∨ j = w.heap.size + 1 ∨ j = w.heap.size + 2 := by omega
                rcases h3 with rfl | rfl | rfl
                · rw [e] at hC; exact clash hC ho.ca (by decide)
                · rw [e] at hC; exact clash hC ho.cb (by decide)
                · rw [e] at hC; exact clash hC ho.cr (by decide))
              refine wp_region_held_drew (S := fun W => W.heap[rb]? = wf.heap[rb]? ∧ W.heap[wm.heap.size]? = wf.heap[wm.heap.size]?) (by kernel_rfl) ⟨rfl, rfl⟩ (fun hHeld => ?_)
              refine wpAnyH_take (i := 0) (oi := _) (v := ?_) rfl (by kernel_rfl) (by kernel_rfl) (by kernel_rfl) (fun _ _ _ h => h) (Or.inl ⟨by rfl, ?_⟩) (by assumption) ?_
              case refine_2 => intro w hSw; (try dsimp only at hSw); obtain ⟨hS1, hS2⟩ := hSw; have rlt : rb < _ := (Array.getElem?_eq_some_iff.1 (hS1.trans HTP.out)).1; have blt : wm.heap.size < _ := (Array.getElem?_eq_some_iff.1 (hS2.trans HBF.out)).1; have r0 := (cells_of (hS1.trans HTP.out) 0).1; have r7 := (cells_of (hS1.trans HTP.out) 7).1; have j0 := (cells_of (hS2.trans HBF.out) 0).1; have j1 := (cells_of (hS2.trans HBF.out) 1).1; have j2 := (cells_of (hS2.trans HBF.out) 2).1; have j3 := (cells_of (hS2.trans HBF.out) 3).1; have j4 := (cells_of (hS2.trans HBF.out) 4).1; have j5 := (cells_of (hS2.trans HBF.out) 5).1; have j6 := (cells_of (hS2.trans HBF.out) 6).1; have j7 := (cells_of (hS2.trans HBF.out) 7).1; clear hS1 hS2; simp only [List.getElem?_toArray, List.getElem?_cons_zero, List.getElem?_cons_succ] at r0 r7 j0 j1 j2 j3 j4 j5 j6 j7; go_simp; first | done | (with_reducible rfl)
              try simp only [Act.put, List.getElem_toArray, List.getElem_cons_zero, List.setIfInBounds_toArray, List.set_cons_zero, List.set_cons_succ]
              refine wpAnyH_take (i := 1) (oi := _) (v := ?_) rfl (by kernel_rfl) (by kernel_rfl) (by kernel_rfl) (fun _ _ _ h => h) (Or.inl ⟨by rfl, ?_⟩) (by assumption) ?_
              case refine_2 => intro w hSw; (try dsimp only at hSw); obtain ⟨hS1, hS2⟩ := hSw; have rlt : rb < _ := (Array.getElem?_eq_some_iff.1 (hS1.trans HTP.out)).1; have blt : wm.heap.size < _ := (Array.getElem?_eq_some_iff.1 (hS2.trans HBF.out)).1; have r0 := (cells_of (hS1.trans HTP.out) 0).1; have r7 := (cells_of (hS1.trans HTP.out) 7).1; have j0 := (cells_of (hS2.trans HBF.out) 0).1; have j1 := (cells_of (hS2.trans HBF.out) 1).1; have j2 := (cells_of (hS2.trans HBF.out) 2).1; have j3 := (cells_of (hS2.trans HBF.out) 3).1; have j4 := (cells_of (hS2.trans HBF.out) 4).1; have j5 := (cells_of (hS2.trans HBF.out) 5).1; have j6 := (cells_of (hS2.trans HBF.out) 6).1; have j7 := (cells_of (hS2.trans HBF.out) 7).1; clear hS1 hS2; simp only [List.getElem?_toArray, List.getElem?_cons_zero, List.getElem?_cons_succ] at r0 r7 j0 j1 j2 j3 j4 j5 j6 j7; go_simp; first | done | (with_reducible rfl)
              try simp only [Act.put, List.getElem_toArray, List.getElem_cons_zero, List.getElem_cons_succ, List.setIfInBounds_toArray, List.set_cons_zero, List.set_cons_succ]
              refine wpAnyH_take (i := 2) (oi := _) (v := ?_) rfl (by kernel_rfl) (by kernel_rfl) (by kernel_rfl) (fun _ _ _ h => h) (Or.inl ⟨by rfl, ?_⟩) (by assumption) ?_
              case refine_2 => intro w hSw; (try dsimp only at hSw); obtain ⟨hS1, hS2⟩ := hSw; have rlt : rb < _ := (Array.getElem?_eq_some_iff.1 (hS1.trans HTP.out)).1; have blt : wm.heap.size < _ := (Array.getElem?_eq_some_iff.1 (hS2.trans HBF.out)).1; have r0 := (cells_of (hS1.trans HTP.out) 0).1; have r7 := (cells_of (hS1.trans HTP.out) 7).1; have j0 := (cells_of (hS2.trans HBF.out) 0).1; have j1 := (cells_of (hS2.trans HBF.out) 1).1; have j2 := (cells_of (hS2.trans HBF.out) 2).1; have j3 := (cells_of (hS2.trans HBF.out) 3).1; have j4 := (cells_of (hS2.trans HBF.out) 4).1; have j5 := (cells_of (hS2.trans HBF.out) 5).1; have j6 := (cells_of (hS2.trans HBF.out) 6).1; have j7 := (cells_of (hS2.trans HBF.out) 7).1; clear hS1 hS2; simp only [List.getElem?_toArray, List.getElem?_cons_zero, List.getElem?_cons_succ] at r0 r7 j0 j1 j2 j3 j4 j5 j6 j7; go_simp; first | done | (with_reducible rfl)
              try simp only [Act.put, List.getElem_toArray, List.getElem_cons_zero, List.getElem_cons_succ, List.setIfInBounds_toArray, List.set_cons_zero, List.set_cons_succ]
              refine wpAnyH_take (i := 3) (oi := _) (v := ?_) rfl (by kernel_rfl) (by kernel_rfl) (by kernel_rfl) (fun _ _ _ h => h) (Or.inl ⟨by rfl, ?_⟩) (by assumption) ?_
              case refine_2 => intro w hSw; (try dsimp only at hSw); obtain ⟨hS1, hS2⟩ := hSw; have rlt : rb < _ := (Array.getElem?_eq_some_iff.1 (hS1.trans HTP.out)).1; have blt : wm.heap.size < _ := (Array.getElem?_eq_some_iff.1 (hS2.trans HBF.out)).1; have r0 := (cells_of (hS1.trans HTP.out) 0).1; have r7 := (cells_of (hS1.trans HTP.out) 7).1; have j0 := (cells_of (hS2.trans HBF.out) 0).1; have j1 := (cells_of (hS2.trans HBF.out) 1).1; have j2 := (cells_of (hS2.trans HBF.out) 2).1; have j3 := (cells_of (hS2.trans HBF.out) 3).1; have j4 := (cells_of (hS2.trans HBF.out) 4).1; have j5 := (cells_of (hS2.trans HBF.out) 5).1; have j6 := (cells_of (hS2.trans HBF.out) 6).1; have j7 := (cells_of (hS2.trans HBF.out) 7).1; clear hS1 hS2; simp only [List.getElem?_toArray, List.getElem?_cons_zero, List.getElem?_cons_succ] at r0 r7 j0 j1 j2 j3 j4 j5 j6 j7; go_simp; first | done | (with_reducible rfl)
              try simp only [Act.put, List.getElem_toArray, List.getElem_cons_zero, List.getElem_cons_succ, List.setIfInBounds_toArray, List.set_cons_zero, List.set_cons_succ]
              refine wpAnyH_take (i := 4) (oi := _) (v := ?_) rfl (by kernel_rfl) (by kernel_rfl) (by kernel_rfl) (fun _ _ _ h => h) (Or.inl ⟨by rfl, ?_⟩) (by assumption) ?_
              case refine_2 => intro w hSw; (try dsimp only at hSw); obtain ⟨hS1, hS2⟩ := hSw; have rlt : rb < _ := (Array.getElem?_eq_some_iff.1 (hS1.trans HTP.out)).1; have blt : wm.heap.size < _ := (Array.getElem?_eq_some_iff.1 (hS2.trans HBF.out)).1; have r0 := (cells_of (hS1.trans HTP.out) 0).1; have r7 := (cells_of (hS1.trans HTP.out) 7).1; have j0 := (cells_of (hS2.trans HBF.out) 0).1; have j1 := (cells_of (hS2.trans HBF.out) 1).1; have j2 := (cells_of (hS2.trans HBF.out) 2).1; have j3 := (cells_of (hS2.trans HBF.out) 3).1; have j4 := (cells_of (hS2.trans HBF.out) 4).1; have j5 := (cells_of (hS2.trans HBF.out) 5).1; have j6 := (cells_of (hS2.trans HBF.out) 6).1; have j7 := (cells_of (hS2.trans HBF.out) 7).1; clear hS1 hS2; simp only [List.getElem?_toArray, List.getElem?_cons_zero, List.getElem?_cons_succ] at r0 r7 j0 j1 j2 j3 j4 j5 j6 j7; go_simp; first | done | (with_reducible rfl)
              try simp only [Act.put, List.getElem_toArray, List.getElem_cons_zero, List.getElem_cons_succ, List.setIfInBounds_toArray, List.set_cons_zero, List.set_cons_succ]
              refine wpAnyH_take (i := 5) (oi := _) (v := ?_) rfl (by kernel_rfl) (by kernel_rfl) (by kernel_rfl) (fun _ _ _ h => h) (Or.inl ⟨by rfl, ?_⟩) (by assumption) ?_
              case refine_2 => intro w hSw; (try dsimp only at hSw); obtain ⟨hS1, hS2⟩ := hSw; have rlt : rb < _ := (Array.getElem?_eq_some_iff.1 (hS1.trans HTP.out)).1; have blt : wm.heap.size < _ := (Array.getElem?_eq_some_iff.1 (hS2.trans HBF.out)).1; have r0 := (cells_of (hS1.trans HTP.out) 0).1; have r7 := (cells_of (hS1.trans HTP.out) 7).1; have j0 := (cells_of (hS2.trans HBF.out) 0).1; have j1 := (cells_of (hS2.trans HBF.out) 1).1; have j2 := (cells_of (hS2.trans HBF.out) 2).1; have j3 := (cells_of (hS2.trans HBF.out) 3).1; have j4 := (cells_of (hS2.trans HBF.out) 4).1; have j5 := (cells_of (hS2.trans HBF.out) 5).1; have j6 := (cells_of (hS2.trans HBF.out) 6).1; have j7 := (cells_of (hS2.trans HBF.out) 7).1; clear hS1 hS2; simp only [List.getElem?_toArray, List.getElem?_cons_zero, List.getElem?_cons_succ] at r0 r7 j0 j1 j2 j3 j4 j5 j6 j7; go_simp; first | done | (with_reducible rfl)
              try simp only [Act.put, List.getElem_toArray, List.getElem_cons_zero, List.getElem_cons_succ, List.setIfInBounds_toArray, List.set_cons_zero, List.set_cons_succ]
              refine wpAnyH_take (i := 6) (oi := _) (v := ?_) rfl (by kernel_rfl) (by kernel_rfl) (by kernel_rfl) (fun _ _ _ h => h) (Or.inl ⟨by rfl, ?_⟩) (by assumption) ?_
              case refine_2 => intro w hSw; (try dsimp only at hSw); obtain ⟨hS1, hS2⟩ := hSw; have rlt : rb < _ := (Array.getElem?_eq_some_iff.1 (hS1.trans HTP.out)).1; have blt : wm.heap.size < _ := (Array.getElem?_eq_some_iff.1 (hS2.trans HBF.out)).1; have r0 := (cells_of (hS1.trans HTP.out) 0).1; have r7 := (cells_of (hS1.trans HTP.out) 7).1; have j0 := (cells_of (hS2.trans HBF.out) 0).1; have j1 := (cells_of (hS2.trans HBF.out) 1).1; have j2 := (cells_of (hS2.trans HBF.out) 2).1; have j3 := (cells_of (hS2.trans HBF.out) 3).1; have j4 := (cells_of (hS2.trans HBF.out) 4).1; have j5 := (cells_of (hS2.trans HBF.out) 5).1; have j6 := (cells_of (hS2.trans HBF.out) 6).1; have j7 := (cells_of (hS2.trans HBF.out) 7).1; clear hS1 hS2; simp only [List.getElem?_toArray, List.getElem?_cons_zero, List.getElem?_cons_succ] at r0 r7 j0 j1 j2 j3 j4 j5 j6 j7; go_simp; first | done | (with_reducible rfl)
              try simp only [Act.put, List.getElem_toArray, List.getElem_cons_zero, List.getElem_cons_succ, List.setIfInBounds_toArray, List.set_cons_zero, List.set_cons_succ]
              refine wpAnyH_ready (rs := [7]) (by kernel_rfl) (by simp) ?_
              refine AllReadyH.cons rfl (fun K hK => ?_) AllReadyH.nil
              go_simp
              obtain ⟨w25, hw25⟩ : ∃ W, (w8 wf gr (k * 8) d').drew = W := ⟨_, rfl⟩
              have HW25 : Hid (w25.heap[rb]? = wf.heap[rb]? ∧ w25.heap[wm.heap.size]? = wf.heap[wm.heap.size]? ∧ Own3 w25 w.heap.size a b) := Lib.hid (by rw [← hw25]; have h1 := HGR.out; exact ⟨(drew_heap _ _).trans (w8_else h1.2.1.symm), (drew_heap _ _).trans (w8_else h1.1.symm), HOF.out.kept (fun j h2 h3 => (drew_heap _ _).trans (w8_else (fun e => HGO3.out j h2 h3 e.symm)))⟩)
              rw [hw25] at HST8
              unfold w8 at hw25
              rw [HD.out] at hw25
              dsimp only at hw25
              rw [hw25]
              refine hK.out _ _ ⟨HW25.out.1, HW25.out.2.1⟩ (fun hHeld => ?_)
              clear hK K
              try simp only [Act.put, List.getElem_toArray, List.getElem_cons_zero, List.getElem_cons_succ, List.setIfInBounds_toArray, List.set_cons_zero, List.set_cons_succ]
              refine wpAnyH_done (by kernel_rfl) ?_ _
              have HSB9 : Hid (∀ e ∈ LLx.set k d', blockOf e.sv ≠ some (w.heap.size + 2)) := Lib.hid (fun e he => by
                rcases List.mem_or_eq_of_mem_set he with h | rfl
                · exact HCH.out.sb e h
                · rw [HD.out]; intro h; have := HGX.out _ h; have := (Array.getElem?_eq_some_iff.1 HOW.out.cr).1; have := HBD.out.size; omega)
              go_wp2_with fail
              refine wp_region_held_drew (S := fun W => W.heap[rb]? = wf.heap[rb]? ∧ W.heap[wm.heap.size]? = wf.heap[wm.heap.size]?) (by kernel_rfl) ⟨HW25.out.1, HW25.out.2.1⟩ (fun hHeld => ?_)
              refine wpAnyH_take (i := 0) (oi := _) (v := ?_) rfl (by kernel_rfl) (by kernel_rfl) (by kernel_rfl) (fun _ _ _ h => h) (Or.inl ⟨by rfl, ?_⟩) (by assumption) ?_
              case refine_2 => intro w hSw; (try dsimp only at hSw); obtain ⟨hS1, hS2⟩ := hSw; have rlt : rb < _ := (Array.getElem?_eq_some_iff.1 (hS1.trans HTP.out)).1; have blt : wm.heap.size < _ := (Array.getElem?_eq_some_iff.1 (hS2.trans HBF.out)).1; have r0 := (cells_of (hS1.trans HTP.out) 0).1; have r7 := (cells_of (hS1.trans HTP.out) 7).1; have j0 := (cells_of (hS2.trans HBF.out) 0).1; have j1 := (cells_of (hS2.trans HBF.out) 1).1; have j2 := (cells_of (hS2.trans HBF.out) 2).1; have j3 := (cells_of (hS2.trans HBF.out) 3).1; have j4 := (cells_of (hS2.trans HBF.out) 4).1; have j5 := (cells_of (hS2.trans HBF.out) 5).1; have j6 := (cells_of (hS2.trans HBF.out) 6).1; have j7 := (cells_of (hS2.trans HBF.out) 7).1; clear hS1 hS2; simp only [List.getElem?_toArray, List.getElem?_cons_zero, List.getElem?_cons_succ] at r0 r7 j0 j1 j2 j3 j4 j5 j6 j7; go_simp; first | done | (with_reducible rfl)
              try simp only [Act.put, List.getElem_toArray, List.getElem_cons_zero, List.setIfInBounds_toArray, List.set_cons_zero, List.set_cons_succ]
              refine wpAnyH_take (i := 1) (oi := _) (v := ?_) rfl (by kernel_rfl) (by kernel_rfl) (by kernel_rfl) (fun _ _ _ h => h) (Or.inl ⟨by rfl, ?_⟩) (by assumption) ?_
              case refine_2 => intro w hSw; (try dsimp only at hSw); obtain ⟨hS1, hS2⟩ := hSw; have rlt : rb < _ := (Array.getElem?_eq_some_iff.1 (hS1.trans HTP.out)).1; have blt : wm.heap.size < _ := (Array.getElem?_eq_some_iff.1 (hS2.trans HBF.out)).1; have r0 := (cells_of (hS1.trans HTP.out) 0).1; have r7 := (cells_of (hS1.trans HTP.out) 7).1; have j0 := (cells_of (hS2.trans HBF.out) 0).1; have j1 := (cells_of (hS2.trans HBF.out) 1).1; have j2 := (cells_of (hS2.trans HBF.out) 2).1; have j3 := (cells_of (hS2.trans HBF.out) 3).1; have j4 := (cells_of (hS2.trans HBF.out) 4).1; have j5 := (cells_of (hS2.trans HBF.out) 5).1; have j6 := (cells_of (hS2.trans HBF.out) 6).1; have j7 := (cells_of (hS2.trans HBF.out) 7).1; clear hS1 hS2; simp only [List.getElem?_toArray, List.getElem?_cons_zero, List.getElem?_cons_succ] at r0 r7 j0 j1 j2 j3 j4 j5 j6 j7; go_simp; first | done | (with_reducible rfl)
              try simp only [Act.put, List.getElem_toArray, List.getElem_cons_zero, List.getElem_cons_succ, List.setIfInBounds_toArray, List.set_cons_zero, List.set_cons_succ]
              refine wpAnyH_take (i := 2) (oi := _) (v := ?_) rfl (by kernel_rfl) (by kernel_rfl) (by kernel_rfl) (fun _ _ _ h => h) (Or.inl ⟨by rfl, ?_⟩) (by assumption) ?_
              case refine_2 => intro w hSw; (try dsimp only at hSw); obtain ⟨hS1, hS2⟩ := hSw; have rlt : rb < _ := (Array.getElem?_eq_some_iff.1 (hS1.trans HTP.out)).1; have blt : wm.heap.size < _ := (Array.getElem?_eq_some_iff.1 (hS2.trans HBF.out)).1; have r0 := (cells_of (hS1.trans HTP.out) 0).1; have r7 := (cells_of (hS1.trans HTP.out) 7).1; have j0 := (cells_of (hS2.trans HBF.out) 0).1; have j1 := (cells_of (hS2.trans HBF.out) 1).1; have j2 := (cells_of (hS2.trans HBF.out) 2).1; have j3 := (cells_of (hS2.trans HBF.out) 3).1; have j4 := (cells_of (hS2.trans HBF.out) 4).1; have j5 := (cells_of (hS2.trans HBF.out) 5).1; have j6 := (cells_of (hS2.trans HBF.out) 6).1; have j7 := (cells_of (hS2.trans HBF.out) 7).1; clear hS1 hS2; simp only [List.getElem?_toArray, List.getElem?_cons_zero, List.getElem?_cons_succ] at r0 r7 j0 j1 j2 j3 j4 j5 j6 j7; go_simp; first | done | (with_reducible rfl)
              try simp only [Act.put, List.getElem_toArray, List.getElem_cons_zero, List.getElem_cons_succ, List.setIfInBounds_toArray, List.set_cons_zero, List.set_cons_succ]
              refine wpAnyH_take (i := 3) (oi := _) (v := ?_) rfl (by kernel_rfl) (by kernel_rfl) (by kernel_rfl) (fun _ _ _ h => h) (Or.inl ⟨by rfl, ?_⟩) (by assumption) ?_
              case refine_2 => intro w hSw; (try dsimp only at hSw); obtain ⟨hS1, hS2⟩ := hSw; have rlt : rb < _ := (Array.getElem?_eq_some_iff.1 (hS1.trans HTP.out)).1; have blt : wm.heap.size < _ := (Array.getElem?_eq_some_iff.1 (hS2.trans HBF.out)).1; have r0 := (cells_of (hS1.trans HTP.out) 0).1; have r7 := (cells_of (hS1.trans HTP.out) 7).1; have j0 := (cells_of (hS2.trans HBF.out) 0).1; have j1 := (cells_of (hS2.trans HBF.out) 1).1; have j2 := (cells_of (hS2.trans HBF.out) 2).1; have j3 := (cells_of (hS2.trans HBF.out) 3).1; have j4 := (cells_of (hS2.trans HBF.out) 4).1; have j5 := (cells_of (hS2.trans HBF.out) 5).1; have j6 := (cells_of (hS2.trans HBF.out) 6).1; have j7 := (cells_of (hS2.trans HBF.out) 7).1; clear hS1 hS2; simp only [List.getElem?_toArray, List.getElem?_cons_zero, List.getElem?_cons_succ] at r0 r7 j0 j1 j2 j3 j4 j5 j6 j7; go_simp; first | done | (with_reducible rfl)
              try simp only [Act.put, List.getElem_toArray, List.getElem_cons_zero, List.getElem_cons_succ, List.setIfInBounds_toArray, List.set_cons_zero, List.set_cons_succ]
              refine wpAnyH_take (i := 4) (oi := _) (v := ?_) rfl (by kernel_rfl) (by kernel_rfl) (by kernel_rfl) (fun _ _ _ h => h) (Or.inl ⟨by rfl, ?_⟩) (by assumption) ?_
              case refine_2 => intro w hSw; (try dsimp only at hSw); obtain ⟨hS1, hS2⟩ := hSw; have rlt : rb < _ := (Array.getElem?_eq_some_iff.1 (hS1.trans HTP.out)).1; have blt : wm.heap.size < _ := (Array.getElem?_eq_some_iff.1 (hS2.trans HBF.out)).1; have r0 := (cells_of (hS1.trans HTP.out) 0).1; have r7 := (cells_of (hS1.trans HTP.out) 7).1; have j0 := (cells_of (hS2.trans HBF.out) 0).1; have j1 := (cells_of (hS2.trans HBF.out) 1).1; have j2 := (cells_of (hS2.trans HBF.out) 2).1; have j3 := (cells_of (hS2.trans HBF.out) 3).1; have j4 := (cells_of (hS2.trans HBF.out) 4).1; have j5 := (cells_of (hS2.trans HBF.out) 5).1; have j6 := (cells_of (hS2.trans HBF.out) 6).1; have j7 := (cells_of (hS2.trans HBF.out) 7).1; clear hS1 hS2; simp only [List.getElem?_toArray, List.getElem?_cons_zero, List.getElem?_cons_succ] at r0 r7 j0 j1 j2 j3 j4 j5 j6 j7; go_simp; first | done | (with_reducible rfl)
              try simp only [Act.put, List.getElem_toArray, List.getElem_cons_zero, List.getElem_cons_succ, List.setIfInBounds_toArray, List.set_cons_zero, List.set_cons_succ]
              refine wpAnyH_take (i := 5) (oi := _) (v := ?_) rfl (by kernel_rfl) (by kernel_rfl) (by kernel_rfl) (fun _ _ _ h => h) (Or.inl ⟨by rfl, ?_⟩) (by assumption) ?_
              case refine_2 => intro w hSw; (try dsimp only at hSw); obtain ⟨hS1, hS2⟩ := hSw; have rlt : rb < _ := (Array.getElem?_eq_some_iff.1 (hS1.trans HTP.out)).1; have blt : wm.heap.size < _ := (Array.getElem?_eq_some_iff.1 (hS2.trans HBF.out)).1; have r0 := (cells_of (hS1.trans HTP.out) 0).1; have r7 := (cells_of (hS1.trans HTP.out) 7).1; have j0 := (cells_of (hS2.trans HBF.out) 0).1; have j1 := (cells_of (hS2.trans HBF.out) 1).1; have j2 := (cells_of (hS2.trans HBF.out) 2).1; have j3 := (cells_of (hS2.trans HBF.out) 3).1; have j4 := (cells_of (hS2.trans HBF.out) 4).1; have j5 := (cells_of (hS2.trans HBF.out) 5).1; have j6 := (cells_of (hS2.trans HBF.out) 6).1; have j7 := (cells_of (hS2.trans HBF.out) 7).1; clear hS1 hS2; simp only [List.getElem?_toArray, List.getElem?_cons_zero, List.getElem?_cons_succ] at r0 r7 j0 j1 j2 j3 j4 j5 j6 j7; go_simp; first | done | (with_reducible rfl)
              try simp only [Act.put, List.getElem_toArray, List.getElem_cons_zero, List.getElem_cons_succ, List.setIfInBounds_toArray, List.set_cons_zero, List.set_cons_succ]
              refine wpAnyH_take (i := 6) (oi := _) (v := ?_) rfl (by kernel_rfl) (by kernel_rfl) (by kernel_rfl) (fun _ _ _ h => h) (Or.inl ⟨by rfl, ?_⟩) (by assumption) ?_
              case refine_2 => intro w hSw; (try dsimp only at hSw); obtain ⟨hS1, hS2⟩ := hSw; have rlt : rb < _ := (Array.getElem?_eq_some_iff.1 (hS1.trans HTP.out)).1; have blt : wm.heap.size < _ := (Array.getElem?_eq_some_iff.1 (hS2.trans HBF.out)).1; have r0 := (cells_of (hS1.trans HTP.out) 0).1; have r7 := (cells_of (hS1.trans HTP.out) 7).1; have j0 := (cells_of (hS2.trans HBF.out) 0).1; have j1 := (cells_of (hS2.trans HBF.out) 1).1; have j2 := (cells_of (hS2.trans HBF.out) 2).1; have j3 := (cells_of (hS2.trans HBF.out) 3).1; have j4 := (cells_of (hS2.trans HBF.out) 4).1; have j5 := (cells_of (hS2.trans HBF.out) 5).1; have j6 := (cells_of (hS2.trans HBF.out) 6).1; have j7 := (cells_of (hS2.trans HBF.out) 7).1; clear hS1 hS2; simp only [List.getElem?_toArray, List.getElem?_cons_zero, List.getElem?_cons_succ] at r0 r7 j0 j1 j2 j3 j4 j5 j6 j7; go_simp; first | done | (with_reducible rfl)
              try simp only [Act.put, List.getElem_toArray, List.getElem_cons_zero, List.getElem_cons_succ, List.setIfInBounds_toArray, List.set_cons_zero, List.set_cons_succ]
              refine wpAnyH_take (i := 7) (oi := _) (v := ?_) rfl (by kernel_rfl) (by kernel_rfl) (by kernel_rfl) (fun _ _ _ h => h) (Or.inl ⟨by rfl, ?_⟩) (by assumption) ?_
              case refine_2 => intro w hSw; (try dsimp only at hSw); obtain ⟨hS1, hS2⟩ := hSw; have rlt : rb < _ := (Array.getElem?_eq_some_iff.1 (hS1.trans HTP.out)).1; have blt : wm.heap.size < _ := (Array.getElem?_eq_some_iff.1 (hS2.trans HBF.out)).1; have r0 := (cells_of (hS1.trans HTP.out) 0).1; have r7 := (cells_of (hS1.trans HTP.out) 7).1; have j0 := (cells_of (hS2.trans HBF.out) 0).1; have j1 := (cells_of (hS2.trans HBF.out) 1).1; have j2 := (cells_of (hS2.trans HBF.out) 2).1; have j3 := (cells_of (hS2.trans HBF.out) 3).1; have j4 := (cells_of (hS2.trans HBF.out) 4).1; have j5 := (cells_of (hS2.trans HBF.out) 5).1; have j6 := (cells_of (hS2.trans HBF.out) 6).1; have j7 := (cells_of (hS2.trans HBF.out) 7).1; clear hS1 hS2; simp only [List.getElem?_toArray, List.getElem?_cons_zero, List.getElem?_cons_succ] at r0 r7 j0 j1 j2 j3 j4 j5 j6 j7; go_simp; first | done | (with_reducible rfl)
              try simp only [Act.put, List.getElem_toArray, List.getElem_cons_zero, List.getElem_cons_succ, List.setIfInBounds_toArray, List.set_cons_zero, List.set_cons_succ]
              refine wpAnyH_take (i := 8) (oi := _) (v := ?_) rfl (by kernel_rfl) (by kernel_rfl) (by kernel_rfl) (fun _ _ _ h => h) (Or.inl ⟨by rfl, ?_⟩) (by assumption) ?_
              case refine_2 => intro w hSw; (try dsimp only at hSw); obtain ⟨hS1, hS2⟩ := hSw; have rlt : rb < _ := (Array.getElem?_eq_some_iff.1 (hS1.trans HTP.out)).1; have blt : wm.heap.size < _ := (Array.getElem?_eq_some_iff.1 (hS2.trans HBF.out)).1; have r0 := (cells_of (hS1.trans HTP.out) 0).1; have r7 := (cells_of (hS1.trans HTP.out) 7).1; have j0 := (cells_of (hS2.trans HBF.out) 0).1; have j1 := (cells_of (hS2.trans HBF.out) 1).1; have j2 := (cells_of (hS2.trans HBF.out) 2).1; have j3 := (cells_of (hS2.trans HBF.out) 3).1; have j4 := (cells_of (hS2.trans HBF.out) 4).1; have j5 := (cells_of (hS2.trans HBF.out) 5).1; have j6 := (cells_of (hS2.trans HBF.out) 6).1; have j7 := (cells_of (hS2.trans HBF.out) 7).1; clear hS1 hS2; simp only [List.getElem?_toArray, List.getElem?_cons_zero, List.getElem?_cons_succ] at r0 r7 j0 j1 j2 j3 j4 j5 j6 j7; go_simp; first | done | (with_reducible rfl)
              try simp only [Act.put, List.getElem_toArray, List.getElem_cons_zero, List.getElem_cons_succ, List.setIfInBounds_toArray, List.set_cons_zero, List.set_cons_succ]
              refine wpAnyH_ready (rs := [9]) (by kernel_rfl) (by simp) ?_
              refine AllReadyH.cons rfl (fun K hK => ?_) AllReadyH.nil
              obtain ⟨-, -, ⟨q0, q1⟩, ⟨q2, q3⟩, -, -, q4⟩ := HW25.out.2.2.cells
              go_simp
              clear q0 q1 q2 q3 q4
              obtain ⟨w26, hw26⟩ : ∃ W, (put2 w25 (w.heap.size + 2) (x.host, d.b.port)).drew = W := ⟨_, rfl⟩
              have HP26 : Hid ((put2 w25 (w.heap.size + 2) (x.host, d.b.port)).drew.cell? ⟨w.heap.size + 2, 0, none⟩ = some (.int .u32 x.host) ∧ (put2 w25 (w.heap.size + 2) (x.host, d.b.port)).drew.cell? ⟨w.heap.size + 2, 1, none⟩ = some (.int .i64 d.b.port)) := Lib.hid ⟨(drew_cell _ _).trans (put2_at HW25.out.2.2.cr (x.host, d.b.port)).1, (drew_cell _ _).trans (put2_at HW25.out.2.2.cr (x.host, d.b.port)).2⟩
              have HST9 : Hid (RStep w (put2 w25 (w.heap.size + 2) (x.host, d.b.port)).drew rb x v L t (LLx.set k d')) := Lib.hid (RStep.more (RStep.put2 HST8.out (w.heap.size + 2) (x.host, d.b.port) (by omega) HW25.out.2.2.cr HSB9.out) (below_drw (Below.refl _ _) 1))
              rw [hw26] at HP26 HST9
              have HN26 : Hid (w26.heap[rb]? = wf.heap[rb]? ∧ w26.heap[wm.heap.size]? = wf.heap[wm.heap.size]?) := Lib.hid (by rw [← hw26]; exact ⟨(drew_heap _ _).trans ((put2_else (W := w25) (fun e => by have := HRA.out.lt; omega)).trans HW25.out.1), (drew_heap _ _).trans ((put2_else (W := w25) (fun e => by have := (Array.getElem?_eq_some_iff.1 HOW.out.cr).1; have := HOW.out; omega)).trans HW25.out.2.1)⟩)
              unfold put2 at hw26
              dsimp only at hw26
              rw [show w.heap.size + 2 = w.heap.size + 1 + 1 from rfl] at hw26
              rw [hw26]
              refine hK.out _ _ HN26.out (fun hHeld => ?_)
              clear hK K
              try simp only [Act.put, List.getElem_toArray, List.getElem_cons_zero, List.getElem_cons_succ, List.setIfInBounds_toArray, List.set_cons_zero, List.set_cons_succ]
              refine wpAnyH_take (i := 10) (oi := _) (v := ?_) rfl (by kernel_rfl) (by kernel_rfl) (by kernel_rfl) (fun _ _ _ h => h) (Or.inl ⟨by rfl, ?_⟩) (by assumption) ?_
              case refine_2 => intro w hSw; (try dsimp only at hSw); obtain ⟨hS1, hS2⟩ := hSw; have rlt : rb < _ := (Array.getElem?_eq_some_iff.1 (hS1.trans HTP.out)).1; have blt : wm.heap.size < _ := (Array.getElem?_eq_some_iff.1 (hS2.trans HBF.out)).1; have r0 := (cells_of (hS1.trans HTP.out) 0).1; have r7 := (cells_of (hS1.trans HTP.out) 7).1; have j0 := (cells_of (hS2.trans HBF.out) 0).1; have j1 := (cells_of (hS2.trans HBF.out) 1).1; have j2 := (cells_of (hS2.trans HBF.out) 2).1; have j3 := (cells_of (hS2.trans HBF.out) 3).1; have j4 := (cells_of (hS2.trans HBF.out) 4).1; have j5 := (cells_of (hS2.trans HBF.out) 5).1; have j6 := (cells_of (hS2.trans HBF.out) 6).1; have j7 := (cells_of (hS2.trans HBF.out) 7).1; clear hS1 hS2; simp only [List.getElem?_toArray, List.getElem?_cons_zero, List.getElem?_cons_succ] at r0 r7 j0 j1 j2 j3 j4 j5 j6 j7; go_simp; first | done | (with_reducible rfl)
              try simp only [Act.put, List.getElem_toArray, List.getElem_cons_zero, List.getElem_cons_succ, List.setIfInBounds_toArray, List.set_cons_zero, List.set_cons_succ]
              refine wpAnyH_done (by kernel_rfl) ?_ _
              go_wp2
              obtain ⟨z0, z1⟩ := HP26.out
              exact ⟨rfl, ansA (x.host, d.b.port) 0, by simp [results, Try.results18, go_sem, z0, z1, ansA, adr], by rw [HLL.out]; exact HCH.out.fin d' _ HDB.out HST9.out⟩
end Go.Proofs.Ytemlnkcokeckmaa
