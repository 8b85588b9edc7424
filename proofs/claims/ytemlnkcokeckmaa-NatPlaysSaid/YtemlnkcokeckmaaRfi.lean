/-
  The document's own free, key and find, and its own May of an address. Conditions: the box stands in memory.
-/
import Derived.Test.YtemlnkcokeckmaaRon
import Derived.Test.YtemlnkcokeckmaaBke
namespace Go.Proofs.Ytemlnkcokeckmaa
open Go.RowKit
attribute [local go_sem] Oper.semAt_some
set_option linter.unusedVariables false
set_option linter.unusedSimpArgs false

theorem ret_bb {a b : Bool} (h : a = b) : Ending.returned (.bool a) = .returned (.bool b) := by rw [h]
/-- no binding has the port, and it is the box's -/
def freeR (x : Bx) (M : List Bn) (p : Int) : Bool := !(M.any fun b => b.port == p) && (decide (x.lo ≤ p) && decide (p ≤ x.hi))

set_option maxRecDepth 100000 in
set_option maxHeartbeats 2000000 in
theorem free_any {w : World} {rb : Nat} {x : Bx} {now : Int} {v : Value} {L : List Rb} (h : Ra w rb x now v L) (p : Int) :
    Calls Try.prog 83 #[.pointer (some ⟨rb, 0, none⟩), .int .i64 p] w fun e w' => e = .returned (.bool (freeR x (L.map Rb.b) p)) ∧ w = w' := by
  obtain ⟨⟨-, c1, c2, -, -, -, -⟩, c7, -, -⟩ := h.cells
  have hl := h.lt
  obtain ⟨A, c, rfl, hlc, hcm, hnil, -⟩ := h.form
  have HR := Lib.hid h
  unfold maxLen at hcm
  obtain ⟨n, hn⟩ : ∃ n, L.length = n := ⟨_, rfl⟩
  have HN := Lib.hid hn
  rw [hn] at hlc c7 HR hnil
  clear h hn
  go_enter Try.func83, Try.ntmps83
  go_wp2
  go_loopw [5] (fun i wr => ∃ k : Nat, k ≤ n ∧ i = .int .i64 (k : Int) ∧ wr = w ∧ ∀ j e, j < k → L[j]? = some e → (e.b.port == p) = false) (fun i _ => n - (intOf i).toNat)
  case atStart => exact ⟨0, by omega, rfl, rfl, fun j e h => by omega⟩
  case round =>
    obtain ⟨k, hk, rfl, rfl, hno⟩ := hrel
    have HNO := Lib.hid hno
    clear hno
    by_cases hkn : k < n
    · obtain ⟨d, hd⟩ : ∃ d, L[k]? = some d := ⟨_, List.getElem?_eq_getElem (by have := HN.out; omega)⟩
      obtain ⟨g, c', e1, _, _, hat, hfz, hgl⟩ := HR.out.at hd
      cases e1
      have a4 : wr.cell? ⟨g, k * 8 + 4, none⟩ = some (.int .i64 d.b.port) := hat 4 (by omega)
      have HD := Lib.hid hd
      clear hat hfz hd
      by_cases hp : d.b.port = p
      · have t1 : (d.b.port == p) = true := by simpa using hp
        have HF : Hid (freeR x (L.map Rb.b) p = false) := Lib.hid (by
          unfold freeR
          rw [Bool.and_eq_false_iff]
          left
          rw [Bool.not_eq_false', List.any_eq_true]
          exact ⟨d.b, List.mem_map.2 ⟨d, List.mem_of_getElem? HD.out, rfl⟩, t1⟩)
        clear hp
        go_wp2
        go_ret
        exact ⟨ret_bb HF.out.symm, rfl⟩
      · have t1 : (d.b.port == p) = false := by simpa using hp
        have t2 : decide (d.b.port = p) = false := decide_eq_false hp
        have HT := Lib.hid t1
        clear hp
        go_wp2
        go_roundw
        case rel =>
          refine ⟨k + 1, by omega, by go_num, trivial, fun j e hj he => ?_⟩
          rcases Nat.lt_or_ge j k with h' | h'
          · exact HNO.out j e h' he
          · obtain rfl : j = k := by omega
            rw [HD.out] at he
            cases he
            exact HT.out
        case measure => simp [intOf]; omega
    · have HF : Hid (freeR x (L.map Rb.b) p = (decide (x.lo ≤ p) && decide (p ≤ x.hi))) := Lib.hid (by
        unfold freeR
        have : (L.map Rb.b).any (fun b => b.port == p) = false := by
          rw [List.any_eq_false]
          intro b hb
          obtain ⟨d, hd, rfl⟩ := List.mem_map.1 hb
          obtain ⟨j, hj, e⟩ := List.getElem_of_mem hd
          have := HNO.out j d (by have := HN.out; omega) (by rw [List.getElem?_eq_getElem hj, e])
          simp [this]
        rw [this]; rfl)
      by_cases h1 : x.lo ≤ p
      · by_cases h2 : p ≤ x.hi
        · have HG := Lib.hid (show freeR x (L.map Rb.b) p = true by rw [HF.out, decide_eq_true h1, decide_eq_true h2]; rfl)
          go_wp2
          go_ret
          exact ⟨ret_bb HG.out.symm, rfl⟩
        · have HG := Lib.hid (show freeR x (L.map Rb.b) p = false by rw [HF.out, decide_eq_true h1, decide_eq_false h2]; rfl)
          go_wp2
          go_ret
          exact ⟨ret_bb HG.out.symm, rfl⟩
      · have HG := Lib.hid (show freeR x (L.map Rb.b) p = false by rw [HF.out, decide_eq_false h1]; rfl)
        go_wp2
        go_ret
        exact ⟨ret_bb HG.out.symm, rfl⟩

theorem may33 (a : A2) (w : World) (ha : isA a) : Calls Try.prog 46 #[adr a] w fun e w' => e = .returned (.bool (mayA a)) ∧ Below w.heap.size w w' := by
  obtain ⟨a1, a2⟩ := a
  obtain ⟨⟨h0, _⟩, _⟩ := ha
  dsimp only at h0
  have HB : Hid (∀ C : Obj, Below w.heap.size w (w.alloc C)) := Lib.hid (fun C => (Below.refl _ w).alloc (Nat.le_refl _) _)
  unfold adr
  dsimp only
  by_cases h1 : 0 < a1
  · by_cases h2 : 0 < a2
    · by_cases h3 : a2 < 65536
      · have e : mayA (a1, a2) = true := mayA_t (by simp only; omega) (by simp only; omega) (by simp only; omega)
        rw [e]
        clear e h0
        go_enter Try.func46, Try.ntmps46
        go_wp2
        go_ret
        exact ⟨rfl, HB.out _⟩
      · have e : mayA (a1, a2) = false := mayA_f (by simp only; omega)
        rw [e]
        clear e h0
        go_enter Try.func46, Try.ntmps46
        go_wp2
        go_ret
        exact ⟨rfl, HB.out _⟩
    · have e : mayA (a1, a2) = false := mayA_f (by simp only; omega)
      rw [e]
      clear e h0
      go_enter Try.func46, Try.ntmps46
      go_wp2
      go_ret
      exact ⟨rfl, HB.out _⟩
  · have e : mayA (a1, a2) = false := mayA_f (by simp only; omega)
    rw [e]
    clear e h0
    go_enter Try.func46, Try.ntmps46
    go_wp2
    go_ret
    exact ⟨rfl, HB.out _⟩

theorem key_any {w : World} {rb : Nat} {x : Bx} {now : Int} {v : Value} {L : List Rb} (h : Ra w rb x now v L) (a : A2) :
    Calls Try.prog 49 #[.pointer (some ⟨rb, 0, none⟩), adr a] w fun e w' => e = .returned (adr (partA a x.map)) ∧ Below w.heap.size w w' := by
  obtain ⟨⟨-, -, -, c3, -, -, -⟩, -, -, -⟩ := h.cells
  have hl := h.lt
  have HB : Hid (∀ C C' : Obj, Below w.heap.size w ((w.alloc C).alloc C')) := Lib.hid (fun C C' => ((Below.refl _ w).alloc (Nat.le_refl _) _).alloc (by simp) _)
  obtain ⟨a1, a2⟩ := a
  unfold adr partA
  dsimp only
  generalize x.map = m at *
  clear h
  by_cases h0 : m = 0
  · subst h0
    rw [if_pos rfl]
    go_enter Try.func49, Try.ntmps49
    go_wp2
    exact ⟨rfl, .agg #[.int .u32 0, .int .i64 0], by simp [results, Try.results49, go_sem], rfl, HB.out _ _⟩
  · rw [if_neg h0]
    by_cases h1 : m = 1
    · subst h1
      rw [if_pos rfl]
      go_enter Try.func49, Try.ntmps49
      go_wp2
      exact ⟨rfl, .agg #[.int .u32 a1, .int .i64 0], by simp [results, Try.results49, go_sem], rfl, HB.out _ _⟩
    · rw [if_neg h1]
      have t0 : (m == 0) = false := by simpa using h0
      have t1 : (m == 1) = false := by simpa using h1
      go_enter Try.func49, Try.ntmps49
      go_wp2
      exact ⟨rfl, .agg #[.int .u32 a1, .int .i64 a2], by simp [results, Try.results49, go_sem], rfl, HB.out _ _⟩

theorem eq_adr (p q : A2) (W : World) : (binOp .eql 38 (.agg #[.int .u32 p.1, .int .i64 p.2]) (.agg #[.int .u32 q.1, .int .i64 q.2])).run Try.prog W = .ok (.bool (decide (p = q))) W := by
  have hm := noGuard38
  obtain ⟨p1, p2⟩ := p
  obtain ⟨q1, q2⟩ := q
  dsimp only
  by_cases h1 : p1 = q1
  · subst h1
    by_cases h2 : p2 = q2
    · subst h2
      have e : decide (((p1, p2) : A2) = (p1, p2)) = true := by simp
      rw [e]
      go_simp
    · have e : decide (((p1, p2) : A2) = (p1, q2)) = false := by simp [h2]
      rw [e]
      go_simp
  · have e : decide (((p1, p2) : A2) = (q1, q2)) = false := by simp [h1]
    rw [e]
    go_simp
/-- the binding of one that was asked for, or else towards another one -/
def findP (a : A2) (s : Bool) (t : A2) (b : Bn) : Bool := decide (b.inn = a) && ((b.asked == s) && (s || decide (b.to = t)))
/-- where it stands -/
def FindsR (L : List Rb) (p : Bn → Bool) (r : Int) : Prop := (∃ (k : Nat) (d : Rb), L[k]? = some d ∧ p d.b = true ∧ (∀ (j : Nat) (e : Rb), j < k → L[j]? = some e → p e.b = false) ∧ r = (k : Int)) ∨ ((∀ d ∈ L, p d.b = false) ∧ r = -1)

set_option maxRecDepth 100000 in
set_option maxHeartbeats 4000000 in
theorem find_any {w : World} {rb : Nat} {x : Bx} {now : Int} {v : Value} {L : List Rb} (h : Ra w rb x now v L) (a : A2) (s : Bool) (t : A2) :
    Calls Try.prog 48 #[.pointer (some ⟨rb, 0, none⟩), adr a, .bool s, adr t] w fun e w' => (∃ r, e = .returned (.int .i64 r) ∧ FindsR L (findP a s t) r) ∧ Below w.heap.size w w' := by
  obtain ⟨A, c, rfl, hlc, hcm, hnil, -⟩ := h.form
  unfold maxLen at hcm
  have HB : Hid (∀ C C' : Obj, Below w.heap.size w ((w.alloc C).alloc C')) := Lib.hid (fun C C' => ((Below.refl _ w).alloc (Nat.le_refl _) _).alloc (by simp) _)
  have HR := Lib.hid h
  have hl := h.lt
  obtain ⟨W1, hW1⟩ : ∃ W1, (w.alloc (.cells #[.int .u32 a.1, .int .i64 a.2] 38)).alloc (.cells #[.int .u32 t.1, .int .i64 t.2] 38) = W1 := ⟨_, rfl⟩
  have HR1 : Hid (Ra W1 rb x now (.slice A L.length c) L) := Lib.hid (by rw [← hW1]; exact h.below (HB.out _ _))
  have HBW : Hid (Below w.heap.size w W1) := Lib.hid (by rw [← hW1]; exact HB.out _ _)
  have n1 : W1.heap[w.heap.size]? = some (.cells #[.int .u32 a.1, .int .i64 a.2] 38 (0, 0)) := by
    rw [← hW1]
    have b3 : Below (w.heap.size + 1) (w.alloc (.cells #[.int .u32 a.1, .int .i64 a.2] 38)) ((w.alloc (.cells #[.int .u32 a.1, .int .i64 a.2] 38)).alloc (.cells #[.int .u32 t.1, .int .i64 t.2] 38)) := (Below.refl _ _).alloc (by simp) _
    exact (b3.block _ (by omega)).trans (World.alloc_heap_new w _)
  have n2 : W1.heap[w.heap.size + 1]? = some (.cells #[.int .u32 t.1, .int .i64 t.2] 38 (0, 0)) := by
    rw [← hW1]
    have := World.alloc_heap_new (w.alloc (.cells #[.int .u32 a.1, .int .i64 a.2] 38)) (.cells #[.int .u32 t.1, .int .i64 t.2] 38)
    rwa [World.size_alloc] at this
  have p0 : W1.cell? ⟨w.heap.size, 0, none⟩ = some (.int .u32 a.1) := (cells_of n1 0).1
  have p1 : W1.cell? ⟨w.heap.size, 1, none⟩ = some (.int .i64 a.2) := (cells_of n1 1).1
  have p2 : W1.cell? ⟨w.heap.size + 1, 0, none⟩ = some (.int .u32 t.1) := (cells_of n2 0).1
  have p3 : W1.cell? ⟨w.heap.size + 1, 1, none⟩ = some (.int .i64 t.2) := (cells_of n2 1).1
  obtain ⟨-, c7, -, -⟩ := HR1.out.cells
  have hl1 := HR1.out.lt
  have l1 : w.heap.size < W1.heap.size := (Array.getElem?_eq_some_iff.1 n1).1
  have l2 : w.heap.size + 1 < W1.heap.size := (Array.getElem?_eq_some_iff.1 n2).1
  obtain ⟨n, hn⟩ : ∃ n, L.length = n := ⟨_, rfl⟩
  have HN := Lib.hid hn
  rw [hn] at hlc c7 HR HR1 hnil
  clear h hn n1 n2
  unfold adr
  go_enter Try.func48, Try.ntmps48
  go_wp2
  try rw [hW1]
  clear hW1 HB HR hl
  go_loopw [9] (fun i wr => ∃ k q : Nat, k ≤ n ∧ i = .int .i64 (k : Int) ∧ wr = W1.drewN q ∧ ∀ j e, j < k → L[j]? = some e → findP a s t e.b = false) (fun i _ => n - (intOf i).toNat)
  case atStart => exact ⟨0, 0, by omega, rfl, rfl, fun j e h => by omega⟩
  case round =>
    obtain ⟨k, q, hk, rfl, rfl, hno⟩ := hrel
    have HNO := Lib.hid hno
    clear hno
    by_cases hkn : k < n
    · obtain ⟨d, hd⟩ : ∃ d, L[k]? = some d := ⟨_, List.getElem?_eq_getElem (by have := HN.out; omega)⟩
      obtain ⟨g, c', e1, _, _, hat, hfz, hgl⟩ := HR1.out.at hd
      cases e1
      have a0 : W1.cell? ⟨g, k * 8, none⟩ = some (.int .u32 d.b.inn.1) := hat 0 (by omega)
      have a1 : W1.cell? ⟨g, k * 8 + 1, none⟩ = some (.int .i64 d.b.inn.2) := hat 1 (by omega)
      have a2 : W1.cell? ⟨g, k * 8 + 2, none⟩ = some (.int .u32 d.b.to.1) := hat 2 (by omega)
      have a3 : W1.cell? ⟨g, k * 8 + 3, none⟩ = some (.int .i64 d.b.to.2) := hat 3 (by omega)
      have a6 : W1.cell? ⟨g, k * 8 + 6, none⟩ = some (.bool d.b.asked) := hat 6 (by omega)
      have HD := Lib.hid hd
      have hq1 := fun W => eq_adr d.b.inn a W
      have hq2 := fun W => eq_adr d.b.to t W
      have HP : Hid (findP a s t d.b = (decide (d.b.inn = a) && ((d.b.asked == s) && (s || decide (d.b.to = t))))) := Lib.hid rfl
      have HSTEP : Hid (findP a s t d.b = false → ∀ j e, j < k + 1 → L[j]? = some e → findP a s t e.b = false) := Lib.hid (fun hf j e hj he => by
        rcases Nat.lt_or_ge j k with h' | h'
        · exact HNO.out j e h' he
        · obtain rfl : j = k := by omega
          rw [HD.out] at he
          cases he
          exact hf)
      clear hat hfz hd
      generalize decide (d.b.inn = a) = u1 at *
      generalize decide (d.b.to = t) = u2 at *
      generalize d.b.asked = sd at *
      cases u1 with
      | false =>
        go_wp2_with fail
        go_quiet (fail)
        go_wp2
        go_roundw
        case rel => exact ⟨k + 1, _, by omega, by go_num, rfl, HSTEP.out (by rw [HP.out]; rfl)⟩
        case measure => simp [intOf]; omega
      | true =>
        cases s with
        | true =>
          cases sd with
          | true =>
            go_wp2_with fail
            go_quiet (fail)
            go_wp2
            go_ret
            exact ⟨⟨_, rfl, .inl ⟨k, d, HD.out, by rw [HP.out]; rfl, HNO.out, rfl⟩⟩, below_drw (below_drw HBW.out _) _⟩
          | false =>
            go_wp2_with fail
            go_quiet (fail)
            go_wp2
            go_roundw
            case rel => exact ⟨k + 1, _, by omega, by go_num, rfl, HSTEP.out (by rw [HP.out]; rfl)⟩
            case measure => simp [intOf]; omega
        | false =>
          cases sd with
          | true =>
            go_wp2_with fail
            go_quiet (fail)
            go_wp2
            go_roundw
            case rel => exact ⟨k + 1, _, by omega, by go_num, rfl, HSTEP.out (by rw [HP.out]; rfl)⟩
            case measure => simp [intOf]; omega
          | false =>
            cases u2 with
            | true =>
              go_wp2_with fail
              go_quiet (fail)
              go_wp2
              go_ret
              exact ⟨⟨_, rfl, .inl ⟨k, d, HD.out, by rw [HP.out]; rfl, HNO.out, rfl⟩⟩, below_drw (below_drw HBW.out _) _⟩
            | false =>
              go_wp2_with fail
              go_quiet (fail)
              go_wp2
              go_roundw
              case rel => exact ⟨k + 1, _, by omega, by go_num, rfl, HSTEP.out (by rw [HP.out]; rfl)⟩
              case measure => simp [intOf]; omega
    · have HALL : Hid (∀ d ∈ L, findP a s t d.b = false) := Lib.hid (fun d hd => by
        obtain ⟨j, hj, e⟩ := List.getElem_of_mem hd
        exact HNO.out j d (by have := HN.out; omega) (by rw [List.getElem?_eq_getElem hj, e]))
      go_wp2
      go_ret
      exact ⟨⟨_, rfl, .inr ⟨HALL.out, rfl⟩⟩, below_drw HBW.out _⟩
end Go.Proofs.Ytemlnkcokeckmaa
