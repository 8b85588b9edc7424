/-
  The document's own box in memory: the box, the row of its bindings, each with the row of those that it has seen. Conditions: as each lemma states.
-/
import Derived.Test.YtemlnkcokeckmaaPlb
namespace Go.Proofs.Ytemlnkcokeckmaa
open Go.RowKit
set_option linter.unusedVariables false

/-- a binding in the document's row, and its row of seen ones as a value -/
structure Rb where
  b : Bn
  sv : Value
def rbCells (d : Rb) : List Value := [.int .u32 d.b.inn.1, .int .i64 d.b.inn.2, .int .u32 d.b.to.1, .int .i64 d.b.to.2, .int .i64 d.b.port, .int .i64 d.b.until_, .bool d.b.asked, d.sv]
def cellsR (L : List Rb) : List Value := L.flatMap rbCells
theorem cellsR_cons (d : Rb) (L : List Rb) : cellsR (d :: L) = rbCells d ++ cellsR L := rfl
theorem cellsR_append (L M : List Rb) : cellsR (L ++ M) = cellsR L ++ cellsR M := by simp [cellsR]
theorem cellsR_len : ∀ L : List Rb, (cellsR L).length = L.length * 8
  | [] => rfl
  | d :: L => by rw [cellsR_cons, List.length_append, cellsR_len L]; simp [rbCells]; omega
theorem cellsR_drop (L : List Rb) (k j : Nat) : (cellsR (L.drop k))[j]? = (cellsR L)[k * 8 + j]? := by
  induction k generalizing L with
  | zero => simp
  | succ k ih =>
    cases L with
    | nil => simp [cellsR]
    | cons d L =>
      rw [List.drop_succ_cons, ih, cellsR_cons, List.getElem?_append_right (by simp [rbCells]; omega)]
      congr 1
      simp [rbCells]; omega
theorem cellsR_at {L : List Rb} {k : Nat} {d : Rb} (h : L[k]? = some d) (i : Nat) (hi : i < 8) : (cellsR L)[k * 8 + i]? = (rbCells d)[i]? := by
  have hk := (List.getElem?_eq_some_iff.1 h).1
  have h1 : L.drop k = d :: L.drop (k + 1) := by
    rw [List.drop_eq_getElem_cons hk]
    rw [List.getElem?_eq_getElem hk] at h
    rw [Option.some.inj h]
  rw [← cellsR_drop, h1, cellsR_cons, List.getElem?_append_left (by simpa [rbCells] using hi)]
/-- sv is a slice that reads as the addresses l -/
def SeenAt (w : World) (sv : Value) (l : List A2) : Prop := ∃ A c, sv = .slice A l.length c ∧ l.length ≤ c ∧ c ≤ maxLen ∧ (A = none → l.length = 0 ∧ c = 0) ∧ ∀ ad, A = some ad → ∃ b off C, ad = ⟨b, off, none⟩ ∧ w.heap[b]? = some (.cells C 38 (0, 0)) ∧ ∀ j y, (cellsA l)[j]? = some y → C[off + j]? = some y
def blockOf : Value → Option Nat
  | .slice (some ad) _ _ => some ad.block
  | _ => none
theorem SeenAt.nil (w : World) : SeenAt w (.slice none 0 0) [] := ⟨none, 0, rfl, Nat.le_refl _, Nat.zero_le _, fun _ => ⟨rfl, rfl⟩, fun ad h => by cases h⟩
theorem SeenAt.kept {w w' : World} {sv : Value} {l : List A2} (h : SeenAt w sv l) (hk : ∀ k, blockOf sv = some k → w'.heap[k]? = w.heap[k]?) : SeenAt w' sv l := by
  obtain ⟨A, c, rfl, h1, h2, h3, h4⟩ := h
  refine ⟨A, c, rfl, h1, h2, h3, fun ad had => ?_⟩
  obtain ⟨b, off, C, rfl, h5, h6⟩ := h4 ad had
  exact ⟨b, off, C, rfl, (hk b (by rw [had]; rfl)).trans h5, h6⟩
theorem SeenAt.lt {w : World} {sv : Value} {l : List A2} (h : SeenAt w sv l) {k : Nat} (hk : blockOf sv = some k) : k < w.heap.size ∧ ∃ C, w.heap[k]? = some (.cells C 38 (0, 0)) := by
  obtain ⟨A, c, rfl, h1, h2, h3, h4⟩ := h
  cases A with
  | none => cases hk
  | some ad =>
    obtain ⟨b, off, C, rfl, h5, h6⟩ := h4 ad rfl
    cases hk
    exact ⟨(Array.getElem?_eq_some_iff.1 h5).1, C, h5⟩
theorem sv_one {w : World} {sv : Value} {l : List A2} (h : SeenAt w sv l) : sv.oneCell' = true := by
  obtain ⟨A, c, rfl, _⟩ := h
  rfl
/-- the document's box in memory -/
structure Ra (w : World) (rb : Nat) (x : Bx) (now : Int) (v : Value) (L : List Rb) : Prop where
  top : w.heap[rb]? = some (.cells (natCells x v now) 36 (0, 0))
  row : w.ownsRow 0 104 8 v L.length (cellsR L)
  nds : ∀ d ∈ L, SeenAt w d.sv d.b.seen
/-- the blocks of the document's box -/
def RFoot (rb : Nat) (v : Value) (L : List Rb) (k : Nat) : Prop := k = rb ∨ v.ownBlock = some k ∨ ∃ d ∈ L, blockOf d.sv = some k
section
variable {w w' : World} {rb : Nat} {x : Bx} {now : Int} {v : Value} {L : List Rb} {d : Rb}
theorem Ra.kept (h : Ra w rb x now v L) (hk : ∀ k, RFoot rb v L k → w'.heap[k]? = w.heap[k]?) : Ra w' rb x now v L :=
  ⟨(hk rb (.inl rfl)).trans h.top, own_at h.row (fun g hg => hk g (.inr (.inl hg))), fun d hd => (h.nds d hd).kept (fun k hk2 => hk k (.inr (.inr ⟨d, hd, hk2⟩)))⟩
theorem Ra.lt (h : Ra w rb x now v L) : rb < w.heap.size := (Array.getElem?_eq_some_iff.1 h.top).1
theorem Ra.foot_lt (h : Ra w rb x now v L) {k : Nat} (hk : RFoot rb v L k) : k < w.heap.size := by
  rcases hk with rfl | hk | ⟨d, hd, hk⟩
  · exact h.lt
  · obtain ⟨C, hC⟩ := own_obj h.row hk
    exact (Array.getElem?_eq_some_iff.1 hC).1
  · exact ((h.nds d hd).lt hk).1
theorem Ra.below (h : Ra w rb x now v L) (hb : Below w.heap.size w w') : Ra w' rb x now v L := h.kept fun k hk => hb.block k (h.foot_lt hk)
theorem Ra.drewN (h : Ra w rb x now v L) (q : Nat) : Ra (w.drewN q) rb x now v L := h.below (below_drw (Below.refl _ w) q)
theorem Ra.ne_row (h : Ra w rb x now v L) : v.ownBlock ≠ some rb := fun e => by
  obtain ⟨C, hC⟩ := own_obj h.row e
  exact clash h.top hC (by decide)
theorem Ra.ne_seen (h : Ra w rb x now v L) (hd : d ∈ L) : blockOf d.sv ≠ some rb := fun e => by
  obtain ⟨_, C, hC⟩ := (h.nds d hd).lt e
  exact clash h.top hC (by decide)
theorem Ra.row_seen (h : Ra w rb x now v L) (hd : d ∈ L) {g : Nat} (hg : v.ownBlock = some g) : blockOf d.sv ≠ some g := fun e => by
  obtain ⟨C, hC⟩ := own_obj h.row hg
  obtain ⟨_, C', hC'⟩ := (h.nds d hd).lt e
  exact clash hC hC' (by decide)
/-- the box's cells in the walk's words -/
theorem Ra.cells (h : Ra w rb x now v L) : (w.cell? ⟨rb, 0, none⟩ = some (.int .u32 x.host) ∧ w.cell? ⟨rb, 1, none⟩ = some (.int .i64 x.lo) ∧ w.cell? ⟨rb, 2, none⟩ = some (.int .i64 x.hi) ∧ w.cell? ⟨rb, 3, none⟩ = some (.int .i64 x.map) ∧ w.cell? ⟨rb, 4, none⟩ = some (.int .i64 x.filter) ∧ w.cell? ⟨rb, 5, none⟩ = some (.int .i64 x.life) ∧ w.cell? ⟨rb, 6, none⟩ = some (.int .i64 x.most)) ∧ w.cell? ⟨rb, 7, none⟩ = some v ∧ w.cell? ⟨rb, 8, none⟩ = some (.int .i64 now) ∧ ∀ j, w.frozen? ⟨rb, j, none⟩ = false := by
  have h0 := fun j => (cells_of h.top j).1
  exact ⟨⟨h0 0, h0 1, h0 2, h0 3, h0 4, h0 5, h0 6⟩, h0 7, h0 8, fun j => (cells_of h.top j).2⟩
/-- the row's form -/
theorem Ra.form (h : Ra w rb x now v L) : ∃ A c, v = .slice A L.length c ∧ L.length ≤ c ∧ c ≤ maxLen ∧ (A = none → L.length = 0 ∧ c = 0) ∧ ∀ ad, A = some ad → ∃ g, ad = ⟨g, 0, none⟩ := by
  rcases h.row.2 with ⟨h1, h2⟩ | ⟨g, cap, cur, h1, _, h2, h3, h4, h5, h6⟩
  · exact ⟨none, 0, by rw [h1, h2], by omega, Nat.zero_le _, fun _ => ⟨h2, rfl⟩, fun ad h => by cases h⟩
  · exact ⟨some ⟨g, 0, none⟩, cap, h1, h3, h4, (by intro h; cases h), (by intro ad h; cases h; exact ⟨g, rfl⟩)⟩
/-- a binding's cells in the row -/
theorem Ra.at (h : Ra w rb x now v L) {k : Nat} (hk : L[k]? = some d) : ∃ g c, v = .slice (some ⟨g, 0, none⟩) L.length c ∧ L.length ≤ c ∧ c ≤ maxLen ∧ (∀ i, i < 8 → w.cell? ⟨g, k * 8 + i, none⟩ = (rbCells d)[i]?) ∧ (∀ j, w.frozen? ⟨g, j, none⟩ = false) ∧ g < w.heap.size := by
  have hkl := (List.getElem?_eq_some_iff.1 hk).1
  rcases h.row.2 with ⟨h1, h2⟩ | ⟨g, cap, cur, h1, _, h2, h3, h4, h5, h6⟩
  · omega
  · refine ⟨g, cap, h1, h3, h4, fun i hi => ?_, fun j => (cells_of h2 j).2, (Array.getElem?_eq_some_iff.1 h2).1⟩
    have hr := h.row
    rw [h1] at hr
    rw [hr.cellAt (k * 8 + i) (by omega)]
    exact cellsR_at hk i hi
end
theorem info78 : (Try.prog.info? 104).map (fun i => (i.zero, i.size, i.bytes)) = some (some (.agg #[.int .u32 0, .int .i64 0, .int .u32 0, .int .i64 0, .int .i64 0, .int .i64 0, .bool false, .slice none 0 0]), 8, 80) := by kernel_rfl
end Go.Proofs.Ytemlnkcokeckmaa
