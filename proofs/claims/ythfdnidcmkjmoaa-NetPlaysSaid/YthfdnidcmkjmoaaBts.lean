/-
  Words that contracts share: a slice that reads as bytes; a row of the call's own; a slice of integers that came in. Conditions: as each lemma states.
-/
import Derived.Test.YthfdnidcmkjmoaaRows
import Derived.WalkKit
import Derived.WalkSpells
import Derived.WalkLawsBesides
import Derived.Below
import Derived.Lib.Hide
import Derived.Laws.OwnMore
import Derived.Maps.AppendAt
import Derived.Deep.QuietTactic
import Derived.BigQuiet
import Derived.OpenShut
import Derived.Laws.AppendOwnNone
namespace Go.Proofs.Ythfdnidcmkjmoaa
open Go.RowKit
set_option linter.unusedVariables false

/-- the slice value '.slice A n c' reads, in w, as the bytes zs -/
def Bts (w : World) (A : Option Addr) (n : Nat) (zs : List Int) : Prop :=
  zs.length = n ∧ (∀ z ∈ zs, 0 ≤ z ∧ z ≤ 255) ∧
  (0 < n → ∃ b off, A = some ⟨b, off, none⟩ ∧ b < w.heap.size ∧ ∀ j, j < n → w.cell? ⟨b, off + j, none⟩ = some (.int .u8 (zs.getD j 0)))

theorem getD_bd {zs : List Int} (h : ∀ z ∈ zs, 0 ≤ z ∧ z ≤ 255) (j : Nat) : 0 ≤ zs.getD j 0 ∧ zs.getD j 0 ≤ 255 := by
  by_cases hj : j < zs.length
  · have := h zs[j] (List.getElem_mem hj)
    simpa [List.getD, hj] using this
  · simp [List.getD, List.getElem?_eq_none (by omega : zs.length ≤ j)]

theorem u8_info : (Try.prog.info? 5).map (fun i => (i.zero, i.size, i.bytes)) = some (some (.int .u8 0), 1, 1) := by kernel_rfl

/-- bytes as values -/
def B (zs : List Int) : List Value := zs.map (Value.int .u8)
theorem B_length (zs : List Int) : (B zs).length = zs.length := by simp [B]
theorem B_one (zs : List Int) : ∀ u ∈ B zs, u.oneCell' = true := by
  intro u hu
  obtain ⟨z, _, rfl⟩ := List.mem_map.1 hu
  rfl
theorem B_append (xs ys : List Int) : B (xs ++ ys) = B xs ++ B ys := by simp [B]
theorem B_at (zs : List Int) (j : Nat) (h : j < zs.length) : (B zs)[j]? = some (.int .u8 (zs.getD j 0)) := by simp [B, List.getD, h]

section
variable {w w' : World} {base : Nat} {v : Value} {n : Nat} {zs : List Int}
theorem own_below (h : w.ownsRow base 5 1 v n (B zs)) (hb : Below w.heap.size w w') : w'.ownsRow base 5 1 v n (B zs) := by
  refine ⟨h.1, ?_⟩
  rcases h.2 with hn | ⟨g, cap, cur, rfl, h1, hgg, rest⟩
  · exact .inl hn
  · exact .inr ⟨g, cap, cur, rfl, h1, (hb.block g (Array.getElem?_eq_some_iff.1 hgg).1).trans hgg, rest⟩
/-- the form of an owned row, and that it reads as its bytes -/
theorem own_form (h : w.ownsRow base 5 1 v n (B zs)) (hz : ∀ z ∈ zs, 0 ≤ z ∧ z ≤ 255) : ∃ A c, v = .slice A n c ∧ n ≤ c ∧ c ≤ maxLen ∧ Bts w A n zs := by
  have hl : zs.length = n := by have := h.1; rw [B_length] at this; omega
  rcases h.2 with ⟨rfl, rfl⟩ | ⟨g, cap, cur, rfl, h1, hgg, h2, h3, rest⟩
  · exact ⟨none, 0, rfl, Nat.le_refl _, Nat.zero_le _, hl, hz, fun h => by omega⟩
  · refine ⟨_, cap, rfl, h2, h3, hl, hz, fun _ => ⟨g, 0, rfl, (Array.getElem?_eq_some_iff.1 hgg).1, fun j hj => ?_⟩⟩
    have := h.cellAt j (by omega)
    rw [B_at zs j (by omega)] at this
    simpa using this
theorem Bts.below {A : Option Addr} (h : Bts w A n zs) (hb : Below w.heap.size w w') : Bts w' A n zs := by
  obtain ⟨h1, h2, h3⟩ := h
  refine ⟨h1, h2, fun hn => ?_⟩
  obtain ⟨b, off, rfl, hlt, hc⟩ := h3 hn
  exact ⟨b, off, rfl, Nat.lt_of_lt_of_le hlt hb.size, fun j hj => (hb.cell (p := ⟨b, off + j, none⟩) hlt).trans (hc j hj)⟩
end

theorem ret_int {k : IntKind} {a b : Int} (h : a = b) : Ending.returned (.int k a) = .returned (.int k b) := by rw [h]
theorem ret_bool {a b : Bool} (h : a = b) : Ending.returned (.bool a) = .returned (.bool b) := by rw [h]
theorem below_drewN' {B : Nat} {a w : World} (h : Below B a w) (n : Nat) : Below B a (w.drewN n) := h.trans ⟨rfl, rfl, rfl, Nat.le_refl _, fun _ _ => rfl⟩
theorem grow_below {w wr w1 : World} {u : Value} {k : Nat} {xs : List Value} {o : Obj} (hown : wr.ownsRow w.heap.size 5 1 u k xs) (hb : Below w.heap.size w wr) (hg : (wr.alloc o).grownBy w1 u.ownBlock) :
    Below w.heap.size w w1 := (hb.alloc hb.size o).grown hg (by have := hb.size; simp; omega) (fun g h => (hown.lt g h).1)

/-- what the walk is told of a slice of integers that came in: it is nil; or it leads to a row of 'cap' cells, the numbers 'zs' -/
def IsRow (k : IntKind) (w : World) (a : Option Addr) (len cap : Nat) (zs : List Int) : Prop :=
  (a = none ∧ len = 0 ∧ cap = 0 ∧ zs = []) ∨
  ∃ x, a = some x ∧ len ≤ cap ∧ cap ≤ maxLen ∧ zs.length = cap ∧ (∀ i, i < zs.length → w.cell? (x.add i) = some (.int k (zs.getD i 0))) ∧ ∀ n ∈ zs, (Lit.int k n).wf = true

theorem lt_of_cell {w : World} {a : Addr} {v : Value} (h : w.cell? a = some v) : a.block < w.heap.size := by
  rcases Nat.lt_or_ge a.block w.heap.size with h' | h'
  · exact h'
  · unfold World.cell? at h
    rw [Array.getElem?_eq_none h'] at h
    simp at h
theorem wf_u8 {n : Int} (h : (Lit.int .u8 n).wf = true) : 0 ≤ n ∧ n ≤ 255 := by
  have := bounds_u8 h
  omega
theorem bts_of_row {w : World} {a : Option Addr} {len cap : Nat} {zs : List Int} (h : IsRow .u8 w a len cap zs) : Bts w a len (zs.take len) ∧ len ≤ cap ∧ cap ≤ maxLen := by
  rcases h with ⟨rfl, rfl, rfl, rfl⟩ | ⟨x, rfl, h1, h2, h3, h4, h5⟩
  · exact ⟨⟨rfl, by simp, fun h => by omega⟩, Nat.le_refl _, Nat.zero_le _⟩
  · refine ⟨⟨by simp; omega, fun z hz => wf_u8 (h5 z (List.mem_of_mem_take hz)), fun hn => ?_⟩, h1, h2⟩
    obtain ⟨b, off, rfl, hc⟩ := ints_at h4 (by omega)
    refine ⟨b, off, rfl, lt_of_cell (hc 0 (by omega)), fun j hj => ?_⟩
    rw [hc j (by omega)]
    simp [List.getD, hj]

/-- an address and cells of a row that reads as bytes, for a law on append -/
theorem Bts.news {w : World} {ad : Addr} {n : Nat} {zs : List Int} (h : Bts w (some ad) n zs) : ∀ j u, (B zs)[j]? = some u → w.cell? (ad.add j) = some u := by
  intro j u hu
  obtain ⟨h1, h2, h3⟩ := h
  have hj : j < zs.length := by
    have := (List.getElem?_eq_some_iff.1 hu).1
    rwa [B_length] at this
  obtain ⟨b, off, e, _, hc⟩ := h3 (by omega)
  injection e with e
  subst e
  rw [B_at zs j hj] at hu
  injection hu with hu
  subst hu
  have e2 : (⟨b, off, none⟩ : Addr).add j = ⟨b, off + j, none⟩ := by unfold Addr.add; split <;> simp_all
  rw [e2]
  exact hc j (by omega)
theorem Bts.bd {w : World} {A : Option Addr} {n : Nat} {zs : List Int} (h : Bts w A n zs) : ∀ z ∈ zs, 0 ≤ z ∧ z ≤ 255 := h.2.1
theorem Bts.len {w : World} {A : Option Addr} {n : Nat} {zs : List Int} (h : Bts w A n zs) : zs.length = n := h.1
theorem Bts.drewN {w : World} {A : Option Addr} {n : Nat} {zs : List Int} (h : Bts w A n zs) (q : Nat) : Bts (w.drewN q) A n zs := h
theorem Bts.alloc {w : World} {A : Option Addr} {n : Nat} {zs : List Int} (h : Bts w A n zs) (o : Obj) : Bts (w.alloc o) A n zs := h.below ((Below.refl _ _).alloc (Nat.le_refl _) o)
theorem Bts.some_of {w : World} {A : Option Addr} {n : Nat} {zs : List Int} (h : Bts w A n zs) (hn : 0 < n) : ∃ ad, A = some ad := by
  obtain ⟨b, off, rfl, _⟩ := h.2.2 hn
  exact ⟨_, rfl⟩
theorem mem_append_bd {xs ys : List Int} (h1 : ∀ z ∈ xs, 0 ≤ z ∧ z ≤ 255) (h2 : ∀ z ∈ ys, 0 ≤ z ∧ z ≤ 255) : ∀ z ∈ xs ++ ys, 0 ≤ z ∧ z ≤ 255 := by
  intro z hz
  rcases List.mem_append.1 hz with h | h
  · exact h1 z h
  · exact h2 z h

theorem nil_of_row {k : IntKind} {w : World} {a : Option Addr} {len cap : Nat} {zs : List Int} (h : IsRow k w a len cap zs) : a = none → len = 0 ∧ cap = 0 := by
  rcases h with ⟨rfl, rfl, rfl, rfl⟩ | ⟨x, rfl, _⟩
  · exact fun _ => ⟨rfl, rfl⟩
  · exact fun h => by cases h

/-- 'append(s, x...)' onto a row of the call's own, x whatever reads as bytes -/
theorem wpList_append_bts {w : World} {ops : Array Oper} {rest : List Oper} {o : Oper} {a : Act} {Q : Exit → Act → World → Prop} (hgd : o.guard = none) (s x : Operand)
    (ho : o.op = .call { callee := .builtin .append, args := #[s, x], argTypes := #[34, 34] }) (base : Nat) (v : Value) (n : Nat) (xs : List Int) (hs : a.eval s = v) (hown : w.ownsRow base 5 1 v n (B xs))
    (A : Option Addr) (m c : Nat) (zs : List Int) (hx : a.eval x = .slice A m c) (hb : Bts w A m zs) (hnil : A = none → m = 0 ∧ c = 0) (hsz : n + m ≤ 140737488355328) (hbase : base ≤ w.heap.size)
    (h : ∀ v' w', w'.ownsRow base 5 1 v' (n + m) (B (xs ++ zs)) → w.grownBy w' v.ownBlock → wpList Try.prog ops Q rest (a.put o.dst v') w') : wpList Try.prog ops Q (o :: rest) a w := by
  obtain ⟨i0, hi0, hz0, hz1, hz2⟩ := info_parts u8_info
  cases A with
  | none =>
    obtain ⟨rfl, rfl⟩ := hnil rfl
    have hz : zs = [] := List.eq_nil_of_length_eq_zero hb.len
    subst hz
    refine wpList_append_own_none hgd s x 34 ho base 5 i0 1 Try.underlying34 hi0 v n (B xs) hs hown hx ?_
    exact h v w (by simpa using hown) (World.grownBy.refl w _)
  | some ad =>
    refine wpList_append_own w hgd s x 34 ho base 5 i0 (.int .u8 0) 1 1 Try.underlying34 hi0 hz0 hz1 hz2 rfl (by decide) v n (B xs) hs hown ad m c (B zs) hx (by rw [B_length, hb.len]; omega) hb.news (B_one zs)
      (by unfold maxLen; omega) (by omega) hbase ?_
    intro v' w' h1 h2 _
    rw [← B_append] at h1
    exact h v' w' h1 h2
theorem lit_own (W : World) : (W.alloc (.cells #[] 5)).ownsRow W.heap.size 5 1 (.slice (some ⟨W.heap.size, 0, none⟩) 0 0) 0 (B []) := World.ownsRow_lit W #[] 0 (Nat.le_refl _) (Nat.zero_le _) rfl
theorem own_grown_below {W w w' : World} {v : Value} {n base : Nat} {xs : List Value} (hown : w.ownsRow base 5 1 v n xs) (hb : Below W.heap.size W w) (hW : W.heap.size ≤ base) (hg : w.grownBy w' v.ownBlock) : Below W.heap.size W w' :=
  hb.grown hg hb.size (fun g h => Nat.le_trans hW (hown.lt g h).1)
/-- what an append leaves of a row that lies elsewhere -/
theorem Bts.grown {w w' : World} {A : Option Addr} {n : Nat} {zs : List Int} {v : Value} {k base : Nat} {xs : List Value} (h : Bts w A n zs) (hown : w.ownsRow base 5 1 v k xs) (hA : ∀ ad, A = some ad → ad.block < base) (hg : w.grownBy w' v.ownBlock) : Bts w' A n zs := by
  obtain ⟨h1, h2, h3⟩ := h
  refine ⟨h1, h2, fun hn => ?_⟩
  obtain ⟨b, off, rfl, hlt, hc⟩ := h3 hn
  refine ⟨b, off, rfl, Nat.lt_of_lt_of_le hlt hg.size, fun j hj => ?_⟩
  have hb : b < base := hA _ rfl
  refine (World.cell?_of_block (w := w) (hg.block b hlt ?_)).trans (hc j hj)
  intro e
  have := (hown.lt b e.symm).1
  omega

theorem own_nil {w : World} {base n c : Nat} {A : Option Addr} {xs : List Value} (h : w.ownsRow base 5 1 (.slice A n c) n xs) : A = none → n = 0 ∧ c = 0 := by
  rintro rfl
  rcases h.2 with ⟨e, rfl⟩ | ⟨g, cap, cur, e, _⟩
  · simp only [Value.slice.injEq] at e
    exact ⟨rfl, e.2.2⟩
  · simp at e

theorem lit1 (W : World) (z : Int) (h : 0 ≤ z ∧ z ≤ 255) : Bts (W.alloc (.cells #[.int .u8 z] 5)) (some ⟨W.heap.size, 0, none⟩) 1 [z] := by
  refine ⟨rfl, by simpa using h, fun _ => ⟨W.heap.size, 0, rfl, by simp, fun j hj => ?_⟩⟩
  obtain rfl : j = 0 := by omega
  go_simp
theorem Bts.cut {w : World} {A : Option Addr} {n r : Nat} {zs : List Int} (h : Bts w A n zs) (hr : r ≤ n) : Bts w A r (zs.take r) := by
  obtain ⟨h1, h2, h3⟩ := h
  refine ⟨by simp; omega, fun z hz => h2 z (List.mem_of_mem_take hz), fun hn => ?_⟩
  obtain ⟨b, off, rfl, hb, hc⟩ := h3 (by omega)
  refine ⟨b, off, rfl, hb, fun j hj => ?_⟩
  rw [hc j (by omega)]
  simp [List.getD, hj]
theorem own_some {w : World} {base n : Nat} {v : Value} {xs : List Value} (h : w.ownsRow base 5 1 v n xs) (hn : 0 < n) : ∃ g c, v = .slice (some ⟨g, 0, none⟩) n c ∧ base ≤ g ∧ n ≤ c ∧ c ≤ maxLen := by
  rcases h.2 with ⟨e, rfl⟩ | ⟨g, cap, cur, rfl, h1, _, h2, h3, _⟩
  · omega
  · exact ⟨g, cap, rfl, h1, h2, h3⟩
theorem stored_own {w : World} {base n g c : Nat} {zs : List Int} (h : w.ownsRow base 5 1 (.slice (some ⟨g, 0, none⟩) n c) n (B zs)) (m : Nat) (z : Int) :
    (w.setCell ⟨g, m, none⟩ (.int .u8 z)).ownsRow base 5 1 (.slice (some ⟨g, 0, none⟩) n c) n (B (zs.set m z)) := by
  have := (h.stored m (.int .u8 z)).1
  rw [show (B zs).set m (.int .u8 z) = B (zs.set m z) by simp [B, List.map_set]] at this
  exact this

theorem lit1' (W : World) (z : Int) (h : 0 ≤ z ∧ z ≤ 255) (g : Nat) (hg : g = W.heap.size) : Bts (W.alloc (.cells #[.int .u8 z] 5)) (some ⟨g, 0, none⟩) 1 [z] := by
  subst hg
  exact lit1 W z h

end Go.Proofs.Ythfdnidcmkjmoaa
