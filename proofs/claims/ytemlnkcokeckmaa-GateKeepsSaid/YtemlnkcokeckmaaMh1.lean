/-
  Words that contracts share: a slice that reads as bytes; a row of the call's own; a slice of integers that came in. Conditions: as each lemma states.
  The contract of the document's own embrasureref01.Same: whether two rows of bytes are the same. Conditions: the slices read as bytes.
  Numbers as bytes, the greatest first, and back; contracts of the small functions of pmp and of the document's own: fits, in, Big, Num. Conditions: as each lemma states.
  Contracts of the document's own Big and Num. Conditions: as each lemma states.
-/
import Derived.Test.YtemlnkcokeckmaaRows
import Derived.WalkKit
import Derived.WalkSpells
import Derived.WalkLawsBesides
import Derived.Below
import Derived.Lib.Hide
import Derived.Laws.OwnMore
import Derived.Maps.AppendAt
import Derived.Deep.QuietTactic
import Derived.BigQuiet
import Derived.OpenShut
import Derived.Laws.AppendOwnNone
namespace Go.Proofs.Ytemlnkcokeckmaa.Pp
open Go.RowKit
set_option linter.unusedVariables false

/-- the slice value '.slice A n c' reads, in w, as the bytes zs -/
def Bts (w : World) (A : Option Addr) (n : Nat) (zs : List Int) : Prop :=
  zs.length = n ∧ (∀ z ∈ zs, 0 ≤ z ∧ z ≤ 255) ∧
  (0 < n → ∃ b off, A = some ⟨b, off, none⟩ ∧ b < w.heap.size ∧ ∀ j, j < n → w.cell? ⟨b, off + j, none⟩ = some (.int .u8 (zs.getD j 0)))

theorem getD_bd {zs : List Int} (h : ∀ z ∈ zs, 0 ≤ z ∧ z ≤ 255) (j : Nat) : 0 ≤ zs.getD j 0 ∧ zs.getD j 0 ≤ 255 := by
  by_cases hj : j < zs.length
  · have := h zs[j] (List.getElem_mem hj)
    simpa [List.getD, hj] using this
  · simp [List.getD, List.getElem?_eq_none (by omega : zs.length ≤ j)]

theorem u8_info : (Try.prog.info? 5).map (fun i => (i.zero, i.size, i.bytes)) = some (some (.int .u8 0), 1, 1) := by kernel_rfl

/-- bytes as values -/
def B (zs : List Int) : List Value := zs.map (Value.int .u8)
theorem B_length (zs : List Int) : (B zs).length = zs.length := by simp [B]
theorem B_one (zs : List Int) : ∀ u ∈ B zs, u.oneCell' = true := by
  intro u hu
  obtain ⟨z, _, rfl⟩ := List.mem_map.1 hu
  rfl
theorem B_append (xs ys : List Int) : B (xs ++ ys) = B xs ++ B ys := by simp [B]
theorem B_at (zs : List Int) (j : Nat) (h : j < zs.length) : (B zs)[j]? = some (.int .u8 (zs.getD j 0)) := by simp [B, List.getD, h]

section
variable {w w' : World} {base : Nat} {v : Value} {n : Nat} {zs : List Int}
theorem own_below (h : w.ownsRow base 5 1 v n (B zs)) (hb : Below w.heap.size w w') : w'.ownsRow base 5 1 v n (B zs) := by
  refine ⟨h.1, ?_⟩
  rcases h.2 with hn | ⟨g, cap, cur, rfl, h1, hgg, rest⟩
  · exact .inl hn
  · exact .inr ⟨g, cap, cur, rfl, h1, (hb.block g (Array.getElem?_eq_some_iff.1 hgg).1).trans hgg, rest⟩
/-- the form of an owned row, and that it reads as its bytes -/
theorem own_form (h : w.ownsRow base 5 1 v n (B zs)) (hz : ∀ z ∈ zs, 0 ≤ z ∧ z ≤ 255) : ∃ A c, v = .slice A n c ∧ n ≤ c ∧ c ≤ maxLen ∧ Bts w A n zs := by
  have hl : zs.length = n := by have := h.1; rw [B_length] at this; omega
  rcases h.2 with ⟨rfl, rfl⟩ | ⟨g, cap, cur, rfl, h1, hgg, h2, h3, rest⟩
  · exact ⟨none, 0, rfl, Nat.le_refl _, Nat.zero_le _, hl, hz, fun h => by omega⟩
  · refine ⟨_, cap, rfl, h2, h3, hl, hz, fun _ => ⟨g, 0, rfl, (Array.getElem?_eq_some_iff.1 hgg).1, fun j hj => ?_⟩⟩
    have := h.cellAt j (by omega)
    rw [B_at zs j (by omega)] at this
    simpa using this
theorem Bts.below {A : Option Addr} (h : Bts w A n zs) (hb : Below w.heap.size w w') : Bts w' A n zs := by
  obtain ⟨h1, h2, h3⟩ := h
  refine ⟨h1, h2, fun hn => ?_⟩
  obtain ⟨b, off, rfl, hlt, hc⟩ := h3 hn
  exact ⟨b, off, rfl, Nat.lt_of_lt_of_le hlt hb.size, fun j hj => (hb.cell (p := ⟨b, off + j, none⟩) hlt).trans (hc j hj)⟩
end

theorem ret_int {k : IntKind} {a b : Int} (h : a = b) : Ending.returned (.int k a) = .returned (.int k b) := by rw [h]
theorem ret_bool {a b : Bool} (h : a = b) : Ending.returned (.bool a) = .returned (.bool b) := by rw [h]
theorem below_drewN' {B : Nat} {a w : World} (h : Below B a w) (n : Nat) : Below B a (w.drewN n) := h.trans ⟨rfl, rfl, rfl, Nat.le_refl _, fun _ _ => rfl⟩
theorem grow_below {w wr w1 : World} {u : Value} {k : Nat} {xs : List Value} {o : Obj} (hown : wr.ownsRow w.heap.size 5 1 u k xs) (hb : Below w.heap.size w wr) (hg : (wr.alloc o).grownBy w1 u.ownBlock) :
    Below w.heap.size w w1 := (hb.alloc hb.size o).grown hg (by have := hb.size; simp; omega) (fun g h => (hown.lt g h).1)

/-- what the walk is told of a slice of integers that came in: it is nil; or it leads to a row of 'cap' cells, the numbers 'zs' -/
def IsRow (k : IntKind) (w : World) (a : Option Addr) (len cap : Nat) (zs : List Int) : Prop :=
  (a = none ∧ len = 0 ∧ cap = 0 ∧ zs = []) ∨
  ∃ x, a = some x ∧ len ≤ cap ∧ cap ≤ maxLen ∧ zs.length = cap ∧ (∀ i, i < zs.length → w.cell? (x.add i) = some (.int k (zs.getD i 0))) ∧ ∀ n ∈ zs, (Lit.int k n).wf = true

theorem lt_of_cell {w : World} {a : Addr} {v : Value} (h : w.cell? a = some v) : a.block < w.heap.size := by
  rcases Nat.lt_or_ge a.block w.heap.size with h' | h'
  · exact h'
  · unfold World.cell? at h
    rw [Array.getElem?_eq_none h'] at h
    simp at h
theorem wf_u8 {n : Int} (h : (Lit.int .u8 n).wf = true) : 0 ≤ n ∧ n ≤ 255 := by
  have := bounds_u8 h
  omega
theorem bts_of_row {w : World} {a : Option Addr} {len cap : Nat} {zs : List Int} (h : IsRow .u8 w a len cap zs) : Bts w a len (zs.take len) ∧ len ≤ cap ∧ cap ≤ maxLen := by
  rcases h with ⟨rfl, rfl, rfl, rfl⟩ | ⟨x, rfl, h1, h2, h3, h4, h5⟩
  · exact ⟨⟨rfl, by simp, fun h => by omega⟩, Nat.le_refl _, Nat.zero_le _⟩
  · refine ⟨⟨by simp; omega, fun z hz => wf_u8 (h5 z (List.mem_of_mem_take hz)), fun hn => ?_⟩, h1, h2⟩
    obtain ⟨b, off, rfl, hc⟩ := ints_at h4 (by omega)
    refine ⟨b, off, rfl, lt_of_cell (hc 0 (by omega)), fun j hj => ?_⟩
    rw [hc j (by omega)]
    simp [List.getD, hj]

/-- an address and cells of a row that reads as bytes, for a law on append -/
theorem Bts.news {w : World} {ad : Addr} {n : Nat} {zs : List Int} (h : Bts w (some ad) n zs) : ∀ j u, (B zs)[j]? = some u → w.cell? (ad.add j) = some u := by
  intro j u hu
  obtain ⟨h1, h2, h3⟩ := h
  have hj : j < zs.length := by
    have := (List.getElem?_eq_some_iff.1 hu).1
    rwa [B_length] at this
  obtain ⟨b, off, e, _, hc⟩ := h3 (by omega)
  injection e with e
  subst e
  rw [B_at zs j hj] at hu
  injection hu with hu
  subst hu
  have e2 : (⟨b, off, none⟩ : Addr).add j = ⟨b, off + j, none⟩ := by unfold Addr.add; split <;> simp_all
  rw [e2]
  exact hc j (by omega)
theorem Bts.bd {w : World} {A : Option Addr} {n : Nat} {zs : List Int} (h : Bts w A n zs) : ∀ z ∈ zs, 0 ≤ z ∧ z ≤ 255 := h.2.1
theorem Bts.len {w : World} {A : Option Addr} {n : Nat} {zs : List Int} (h : Bts w A n zs) : zs.length = n := h.1
theorem Bts.drewN {w : World} {A : Option Addr} {n : Nat} {zs : List Int} (h : Bts w A n zs) (q : Nat) : Bts (w.drewN q) A n zs := h
theorem Bts.alloc {w : World} {A : Option Addr} {n : Nat} {zs : List Int} (h : Bts w A n zs) (o : Obj) : Bts (w.alloc o) A n zs := h.below ((Below.refl _ _).alloc (Nat.le_refl _) o)
theorem Bts.some_of {w : World} {A : Option Addr} {n : Nat} {zs : List Int} (h : Bts w A n zs) (hn : 0 < n) : ∃ ad, A = some ad := by
  obtain ⟨b, off, rfl, _⟩ := h.2.2 hn
  exact ⟨_, rfl⟩
theorem mem_append_bd {xs ys : List Int} (h1 : ∀ z ∈ xs, 0 ≤ z ∧ z ≤ 255) (h2 : ∀ z ∈ ys, 0 ≤ z ∧ z ≤ 255) : ∀ z ∈ xs ++ ys, 0 ≤ z ∧ z ≤ 255 := by
  intro z hz
  rcases List.mem_append.1 hz with h | h
  · exact h1 z h
  · exact h2 z h

theorem nil_of_row {k : IntKind} {w : World} {a : Option Addr} {len cap : Nat} {zs : List Int} (h : IsRow k w a len cap zs) : a = none → len = 0 ∧ cap = 0 := by
  rcases h with ⟨rfl, rfl, rfl, rfl⟩ | ⟨x, rfl, _⟩
  · exact fun _ => ⟨rfl, rfl⟩
  · exact fun h => by cases h

/-- 'append(s, x...)' onto a row of the call's own, x whatever reads as bytes -/
theorem wpList_append_bts {w : World} {ops : Array Oper} {rest : List Oper} {o : Oper} {a : Act} {Q : Exit → Act → World → Prop} (hgd : o.guard = none) (s x : Operand)
    (ho : o.op = .call { callee := .builtin .append, args := #[s, x], argTypes := #[60, 60] }) (base : Nat) (v : Value) (n : Nat) (xs : List Int) (hs : a.eval s = v) (hown : w.ownsRow base 5 1 v n (B xs))
    (A : Option Addr) (m c : Nat) (zs : List Int) (hx : a.eval x = .slice A m c) (hb : Bts w A m zs) (hnil : A = none → m = 0 ∧ c = 0) (hsz : n + m ≤ 140737488355328) (hbase : base ≤ w.heap.size)
    (h : ∀ v' w', w'.ownsRow base 5 1 v' (n + m) (B (xs ++ zs)) → w.grownBy w' v.ownBlock → wpList Try.prog ops Q rest (a.put o.dst v') w') : wpList Try.prog ops Q (o :: rest) a w := by
  obtain ⟨i0, hi0, hz0, hz1, hz2⟩ := info_parts u8_info
  cases A with
  | none =>
    obtain ⟨rfl, rfl⟩ := hnil rfl
    have hz : zs = [] := List.eq_nil_of_length_eq_zero hb.len
    subst hz
    refine wpList_append_own_none hgd s x 60 ho base 5 i0 1 Try.underlying60 hi0 v n (B xs) hs hown hx ?_
    exact h v w (by simpa using hown) (World.grownBy.refl w _)
  | some ad =>
    refine wpList_append_own w hgd s x 60 ho base 5 i0 (.int .u8 0) 1 1 Try.underlying60 hi0 hz0 hz1 hz2 rfl (by decide) v n (B xs) hs hown ad m c (B zs) hx (by rw [B_length, hb.len]; omega) hb.news (B_one zs)
      (by unfold maxLen; omega) (by omega) hbase ?_
    intro v' w' h1 h2 _
    rw [← B_append] at h1
    exact h v' w' h1 h2
theorem lit_own (W : World) : (W.alloc (.cells #[] 5)).ownsRow W.heap.size 5 1 (.slice (some ⟨W.heap.size, 0, none⟩) 0 0) 0 (B []) := World.ownsRow_lit W #[] 0 (Nat.le_refl _) (Nat.zero_le _) rfl
theorem own_grown_below {W w w' : World} {v : Value} {n base : Nat} {xs : List Value} (hown : w.ownsRow base 5 1 v n xs) (hb : Below W.heap.size W w) (hW : W.heap.size ≤ base) (hg : w.grownBy w' v.ownBlock) : Below W.heap.size W w' :=
  hb.grown hg hb.size (fun g h => Nat.le_trans hW (hown.lt g h).1)
/-- what an append leaves of a row that lies elsewhere -/
theorem Bts.grown {w w' : World} {A : Option Addr} {n : Nat} {zs : List Int} {v : Value} {k base : Nat} {xs : List Value} (h : Bts w A n zs) (hown : w.ownsRow base 5 1 v k xs) (hA : ∀ ad, A = some ad → ad.block < base) (hg : w.grownBy w' v.ownBlock) : Bts w' A n zs := by
  obtain ⟨h1, h2, h3⟩ := h
  refine ⟨h1, h2, fun hn => ?_⟩
  obtain ⟨b, off, rfl, hlt, hc⟩ := h3 hn
  refine ⟨b, off, rfl, Nat.lt_of_lt_of_le hlt hg.size, fun j hj => ?_⟩
  have hb : b < base := hA _ rfl
  refine (World.cell?_of_block (w := w) (hg.block b hlt ?_)).trans (hc j hj)
  intro e
  have := (hown.lt b e.symm).1
  omega

theorem own_nil {w : World} {base n c : Nat} {A : Option Addr} {xs : List Value} (h : w.ownsRow base 5 1 (.slice A n c) n xs) : A = none → n = 0 ∧ c = 0 := by
  rintro rfl
  rcases h.2 with ⟨e, rfl⟩ | ⟨g, cap, cur, e, _⟩
  · simp only [Value.slice.injEq] at e
    exact ⟨rfl, e.2.2⟩
  · simp at e

theorem lit1 (W : World) (z : Int) (h : 0 ≤ z ∧ z ≤ 255) : Bts (W.alloc (.cells #[.int .u8 z] 5)) (some ⟨W.heap.size, 0, none⟩) 1 [z] := by
  refine ⟨rfl, by simpa using h, fun _ => ⟨W.heap.size, 0, rfl, by simp, fun j hj => ?_⟩⟩
  obtain rfl : j = 0 := by omega
  go_simp
theorem Bts.cut {w : World} {A : Option Addr} {n r : Nat} {zs : List Int} (h : Bts w A n zs) (hr : r ≤ n) : Bts w A r (zs.take r) := by
  obtain ⟨h1, h2, h3⟩ := h
  refine ⟨by simp; omega, fun z hz => h2 z (List.mem_of_mem_take hz), fun hn => ?_⟩
  obtain ⟨b, off, rfl, hb, hc⟩ := h3 (by omega)
  refine ⟨b, off, rfl, hb, fun j hj => ?_⟩
  rw [hc j (by omega)]
  simp [List.getD, hj]
theorem own_some {w : World} {base n : Nat} {v : Value} {xs : List Value} (h : w.ownsRow base 5 1 v n xs) (hn : 0 < n) : ∃ g c, v = .slice (some ⟨g, 0, none⟩) n c ∧ base ≤ g ∧ n ≤ c ∧ c ≤ maxLen := by
  rcases h.2 with ⟨e, rfl⟩ | ⟨g, cap, cur, rfl, h1, _, h2, h3, _⟩
  · omega
  · exact ⟨g, cap, rfl, h1, h2, h3⟩
theorem stored_own {w : World} {base n g c : Nat} {zs : List Int} (h : w.ownsRow base 5 1 (.slice (some ⟨g, 0, none⟩) n c) n (B zs)) (m : Nat) (z : Int) :
    (w.setCell ⟨g, m, none⟩ (.int .u8 z)).ownsRow base 5 1 (.slice (some ⟨g, 0, none⟩) n c) n (B (zs.set m z)) := by
  have := (h.stored m (.int .u8 z)).1
  rw [show (B zs).set m (.int .u8 z) = B (zs.set m z) by simp [B, List.map_set]] at this
  exact this

theorem lit1' (W : World) (z : Int) (h : 0 ≤ z ∧ z ≤ 255) (g : Nat) (hg : g = W.heap.size) : Bts (W.alloc (.cells #[.int .u8 z] 5)) (some ⟨g, 0, none⟩) 1 [z] := by
  subst hg
  exact lit1 W z h

end Go.Proofs.Ytemlnkcokeckmaa.Pp
namespace Go.Proofs.Ytemlnkcokeckmaa.Pp
open Go.RowKit
set_option linter.unusedVariables false

def Alike (xs ys : List Int) (k : Nat) : Prop := ∀ j, j < k → xs.getD j 0 = ys.getD j 0
theorem Alike.zero (xs ys : List Int) : Alike xs ys 0 := fun j h => by omega
theorem Alike.succ {xs ys : List Int} {k : Nat} (h : Alike xs ys k) {x y : Int} (hx : xs.getD k 0 = x) (hy : ys.getD k 0 = y) (e : x = y) : Alike xs ys (k + 1) := fun j hj => by
  rcases Nat.lt_or_ge j k with h' | h'
  · exact h j h'
  · obtain rfl : j = k := by omega
    omega
theorem Alike.eq {xs ys : List Int} {n : Nat} (h : Alike xs ys n) (hx : xs.length = n) (hy : ys.length = n) : xs = ys := by
  refine List.ext_getElem (by omega) fun i h1 h2 => ?_
  have := h i (by omega)
  simpa [List.getD, h1, h2] using this
theorem getD_ne {xs ys : List Int} {k : Nat} {x y : Int} (hx : xs.getD k 0 = x) (hy : ys.getD k 0 = y) (h : ¬ x = y) : ¬ xs = ys := fun e => h (by rw [← hx, ← hy, e])

end Go.Proofs.Ytemlnkcokeckmaa.Pp
namespace Go.Proofs.Ytemlnkcokeckmaa.Pp
open Go.RowKit
set_option linter.unusedVariables false

def W64 (n : Int) : Prop := -9223372036854775808 ≤ n ∧ n ≤ 9223372036854775807
/-- a number's last bytes, the greatest first -/
def be : Nat → Int → List Int
  | 0, _ => []
  | n + 1, v => (v / 256 ^ n % 256) :: be n v
def nu (l : List Int) : Int := l.foldl (fun v c => v * 256 + c) 0
@[simp] theorem be_length (n : Nat) (v : Int) : (be n v).length = n := by induction n with
  | zero => rfl
  | succ n ih => simp [be, ih]
theorem be_bd (n : Nat) (v : Int) : ∀ z ∈ be n v, 0 ≤ z ∧ z ≤ 255 := by
  induction n with
  | zero => intro z hz; cases hz
  | succ n ih =>
    intro z hz
    rcases List.mem_cons.1 hz with rfl | h
    · omega
    · exact ih z h
theorem be_at {n k : Nat} (v : Int) (h : k < n) : (be n v)[k]? = some (v / 256 ^ (n - 1 - k) % 256) := by
  induction n generalizing k with
  | zero => omega
  | succ n ih =>
    cases k with
    | zero => simp [be]
    | succ k => simp only [be, List.getElem?_cons_succ]; rw [ih (by omega)]; congr 4; omega
theorem be_take {n k : Nat} (v : Int) (h : k < n) : (be n v).take (k + 1) = (be n v).take k ++ [v / 256 ^ (n - 1 - k) % 256] := by
  rw [List.take_add_one, be_at v h]; rfl
theorem be_snoc (n : Nat) (v : Int) : be (n + 1) v = be n (v / 256) ++ [v % 256] := by
  induction n with
  | zero => simp [be]
  | succ n ih =>
    have e : v / 256 ^ (n + 1) = v / 256 / 256 ^ n := by
      rw [Int.pow_succ, Int.mul_comm, Int.ediv_ediv_of_nonneg (by decide)]
    show (v / 256 ^ (n + 1) % 256) :: be (n + 1) v = ((v / 256) / 256 ^ n % 256) :: be n (v / 256) ++ [v % 256]
    rw [ih, e]; rfl
theorem nu_snoc (l : List Int) (c : Int) : nu (l ++ [c]) = nu l * 256 + c := by simp [nu]
theorem nu_nil : nu [] = 0 := rfl
theorem snocRec {P : List Int → Prop} (h0 : P []) (h1 : ∀ l c, P l → P (l ++ [c])) (l : List Int) : P l := by
  have h : ∀ m : List Int, P m.reverse := by
    intro m
    induction m with
    | nil => simpa using h0
    | cons c m ih => rw [List.reverse_cons]; exact h1 _ _ ih
  have := h l.reverse
  rwa [List.reverse_reverse] at this
theorem nu_bd {l : List Int} (h : ∀ z ∈ l, 0 ≤ z ∧ z ≤ 255) : 0 ≤ nu l ∧ nu l < 256 ^ l.length := by
  revert h
  refine snocRec (P := fun l => (∀ z ∈ l, 0 ≤ z ∧ z ≤ 255) → 0 ≤ nu l ∧ nu l < 256 ^ l.length) (fun _ => by simp [nu]) (fun l c ih h => ?_) l
  have h1 := ih (fun z hz => h z (by simp [hz]))
  have h2 := h c (by simp)
  rw [nu_snoc, List.length_append, List.length_singleton, Int.pow_succ]
  omega
theorem nu_be (n : Nat) (v : Int) (h0 : 0 ≤ v) (h : v < 256 ^ n) : nu (be n v) = v := by
  induction n generalizing v with
  | zero => simp at h; simp [be, nu]; omega
  | succ n ih =>
    rw [be_snoc, nu_snoc, ih (v / 256) (by omega) (by rw [Int.pow_succ] at h; omega)]
    omega
theorem be_nu {l : List Int} (h : ∀ z ∈ l, 0 ≤ z ∧ z ≤ 255) : be l.length (nu l) = l := by
  revert h
  refine snocRec (P := fun l => (∀ z ∈ l, 0 ≤ z ∧ z ≤ 255) → be l.length (nu l) = l) (fun _ => rfl) (fun l c ih h => ?_) l
  have h1 := ih (fun z hz => h z (by simp [hz]))
  have h2 := h c (by simp)
  rw [List.length_append, List.length_singleton, be_snoc, nu_snoc]
  have e1 : (nu l * 256 + c) / 256 = nu l := by omega
  have e2 : (nu l * 256 + c) % 256 = c := by omega
  rw [e1, e2, h1]

/-! ### fits, in -/
def fitsB (m n : Int) : Bool := decide (0 ≤ n ∧ n ≤ m)
theorem fits2 (v : Int) (w : World) (h : W64 v) : Calls Try.prog 120 #[.int .i64 2, .int .i64 v] w fun e w' => e = .returned (.bool (fitsB 65535 v)) ∧ w = w' := by
  obtain ⟨h1, h2⟩ := h
  have e : fitsB 65535 v = (v / 65536 == 0) := by unfold fitsB; rw [Bool.eq_iff_iff]; simp; omega
  rw [e]
  clear e
  go_enter Try.func120, Try.ntmps120
  go_wp2
  go_ret
  exact ⟨rfl, rfl⟩
theorem fits4 (v : Int) (w : World) (h : W64 v) : Calls Try.prog 120 #[.int .i64 4, .int .i64 v] w fun e w' => e = .returned (.bool (fitsB 4294967295 v)) ∧ w = w' := by
  obtain ⟨h1, h2⟩ := h
  have e : fitsB 4294967295 v = (v / 4294967296 == 0) := by unfold fitsB; rw [Bool.eq_iff_iff]; simp; omega
  rw [e]
  clear e
  go_enter Try.func120, Try.ntmps120
  go_wp2
  go_ret
  exact ⟨rfl, rfl⟩
end Go.Proofs.Ytemlnkcokeckmaa.Pp
namespace Go.Proofs.Ytemlnkcokeckmaa.Pp
open Go.RowKit
set_option linter.unusedVariables false

def bigRow (n k : Nat) (v : Int) : List Int := List.replicate (n - k) 0 ++ be k v
theorem bigRow_length {n k : Nat} (v : Int) (h : k ≤ n) : (bigRow n k v).length = n := by simp [bigRow]; omega
theorem bigRow_set {n k : Nat} (v : Int) (h : k < n) : (bigRow n k v).set (n - 1 - k) (v / 256 ^ k % 256) = bigRow n (k + 1) v := by
  unfold bigRow
  obtain ⟨m, rfl⟩ : ∃ m, n = k + 1 + m := ⟨n - (k + 1), by omega⟩
  have e1 : k + 1 + m - k = m + 1 := by omega
  have e2 : k + 1 + m - 1 - k = m := by omega
  have e3 : k + 1 + m - (k + 1) = m := by omega
  rw [e1, e2, e3, List.replicate_succ']
  simp [be]
theorem set_B {zs : List Int} (m : Nat) (z : Int) : (B zs).set m (.int .u8 z) = B (zs.set m z) := by simp [B, List.map_set]
theorem bigRow_zero (n : Nat) (v : Int) : List.replicate n (Value.int .u8 0) = B (bigRow n 0 v) := by simp [B, bigRow, be]

theorem nu_take {zs : List Int} {k : Nat} (h : k < zs.length) : nu (zs.take (k + 1)) = nu (zs.take k) * 256 + zs.getD k 0 := by
  rw [List.take_add_one, List.getElem?_eq_getElem h]
  simp only [Option.toList_some]
  rw [nu_snoc]
  simp [List.getD, h]
theorem bd_take {zs : List Int} (h : ∀ z ∈ zs, 0 ≤ z ∧ z ≤ 255) (k : Nat) : ∀ z ∈ zs.take k, 0 ≤ z ∧ z ≤ 255 := fun z hz => h z (List.mem_of_mem_take hz)
theorem nu_le4 {zs : List Int} (h : ∀ z ∈ zs, 0 ≤ z ∧ z ≤ 255) (hl : zs.length ≤ 4) : 0 ≤ nu zs ∧ nu zs < 4294967296 := by
  have h1 := nu_bd h
  have h2 : (256 : Int) ^ zs.length ≤ 4294967296 := by
    match zs.length, hl with
    | 0, _ => decide
    | 1, _ => decide
    | 2, _ => decide
    | 3, _ => decide
    | 4, _ => decide
  omega

end Go.Proofs.Ytemlnkcokeckmaa.Pp
