/-
  A slice of rows of bytes that came in reads as rows of bytes. Conditions: as each lemma states.
-/
import Derived.Test.YtadbidgikgffhaaJoin
import Derived.Deep.Matrix
import Derived.OpenShut
namespace Go.Proofs.Ytadbidgikgffhaa
open Go.RowKit
set_option linter.unusedVariables false

/-- what a walk is told of a slice of rows of bytes that came in -/
def IsRows (w : World) (a : Option Addr) (len cap : Nat) (rss : List (List Int)) : Prop :=
  Rs w a len rss ∧ len ≤ cap ∧ cap ≤ maxLen ∧ (a = none → len = 0 ∧ cap = 0)

theorem isRows_open {H : Type} {enc : TypeId × Value → H} {W : World} {a : Option Addr} {len cap : Nat} {d : DataW H} {p : List MemPlace} (h : DataW.Trod enc Try.prog W 0 (fun _ => true) true 30 (.slice a len cap) d p) :
    ∃ rss, IsRows W a len cap rss := by
  obtain ⟨fuel, hf⟩ := h
  rcases Deep.open_int_rows Try.underlying30 Try.underlying22 Try.underlying5 (by kernel_rfl) (by kernel_rfl) hf with ⟨hcs, _⟩ | ⟨x, l, c, A, L, C, Z, hcs, _, hl, hm, _, hr⟩
  · simp [Value.cells] at hcs
    obtain ⟨rfl, rfl, rfl⟩ := hcs
    exact ⟨[], Rs.nil _ _, Nat.le_refl _, Nat.zero_le _, fun _ => ⟨rfl, rfl⟩⟩
  · simp [Value.cells] at hcs
    obtain ⟨rfl, rfl, rfl⟩ := hcs
    refine ⟨(List.range len).map fun r => (Z r).take (L r), ⟨by simp, fun j hj => ?_⟩, hl, hm, by intro h; cases h⟩
    obtain ⟨h1, h2, h3, h4, h5, h6, h7⟩ := hr j (by omega)
    obtain ⟨b, off, spot⟩ := x
    have hspot : spot = none := by
      have h8 := World.cell?_spot (hr 0 (by omega)).1
      simpa [Addr.add] using h8
    subst hspot
    have e2 : (⟨b, off, none⟩ : Addr).add j = ⟨b, off + j, none⟩ := by unfold Addr.add; split <;> simp_all
    rw [e2] at h1
    refine ⟨b, off, _, rfl, lt_of_cell h1, h1, A j, L j, C j, rfl, ?_, h2, h3, ?_, ?_⟩
    · have hg : ((List.range len).map fun r => (Z r).take (L r)).getD j [] = (Z j).take (L j) := by simp [List.getD, hj]
      rw [hg]
      have hrow : IsRow .u8 W (A j) (L j) (C j) (Z j) := by
        cases hA : A j with
        | none =>
          have hc := h6 hA
          refine .inl ⟨rfl, by omega, hc, List.eq_nil_of_length_eq_zero (by omega)⟩
        | some a' => exact .inr ⟨a', rfl, h2, h3, h4, fun i hi => (h7 a' hA).2 i (by omega), h5⟩
      exact (bts_of_row hrow).1
    · intro hA; have := h6 hA; omega
    · exact fun _ _ => trivial

/-! ### rows of rows that are put one behind the other -/
theorem Sl.oneCell {w : World} {v : Value} {zs : List Int} {p : Nat → Prop} (h : Sl w v zs p) : v.oneCell' = true := by
  obtain ⟨A, n, c, rfl, _⟩ := h
  rfl
/-- the values of a row of rows -/
theorem Rs.vals {w : World} {A : Option Addr} {n : Nat} {rss : List (List Int)} (h : Rs w A n rss) :
    ∃ vs : List Value, vs.length = n ∧ (∀ ad, A = some ad → ∀ j u, vs[j]? = some u → w.cell? (ad.add j) = some u) ∧ ∀ j u, vs[j]? = some u → Sl w u (rss.getD j []) (fun _ => True) := by
  have hall : ∀ j, ∃ v, j < n → (∀ ad, A = some ad → w.cell? (ad.add j) = some v) ∧ Sl w v (rss.getD j []) (fun _ => True) := fun j => by
    by_cases hj : j < n
    · obtain ⟨b, off, v, rfl, h2, h3, h4⟩ := h.2 j hj
      refine ⟨v, fun _ => ⟨fun ad e => ?_, h4⟩⟩
      simp only [Option.some.injEq] at e
      subst e
      have e2 : (⟨b, off, none⟩ : Addr).add j = ⟨b, off + j, none⟩ := by unfold Addr.add; split <;> simp_all
      rw [e2]; exact h3
    · exact ⟨.bool true, fun h => absurd h hj⟩
  obtain ⟨f, hf⟩ := Classical.axiomOfChoice hall
  have hat : ∀ j u, ((List.range n).map f)[j]? = some u → j < n ∧ f j = u := fun j u hu => by
    have hj : j < n := by
      have := (List.getElem?_eq_some_iff.1 hu).1
      simpa using this
    refine ⟨hj, ?_⟩
    simpa [hj] using hu
  refine ⟨(List.range n).map f, by simp, fun ad e j u hu => ?_, fun j u hu => ?_⟩
  · obtain ⟨hj, rfl⟩ := hat j u hu
    exact (hf j hj).1 ad e
  · obtain ⟨hj, rfl⟩ := hat j u hu
    exact (hf j hj).2

/-- 'append(s, x...)' onto a row of rows of the call's own, x whatever reads as rows -/
theorem wpList_append_rows {w : World} {ops : Array Oper} {rest : List Oper} {o : Oper} {a : Act} {Q : Exit → Act → World → Prop} (hgd : o.guard = none) (s x : Operand)
    (ho : o.op = .call { callee := .builtin .append, args := #[s, x], argTypes := #[30, 30] }) (base : Nat) (v : Value) (n : Nat) (xs : List Value) (hs : a.eval s = v) (hown : w.ownsRow base 22 1 v n xs)
    (A : Option Addr) (m c : Nat) (vs : List Value) (hx : a.eval x = .slice A m c) (hvl : vs.length = m) (hcell : ∀ ad, A = some ad → ∀ j u, vs[j]? = some u → w.cell? (ad.add j) = some u) (hone : ∀ u ∈ vs, u.oneCell' = true) (hnil : A = none → m = 0 ∧ c = 0) (hsz : n + m ≤ 1000000) (hbase : base ≤ w.heap.size)
    (h : ∀ v' w', w'.ownsRow base 22 1 v' (n + m) (xs ++ vs) → w.grownBy w' v.ownBlock → wpList Try.prog ops Q rest (a.put o.dst v') w') : wpList Try.prog ops Q (o :: rest) a w := by
  obtain ⟨i22, hi22, ha0, ha1, ha2⟩ := info_parts sl_info
  cases A with
  | none =>
    obtain ⟨rfl, rfl⟩ := hnil rfl
    have hz : vs = [] := List.eq_nil_of_length_eq_zero hvl
    subst hz
    refine wpList_append_own_none hgd s x 30 ho base 22 i22 1 Try.underlying30 hi22 v n xs hs hown hx ?_
    exact h v w (by simpa using hown) (World.grownBy.refl w _)
  | some ad =>
    refine wpList_append_own w hgd s x 30 ho base 22 i22 (.slice none 0 0) 1 24 Try.underlying30 hi22 ha0 ha1 ha2 rfl (by decide) v n xs hs hown ad m c vs hx (by omega) (hcell ad rfl) hone (by unfold maxLen; omega) (by omega) hbase ?_
    intro v' w' h1 h2 _
    exact h v' w' h1 h2

theorem lit_rows (W : World) : (W.alloc (.cells #[] 22)).ownsRow W.heap.size 22 1 (.slice (some ⟨W.heap.size, 0, none⟩) 0 0) 0 [] := World.ownsRow_lit W #[] 0 (Nat.le_refl _) (Nat.zero_le _) rfl
theorem rows_grown_below {W w w' : World} {v : Value} {n base : Nat} {xs : List Value} (hown : w.ownsRow base 22 1 v n xs) (hb : Below W.heap.size W w) (hW : W.heap.size ≤ base) (hg : w.grownBy w' v.ownBlock) : Below W.heap.size W w' :=
  hb.grown hg hb.size (fun g h => Nat.le_trans hW (hown.lt g h).1)
theorem rs_of_own {w : World} {base n : Nat} {v : Value} {xs : List Value} {rss : List (List Int)} (h : w.ownsRow base 22 1 v n xs) (hl : rss.length = n) (hs : ∀ j u, xs[j]? = some u → Sl w u (rss.getD j []) (fun _ => True)) :
    ∃ A c, v = .slice A n c ∧ n ≤ c ∧ c ≤ maxLen ∧ (A = none → n = 0 ∧ c = 0) ∧ Rs w A n rss := by
  obtain ⟨A, c, rfl, h1, h2, h3, h4, h5⟩ := own_block' h
  refine ⟨A, c, rfl, h1, h2, h3, hl, fun j hj => ?_⟩
  obtain ⟨g, rfl, hc⟩ := h5 j hj
  have hxl : xs.length = n := by have := h.1; omega
  obtain ⟨u, hu⟩ : ∃ u, xs[j]? = some u := ⟨_, List.getElem?_eq_getElem (by omega)⟩
  exact ⟨g, 0, u, rfl, (h4 _ rfl).2, by rw [Nat.zero_add, hc, hu], hs j u hu⟩
theorem vals_append {w : World} {xs ys : List Value} {ps qs : List (List Int)} (hx : ∀ j u, xs[j]? = some u → Sl w u (ps.getD j []) (fun _ => True)) (hy : ∀ j u, ys[j]? = some u → Sl w u (qs.getD j []) (fun _ => True)) (hl : xs.length = ps.length) :
    ∀ j u, (xs ++ ys)[j]? = some u → Sl w u ((ps ++ qs).getD j []) (fun _ => True) := by
  intro j u hu
  rcases Nat.lt_or_ge j xs.length with hj | hj
  · rw [List.getElem?_append_left hj] at hu
    have := hx j u hu
    simpa [List.getD, List.getElem?_append_left (show j < ps.length by omega)] using this
  · rw [List.getElem?_append_right hj] at hu
    have := hy _ u hu
    simpa [List.getD, List.getElem?_append_right (show ps.length ≤ j by omega), hl] using this

theorem Shorts.append {a b : List (List Int)} : Shorts (a ++ b) ↔ Shorts a ∧ Shorts b := by
  unfold Shorts
  constructor
  · exact fun h => ⟨fun r hr => h r (by simp [hr]), fun r hr => h r (by simp [hr])⟩
  · rintro ⟨h1, h2⟩ r hr
    rcases List.mem_append.1 hr with h | h
    · exact h1 r h
    · exact h2 r h
theorem join_ok (A : Option Addr) (n c : Nat) (rss : List (List Int)) (w : World) (h : Rs w A n rss) (hn : n ≤ 100) (hs : Shorts rss) :
    Calls Try.prog 19 #[.slice A n c] w fun e w' => ∃ v, e = .returned (.tuple #[v, .int .i64 0]) ∧ w'.ownsRow w.heap.size 5 1 v (Fr.join rss).length (B (Fr.join rss)) ∧ Below w.heap.size w w' :=
  (join_run A n c rss w h hn).mono fun e w' h => by
    rcases h with ⟨hb, ⟨_, v, rfl, ho⟩ | ⟨hns, _⟩⟩
    · exact ⟨v, rfl, ho, hb⟩
    · exact absurd hs hns
theorem join_no (A : Option Addr) (n c : Nat) (rss : List (List Int)) (w : World) (h : Rs w A n rss) (hn : n ≤ 100) (hs : ¬ Shorts rss) :
    Calls Try.prog 19 #[.slice A n c] w fun e w' => e = .returned (.tuple #[.slice none 0 0, .int .i64 4]) ∧ Below w.heap.size w w' :=
  (join_run A n c rss w h hn).mono fun e w' h => by
    rcases h with ⟨hb, ⟨hs2, _⟩ | ⟨_, rfl⟩⟩
    · exact absurd hs2 hs
    · exact ⟨rfl, hb⟩
/-- every row's bytes are bytes -/
theorem Rs.bd {w : World} {A : Option Addr} {n : Nat} {rss : List (List Int)} (h : Rs w A n rss) : ∀ r ∈ rss, ∀ z ∈ r, 0 ≤ z ∧ z ≤ 255 := by
  intro r hr
  obtain ⟨j, hj, e⟩ := List.getElem_of_mem hr
  obtain ⟨b, off, v, _, _, _, h4⟩ := h.2 j (by have := h.1; omega)
  have hb := h4.bd
  have : rss.getD j [] = r := by simp [List.getD, hj, e]
  rw [this] at hb
  exact hb
theorem join_bd' {w : World} {A : Option Addr} {n : Nat} {rss : List (List Int)} (h : Rs w A n rss) : ∀ z ∈ Fr.join rss, 0 ≤ z ∧ z ≤ 255 := Fr.join_bd rss h.bd
theorem rows_join (rss : List (List Int)) (h : Shorts rss) : Fr.rows (Fr.join rss) = rss ∧ Fr.stop (Fr.join rss) = 0 := by
  have := Fr.join_rows rss [] h
  rw [List.append_nil, Fr.rows_nil, Fr.stop_nil, List.append_nil] at this
  exact this

/-- 'append(s, x...)' onto a row of bytes of the call's own, where the operation is guarded, and wanted -/
theorem wpList_append_bts_w {w : World} {ops : Array Oper} {rest : List Oper} {o : Oper} {a : Act} {Q : Exit → Act → World → Prop} (hw : Region.wanted o (yielded ops a.tmps) = true) (s x : Operand)
    (ho : o.op = .call { callee := .builtin .append, args := #[s, x], argTypes := #[22, 22] }) (base : Nat) (v : Value) (n : Nat) (xs : List Int) (hs : a.eval s = v) (hown : w.ownsRow base 5 1 v n (B xs))
    (A : Option Addr) (m c : Nat) (zs : List Int) (hx : a.eval x = .slice A m c) (hb : Bts w A m zs) (hnil : A = none → m = 0 ∧ c = 0) (hsz : n + m ≤ 140737488355328) (hbase : base ≤ w.heap.size)
    (h : ∀ v' w', w'.ownsRow base 5 1 v' (n + m) (B (xs ++ zs)) → w.grownBy w' v.ownBlock → wpList Try.prog ops Q rest (a.put o.dst v') w') : wpList Try.prog ops Q (o :: rest) a w := by
  obtain ⟨i0, hi0, hz0, hz1, hz2⟩ := info_parts u8_info
  refine wpList_step fun K hK => ?_
  rw [if_pos hw]
  cases A with
  | none =>
    obtain ⟨rfl, rfl⟩ := hnil rfl
    have hz : zs = [] := List.eq_nil_of_length_eq_zero hb.len
    subst hz
    have hrun := run_append_owned_none (P := Try.prog) (w := w) base 22 o.type 5 i0 1 Try.underlying22 hi0 v n (B xs) hown
    unfold Oper.wp
    simp [execOp, ho, resolve, invoke, builtin, hs, hx, hrun, Result.andThen]
    exact hK _ _ (h v w (by simpa using hown) (World.grownBy.refl w _))
  | some ad =>
    obtain ⟨v', w', hrun, h1, h2, _⟩ := run_append_own (P := Try.prog) w base 22 o.type 5 i0 (.int .u8 0) 1 1 Try.underlying22 hi0 hz0 hz1 hz2 rfl (by decide) v n (B xs) hown ad m c (B zs) (by rw [B_length, hb.len]; omega) hb.news (B_one zs)
      (by unfold maxLen; omega) (by omega) hbase
    rw [← B_append] at h1
    unfold Oper.wp
    simp [execOp, ho, resolve, invoke, builtin, hs, hx, hrun, Result.andThen]
    exact hK _ _ (h v' w' h1 h2)

end Go.Proofs.Ytadbidgikgffhaa
