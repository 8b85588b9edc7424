/-
  Rows of rows of bytes; contracts of the document's own embrasureref02.All (the rows of whose frames bytes are made, and why they end) and embrasureref02.Rows (are two rows of rows the same). Conditions: the slices read as bytes, and as rows of bytes.
-/
import Derived.Test.YtadbidgikgffhaaRefGet
namespace Go.Proofs.Ytadbidgikgffhaa
open Go.RowKit
set_option linter.unusedVariables false

theorem sl_info : (Try.prog.info? 22).map (fun i => (i.zero, i.size, i.bytes)) = some (some (.slice none 0 0), 1, 24) := by kernel_rfl

theorem Sl.below {w w' : World} {v : Value} {zs : List Int} {p : Nat → Prop} (h : Sl w v zs p) (hb : Below w.heap.size w w') : Sl w' v zs p := by
  obtain ⟨A, n, c, h1, h2, h3⟩ := h
  exact ⟨A, n, c, h1, h2.below hb, h3⟩
theorem Sl.mono {w : World} {v : Value} {zs : List Int} {p q : Nat → Prop} (h : Sl w v zs p) (hp : ∀ b, p b → q b) : Sl w v zs q := by
  obtain ⟨A, n, c, h1, h2, h3, h4, h5, h6⟩ := h
  exact ⟨A, n, c, h1, h2, h3, h4, h5, fun ad e => hp _ (h6 ad e)⟩
theorem Sl.bd {w : World} {v : Value} {zs : List Int} {p : Nat → Prop} (h : Sl w v zs p) : ∀ z ∈ zs, 0 ≤ z ∧ z ≤ 255 := by
  obtain ⟨A, n, c, h1, h2, h3⟩ := h
  exact h2.bd

/-- the slice value '.slice A n c' reads, in w, as the rows rss of bytes -/
def Rs (w : World) (A : Option Addr) (n : Nat) (rss : List (List Int)) : Prop :=
  rss.length = n ∧ ∀ j, j < n → ∃ b off v, A = some ⟨b, off, none⟩ ∧ b < w.heap.size ∧ w.cell? ⟨b, off + j, none⟩ = some v ∧ Sl w v (rss.getD j []) (fun _ => True)
theorem Rs.below {w w' : World} {A : Option Addr} {n : Nat} {rss : List (List Int)} (h : Rs w A n rss) (hb : Below w.heap.size w w') : Rs w' A n rss := by
  refine ⟨h.1, fun j hj => ?_⟩
  obtain ⟨b, off, v, h1, h2, h3, h4⟩ := h.2 j hj
  exact ⟨b, off, v, h1, Nat.lt_of_lt_of_le h2 hb.size, (hb.cell (p := ⟨b, off + j, none⟩) h2).trans h3, h4.below hb⟩
theorem Rs.alloc {w : World} {A : Option Addr} {n : Nat} {rss : List (List Int)} (h : Rs w A n rss) (o : Obj) : Rs (w.alloc o) A n rss := h.below ((Below.refl _ _).alloc (Nat.le_refl _) o)
theorem Rs.drewN {w : World} {A : Option Addr} {n : Nat} {rss : List (List Int)} (h : Rs w A n rss) (q : Nat) : Rs (w.drewN q) A n rss := h
theorem Rs.nil (w : World) (A : Option Addr) : Rs w A 0 [] := ⟨rfl, fun j hj => by omega⟩
theorem Sl.drewN {w : World} {v : Value} {zs : List Int} {p : Nat → Prop} (h : Sl w v zs p) (q : Nat) : Sl (w.drewN q) v zs p := h

theorem own_mono {w : World} {base base' n : Nat} {e : TypeId} {v : Value} {xs : List Value} (h : w.ownsRow base e 1 v n xs) (hb : base' ≤ base) : w.ownsRow base' e 1 v n xs := by
  refine ⟨h.1, ?_⟩
  rcases h.2 with hn | ⟨g, cap, cur, rfl, h1, rest⟩
  · exact .inl hn
  · exact .inr ⟨g, cap, cur, rfl, Nat.le_trans hb h1, rest⟩
theorem own_below' {w w' : World} {base n : Nat} {e : TypeId} {v : Value} {xs : List Value} (h : w.ownsRow base e 1 v n xs) (hb : Below w.heap.size w w') : w'.ownsRow base e 1 v n xs := by
  refine ⟨h.1, ?_⟩
  rcases h.2 with hn | ⟨g, cap, cur, rfl, h1, hgg, rest⟩
  · exact .inl hn
  · exact .inr ⟨g, cap, cur, rfl, h1, (hb.block g (Array.getElem?_eq_some_iff.1 hgg).1).trans hgg, rest⟩
/-- rows of unlike element types: what is appended to one leaves the other -/
theorem other_kept {w w' : World} {base base' : Nat} {e1 e2 : TypeId} {v1 v2 : Value} {n1 n2 : Nat} {xs1 xs2 : List Value} (h1 : w.ownsRow base e1 1 v1 n1 xs1) (h2 : w.ownsRow base' e2 1 v2 n2 xs2) (hne : e1 ≠ e2) (hg : w.grownBy w' v1.ownBlock) :
    w'.ownsRow base' e2 1 v2 n2 xs2 := by
  refine h2.kept hg ?_
  rcases h2.2 with ⟨rfl, _⟩ | ⟨g, cap, cur, rfl, _, hh, _⟩
  · left; rfl
  · right
    rcases h1.2 with ⟨rfl, _⟩ | ⟨g', cap', cur', rfl, _, hh', _⟩
    · simp [Value.ownBlock]
    · simp only [Value.ownBlock, ne_eq, Option.some.injEq]
      rintro rfl
      rw [hh] at hh'
      injection hh' with hh'
      injection hh' with _ ht
      exact hne ht.symm
theorem own_block' {w : World} {base n : Nat} {e : TypeId} {v : Value} {xs : List Value} (h : w.ownsRow base e 1 v n xs) : ∃ A c, v = .slice A n c ∧ n ≤ c ∧ c ≤ maxLen ∧ (A = none → n = 0 ∧ c = 0) ∧ (∀ ad, A = some ad → base ≤ ad.block ∧ ad.block < w.heap.size) ∧
    ∀ j, j < n → ∃ g, A = some ⟨g, 0, none⟩ ∧ w.cell? ⟨g, j, none⟩ = xs[j]? := by
  have hl := h.1
  rcases h.2 with ⟨rfl, rfl⟩ | ⟨g, cap, cur, rfl, h1, hgg, h2, h3, rest⟩
  · exact ⟨none, 0, rfl, Nat.le_refl _, Nat.zero_le _, fun _ => ⟨rfl, rfl⟩, (fun _ e => by cases e), (fun j hj => by omega)⟩
  · refine ⟨_, cap, rfl, h2, h3, (by intro e; cases e), fun ad e => ?_, fun j hj => ⟨g, rfl, h.cellAt j (by omega)⟩⟩
    simp only [Option.some.injEq] at e
    subst e
    exact ⟨h1, (Array.getElem?_eq_some_iff.1 hgg).1⟩
theorem own_sl {w : World} {base : Nat} {v : Value} {zs : List Int} (h : w.ownsRow base 5 1 v zs.length (B zs)) (hz : ∀ z ∈ zs, 0 ≤ z ∧ z ≤ 255) : Sl w v zs (fun g => base ≤ g ∧ g < w.heap.size) := by
  obtain ⟨A, c, rfl, h1, h2, h3⟩ := own_form h hz
  obtain ⟨A', c', e, _, _, h4, h5, _⟩ := own_block' h
  cases e
  exact ⟨A, _, c, rfl, h3, h1, h2, h4, h5⟩

/-- v is a row of the call's own, of rows of its own, that read as rss -/
def OwnRows (w : World) (base : Nat) (v : Value) (rss : List (List Int)) : Prop :=
  (∀ r ∈ rss, ∀ z ∈ r, 0 ≤ z ∧ z ≤ 255) ∧ ∃ xs : List Value, w.ownsRow base 22 1 v rss.length xs ∧ ∀ j u, xs[j]? = some u → w.ownsRow base 5 1 u (rss.getD j []).length (B (rss.getD j []))
theorem OwnRows.nil (w : World) (base : Nat) : OwnRows w base (.slice none 0 0) [] := ⟨by simp, [], World.ownsRow_nil _ _ _ _, by simp⟩
theorem OwnRows.below {w w' : World} {base : Nat} {v : Value} {rss : List (List Int)} (h : OwnRows w base v rss) (hb : Below w.heap.size w w') : OwnRows w' base v rss := by
  obtain ⟨h0, xs, h1, h2⟩ := h
  exact ⟨h0, xs, own_below' h1 hb, fun j u hu => own_below' (h2 j u hu) hb⟩
theorem OwnRows.rs {w : World} {base : Nat} {v : Value} {rss : List (List Int)} (h : OwnRows w base v rss) : ∃ A c, v = .slice A rss.length c ∧ rss.length ≤ c ∧ c ≤ maxLen ∧ Rs w A rss.length rss := by
  obtain ⟨h0, xs, h1, h2⟩ := h
  obtain ⟨A, c, rfl, hc1, hc2, _, hbl, hcell⟩ := own_block' h1
  have hl : xs.length = rss.length := by have := h1.1; omega
  refine ⟨A, c, rfl, hc1, hc2, rfl, fun j hj => ?_⟩
  obtain ⟨g, rfl, hc⟩ := hcell j hj
  obtain ⟨u, hu⟩ : ∃ u, xs[j]? = some u := ⟨_, List.getElem?_eq_getElem (by omega)⟩
  have hm : rss.getD j [] ∈ rss := by simp [List.getD, hj]
  exact ⟨g, 0, u, rfl, (hbl _ rfl).2, by rw [Nat.zero_add, hc, hu], (own_sl (h2 j u hu) (h0 _ hm)).mono (fun _ _ => trivial)⟩
/-- the step 'rows = append(rows, r)' -/
theorem OwnRows.snoc {w2 w3 : World} {base b2 : Nat} {v v' r : Value} {rss : List (List Int)} {zs : List Int} {xs : List Value} (h0 : ∀ r ∈ rss, ∀ z ∈ r, 0 ≤ z ∧ z ≤ 255) (hz : ∀ z ∈ zs, 0 ≤ z ∧ z ≤ 255)
    (h1 : w2.ownsRow base 22 1 v rss.length xs) (h2 : ∀ j u, xs[j]? = some u → w2.ownsRow base 5 1 u (rss.getD j []).length (B (rss.getD j [])))
    (hr : w2.ownsRow b2 5 1 r zs.length (B zs)) (hb : base ≤ b2) (hg : w2.grownBy w3 v.ownBlock) (ho : w3.ownsRow base 22 1 v' (rss.length + 1) (xs ++ [r])) : OwnRows w3 base v' (rss ++ [zs]) := by
  have hl : xs.length = rss.length := by have := h1.1; omega
  refine ⟨fun x hx => ?_, xs ++ [r], by simpa using ho, fun j u hu => ?_⟩
  · rcases List.mem_append.1 hx with hx | hx
    · exact h0 x hx
    · obtain rfl : x = zs := by simpa using hx
      exact hz
  · rcases Nat.lt_or_ge j rss.length with hj | hj
    · rw [List.getElem?_append_left (by omega)] at hu
      have := other_kept h1 (h2 j u hu) (by decide) hg
      simpa [List.getD, List.getElem?_append_left hj] using this
    · rw [List.getElem?_append_right (by omega)] at hu
      obtain rfl : j = rss.length := by
        rcases Nat.eq_or_lt_of_le hj with e | e
        · exact e.symm
        · rw [List.getElem?_eq_none (by simp; omega)] at hu; cases hu
      obtain rfl : r = u := by simpa [hl] using hu
      have := own_mono (other_kept h1 hr (by decide) hg) hb
      simpa [List.getD] using this

theorem grow_below' {w wr w1 : World} {u : Value} {k : Nat} {e : TypeId} {xs : List Value} {o : Obj} (hown : wr.ownsRow w.heap.size e 1 u k xs) (hb : Below w.heap.size w wr) (hg : (wr.alloc o).grownBy w1 u.ownBlock) :
    Below w.heap.size w w1 := (hb.alloc hb.size o).grown hg (by have := hb.size; simp; omega) (fun g h => (hown.lt g h).1)

def RelA (w : World) (zs : List Int) (i : Nat) (v : Value) (wr : World) : Prop :=
  ∃ pre, pre.length ≤ i ∧ Fr.rows zs = pre ++ Fr.rows (zs.drop i) ∧ Fr.stop zs = Fr.stop (zs.drop i) ∧ OwnRows wr w.heap.size v pre ∧ Below w.heap.size w wr

set_option maxHeartbeats 1000000 in
theorem ref_all (A : Option Addr) (m c : Nat) (zs : List Int) (w : World) (h : Bts w A m zs) (hmc : m ≤ c) (hc : c ≤ maxLen) (hm : m ≤ 1000000) :
    Calls Try.prog 15 #[.slice A m c] w fun e w' => ∃ v, e = .returned (.tuple #[v, .int .i64 (Fr.stop zs)]) ∧ OwnRows w' w.heap.size v (Fr.rows zs) ∧ Below w.heap.size w w' := by
  unfold maxLen at hc
  obtain ⟨i22, hi22, ha0, ha1, ha2⟩ := info_parts sl_info
  have HB := Lib.hid h; clear h
  go_enter Try.func15, Try.ntmps15
  go_wp2
  go_loopw [5, 4] (fun p v wr => ∃ i : Nat, p = .int .i64 (i : Int) ∧ i ≤ m ∧ RelA w zs i v wr) (fun p _ _ => m - (intOf p).toNat)
  case atStart => exact ⟨0, rfl, by omega, [], by simp, by simp, by simp, OwnRows.nil _ _, Below.refl _ _⟩
  case round =>
    obtain ⟨i, rfl, hi, pre, hpre, he, hst, hor, hbel⟩ := hrel
    have HE := Lib.hid he; clear he
    have HST := Lib.hid hst; clear hst
    have HBL := Lib.hid hbel; clear hbel
    have hsz := HBL.out.size
    have HT := Lib.hid (HB.out.below HBL.out)
    by_cases him : i < m
    · have hc2 : c - i ≤ maxLen := by unfold maxLen; omega
      have HC2 := Lib.hid hc2; clear hc2
      have hl : (zs.drop i).length = m - i := by rw [List.length_drop, HB.out.len]
      have HTD := Lib.hid (HT.out.tail him)
      by_cases hcd : Fr.code (zs.drop i) = 0
      · have hs := (Fr.size_ok hcd).2
        have hy := Fr.rows_yes hcd
        rw [hl] at hs
        obtain ⟨h0, xs, ho1, ho2⟩ := hor
        have HZ := Lib.hid (Fr.row_bd HTD.out.bd)
        have HE2 : Hid (Fr.rows zs = (pre ++ [Fr.row (zs.drop i)]) ++ Fr.rows (zs.drop (i + Fr.size (zs.drop i))) ∧ Fr.stop zs = Fr.stop (zs.drop (i + Fr.size (zs.drop i)))) := Lib.hid (by
          rw [HE.out, HST.out, hy.1, hy.2]; simp [List.drop_drop])
        have HG : Hid (Calls Try.prog 10 #[.slice (Option.map (fun x => x.add i) A) (m - i) (c - i)] wr fun e w' => ∃ v, e = .returned (.tuple #[v, .int .i64 (Fr.size (zs.drop i) : Int), .int .i64 0]) ∧ w'.ownsRow wr.heap.size 5 1 v (Fr.row (zs.drop i)).length (B (Fr.row (zs.drop i))) ∧ Below wr.heap.size wr w') :=
          Lib.hid ((ref_fget_any _ _ _ (zs.drop i) _ HTD.out (by omega) HC2.out).mono fun e w' ⟨v, h1, h2⟩ => ⟨v, by rw [h1, ftup, hcd], h2⟩)
        have HO1 := Lib.hid ho1; have HO2 := Lib.hid ho2; have H0 := Lib.hid h0
        clear ho1 ho2 h0 hy hcd hl
        generalize Fr.row (zs.drop i) = rw at *
        generalize Fr.size (zs.drop i) = k at *
        go_wp2_with (first
          | (go_at_call 10; refine HG.out.mono ?_; rintro e w2 ⟨r, rfl, hor, hb2⟩; obtain ⟨Ar, cr, rfl, _⟩ := own_block' hor; have HOR := Lib.hid hor; clear hor; have HB2 := Lib.hid hb2; clear hb2; have hsz2 := HB2.out.size)
          | (at_builtin; refine wpList_append_own _ rfl (.tmp 25) (.tmp 27) 30 rfl w.heap.size 22 i22 (.slice none 0 0) 1 24 Try.underlying30 hi22 ha0 ha1 ha2 rfl (by decide) _ pre.length xs rfl ((own_below' HO1.out HB2.out).alloc _) ⟨w2.heap.size, 0, none⟩ 1 1 [.slice Ar rw.length cr] rfl rfl (cell_one_new _ _ _) (by simp [Value.oneCell']) (by unfold maxLen; omega) (by omega) (by simp; omega) ?_; intro v1' w1 ho1' hg1 _; have HB1 := Lib.hid (grow_below' (own_below' HO1.out HB2.out) (HBL.out.trans (HB2.out.mono HBL.out.size)) hg1); have HN := Lib.hid (OwnRows.snoc H0.out HZ.out ((own_below' HO1.out HB2.out).alloc _) (fun j u hu => (own_below' (HO2.out j u hu) HB2.out).alloc _) (HOR.out.alloc _) hsz hg1 ho1'); clear hg1 ho1'))
        go_roundw
        case rel => exact ⟨i + k, by go_num, by omega, pre ++ [rw], by simp; omega, HE2.out.1, HE2.out.2, HN.out, HB1.out⟩
        case measure => simp [intOf]; omega
      · have hno := Fr.rows_no (zs := zs.drop i) (by intro e; rw [e] at hl; simp at hl; omega) hcd
        have E : Hid (pre = Fr.rows zs ∧ Fr.stop zs = Fr.code (zs.drop i)) := Lib.hid ⟨by rw [HE.out, hno.1, List.append_nil], by rw [HST.out, hno.2]⟩
        have HG : Hid (Calls Try.prog 10 #[.slice (Option.map (fun x => x.add i) A) (m - i) (c - i)] wr fun e w' => ∃ v, e = .returned (.tuple #[v, .int .i64 0, .int .i64 (Fr.stop zs)]) ∧ Below wr.heap.size wr w') :=
          Lib.hid ((ref_fget_any _ _ _ (zs.drop i) _ HTD.out (by omega) HC2.out).mono fun e w' ⟨v, h1, h2⟩ => ⟨v, by rw [h1, ftup, E.out.2, Fr.size_no hcd]; rfl, h2.2⟩)
        have t1 : (Fr.stop zs != 0) = true := by rw [bne_iff_ne, E.out.2]; exact hcd
        clear hcd hno hl
        have HOR := Lib.hid hor; clear hor
        go_wp2_with (go_at_call 10; refine HG.out.mono ?_; rintro e w2 ⟨r, rfl, hb2⟩; have HB2 := Lib.hid hb2; clear hb2)
        go_ret2
        exact ⟨_, rfl, by rw [← E.out.1]; exact HOR.out.below HB2.out, HBL.out.trans (HB2.out.mono HBL.out.size)⟩
    · have E : Hid (pre = Fr.rows zs ∧ Fr.stop zs = 0) := Lib.hid (by rw [HE.out, HST.out, List.drop_of_length_le (by have := HB.out.len; omega), Fr.rows_nil, Fr.stop_nil, List.append_nil]; exact ⟨rfl, rfl⟩)
      go_wp2
      go_ret2
      exact ⟨_, by rw [E.out.2]; rfl, by rw [← E.out.1]; exact hor, HBL.out⟩

end Go.Proofs.Ytadbidgikgffhaa
