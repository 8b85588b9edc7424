/-
  Plain words on a table of timers: names with times, in order; setting, dropping; what a map of times says of it. Conditions: as each lemma states.
-/
import Derived.Test.YtahccfljgmleiaaSrt0
import Derived.Maps.OwnSet
import Derived.Maps.RangeWalk
namespace Go.Proofs.Ytahccfljgmleiaa
open Go.RowKit Go.Maps
set_option linter.unusedVariables false

/-- a timer: a name and its time -/
abbrev En := Ky × Int
/-- one comes ahead of another one: by times, then by names -/
def bef (e f : En) : Prop := e.2 < f.2 ∨ (e.2 = f.2 ∧ e.1.1 < f.1.1)
instance (e f : En) : Decidable (bef e f) := by unfold bef; infer_instance
theorem bef_irrefl (e : En) : ¬ bef e e := by
  rintro (h | ⟨_, h⟩)
  · omega
  · exact List.lt_irrefl _ h
theorem bef_trans {e f g : En} (h : bef e f) (k : bef f g) : bef e g := by
  rcases h with h | ⟨h, h'⟩ <;> rcases k with k | ⟨k, k'⟩
  · exact .inl (by omega)
  · exact .inl (by omega)
  · exact .inl (by omega)
  · exact .inr ⟨by omega, List.lt_trans h' k'⟩
theorem bef_total {e f : En} (h : ¬ bef e f) (hn : e.1 ≠ f.1) : bef f e := by
  unfold bef at h ⊢
  by_cases h1 : f.2 < e.2
  · exact .inl h1
  · by_cases h2 : e.2 < f.2
    · exact absurd (.inl h2) h
    · refine .inr ⟨by omega, ?_⟩
      have h3 : ¬ e.1.1 < f.1.1 := fun h3 => h (.inr ⟨by omega, h3⟩)
      by_cases h4 : f.1.1 < e.1.1
      · exact h4
      · exact absurd (Subtype.ext (List.le_antisymm (List.not_lt.1 h4) (List.not_lt.1 h3))) hn
/-- in order: each ahead of those behind it, and no name twice -/
structure Tbl (L : List En) : Prop where
  sorted : L.Pairwise bef
  nodup : (L.map (·.1)).Nodup
  times : ∀ e ∈ L, 0 ≤ e.2 ∧ e.2 ≤ 1099511627776
  few : L.length ≤ 200
theorem Tbl.nil : Tbl [] := ⟨List.Pairwise.nil, List.nodup_nil, by simp, by simp⟩
theorem Tbl.one {L : List En} (h : Tbl L) {x : Ky} {t u : Int} (h1 : (x, t) ∈ L) (h2 : (x, u) ∈ L) : t = u := by
  have := h.nodup
  clear h
  induction L with
  | nil => cases h1
  | cons e L ih =>
    simp only [List.map_cons, List.nodup_cons, List.mem_map, not_exists, not_and] at this
    rcases List.mem_cons.1 h1 with rfl | h1' <;> rcases List.mem_cons.1 h2 with h2 | h2
    · exact (Prod.mk.inj h2).2.symm
    · exact absurd rfl (this.1 (x, u) h2)
    · subst h2; exact absurd rfl (this.1 (x, t) h1')
    · exact ih h1' h2 this.2
/-- a name's time, or 0 -/
def timeOf (L : List En) (x : Ky) : Int := ((L.find? fun e => decide (e.1 = x)).map (·.2)).getD 0
/-- has a name a time? -/
def inL (L : List En) (x : Ky) : Bool := L.any fun e => decide (e.1 = x)
theorem inL_iff {L : List En} {x : Ky} : inL L x = true ↔ ∃ t, (x, t) ∈ L := by
  unfold inL
  rw [List.any_eq_true]
  constructor
  · rintro ⟨⟨y, t⟩, h, e⟩
    have : y = x := by simpa using e
    subst this; exact ⟨t, h⟩
  · rintro ⟨t, h⟩; exact ⟨_, h, by simp⟩
theorem timeOf_mem {L : List En} (h : Tbl L) {x : Ky} {t : Int} (hm : (x, t) ∈ L) : timeOf L x = t := by
  unfold timeOf
  cases hf : L.find? fun e => decide (e.1 = x) with
  | none =>
    have := List.find?_eq_none.1 hf _ hm
    simp at this
  | some e =>
    have h1 := List.mem_of_find?_eq_some hf
    have h2 := List.find?_some hf
    have h3 : e.1 = x := by simpa using h2
    subst h3
    exact h.one h1 hm
theorem timeOf_not {L : List En} {x : Ky} (h : inL L x = false) : timeOf L x = 0 := by
  unfold timeOf
  have : L.find? (fun e => decide (e.1 = x)) = none := by
    rw [List.find?_eq_none]
    intro e he
    have := List.any_eq_false.1 h e he
    simpa using this
  rw [this]; rfl
theorem timeOf_bound {L : List En} (h : Tbl L) (x : Ky) : 0 ≤ timeOf L x ∧ timeOf L x ≤ 1099511627776 := by
  cases hi : inL L x with
  | false => rw [timeOf_not hi]; omega
  | true =>
    obtain ⟨t, ht⟩ := inL_iff.1 hi
    rw [timeOf_mem h ht]; exact h.times _ ht

/-- a name has no time any more -/
def dropL (L : List En) (x : Ky) : List En := L.filter fun e => !decide (e.1 = x)
/-- a name's time is this one -/
def putL (L : List En) (x : Ky) (t : Int) : List En := (dropL L x).takeWhile (fun e => decide (bef e (x, t))) ++ (x, t) :: (dropL L x).dropWhile (fun e => decide (bef e (x, t)))
theorem mem_dropL {L : List En} {x : Ky} {e : En} : e ∈ dropL L x ↔ e ∈ L ∧ e.1 ≠ x := by
  unfold dropL; rw [List.mem_filter]; simp
theorem dropL_perm (L : List En) (x : Ky) (t : Int) : (putL L x t).Perm ((x, t) :: dropL L x) := by
  unfold putL
  refine List.perm_middle.trans ?_
  rw [List.takeWhile_append_dropWhile]
theorem mem_putL {L : List En} {x : Ky} {t : Int} {e : En} : e ∈ putL L x t ↔ e = (x, t) ∨ (e ∈ L ∧ e.1 ≠ x) := by
  rw [(dropL_perm L x t).mem_iff, List.mem_cons, mem_dropL]
theorem dropL_len (L : List En) (x : Ky) : (dropL L x).length ≤ L.length := List.length_filter_le _ _
theorem dropL_not {L : List En} {x : Ky} (h : inL L x = false) : dropL L x = L := by
  unfold dropL
  rw [List.filter_eq_self]
  intro e he
  have := List.any_eq_false.1 h e he
  simpa using this
theorem dropL_in {L : List En} {x : Ky} (hT : Tbl L) (h : inL L x = true) : (dropL L x).length + 1 = L.length := by
  obtain ⟨t, ht⟩ := inL_iff.1 h
  have hn := hT.nodup
  clear hT h
  induction L with
  | nil => cases ht
  | cons e L ih =>
    simp only [List.map_cons, List.nodup_cons, List.mem_map, not_exists, not_and] at hn
    by_cases he : e.1 = x
    · have hno : inL L x = false := by
        cases hi : inL L x with
        | false => rfl
        | true => obtain ⟨u, hu⟩ := inL_iff.1 hi; exact absurd he.symm (hn.1 _ hu)
      unfold dropL
      rw [List.filter_cons_of_neg (by simp [he])]
      show (dropL L x).length + 1 = _
      rw [dropL_not hno]; simp
    · unfold dropL
      rw [List.filter_cons_of_pos (by simp [he])]
      have := ih (by
        rcases List.mem_cons.1 ht with h | h
        · exact absurd (by rw [← h]) he
        · exact h) hn.2
      unfold dropL at this
      simp only [List.length_cons]; omega
theorem Tbl.drop {L : List En} (h : Tbl L) (x : Ky) : Tbl (dropL L x) :=
  ⟨h.sorted.filter _, (List.Sublist.map _ List.filter_sublist).nodup h.nodup, fun e he => h.times e (mem_dropL.1 he).1, Nat.le_trans (dropL_len L x) h.few⟩
theorem inL_drop {L : List En} {x y : Ky} : inL (dropL L x) y = (inL L y && !decide (y = x)) := by
  rw [Bool.eq_iff_iff, inL_iff, Bool.and_eq_true, inL_iff]
  constructor
  · rintro ⟨t, h⟩
    have := mem_dropL.1 h
    exact ⟨⟨t, this.1⟩, by simpa using this.2⟩
  · rintro ⟨⟨t, h⟩, h2⟩
    exact ⟨t, mem_dropL.2 ⟨h, by simpa using h2⟩⟩
theorem nodup_put {L : List En} (h : Tbl L) (x : Ky) (t : Int) : ((putL L x t).map (·.1)).Nodup := by
  refine ((dropL_perm L x t).map (·.1)).nodup_iff.2 ?_
  rw [List.map_cons, List.nodup_cons]
  refine ⟨?_, (h.drop x).nodup⟩
  rw [List.mem_map]
  rintro ⟨e, he, e2⟩
  exact (mem_dropL.1 he).2 e2
theorem drop_while_after {e : En} : ∀ {M : List En}, M.Pairwise bef → (∀ f ∈ M, f.1 ≠ e.1) → ∀ f ∈ M.dropWhile (fun f => decide (bef f e)), bef e f
  | [], _, _, f, hf => by simp at hf
  | g :: M, hs, hn, f, hf => by
    by_cases hg : bef g e
    · rw [List.dropWhile_cons_of_pos (by simpa using hg)] at hf
      exact drop_while_after hs.tail (fun f hf => hn f (List.mem_cons_of_mem _ hf)) f hf
    · rw [List.dropWhile_cons_of_neg (by simpa using hg)] at hf
      have hg2 := bef_total hg (hn g (by simp))
      rcases List.mem_cons.1 hf with rfl | hf
      · exact hg2
      · exact bef_trans hg2 (List.rel_of_pairwise_cons hs hf)
theorem sorted_put {L : List En} (h : Tbl L) (x : Ky) (t : Int) : (putL L x t).Pairwise bef := by
  have hd := (h.drop x).sorted
  have hn : ∀ f ∈ dropL L x, f.1 ≠ (x, t).1 := fun f hf => (mem_dropL.1 hf).2
  unfold putL
  rw [List.pairwise_append]
  have htw : ∀ f ∈ (dropL L x).takeWhile (fun e => decide (bef e (x, t))), bef f (x, t) := fun f hf => by
    have := List.all_takeWhile (l := dropL L x) (p := fun e => decide (bef e (x, t)))
    have := List.all_eq_true.1 this f hf
    simpa using this
  have hdw := drop_while_after (e := (x, t)) hd hn
  refine ⟨hd.sublist (List.takeWhile_sublist _), ?_, ?_⟩
  · rw [List.pairwise_cons]
    exact ⟨hdw, hd.sublist (List.dropWhile_sublist _)⟩
  · intro f hf g hg
    rcases List.mem_cons.1 hg with rfl | hg
    · exact htw f hf
    · exact bef_trans (htw f hf) (hdw g hg)
theorem putL_len (L : List En) (x : Ky) (t : Int) : (putL L x t).length = (dropL L x).length + 1 := by rw [(dropL_perm L x t).length_eq]; rfl
theorem Tbl.put {L : List En} (h : Tbl L) {x : Ky} {t : Int} (h0 : 0 ≤ t) (h1 : t ≤ 1099511627776) (hf : inL L x = true ∨ L.length < 200) : Tbl (putL L x t) := by
  refine ⟨sorted_put h x t, nodup_put h x t, ?_, ?_⟩
  · intro e he
    rcases mem_putL.1 he with rfl | ⟨he, _⟩
    · exact ⟨h0, h1⟩
    · exact h.times e he
  · rw [putL_len]
    rcases hf with hf | hf
    · rw [dropL_in h hf]; exact h.few
    · have := dropL_len L x; omega
theorem inL_put {L : List En} {x y : Ky} {t : Int} : inL (putL L x t) y = (inL L y || decide (y = x)) := by
  rw [Bool.eq_iff_iff, inL_iff, Bool.or_eq_true, inL_iff]
  constructor
  · rintro ⟨u, h⟩
    rcases mem_putL.1 h with h | ⟨h, _⟩
    · right; simpa using (Prod.mk.inj h).1
    · left; exact ⟨u, h⟩
  · intro h
    by_cases e : y = x
    · subst e; exact ⟨t, mem_putL.2 (.inl rfl)⟩
    · rcases h with ⟨u, h⟩ | h
      · exact ⟨u, mem_putL.2 (.inr ⟨h, e⟩)⟩
      · simp at h; exact absurd h e

/-- a map of times says of each name its time -/
structure Tags (D : DataW Unit) (L : List En) : Prop where
  tidy : Tidy D
  has : ∀ x : Ky, Maps.has D (.string x.1) = inL L x
  time : ∀ x t, (x, t) ∈ L → ∀ z, D.atKey (.string x.1) z = .lit (.int .i64 t)
  size : Maps.size D = L.length
theorem Tags.nil : Tags (.map []) [] := ⟨tidy_empty, fun x => by simp [Maps.has, inL], by simp, rfl⟩
theorem str_size (x : Ky) : (str x).size = x.1.length := by simp [str, ByteArray.size]
theorem str_le (x : Ky) : (str x).size ≤ maxLen := by rw [str_size]; exact x.2
theorem key_mk (x : Ky) : keyOf Try.prog 9 (.string (str x)) = some (.string x.1) := WideMaps.keyOf_string_mk Try.underlying9 (str_le x)
theorem isKey (x : Ky) : WideAt.IsKeyLit (.string x.1) := (string_keyed Try.underlying9).key (key_mk x)
theorem key_ne {x y : Ky} (h : y ≠ x) : (Lit.string y.1) ≠ .string x.1 := fun e => h (Subtype.ext (by simpa using e))
theorem Tags.put {D : DataW Unit} {L : List En} (h : Tags D L) (hT : Tbl L) (x : Ky) (t : Int) : Tags (D.put (.string x.1) (.lit (.int .i64 t))) (putL L x t) := by
  refine ⟨h.tidy.put (isKey x) _, ?_, ?_, ?_⟩
  · intro y
    rw [inL_put]
    by_cases e : y = x
    · subst e; rw [has_put_same h.tidy.isMap (isKey y)]; simp
    · rw [has_put_other (key_ne e), h.has y]; simp [e]
  · intro y u hm z
    rcases mem_putL.1 hm with h1 | ⟨h1, h2⟩
    · obtain ⟨rfl, rfl⟩ := Prod.mk.inj h1
      exact atKey_put_same h.tidy.isMap (isKey _) _ _
    · rw [atKey_put_other (key_ne h2)]; exact h.time y u h1 z
  · rw [size_put h.tidy, h.has x, putL_len, h.size]
    cases hi : inL L x with
    | true => rw [if_pos rfl, dropL_in hT hi]
    | false => rw [if_neg (by simp), dropL_not hi]
theorem Tags.del {D : DataW Unit} {L : List En} (h : Tags D L) (hT : Tbl L) (x : Ky) : Tags (D.del (.string x.1)) (dropL L x) := by
  refine ⟨h.tidy.del _, ?_, ?_, ?_⟩
  · intro y
    rw [inL_drop]
    by_cases e : y = x
    · subst e; rw [has_del_same]; simp
    · rw [has_del_other (key_ne e), h.has y]; simp [e]
  · intro y u hm z
    obtain ⟨h1, h2⟩ := mem_dropL.1 hm
    rw [atKey_del_other (key_ne h2)]; exact h.time y u h1 z
  · have := size_del (k := .string x.1) h.tidy
    rw [h.has x, h.size] at this
    cases hi : inL L x with
    | true =>
      rw [hi, if_pos rfl] at this
      have := dropL_in hT hi
      omega
    | false =>
      rw [hi, if_neg (by simp)] at this
      rw [dropL_not hi]; omega
theorem Tags.timeAt {D : DataW Unit} {L : List En} (h : Tags D L) (hT : Tbl L) (x : Ky) : D.atKey (.string x.1) (.lit (.int .i64 0)) = .lit (.int .i64 (timeOf L x)) := by
  cases hi : inL L x with
  | true =>
    obtain ⟨t, ht⟩ := inL_iff.1 hi
    rw [h.time x t ht, timeOf_mem hT ht]
  | false =>
    rw [atKey_of_not_has (by rw [h.has x]; exact hi), timeOf_not hi]
theorem own_tight {w : World} {b n : Nat} {D : DataW Unit} {R : Value → Option (DataW Unit × List MemPlace)} {k : TypeId} (h : w.ownsMap Try.prog k R b n D) : w.ownsMap Try.prog k R b (Maps.size D) D := by
  obtain ⟨es, clock, h1, h2, h3, rfl⟩ := h
  refine ⟨es, clock, h1, h2, ?_, rfl⟩
  rw [size_eq, length_sorted]; simp

end Go.Proofs.Ytahccfljgmleiaa
