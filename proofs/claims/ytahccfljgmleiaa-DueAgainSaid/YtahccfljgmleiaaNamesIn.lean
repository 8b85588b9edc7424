/-
  What DueNames' and DueAgain's walks are told: names and times that came in; the table behind some of them. Conditions: as each lemma states.
-/
import Derived.Test.YtahccfljgmleiaaFullIn
import Derived.Deep.Strs
namespace Go.Proofs.Ytahccfljgmleiaa
open Go.RowKit Go.Shelf Go.ChangeShapes
set_option linter.unusedVariables false

/-- names that came in -/
structure Nams (w : World) (a : Option Addr) (ks : List Ky) : Prop where
  cells : 0 < ks.length → ∃ b off, a = some ⟨b, off, none⟩ ∧ b < w.heap.size ∧ ∀ i x, ks[i]? = some x → w.cell? ⟨b, off + i, none⟩ = some (.string (str x))
def IsNms (w : World) (v : Value) (ks : List Ky) : Prop := ∃ A c, v = .slice A ks.length c ∧ Nams w A ks ∧ ks.length ≤ c ∧ c ≤ maxLen
/-- small times that came in -/
structure U8s (w : World) (a : Option Addr) (len : Nat) (zs : List Int) : Prop where
  bd : ∀ i, 0 ≤ zs.getD i 0 ∧ zs.getD i 0 ≤ 255
  cells : 0 < len → ∃ b off, a = some ⟨b, off, none⟩ ∧ b < w.heap.size ∧ ∀ i, i < len → w.cell? ⟨b, off + i, none⟩ = some (.int .u8 (zs.getD i 0))
theorem u8s_of_row {w : World} {a : Option Addr} {len cap : Nat} {zs : List Int} (h : IsRow .u8 w a len cap zs) : U8s w a len zs ∧ len ≤ cap ∧ cap ≤ maxLen := by
  rcases h with ⟨rfl, rfl, rfl, rfl⟩ | ⟨x, rfl, h1, h2, h3, h4, h5⟩
  · exact ⟨⟨by simp, fun h => by omega⟩, Nat.le_refl _, Nat.zero_le _⟩
  · refine ⟨⟨fun i => ?_, fun hn => ?_⟩, h1, h2⟩
    · by_cases hi : i < zs.length
      · have hm : zs.getD i 0 ∈ zs := by rw [List.getD, List.getElem?_eq_getElem hi]; exact List.getElem_mem hi
        have := bounds_u8 (h5 _ hm)
        omega
      · rw [List.getD, List.getElem?_eq_none (by omega)]; exact ⟨by decide, by decide⟩
    · obtain ⟨b, off, rfl, hc⟩ := ints_at h4 (by omega)
      exact ⟨b, off, rfl, lt_of_cell (hc 0 (by omega)), fun j hj => hc j (by omega)⟩
def IsTes (w : World) (v : Value) (zs : List Int) : Prop := ∃ A n c, v = .slice A n c ∧ U8s w A n zs ∧ n ≤ c ∧ c ≤ maxLen
section
variable {H : Type} {enc : TypeId × Value → H} {W : World}
theorem open_tes {r : Reach} {b0 : Nat} {v : Value} {d : DataW H} {p : List MemPlace} (hv : Value.okWide Try.prog W r b0 46 v) (h : DataW.Trod enc Try.prog W 0 (fun _ => true) true 46 v d p) : ∃ s, IsTes W v s := by
  obtain ⟨A, l, c, rfl⟩ := WideShapes.okWide_slice Try.underlying46 hv
  obtain ⟨fuel, hf⟩ := h
  have hr : ∃ zs, IsRow .u8 W A l c zs := by
    rcases open_ints Try.underlying46 Try.underlying5 (by kernel_rfl) hf with ⟨hcs, _⟩ | ⟨x, l, c, zs, hcs, _, hl, hm, hz, _, hcell, hwz⟩
    · simp [Value.cells] at hcs
      obtain ⟨rfl, rfl, rfl⟩ := hcs
      exact ⟨[], .inl ⟨rfl, rfl, rfl, rfl⟩⟩
    · simp [Value.cells] at hcs
      obtain ⟨rfl, rfl, rfl⟩ := hcs
      exact ⟨zs, .inr ⟨_, rfl, hl, hm, by simpa using hz, hcell, hwz⟩⟩
  obtain ⟨zs, hz⟩ := hr
  obtain ⟨h1, h2, h3⟩ := u8s_of_row hz
  exact ⟨zs, A, l, c, rfl, h1, h2, h3⟩
theorem strs_at {w : World} {a : Addr} {n : Nat} {Sx : Nat → ByteArray} (hn : 0 < n) (h : ∀ i, i < n → w.cell? (a.add i) = some (.string (Sx i))) : ∃ b off, a = ⟨b, off, none⟩ ∧ ∀ i, i < n → w.cell? ⟨b, off + i, none⟩ = some (.string (Sx i)) := by
  obtain ⟨b, off, sp⟩ := a
  cases sp with
  | none => exact ⟨b, off, rfl, fun i hi => by have := h i hi; rwa [WideShapes.add_plain] at this⟩
  | some s =>
    exfalso
    have := h 0 hn
    unfold World.cell? at this
    simp [Addr.add] at this
    split at this <;> simp_all
theorem open_nms {r : Reach} {b0 : Nat} {v : Value} {d : DataW H} {p : List MemPlace} (hv : Value.okWide Try.prog W r b0 47 v) (h : DataW.Trod enc Try.prog W 0 (fun _ => true) true 47 v d p) : ∃ s, IsNms W v s := by
  obtain ⟨A, l, c, rfl⟩ := WideShapes.okWide_slice Try.underlying47 hv
  obtain ⟨fuel, hf⟩ := h
  rcases Deep.open_strs Try.underlying47 Try.underlying9 (by kernel_rfl) hf with ⟨hcs, _⟩ | ⟨x, l, c, m, Sx, hcs, _, hl, hm, hmm, _, hcell⟩
  · simp [Value.cells] at hcs
    obtain ⟨rfl, rfl, rfl⟩ := hcs
    exact ⟨[], none, 0, rfl, ⟨fun h => by simp at h⟩, Nat.le_refl _, Nat.zero_le _⟩
  · simp [Value.cells] at hcs
    obtain ⟨rfl, rfl, rfl⟩ := hcs
    have hmc : l ≤ m := by rw [hmm]; split <;> omega
    have hk : ∃ ks : List Ky, ks.length = l ∧ ∀ i, i < l → ∃ x, ks[i]? = some x ∧ Sx i = str x := by
      have : ∀ j, j ≤ l → ∃ ks : List Ky, ks.length = j ∧ ∀ i, i < j → ∃ x, ks[i]? = some x ∧ Sx i = str x := by
        intro j
        induction j with
        | zero => exact fun _ => ⟨[], rfl, fun i h => by omega⟩
        | succ j ih =>
          intro hj
          obtain ⟨ks, h1, h2⟩ := ih (by omega)
          obtain ⟨x, hx⟩ := str_of (Sx j) (hcell j (by omega)).2
          refine ⟨ks ++ [x], by simp [h1], fun i hi => ?_⟩
          by_cases hij : i < j
          · obtain ⟨y, hy, hs⟩ := h2 i hij
            exact ⟨y, by rw [List.getElem?_append_left (by omega)]; exact hy, hs⟩
          · obtain rfl : i = j := by omega
            exact ⟨x, by rw [List.getElem?_append_right (by omega), h1]; simp, hx⟩
      exact this l (Nat.le_refl _)
    obtain ⟨ks, h1, h2⟩ := hk
    subst h1
    refine ⟨ks, _, c, rfl, ⟨fun hn => ?_⟩, hl, hm⟩
    obtain ⟨b, off, rfl, hc⟩ := strs_at hn (fun i hi => (hcell i (by omega)).1)
    refine ⟨b, off, rfl, lt_of_cell (hc 0 hn), fun i x hx => ?_⟩
    have hi := (List.getElem?_eq_some_iff.1 hx).1
    obtain ⟨y, hy, hs⟩ := h2 i hi
    rw [hx] at hy
    obtain rfl : x = y := by simpa using hy
    rw [hc i hi, hs]
end
/-- the table behind i of them, with the times that f tells -/
def tabN (ks : List Ky) (f : Nat → Int) : Nat → List En
  | 0 => []
  | i + 1 => match ks[i]? with
    | some x => setL (tabN ks f i) x (f i)
    | none => tabN ks f i
structure Nt (ks : List Ky) (i : Nat) (L : List En) : Prop where
  tbl : Tbl L
  len : L.length ≤ i
  has : ∀ j x, j < i → ks[j]? = some x → inL L x = true
theorem nt {ks : List Ky} {f : Nat → Int} (hx : ∀ i, 0 ≤ f i ∧ f i ≤ 65535) : ∀ i, i ≤ 60 → Nt ks i (tabN ks f i)
  | 0, _ => ⟨Tbl.nil, Nat.le_refl _, fun j x h => by omega⟩
  | i + 1, hi => by
    have h := nt (ks := ks) hx i (by omega)
    have hb := hx i
    have hl := h.len
    cases hk : ks[i]? with
    | none =>
      have he : tabN ks f (i + 1) = tabN ks f i := by simp only [tabN, hk]
      rw [he]
      refine ⟨h.tbl, by omega, fun j x hj hx => ?_⟩
      by_cases e : j = i
      · subst e; rw [hk] at hx; cases hx
      · exact h.has j x (by omega) hx
    | some y =>
      have he : tabN ks f (i + 1) = putL (tabN ks f i) y (f i) := by
        simp only [tabN, hk]
        unfold setL
        rw [if_neg (by omega), if_neg (by omega)]
      rw [he]
      refine ⟨h.tbl.put hb.1 (by omega) (.inr (by omega)), by rw [putL_len]; have := dropL_len (tabN ks f i) y; omega, fun j x hj hx => ?_⟩
      rw [inL_put]
      by_cases e : j = i
      · subst e; rw [hk] at hx; obtain rfl : y = x := by simpa using hx
        simp
      · rw [h.has j x (by omega) hx]; simp
theorem names_set {ks : List Ky} {f : Nat → Int} (hx : ∀ i, 0 ≤ f i ∧ f i ≤ 65535) (k : Nat) (hk : k < 60) (x : Ky) (hkx : ks[k]? = some x) (t : Int) (ht : f k = t) (tb bm : Nat) (W : World) (h : Du W tb bm (tabN ks f k)) :
    Calls Try.prog 11 #[.pointer (some ⟨tb, 0, none⟩), .string (str x), .int .i64 t] W (Turned W tb bm (tabN ks f (k + 1)) (.int .i64 0)) := by
  subst ht
  have := set_any tb bm _ x (f k) W h
  have hp := nt (ks := ks) hx k (by omega)
  have hl := hp.len
  have hb := hx k
  rw [show setCode (tabN ks f k) x (f k) = 0 by unfold setCode; rw [if_neg (by omega), if_neg (by omega)]] at this
  rwa [show setL (tabN ks f k) x (f k) = tabN ks f (k + 1) by simp only [tabN, hkx]] at this
end Go.Proofs.Ytahccfljgmleiaa
