/-
  Numbers as bytes: what bytes begin with is told back as those very bytes. No program. Conditions: as each lemma states.
-/
import Derived.Test.YtebgfiibcmnfnaaDoorFr
namespace Go.Proofs.YtebgfiibcmnfnaaDoor.Uv
set_option linter.unusedVariables false

theorem enc_one (v : Nat) (h : v < 128) : enc v = [(v : Int)] := by
  have h1 : len v = 1 := len_unique v 0 (by omega) (by simpa using h) (fun j hj => by omega)
  unfold enc
  rw [if_pos (by omega), h1]
  simp [byte, List.range_succ]
  omega
theorem len_more (v : Nat) (h : 128 ≤ v) (hv : v < 18446744073709551616) : len v = len (v / 128) + 1 := by
  have hp := len_pos (v / 128)
  refine len_unique v (len (v / 128)) hv ?_ ?_
  · have := len_last (v / 128) (by omega)
    rw [show len (v / 128) = (len (v / 128) - 1) + 1 by omega, div_pow]
    exact this
  · intro j hj
    cases j with
    | zero => simpa using h
    | succ j => rw [div_pow]; exact len_before (v / 128) j hj
theorem enc_more (v : Nat) (h : 128 ≤ v) (hv : v < 9223372036854775808) : enc v = ((v % 128 + 128 : Nat) : Int) :: enc (v / 128) := by
  have hp := len_pos (v / 128)
  unfold enc
  rw [if_pos hv, if_pos (by omega), len_more v h (by omega), List.range_succ_eq_map, List.map_cons, List.map_map]
  congr 1
  · unfold byte; rw [if_pos (by omega)]; simp
  · refine List.map_congr_left fun i _ => ?_
    simp only [Function.comp, byte, Nat.succ_eq_add_one, div_pow]
    by_cases h2 : i + 1 < len (v / 128)
    · rw [if_pos (by omega), if_pos h2]
    · rw [if_neg (by omega), if_neg h2]
/-- bytes that are a number, in its shortest way -/
def Canon : List Int → Prop
  | [] => False
  | [z] => 0 ≤ z ∧ z ≤ 127
  | z :: l => 128 ≤ z ∧ z ≤ 255 ∧ Canon l ∧ 0 < num l
theorem num_one (z : Int) (h0 : 0 ≤ z) (h1 : z ≤ 127) : num [z] = z := by simp [num]; omega
theorem canon_enc : ∀ (l : List Int), l.length ≤ 9 → Canon l → enc (num l).toNat = l
  | [], _, h => h.elim
  | [z], _, h => by
    rw [num_one z h.1 h.2, enc_one _ (by have := h.2; omega), Int.toNat_of_nonneg h.1]
  | z :: y :: l, hl, h => by
    obtain ⟨h1, h2, h3, h4⟩ := h
    have ih := canon_enc (y :: l) (by simp at hl ⊢; omega) h3
    have hn : num (z :: y :: l) = z % 128 + 128 * num (y :: l) := rfl
    have hlt := num_lt (z :: y :: l)
    have hp : (128 : Int) ^ (z :: y :: l).length ≤ 128 ^ 9 := by
      have := Nat.pow_le_pow_right (show 0 < 128 by omega) hl
      have h5 : ((128 ^ (z :: y :: l).length : Nat) : Int) ≤ ((128 ^ 9 : Nat) : Int) := Int.ofNat_le.2 this
      simpa using h5
    have e9 : (128 : Int) ^ 9 = 9223372036854775808 := by decide
    rw [e9] at hp
    generalize hm : num (y :: l) = m at *
    rw [enc_more _ (by omega) (by omega)]
    have e1 : (num (z :: y :: l)).toNat / 128 = m.toNat := by omega
    rw [e1, ih]
    congr 1
    omega
theorem num_pos : ∀ (l : List Int), (∀ z ∈ l, 0 ≤ z ∧ z ≤ 255) → ∀ k, k < l.length → 0 < l.getD k 0 → l.getD k 0 ≤ 127 → 0 < num l
  | [], _, k, h, _, _ => by simp at h
  | z :: l, hb, 0, _, h1, h2 => by
    have := num_nonneg l
    simp only [num]
    simp at h1 h2
    omega
  | z :: l, hb, k + 1, h, h1, h2 => by
    have := num_pos l (fun x hx => hb x (by simp [hx])) k (by simpa using h) (by simpa using h1) (by simpa using h2)
    simp only [num]
    omega
theorem canon_of : ∀ (l : List Int) (k : Nat), (∀ z ∈ l, 0 ≤ z ∧ z ≤ 255) → l.length = k + 1 → (∀ i, i < k → 127 < l.getD i 0) → l.getD k 0 ≤ 127 → (k = 0 ∨ ¬ l.getD k 0 = 0) → Canon l
  | [], k, _, h, _, _, _ => by simp at h
  | [z], k, hb, h, h1, h2, h3 => by
    have : k = 0 := by simp at h; omega
    subst this
    exact ⟨(hb z (by simp)).1, by simpa using h2⟩
  | z :: y :: l, 0, hb, h, h1, h2, h3 => by simp at h
  | z :: y :: l, k + 1, hb, h, h1, h2, h3 => by
    have h0 := h1 0 (by omega)
    have hz := hb z (by simp)
    have hb' : ∀ x ∈ y :: l, 0 ≤ x ∧ x ≤ 255 := fun x hx => hb x (List.mem_cons_of_mem _ hx)
    have hlen : (y :: l).length = k + 1 := by simpa using h
    have h2' : (y :: l).getD k 0 ≤ 127 := by simpa using h2
    have h3' : ¬ (y :: l).getD k 0 = 0 := by
      rcases h3 with h3 | h3
      · omega
      · simpa using h3
    have hge := (hb' ((y :: l).getD k 0) (by
      have hk : k < (y :: l).length := by omega
      simp only [List.getD, List.getElem?_eq_getElem hk, Option.getD_some]
      exact List.getElem_mem hk)).1
    refine ⟨by simp at h0; omega, hz.2, canon_of (y :: l) k hb' hlen (fun i hi => by simpa using h1 (i + 1) (by omega)) h2' (.inr h3'), ?_⟩
    exact num_pos (y :: l) hb' k (by omega) (by omega) h2'
/-- what bytes begin with is told back as those bytes -/
theorem enc_val (zs : List Int) (hb : ∀ z ∈ zs, 0 ≤ z ∧ z ≤ 255) (h : code zs = 0) : enc (val zs).toNat ++ zs.drop (size zs) = zs := by
  have hf := lead_fuel 9 zs
  have hl := lead_len 9 zs
  have ha := lead_all 9 zs
  have hs := lead_stop 9 zs
  unfold code val size got at *
  by_cases c1 : lead 9 zs = 9
  · rw [if_pos c1] at h; simp at h
  · rw [if_neg c1] at h ⊢
    by_cases c2 : lead 9 zs = zs.length
    · rw [if_pos c2] at h; simp at h
    · rw [if_neg c2] at h ⊢
      by_cases c3 : 0 < lead 9 zs ∧ zs.getD (lead 9 zs) 0 = 0
      · rw [if_pos c3] at h; simp at h
      · rw [if_neg c3]
        generalize lead 9 zs = k at *
        have hlen : (zs.take (k + 1)).length = k + 1 := by simp; omega
        have hg : ∀ i, i ≤ k → (zs.take (k + 1)).getD i 0 = zs.getD i 0 := fun i hi => by
          simp only [List.getD]
          rw [List.getElem?_take_of_lt (by omega)]
        have hc := canon_of (zs.take (k + 1)) k (fun z hz => hb z (List.mem_of_mem_take hz)) hlen (fun i hi => by rw [hg i (by omega)]; exact ha i hi)
          (by rw [hg k (by omega)]; rcases hs with h1 | h1 | h1 <;> omega)
          (by rw [hg k (by omega)]; by_cases h0 : k = 0
              · exact .inl h0
              · exact .inr (fun e => c3 ⟨by omega, e⟩))
        have he := canon_enc (zs.take (k + 1)) (by omega) hc
        simp only [Int.toNat_natCast]
        rw [he, List.take_append_drop]
end Go.Proofs.YtebgfiibcmnfnaaDoor.Uv
