/-
  Frames as lists of bytes: what a frame is, which rows bytes begin with, and why they end. No program. Conditions: as each lemma states.
  Numbers as bytes: what bytes begin with is told back as those very bytes. No program. Conditions: as each lemma states.
  Contracts of embrasure/addr's May and Bytes, and the document's own May. Conditions: as each states.
  Messages as lists of bytes: what a message is, its bytes, and what bytes are read as. No program. Conditions: as each lemma states.
  Contracts of embrasure/frame.first: the row of the frame with which bytes begin, as a piece of them, what it takes, and why there is none. Conditions: the slice reads as bytes.
  Contracts of bytes.Clone, embrasure/frame.Get, embrasure/frame.Put, and of the document's own embrasureref02.Get and embrasureref02.Put: what they answer is what 'Fr' says, in a row of its own. Conditions: the slice reads as bytes.
  The contract of the document's own embrasureref02.Get: the row of the frame with which bytes begin, in a row of its own. Conditions: the slice reads as bytes.
  Contracts of the document's own Bytes of an address. Conditions: as each states.
-/
import Derived.Test.YtdiilgedicfekaaDoorMh4
import Derived.Test.YtdiilgedicfekaaDoorMh3
import Derived.Laws.OwnMore
import Derived.Maps.AppendAt
import Derived.OwnWalk
namespace Go.Proofs.YtdiilgedicfekaaDoor.Fr
set_option linter.unusedVariables false
set_option maxRecDepth 100000

theorem size_le9 (zs : List Int) : Uv.size zs ≤ 9 := by
  have h1 := Uv.lead_fuel 9 zs
  unfold Uv.size Uv.got
  split
  · simp
  · split
    · simp
    · split
      · simp
      · simp; omega

/-- why bytes begin with no frame; 0: they do -/
def code (zs : List Int) : Int :=
  if Uv.code zs ≠ 0 then Uv.code zs else if 1200 < Uv.val zs then 4 else if zs.length < Uv.size zs + (Uv.val zs).toNat then 2 else 0
def size (zs : List Int) : Nat := if code zs = 0 then Uv.size zs + (Uv.val zs).toNat else 0
def row (zs : List Int) : List Int := if code zs = 0 then (zs.drop (Uv.size zs)).take (Uv.val zs).toNat else []

theorem code_bd (zs : List Int) : 0 ≤ code zs ∧ code zs ≤ 4 := by
  unfold code
  rcases Uv.got_cases zs with ⟨h, _⟩ | ⟨h1, h2⟩
  · rw [if_neg (by omega)]; split
    · omega
    · split <;> omega
  · rw [if_pos (by omega)]; omega
theorem code_ok {zs : List Int} (h : code zs = 0) : Uv.code zs = 0 ∧ Uv.val zs ≤ 1200 ∧ Uv.size zs + (Uv.val zs).toNat ≤ zs.length := by
  unfold code at h
  by_cases h1 : Uv.code zs = 0
  · rw [if_neg (by omega)] at h
    by_cases h2 : 1200 < Uv.val zs
    · rw [if_pos h2] at h; omega
    · rw [if_neg h2] at h
      by_cases h3 : zs.length < Uv.size zs + (Uv.val zs).toNat
      · rw [if_pos h3] at h; omega
      · exact ⟨h1, by omega, by omega⟩
  · rw [if_pos h1] at h; omega
theorem size_ok {zs : List Int} (h : code zs = 0) : size zs = Uv.size zs + (Uv.val zs).toNat ∧ 1 ≤ size zs ∧ size zs ≤ zs.length := by
  have h1 := code_ok h
  rcases Uv.got_cases zs with ⟨_, h2, _⟩ | ⟨h2, _⟩
  · unfold size
    rw [if_pos h]
    exact ⟨rfl, by omega, by omega⟩
  · omega
theorem row_len {zs : List Int} (h : code zs = 0) : (row zs).length = (Uv.val zs).toNat ∧ (row zs).length ≤ 1200 := by
  have h1 := code_ok h
  unfold row
  rw [if_pos h]
  have := Uv.val_bd zs
  simp; omega
theorem row_le (zs : List Int) : (row zs).length ≤ 1200 := by
  by_cases h : code zs = 0
  · exact (row_len h).2
  · simp [row, h]
theorem row_bd {zs : List Int} (h : ∀ z ∈ zs, 0 ≤ z ∧ z ≤ 255) : ∀ z ∈ row zs, 0 ≤ z ∧ z ≤ 255 := by
  unfold row
  split
  · exact fun z hz => h z (List.mem_of_mem_drop (List.mem_of_mem_take hz))
  · simp

/-- the rows of frames with which bytes begin, and why they end -/
def parts : Nat → List Int → List (List Int) × Int
  | 0, _ => ([], 0)
  | f + 1, zs => if zs = [] then ([], 0) else if code zs = 0 then (row zs :: (parts f (zs.drop (size zs))).1, (parts f (zs.drop (size zs))).2) else ([], code zs)
theorem parts_fuel : ∀ (f g : Nat) (zs : List Int), zs.length < f → zs.length < g → parts f zs = parts g zs
  | 0, _, _, h, _ => by omega
  | _ + 1, 0, _, _, h => by omega
  | f + 1, g + 1, zs, h1, h2 => by
    unfold parts
    by_cases h0 : zs = []
    · simp [h0]
    · by_cases h : code zs = 0
      · have := size_ok h
        rw [parts_fuel f g (zs.drop (size zs)) (by simp; omega) (by simp; omega)]
      · simp [h0, h]
def rows (zs : List Int) : List (List Int) := (parts (zs.length + 1) zs).1
def stop (zs : List Int) : Int := (parts (zs.length + 1) zs).2
theorem rows_nil : rows [] = [] := rfl
theorem stop_nil : stop [] = 0 := rfl
theorem rows_yes {zs : List Int} (h : code zs = 0) : rows zs = row zs :: rows (zs.drop (size zs)) ∧ stop zs = stop (zs.drop (size zs)) := by
  have hs := size_ok h
  have h0 : ¬ zs = [] := by rintro rfl; simp at hs; omega
  unfold rows stop
  rw [show parts (zs.length + 1) zs = (row zs :: (parts zs.length (zs.drop (size zs))).1, (parts zs.length (zs.drop (size zs))).2) by
    rw [parts]; simp [h0, h], parts_fuel zs.length ((zs.drop (size zs)).length + 1) _ (by simp; omega) (by simp)]
  exact ⟨rfl, rfl⟩
theorem rows_no {zs : List Int} (h0 : ¬ zs = []) (h : ¬ code zs = 0) : rows zs = [] ∧ stop zs = code zs := by
  unfold rows stop
  rw [parts]
  simp [h0, h]
theorem parts_bd : ∀ (f : Nat) (zs : List Int), 0 ≤ (parts f zs).2 ∧ (parts f zs).2 ≤ 4 ∧ (parts f zs).1.length ≤ zs.length
  | 0, _ => by simp [parts]
  | f + 1, zs => by
    unfold parts
    by_cases h0 : zs = []
    · simp [h0]
    · by_cases h : code zs = 0
      · have := parts_bd f (zs.drop (size zs))
        have := size_ok h
        simp [h0, h] at *; omega
      · have := code_bd zs
        simp [h0, h]; omega
theorem stop_bd (zs : List Int) : 0 ≤ stop zs ∧ stop zs ≤ 4 := ⟨(parts_bd _ _).1, (parts_bd _ _).2.1⟩
theorem parts_mem : ∀ (f : Nat) (zs : List Int), ∀ r ∈ (parts f zs).1, r.length ≤ 1200
  | 0, _, r, h => by simp [parts] at h
  | f + 1, zs, r, h => by
    unfold parts at h
    by_cases h0 : zs = []
    · simp [h0] at h
    · by_cases hc : code zs = 0
      · simp [h0, hc] at h
        rcases h with rfl | h
        · exact row_le zs
        · exact parts_mem f _ r h
      · simp [h0, hc] at h
theorem rows_mem_len (zs : List Int) : ∀ r ∈ rows zs, r.length ≤ 1200 := parts_mem _ _
theorem rows_len (zs : List Int) : (rows zs).length ≤ zs.length := (parts_bd _ _).2.2
/-- each row with 0, and last, where the bytes don't end behind a frame, why -/
def each (zs : List Int) : List (List Int × Int) := (rows zs).map (fun r => (r, 0)) ++ if stop zs = 0 then [] else [([], stop zs)]
theorem each_nil : each [] = [] := rfl
theorem each_yes {zs : List Int} (h : code zs = 0) : each zs = (row zs, 0) :: each (zs.drop (size zs)) := by
  unfold each
  rw [(rows_yes h).1, (rows_yes h).2]; rfl
theorem each_no {zs : List Int} (h0 : ¬ zs = []) (h : ¬ code zs = 0) : each zs = [([], code zs)] := by
  unfold each
  rw [(rows_no h0 h).1, (rows_no h0 h).2]; simp [h]
theorem each_len (zs : List Int) : (each zs).length ≤ zs.length + 1 := by
  have := rows_len zs
  unfold each
  split <;> simp <;> omega
theorem row_no {zs : List Int} (h : ¬ code zs = 0) : row zs = [] := by simp [row, h]
theorem size_no {zs : List Int} (h : ¬ code zs = 0) : size zs = 0 := by simp [size, h]

/-! ### rows as frames -/
def put (r : List Int) : List Int := Uv.enc r.length ++ r
def join : List (List Int) → List Int
  | [] => []
  | r :: rs => put r ++ join rs
theorem join_append : ∀ (a b : List (List Int)), join (a ++ b) = join a ++ join b
  | [], _ => rfl
  | r :: rs, b => by simp [join, join_append rs b, List.append_assoc]
theorem put_len (r : List Int) (h : r.length ≤ 1200) : (put r).length = Uv.len r.length + r.length := by
  unfold put
  rw [List.length_append, Uv.enc_length _ (by omega)]
theorem len_one (n : Nat) (h : n ≤ 127) : Uv.len n = 1 := Uv.len_unique n 0 (by omega) (by simp; omega) (fun j hj => by omega)
theorem len_two (n : Nat) (h : 127 < n) (h2 : n ≤ 1200) : Uv.len n = 2 := Uv.len_unique n 1 (by omega) (by simp; omega) (fun j hj => by
  obtain rfl : j = 0 := by omega
  simp; omega)
theorem put_got (r rest : List Int) (h : r.length ≤ 1200) : Uv.code (put r ++ rest) = 0 ∧ Uv.val (put r ++ rest) = (r.length : Int) ∧ Uv.size (put r ++ rest) = Uv.len r.length := by
  have := Uv.got_enc r.length (r ++ rest) (by omega)
  unfold put Uv.code Uv.val Uv.size
  rw [List.append_assoc, this]
  simp
theorem put_code (r rest : List Int) (h : r.length ≤ 1200) : code (put r ++ rest) = 0 := by
  have ⟨h1, h2, h3⟩ := put_got r rest h
  have := put_len r h
  unfold code
  rw [h1, h2, h3, if_neg (by simp), if_neg (by omega), if_neg (by simp; omega)]
theorem put_size (r rest : List Int) (h : r.length ≤ 1200) : size (put r ++ rest) = (put r).length := by
  have ⟨h1, h2, h3⟩ := put_got r rest h
  rw [(size_ok (put_code r rest h)).1, h2, h3, put_len r h]
  simp
theorem put_row (r rest : List Int) (h : r.length ≤ 1200) : row (put r ++ rest) = r := by
  have ⟨h1, h2, h3⟩ := put_got r rest h
  unfold row
  rw [if_pos (put_code r rest h), h2, h3]
  unfold put
  rw [List.append_assoc, ← Uv.enc_length r.length (by omega), List.drop_left]
  simp
theorem join_rows : ∀ (rs : List (List Int)) (rest : List Int), (∀ r ∈ rs, r.length ≤ 1200) → rows (join rs ++ rest) = rs ++ rows rest ∧ stop (join rs ++ rest) = stop rest
  | [], _, _ => ⟨rfl, rfl⟩
  | r :: rs, rest, h => by
    have hr := h r (by simp)
    have hi := join_rows rs rest (fun x hx => h x (by simp [hx]))
    have e : join (r :: rs) ++ rest = put r ++ (join rs ++ rest) := by simp [join]
    rw [e, (rows_yes (put_code r _ hr)).1, (rows_yes (put_code r _ hr)).2, put_row r _ hr, put_size r _ hr, List.drop_left, hi.1, hi.2]
    simp
theorem cut_put (r : List Int) (k : Nat) (h : r.length ≤ 1200) (hk : k < (put r).length) (h0 : 0 < k) : code ((put r).take k) = 2 := by
  have hl := put_len r h
  have hp := Uv.len_pos r.length
  by_cases hk2 : k < Uv.len r.length
  · have e : (put r).take k = (Uv.enc r.length).take k := by
      unfold put
      rw [List.take_append_of_le_length (by rw [Uv.enc_length _ (by omega)]; omega)]
    have h9 := Uv.len_small r.length (by omega)
    have hel := Uv.enc_length r.length (by omega)
    have hg := Uv.got_short ((Uv.enc r.length).take k) (by simp; omega) (fun i hi => by
      simp at hi
      have := Uv.enc_hi r.length i (by omega) (by omega)
      simp only [List.getD, List.getElem?_take] at this ⊢
      rw [if_pos (by omega)]; omega)
    rw [e]
    unfold code Uv.code
    rw [hg]; simp
  · have e : (put r).take k = Uv.enc r.length ++ r.take (k - Uv.len r.length) := by
      unfold put
      rw [List.take_append, Uv.enc_length _ (by omega), List.take_of_length_le (by rw [Uv.enc_length _ (by omega)]; omega)]
    have hg := Uv.got_enc r.length (r.take (k - Uv.len r.length)) (by omega)
    have hl2 : ((put r).take k).length = k := by simp; omega
    unfold code
    rw [hl2, e]
    unfold Uv.code Uv.val Uv.size
    rw [hg]
    simp; omega
theorem join_cut : ∀ (rs : List (List Int)) (k : Nat), (∀ r ∈ rs, r.length ≤ 1200) → k < (join rs).length →
    stop ((join rs).take k) = 2 ∨ (stop ((join rs).take k) = 0 ∧ (rows ((join rs).take k)).length < rs.length)
  | [], k, _, hk => by simp [join] at hk
  | r :: rs, k, h, hk => by
    have hr := h r (by simp)
    by_cases hk2 : k < (put r).length
    · have e : (join (r :: rs)).take k = (put r).take k := by
        rw [join, List.take_append_of_le_length (by omega)]
      rw [e]
      rcases Nat.eq_zero_or_pos k with h0 | h0
      · subst h0
        exact .inr ⟨rfl, by simp [rows_nil]⟩
      · have hc := cut_put r k hr hk2 h0
        left
        rw [(rows_no (by intro e; have := congrArg List.length e; rw [List.length_take, List.length_nil] at this; omega) (by omega)).2, hc]
    · have e : (join (r :: rs)).take k = put r ++ (join rs).take (k - (put r).length) := by
        rw [join, List.take_append, List.take_of_length_le (by omega)]
      rw [join, List.length_append] at hk
      have hi := join_cut rs (k - (put r).length) (fun x hx => h x (by simp [hx])) (by omega)
      rw [e, (rows_yes (put_code r _ hr)).1, (rows_yes (put_code r _ hr)).2, put_size r _ hr, List.drop_left]
      rcases hi with hi | ⟨h1, h2⟩
      · exact .inl hi
      · exact .inr ⟨h1, by simp; omega⟩
theorem join_bd : ∀ (rs : List (List Int)), (∀ r ∈ rs, ∀ z ∈ r, 0 ≤ z ∧ z ≤ 255) → ∀ z ∈ join rs, 0 ≤ z ∧ z ≤ 255
  | [], _, z, hz => by simp [join] at hz
  | r :: rs, h, z, hz => by
    simp only [join, put, List.mem_append] at hz
    rcases hz with (hz | hz) | hz
    · exact Uv.enc_mem _ z hz
    · exact h r (by simp) z hz
    · exact join_bd rs (fun x hx => h x (by simp [hx])) z hz
theorem put_le (r : List Int) (h : r.length ≤ 1200) : (put r).length ≤ 1202 ∧ 1 ≤ (put r).length := by
  have := put_len r h
  by_cases h2 : r.length ≤ 127
  · have := len_one r.length h2; omega
  · have := len_two r.length (by omega) h; omega
theorem join_len : ∀ (rs : List (List Int)), (∀ r ∈ rs, r.length ≤ 1200) → (join rs).length ≤ 1202 * rs.length ∧ rs.length ≤ (join rs).length
  | [], _ => by simp [join]
  | r :: rs, h => by
    have := put_le r (h r (by simp))
    have := join_len rs (fun x hx => h x (by simp [hx]))
    simp [join]; omega

end Go.Proofs.YtdiilgedicfekaaDoor.Fr
namespace Go.Proofs.YtdiilgedicfekaaDoor.Uv
set_option linter.unusedVariables false
set_option maxRecDepth 100000

theorem enc_one (v : Nat) (h : v < 128) : enc v = [(v : Int)] := by
  have h1 : len v = 1 := len_unique v 0 (by omega) (by simpa using h) (fun j hj => by omega)
  unfold enc
  rw [if_pos (by omega), h1]
  simp [byte, List.range_succ]
  omega
theorem len_more (v : Nat) (h : 128 ≤ v) (hv : v < 18446744073709551616) : len v = len (v / 128) + 1 := by
  have hp := len_pos (v / 128)
  refine len_unique v (len (v / 128)) hv ?_ ?_
  · have := len_last (v / 128) (by omega)
    rw [show len (v / 128) = (len (v / 128) - 1) + 1 by omega, div_pow]
    exact this
  · intro j hj
    cases j with
    | zero => simpa using h
    | succ j => rw [div_pow]; exact len_before (v / 128) j hj
theorem enc_more (v : Nat) (h : 128 ≤ v) (hv : v < 9223372036854775808) : enc v = ((v % 128 + 128 : Nat) : Int) :: enc (v / 128) := by
  have hp := len_pos (v / 128)
  unfold enc
  rw [if_pos hv, if_pos (by omega), len_more v h (by omega), List.range_succ_eq_map, List.map_cons, List.map_map]
  congr 1
  · unfold byte; rw [if_pos (by omega)]; simp
  · refine List.map_congr_left fun i _ => ?_
    simp only [Function.comp, byte, Nat.succ_eq_add_one, div_pow]
    by_cases h2 : i + 1 < len (v / 128)
    · rw [if_pos (by omega), if_pos h2]
    · rw [if_neg (by omega), if_neg h2]
/-- bytes that are a number, in its shortest way -/
def Canon : List Int → Prop
  | [] => False
  | [z] => 0 ≤ z ∧ z ≤ 127
  | z :: l => 128 ≤ z ∧ z ≤ 255 ∧ Canon l ∧ 0 < num l
theorem num_one (z : Int) (h0 : 0 ≤ z) (h1 : z ≤ 127) : num [z] = z := by simp [num]; omega
theorem canon_enc : ∀ (l : List Int), l.length ≤ 9 → Canon l → enc (num l).toNat = l
  | [], _, h => h.elim
  | [z], _, h => by
    rw [num_one z h.1 h.2, enc_one _ (by have := h.2; omega), Int.toNat_of_nonneg h.1]
  | z :: y :: l, hl, h => by
    obtain ⟨h1, h2, h3, h4⟩ := h
    have ih := canon_enc (y :: l) (by simp at hl ⊢; omega) h3
    have hn : num (z :: y :: l) = z % 128 + 128 * num (y :: l) := rfl
    have hlt := num_lt (z :: y :: l)
    have hp : (128 : Int) ^ (z :: y :: l).length ≤ 128 ^ 9 := by
      have := Nat.pow_le_pow_right (show 0 < 128 by omega) hl
      have h5 : ((128 ^ (z :: y :: l).length : Nat) : Int) ≤ ((128 ^ 9 : Nat) : Int) := Int.ofNat_le.2 this
      simpa using h5
    have e9 : (128 : Int) ^ 9 = 9223372036854775808 := by decide
    rw [e9] at hp
    generalize hm : num (y :: l) = m at *
    rw [enc_more _ (by omega) (by omega)]
    have e1 : (num (z :: y :: l)).toNat / 128 = m.toNat := by omega
    rw [e1, ih]
    congr 1
    omega
theorem num_pos : ∀ (l : List Int), (∀ z ∈ l, 0 ≤ z ∧ z ≤ 255) → ∀ k, k < l.length → 0 < l.getD k 0 → l.getD k 0 ≤ 127 → 0 < num l
  | [], _, k, h, _, _ => by simp at h
  | z :: l, hb, 0, _, h1, h2 => by
    have := num_nonneg l
    simp only [num]
    simp at h1 h2
    omega
  | z :: l, hb, k + 1, h, h1, h2 => by
    have := num_pos l (fun x hx => hb x (by simp [hx])) k (by simpa using h) (by simpa using h1) (by simpa using h2)
    simp only [num]
    omega
theorem canon_of : ∀ (l : List Int) (k : Nat), (∀ z ∈ l, 0 ≤ z ∧ z ≤ 255) → l.length = k + 1 → (∀ i, i < k → 127 < l.getD i 0) → l.getD k 0 ≤ 127 → (k = 0 ∨ ¬ l.getD k 0 = 0) → Canon l
  | [], k, _, h, _, _, _ => by simp at h
  | [z], k, hb, h, h1, h2, h3 => by
    have : k = 0 := by simp at h; omega
    subst this
    exact ⟨(hb z (by simp)).1, by simpa using h2⟩
  | z :: y :: l, 0, hb, h, h1, h2, h3 => by simp at h
  | z :: y :: l, k + 1, hb, h, h1, h2, h3 => by
    have h0 := h1 0 (by omega)
    have hz := hb z (by simp)
    have hb' : ∀ x ∈ y :: l, 0 ≤ x ∧ x ≤ 255 := fun x hx => hb x (List.mem_cons_of_mem _ hx)
    have hlen : (y :: l).length = k + 1 := by simpa using h
    have h2' : (y :: l).getD k 0 ≤ 127 := by simpa using h2
    have h3' : ¬ (y :: l).getD k 0 = 0 := by
      rcases h3 with h3 | h3
      · omega
      · simpa using h3
    have hge := (hb' ((y :: l).getD k 0) (by
      have hk : k < (y :: l).length := by omega
      simp only [List.getD, List.getElem?_eq_getElem hk, Option.getD_some]
      exact List.getElem_mem hk)).1
    refine ⟨by simp at h0; omega, hz.2, canon_of (y :: l) k hb' hlen (fun i hi => by simpa using h1 (i + 1) (by omega)) h2' (.inr h3'), ?_⟩
    exact num_pos (y :: l) hb' k (by omega) (by omega) h2'
/-- what bytes begin with is told back as those bytes -/
theorem enc_val (zs : List Int) (hb : ∀ z ∈ zs, 0 ≤ z ∧ z ≤ 255) (h : code zs = 0) : enc (val zs).toNat ++ zs.drop (size zs) = zs := by
  have hf := lead_fuel 9 zs
  have hl := lead_len 9 zs
  have ha := lead_all 9 zs
  have hs := lead_stop 9 zs
  unfold code val size got at *
  by_cases c1 : lead 9 zs = 9
  · rw [if_pos c1] at h; simp at h
  · rw [if_neg c1] at h ⊢
    by_cases c2 : lead 9 zs = zs.length
    · rw [if_pos c2] at h; simp at h
    · rw [if_neg c2] at h ⊢
      by_cases c3 : 0 < lead 9 zs ∧ zs.getD (lead 9 zs) 0 = 0
      · rw [if_pos c3] at h; simp at h
      · rw [if_neg c3]
        generalize lead 9 zs = k at *
        have hlen : (zs.take (k + 1)).length = k + 1 := by simp; omega
        have hg : ∀ i, i ≤ k → (zs.take (k + 1)).getD i 0 = zs.getD i 0 := fun i hi => by
          simp only [List.getD]
          rw [List.getElem?_take_of_lt (by omega)]
        have hc := canon_of (zs.take (k + 1)) k (fun z hz => hb z (List.mem_of_mem_take hz)) hlen (fun i hi => by rw [hg i (by omega)]; exact ha i hi)
          (by rw [hg k (by omega)]; rcases hs with h1 | h1 | h1 <;> omega)
          (by rw [hg k (by omega)]; by_cases h0 : k = 0
              · exact .inl h0
              · exact .inr (fun e => c3 ⟨by omega, e⟩))
        have he := canon_enc (zs.take (k + 1)) (by omega) hc
        simp only [Int.toNat_natCast]
        rw [he, List.take_append_drop]
end Go.Proofs.YtdiilgedicfekaaDoor.Uv
namespace Go.Proofs.YtdiilgedicfekaaDoor
open Go.RowKit
set_option linter.unusedVariables false
set_option maxRecDepth 100000

/-- an address as a value -/
def adr (h p : Int) : Value := .agg #[.int .u32 h, .int .i64 p]
def mayA (h p : Int) : Bool := decide (h ≠ 0) && decide (1 ≤ p) && decide (p ≤ 65535)
/-- an address's bytes -/
def bytesA (h p : Int) : List Int := [h / 16777216, h / 65536 % 256, h / 256 % 256, h % 256, p / 256, p % 256]
theorem mayA_t {h p : Int} (a : ¬ h = 0) (b : 1 ≤ p) (c : p ≤ 65535) : mayA h p = true := by simp [mayA, a, b, c]
theorem mayA_f {h p : Int} (a : h = 0 ∨ p < 1 ∨ 65535 < p) : mayA h p = false := by
  unfold mayA
  rcases a with a | a | a
  · simp [a]
  · have : ¬ 1 ≤ p := Int.not_le.2 a
    simp [this]
  · have : ¬ p ≤ 65535 := Int.not_le.2 a
    simp [this]
theorem ret_b' {a b : Bool} (h : a = b) : Ending.returned (.bool a) = .returned (.bool b) := by rw [h]

set_option maxHeartbeats 1000000 in
theorem may_any (h p : Int) (w : World) (h0 : 0 ≤ h) (h1 : h < 4294967296) : Calls Tryd.prog 58 #[adr h p] w fun e w' => e = .returned (.bool (mayA h p)) ∧ Below w.heap.size w w' := by
  unfold adr
  by_cases c1 : h = 0
  · subst c1
    go_enter Tryd.func58, Tryd.ntmps58
    go_wp2
    go_ret
    exact ⟨ret_b' (by simp [mayA]), (Below.refl _ _).alloc (Nat.le_refl _) _⟩
  · have t1 : (h != 0) = true := by rw [bne_iff_ne]; exact c1
    have H1 := Lib.hid c1; clear c1
    by_cases c2 : 1 ≤ p
    · by_cases c3 : p ≤ 65535
      · go_enter Tryd.func58, Tryd.ntmps58
        go_wp2
        go_ret
        exact ⟨ret_b' (mayA_t H1.out (by omega) (by omega)).symm, (Below.refl _ _).alloc (Nat.le_refl _) _⟩
      · go_enter Tryd.func58, Tryd.ntmps58
        go_wp2
        go_ret
        exact ⟨ret_b' (mayA_f (.inr (.inr (by omega)))).symm, (Below.refl _ _).alloc (Nat.le_refl _) _⟩
    · go_enter Tryd.func58, Tryd.ntmps58
      go_wp2
      go_ret
      exact ⟨ret_b' (mayA_f (.inr (.inl (by omega)))).symm, (Below.refl _ _).alloc (Nat.le_refl _) _⟩
set_option maxHeartbeats 1000000 in
theorem rmay_any (h p : Int) (w : World) (h0 : 0 ≤ h) (h1 : h < 4294967296) : Calls Tryd.prog 59 #[adr h p] w fun e w' => e = .returned (.bool (mayA h p)) ∧ Below w.heap.size w w' := by
  unfold adr
  by_cases c1 : h = 0
  · subst c1
    go_enter Tryd.func59, Tryd.ntmps59
    go_wp2
    go_ret
    exact ⟨ret_b' (by simp [mayA]), (Below.refl _ _).alloc (Nat.le_refl _) _⟩
  · have H1 := Lib.hid c1
    have c1' : 0 < h := by omega
    by_cases c2 : 0 < p
    · by_cases c3 : p < 65536
      · go_enter Tryd.func59, Tryd.ntmps59
        go_wp2
        go_ret
        exact ⟨ret_b' (mayA_t H1.out (by omega) (by omega)).symm, (Below.refl _ _).alloc (Nat.le_refl _) _⟩
      · go_enter Tryd.func59, Tryd.ntmps59
        go_wp2
        go_ret
        exact ⟨ret_b' (mayA_f (.inr (.inr (by omega)))).symm, (Below.refl _ _).alloc (Nat.le_refl _) _⟩
    · go_enter Tryd.func59, Tryd.ntmps59
      go_wp2
      go_ret
      exact ⟨ret_b' (mayA_f (.inr (.inl (by omega)))).symm, (Below.refl _ _).alloc (Nat.le_refl _) _⟩

set_option maxHeartbeats 1000000 in
theorem bytes_no (h p : Int) (w : World) (h0 : 0 ≤ h) (h1 : h < 4294967296) (hm : mayA h p = false) : Calls Tryd.prog 38 #[adr h p] w fun e w' => e = .returned (.slice none 0 0) ∧ Below w.heap.size w w' := by
  have HM := Lib.hid (fun W => may_any h p W h0 h1)
  rw [hm] at HM
  unfold adr at *
  clear hm
  go_enter Tryd.func38, Tryd.ntmps38
  go_wp2_with fail
  refine (HM.out _).mono ?_
  rintro e w1 ⟨rfl, hb⟩
  have HB := Lib.hid hb; clear hb
  go_wp2
  go_ret
  exact ⟨rfl, ((Below.refl _ _).alloc (Nat.le_refl _) _).trans (HB.out.mono (by simp))⟩
set_option maxHeartbeats 1000000 in
theorem bytes_ok (h p : Int) (w : World) (h0 : 0 ≤ h) (h1 : h < 4294967296) (hm : mayA h p = true) : Calls Tryd.prog 38 #[adr h p] w fun e w' => ∃ g, e = .returned (.slice (some ⟨g, 0, none⟩) 6 6) ∧ w'.heap[g]? = some (.cells ((bytesA h p).map (Value.int .u8)).toArray 5 (0, 0)) ∧ w.heap.size ≤ g ∧ Below w.heap.size w w' := by
  have hp : h ≠ 0 ∧ 1 ≤ p ∧ p ≤ 65535 := by simpa [mayA, and_assoc] using hm
  obtain ⟨_, hp1, hp2⟩ := hp
  have HM := Lib.hid (fun W => may_any h p W h0 h1)
  rw [hm] at HM
  unfold adr at *
  clear hm
  go_enter Tryd.func38, Tryd.ntmps38
  go_wp2_with fail
  refine (HM.out _).mono ?_
  rintro e w1 ⟨rfl, hb⟩
  have c0 := (hb.cell (p := ⟨w.heap.size, 0, none⟩) (by simp))
  have c1 := (hb.cell (p := ⟨w.heap.size, 1, none⟩) (by simp))
  have HB := Lib.hid hb; clear hb
  go_wp2
  go_ret
  exact ⟨_, rfl, by have := (MapKept.heap_alloc w1 (.cells ((bytesA h p).map (Value.int .u8)).toArray 5)).1; simpa [bytesA] using this, by have := HB.out.size; simp at this; omega, (((Below.refl _ _).alloc (Nat.le_refl _) _).trans (HB.out.mono (by simp))).alloc (by have := HB.out.size; simp at this; omega) _⟩
end Go.Proofs.YtdiilgedicfekaaDoor
namespace Go.Proofs.YtdiilgedicfekaaDoor.Wi
set_option linter.unusedVariables false
set_option maxRecDepth 100000

/-- how many numbers a message of a kind has; -1: there is no such kind -/
def tab : List Int := [0, 4, 5, 5, 6, 1, 1, 3, 1, 2, 2, 2, 4, 2, 4, 2, 1, 2, 1]
def numsOf (k : Int) : Int := if 1 ≤ k ∧ k ≤ 18 then tab.getD k.toNat 0 else -1
theorem tab_bd : ∀ n : Fin 19, 1 ≤ n.val → 1 ≤ tab.getD n.val 0 ∧ tab.getD n.val 0 ≤ 6 := by decide
theorem numsOf_in {k : Int} (h0 : 1 ≤ k) (h1 : k ≤ 18) : numsOf k = tab.getD k.toNat 0 ∧ 1 ≤ numsOf k ∧ numsOf k ≤ 6 := by
  have := tab_bd ⟨k.toNat, by omega⟩ (by show 1 ≤ k.toNat; omega)
  unfold numsOf
  rw [if_pos ⟨h0, h1⟩]
  exact ⟨rfl, this⟩
theorem numsOf_out {k : Int} (h : k < 1 ∨ 18 < k) : numsOf k = -1 := by
  unfold numsOf
  rw [if_neg (by omega)]
theorem numsOf_bd (k : Int) : -1 ≤ numsOf k ∧ numsOf k ≤ 6 ∧ (0 ≤ numsOf k → 1 ≤ k ∧ k ≤ 18) := by
  by_cases h : 1 ≤ k ∧ k ≤ 18
  · have := (numsOf_in h.1 h.2).2; exact ⟨by omega, by omega, fun _ => h⟩
  · rw [numsOf_out (by omega)]; omega

/-- a message -/
structure Msg where
  kind : Int
  nums : List Nat
  addrs : List (Int × Int)
  body : List Int
def numOk (v : Nat) : Bool := decide (v < 9223372036854775808)
def may (m : Msg) : Bool := decide ((m.nums.length : Int) = numsOf m.kind) && decide (m.addrs.length ≤ 8) && decide (m.body.length ≤ 1000) && m.nums.all numOk && m.addrs.all fun a => mayA a.1 a.2
theorem may_iff {m : Msg} : may m = true ↔ (m.nums.length : Int) = numsOf m.kind ∧ m.addrs.length ≤ 8 ∧ m.body.length ≤ 1000 ∧ (∀ v ∈ m.nums, v < 9223372036854775808) ∧ ∀ a ∈ m.addrs, mayA a.1 a.2 = true := by
  unfold may numOk
  simp only [Bool.and_eq_true, decide_eq_true_eq, List.all_eq_true]
  exact ⟨fun ⟨⟨⟨⟨a, b⟩, c⟩, d⟩, e⟩ => ⟨a, b, c, d, e⟩, fun ⟨a, b, c, d, e⟩ => ⟨⟨⟨⟨a, b⟩, c⟩, d⟩, e⟩⟩
/-- what every value of the type is -/
def Wf (m : Msg) : Prop := (∀ a ∈ m.addrs, 0 ≤ a.1 ∧ a.1 < 4294967296) ∧ (∀ v ∈ m.nums, v < 18446744073709551616) ∧ ∀ z ∈ m.body, 0 ≤ z ∧ z ≤ 255
def aflat : List (Int × Int) → List Int
  | [] => []
  | a :: al => bytesA a.1 a.2 ++ aflat al
def bytes (m : Msg) : List Int := Uv.enc m.kind.toNat ++ (Uv.flat m.nums ++ (Uv.enc m.addrs.length ++ (aflat m.addrs ++ Fr.put m.body)))

theorem aflat_append : ∀ (a b : List (Int × Int)), aflat (a ++ b) = aflat a ++ aflat b
  | [], _ => rfl
  | x :: a, b => by simp [aflat, aflat_append a b, List.append_assoc]
theorem aflat_len : ∀ (a : List (Int × Int)), (aflat a).length = 6 * a.length
  | [] => rfl
  | x :: a => by simp [aflat, aflat_len a, bytesA]; omega
theorem flat_append : ∀ (a b : List Nat), Uv.flat (a ++ b) = Uv.flat a ++ Uv.flat b := Uv.flat_append

/-- the address of the next six bytes -/
def host6 (r : List Int) : Int := r.getD 0 0 * 16777216 + r.getD 1 0 * 65536 + r.getD 2 0 * 256 + r.getD 3 0
def port6 (r : List Int) : Int := r.getD 4 0 * 256 + r.getD 5 0
theorem six_bytes {h p : Int} (rest : List Int) (h0 : 0 ≤ h) (h1 : h < 4294967296) (hm : mayA h p = true) : host6 (bytesA h p ++ rest) = h ∧ port6 (bytesA h p ++ rest) = p := by
  have hp : h ≠ 0 ∧ 1 ≤ p ∧ p ≤ 65535 := by simpa [mayA, and_assoc] using hm
  simp [host6, port6, bytesA]
  omega
theorem bytes_six {a b c d e f : Int} (ha : 0 ≤ a ∧ a ≤ 255) (hb : 0 ≤ b ∧ b ≤ 255) (hc : 0 ≤ c ∧ c ≤ 255) (hd : 0 ≤ d ∧ d ≤ 255) (he : 0 ≤ e ∧ e ≤ 255) (hf : 0 ≤ f ∧ f ≤ 255) :
    bytesA (a * 16777216 + b * 65536 + c * 256 + d) (e * 256 + f) = [a, b, c, d, e, f] := by
  simp [bytesA]
  omega
theorem six_of {r : List Int} (hl : 6 ≤ r.length) (hb : ∀ z ∈ r, 0 ≤ z ∧ z ≤ 255) : bytesA (host6 r) (port6 r) ++ r.drop 6 = r ∧ 0 ≤ host6 r ∧ host6 r < 4294967296 := by
  match r, hl with
  | a :: b :: c :: d :: e :: f :: t, _ =>
    have ha := hb a (by simp)
    have hb1 := hb b (by simp)
    have hc := hb c (by simp)
    have hd := hb d (by simp)
    have he := hb e (by simp)
    have hf := hb f (by simp)
    refine ⟨?_, ?_, ?_⟩
    · have := bytes_six ha hb1 hc hd he hf
      simp only [host6, port6, List.getD_cons_zero, List.getD_cons_succ, this]
      rfl
    · simp [host6]; omega
    · simp [host6]; omega

/-- the next numbers, and what is left -/
def readNums (zs : List Int) : Nat → Option (List Nat × List Int)
  | 0 => some ([], zs)
  | i + 1 => match readNums zs i with
    | none => none
    | some (vs, r) => if Uv.code r = 0 then some (vs ++ [(Uv.val r).toNat], r.drop (Uv.size r)) else none
/-- the next addresses, and what is left -/
def readAddrs (zs : List Int) : Nat → Option (List (Int × Int) × List Int)
  | 0 => some ([], zs)
  | i + 1 => match readAddrs zs i with
    | none => none
    | some (al, r) => if 6 ≤ r.length ∧ mayA (host6 r) (port6 r) = true then some (al ++ [(host6 r, port6 r)], r.drop 6) else none
theorem readNums_bd {zs : List Int} : ∀ {i : Nat} {vs : List Nat} {r : List Int}, (∀ z ∈ zs, 0 ≤ z ∧ z ≤ 255) → readNums zs i = some (vs, r) →
    Uv.flat vs ++ r = zs ∧ vs.length = i ∧ (∀ v ∈ vs, v < 9223372036854775808) ∧ (∀ z ∈ r, 0 ≤ z ∧ z ≤ 255)
  | 0, vs, r, hb, h => by
    simp [readNums] at h
    obtain ⟨rfl, rfl⟩ := h
    exact ⟨rfl, rfl, by simp, hb⟩
  | i + 1, vs, r, hb, h => by
    unfold readNums at h
    cases h1 : readNums zs i with
    | none => rw [h1] at h; cases h
    | some x =>
      obtain ⟨vs', r'⟩ := x
      rw [h1] at h
      obtain ⟨e1, e2, e3, e4⟩ := readNums_bd hb h1
      simp only at h
      by_cases hc : Uv.code r' = 0
      · rw [if_pos hc] at h
        simp only [Option.some.injEq, Prod.mk.injEq] at h
        obtain ⟨rfl, rfl⟩ := h
        have hv := Uv.val_bd r'
        have he := Uv.enc_val r' e4 hc
        refine ⟨?_, by simp [e2], ?_, fun z hz => e4 z (List.mem_of_mem_drop hz)⟩
        · rw [flat_append, List.append_assoc]
          simp only [Uv.flat, List.append_nil]
          rw [he, e1]
        · intro v hv'
          rcases List.mem_append.1 hv' with h2 | h2
          · exact e3 v h2
          · simp at h2; omega
      · rw [if_neg hc] at h; cases h
theorem readNums_flat (vs : List Nat) (rest : List Int) (hv : ∀ v ∈ vs, v < 9223372036854775808) : ∀ i, i ≤ vs.length → readNums (Uv.flat vs ++ rest) i = some (vs.take i, Uv.flat (vs.drop i) ++ rest)
  | 0, _ => by simp [readNums]
  | i + 1, hi => by
    have ih := readNums_flat vs rest hv i (by omega)
    have hd : vs.drop i = vs[i] :: vs.drop (i + 1) := List.drop_eq_getElem_cons (by omega)
    have hvi := hv vs[i] (List.getElem_mem (by omega))
    have hg := Uv.got_enc vs[i] (Uv.flat (vs.drop (i + 1)) ++ rest) hvi
    have hf : Uv.flat (vs.drop i) ++ rest = Uv.enc vs[i] ++ (Uv.flat (vs.drop (i + 1)) ++ rest) := by rw [hd]; simp [Uv.flat, List.append_assoc]
    have hl := Uv.enc_length vs[i] hvi
    unfold readNums
    rw [ih]
    simp only
    rw [hf]
    have hc : Uv.code (Uv.enc vs[i] ++ (Uv.flat (vs.drop (i + 1)) ++ rest)) = 0 := by unfold Uv.code; rw [hg]
    have hs : Uv.size (Uv.enc vs[i] ++ (Uv.flat (vs.drop (i + 1)) ++ rest)) = (Uv.enc vs[i]).length := by unfold Uv.size; rw [hg]; simp [hl]
    have hval : (Uv.val (Uv.enc vs[i] ++ (Uv.flat (vs.drop (i + 1)) ++ rest))).toNat = vs[i] := by unfold Uv.val; rw [hg]; simp
    rw [if_pos hc, hs, hval, List.drop_left, List.take_add_one, List.getElem?_eq_getElem (by omega : i < vs.length)]
    rfl
theorem readAddrs_bd {zs : List Int} : ∀ {i : Nat} {al : List (Int × Int)} {r : List Int}, (∀ z ∈ zs, 0 ≤ z ∧ z ≤ 255) → readAddrs zs i = some (al, r) →
    aflat al ++ r = zs ∧ al.length = i ∧ (∀ a ∈ al, mayA a.1 a.2 = true ∧ 0 ≤ a.1 ∧ a.1 < 4294967296) ∧ (∀ z ∈ r, 0 ≤ z ∧ z ≤ 255)
  | 0, vs, r, hb, h => by
    simp [readAddrs] at h
    obtain ⟨rfl, rfl⟩ := h
    exact ⟨rfl, rfl, by simp, hb⟩
  | i + 1, vs, r, hb, h => by
    unfold readAddrs at h
    cases h1 : readAddrs zs i with
    | none => rw [h1] at h; cases h
    | some x =>
      obtain ⟨vs', r'⟩ := x
      rw [h1] at h
      obtain ⟨e1, e2, e3, e4⟩ := readAddrs_bd hb h1
      simp only at h
      by_cases hc : 6 ≤ r'.length ∧ mayA (host6 r') (port6 r') = true
      · rw [if_pos hc] at h
        simp only [Option.some.injEq, Prod.mk.injEq] at h
        obtain ⟨rfl, rfl⟩ := h
        have he := six_of hc.1 e4
        refine ⟨?_, by simp [e2], ?_, fun z hz => e4 z (List.mem_of_mem_drop hz)⟩
        · rw [aflat_append, List.append_assoc]
          simp only [aflat, List.append_nil]
          rw [he.1, e1]
        · intro v hv'
          rcases List.mem_append.1 hv' with h2 | h2
          · exact e3 v h2
          · simp only [List.mem_singleton] at h2
            subst h2
            exact ⟨hc.2, he.2⟩
      · rw [if_neg hc] at h; cases h
theorem readAddrs_flat (al : List (Int × Int)) (rest : List Int) (hv : ∀ a ∈ al, mayA a.1 a.2 = true ∧ 0 ≤ a.1 ∧ a.1 < 4294967296) : ∀ i, i ≤ al.length → readAddrs (aflat al ++ rest) i = some (al.take i, aflat (al.drop i) ++ rest)
  | 0, _ => by simp [readAddrs]
  | i + 1, hi => by
    have ih := readAddrs_flat al rest hv i (by omega)
    have hd : al.drop i = al[i] :: al.drop (i + 1) := List.drop_eq_getElem_cons (by omega)
    obtain ⟨hm, h0, h1⟩ := hv al[i] (List.getElem_mem (by omega))
    have hf : aflat (al.drop i) ++ rest = bytesA al[i].1 al[i].2 ++ (aflat (al.drop (i + 1)) ++ rest) := by rw [hd]; simp [aflat, List.append_assoc]
    have h6 := six_bytes (aflat (al.drop (i + 1)) ++ rest) h0 h1 hm
    unfold readAddrs
    rw [ih]
    simp only
    rw [hf, h6.1, h6.2, if_pos ⟨by simp [bytesA], hm⟩, List.take_add_one, List.getElem?_eq_getElem (by omega : i < al.length)]
    have : (bytesA al[i].1 al[i].2 ++ (aflat (al.drop (i + 1)) ++ rest)).drop 6 = aflat (al.drop (i + 1)) ++ rest := rfl
    rw [this]
    rfl

/-- the message with which bytes begin, and what is left -/
def readMsg (zs : List Int) : Option (Msg × List Int) :=
  if Uv.code zs = 0 then
    match readNums (zs.drop (Uv.size zs)) (numsOf (Uv.val zs)).toNat with
    | none => none
    | some (vs, r) =>
      if Uv.code r = 0 then
        match readAddrs (r.drop (Uv.size r)) (Uv.val r).toNat with
        | none => none
        | some (al, q) => if Fr.code q = 0 then some (⟨Uv.val zs, vs, al, Fr.row q⟩, q.drop (Fr.size q)) else none
      else none
  else none
/-- the message whose bytes they are -/
def read (zs : List Int) : Option Msg := match readMsg zs with
  | some (m, r) => if r = [] ∧ may m = true then some m else none
  | none => none
theorem put_row_of (q : List Int) (hb : ∀ z ∈ q, 0 ≤ z ∧ z ≤ 255) (h : Fr.code q = 0) : Fr.put (Fr.row q) ++ q.drop (Fr.size q) = q := by
  obtain ⟨h1, h2, h3⟩ := Fr.code_ok h
  have hv := Uv.val_bd q
  have he := Uv.enc_val q hb h1
  have hl := (Fr.row_len h).1
  unfold Fr.put
  rw [hl, (Fr.size_ok h).1, Fr.row, if_pos h, ← List.drop_drop, List.append_assoc, List.take_append_drop, he]
theorem readMsg_ok {zs : List Int} {m : Msg} {r : List Int} (hb : ∀ z ∈ zs, 0 ≤ z ∧ z ≤ 255) (h : readMsg zs = some (m, r)) : bytes m ++ r = zs ∧ Wf m ∧ (∀ v ∈ m.nums, v < 9223372036854775808) ∧ (∀ a ∈ m.addrs, mayA a.1 a.2 = true) ∧ (∀ z ∈ r, 0 ≤ z ∧ z ≤ 255) ∧ m.kind = Uv.val zs := by
  unfold readMsg at h
  by_cases c1 : Uv.code zs = 0
  · rw [if_pos c1] at h
    have e1 := Uv.enc_val zs hb c1
    have hb1 : ∀ z ∈ zs.drop (Uv.size zs), 0 ≤ z ∧ z ≤ 255 := fun z hz => hb z (List.mem_of_mem_drop hz)
    cases h1 : readNums (zs.drop (Uv.size zs)) (numsOf (Uv.val zs)).toNat with
    | none => rw [h1] at h; cases h
    | some x =>
      obtain ⟨vs, r1⟩ := x
      rw [h1] at h
      obtain ⟨e2, e3, e4, hb2⟩ := readNums_bd hb1 h1
      simp only at h
      by_cases c2 : Uv.code r1 = 0
      · rw [if_pos c2] at h
        have e5 := Uv.enc_val r1 hb2 c2
        have hb3 : ∀ z ∈ r1.drop (Uv.size r1), 0 ≤ z ∧ z ≤ 255 := fun z hz => hb2 z (List.mem_of_mem_drop hz)
        cases h2 : readAddrs (r1.drop (Uv.size r1)) (Uv.val r1).toNat with
        | none => rw [h2] at h; cases h
        | some x =>
          obtain ⟨al, q⟩ := x
          rw [h2] at h
          obtain ⟨e6, e7, e8, hb4⟩ := readAddrs_bd hb3 h2
          simp only at h
          by_cases c3 : Fr.code q = 0
          · rw [if_pos c3] at h
            simp only [Option.some.injEq, Prod.mk.injEq] at h
            obtain ⟨rfl, rfl⟩ := h
            refine ⟨?_, ⟨fun a ha => (e8 a ha).2, fun v hv => by have := e4 v hv; omega, Fr.row_bd hb4⟩, e4, fun a ha => (e8 a ha).1, fun z hz => hb4 z (List.mem_of_mem_drop hz), rfl⟩
            unfold bytes
            simp only [List.append_assoc]
            rw [put_row_of q hb4 c3, e6, e7, e5, e2, e1]
          · rw [if_neg c3] at h; cases h
      · rw [if_neg c2] at h; cases h
  · rw [if_neg c1] at h; cases h
theorem enc_code (v : Nat) (rest : List Int) (h : v < 9223372036854775808) : Uv.code (Uv.enc v ++ rest) = 0 ∧ Uv.val (Uv.enc v ++ rest) = (v : Int) ∧ (Uv.enc v ++ rest).drop (Uv.size (Uv.enc v ++ rest)) = rest := by
  have hg := Uv.got_enc v rest h
  have hl := Uv.enc_length v h
  refine ⟨by unfold Uv.code; rw [hg], by unfold Uv.val; rw [hg], ?_⟩
  have : Uv.size (Uv.enc v ++ rest) = (Uv.enc v).length := by unfold Uv.size; rw [hg]; simp [hl]
  rw [this, List.drop_left]
theorem readMsg_bytes {m : Msg} (rest : List Int) (hw : Wf m) (h : may m = true) : readMsg (bytes m ++ rest) = some (m, rest) := by
  obtain ⟨h1, h2, h3, h4, h5⟩ := may_iff.1 h
  have hk := (numsOf_bd m.kind).2.2 (by omega)
  have g1 := enc_code m.kind.toNat (Uv.flat m.nums ++ (Uv.enc m.addrs.length ++ (aflat m.addrs ++ (Fr.put m.body ++ rest)))) (by omega)
  have g2 := readNums_flat m.nums (Uv.enc m.addrs.length ++ (aflat m.addrs ++ (Fr.put m.body ++ rest))) h4 m.nums.length (Nat.le_refl _)
  have g3 := enc_code m.addrs.length (aflat m.addrs ++ (Fr.put m.body ++ rest)) (by omega)
  have g4 := readAddrs_flat m.addrs (Fr.put m.body ++ rest) (fun a ha => ⟨h5 a ha, hw.1 a ha⟩) m.addrs.length (Nat.le_refl _)
  rw [List.take_length, List.drop_length] at g2 g4
  simp only [Uv.flat, aflat, List.nil_append] at g2 g4
  have hkk : ((m.kind.toNat : Nat) : Int) = m.kind := by omega
  have ez : bytes m ++ rest = Uv.enc m.kind.toNat ++ (Uv.flat m.nums ++ (Uv.enc m.addrs.length ++ (aflat m.addrs ++ (Fr.put m.body ++ rest)))) := by
    unfold bytes; simp only [List.append_assoc]
  rw [ez]
  unfold readMsg
  rw [if_pos g1.1, g1.2.2, g1.2.1, hkk, ← h1, Int.toNat_natCast, g2]
  simp only
  rw [if_pos g3.1, g3.2.2, g3.2.1, Int.toNat_natCast, g4]
  simp only
  rw [if_pos (Fr.put_code m.body rest (by omega)), Fr.put_row m.body rest (by omega), Fr.put_size m.body rest (by omega), List.drop_left]
theorem read_bytes {m : Msg} (hw : Wf m) (h : may m = true) : read (bytes m) = some m := by
  have := readMsg_bytes [] hw h
  rw [List.append_nil] at this
  unfold read
  rw [this]
  simp [h]
theorem read_ok {zs : List Int} {m : Msg} (hb : ∀ z ∈ zs, 0 ≤ z ∧ z ≤ 255) (h : read zs = some m) : may m = true ∧ bytes m = zs ∧ Wf m := by
  unfold read at h
  cases h1 : readMsg zs with
  | none => rw [h1] at h; cases h
  | some x =>
    obtain ⟨m', r⟩ := x
    rw [h1] at h
    simp only at h
    by_cases c : r = [] ∧ may m' = true
    · rw [if_pos c] at h
      simp only [Option.some.injEq] at h
      subst h
      have := readMsg_ok hb h1
      obtain ⟨rfl, c2⟩ := c
      rw [List.append_nil] at this
      exact ⟨c2, this.1, this.2.1⟩
    · rw [if_neg c] at h; cases h
/-- no two messages have one row of bytes -/
theorem bytes_inj {m n : Msg} (hm : Wf m) (hn : Wf n) (h1 : may m = true) (h2 : may n = true) (h : bytes m = bytes n) : m = n := by
  have := read_bytes hm h1
  rw [h, read_bytes hn h2] at this
  exact (Option.some.inj this).symm
theorem read_long {m : Msg} (rest : List Int) (hw : Wf m) (h : may m = true) (hr : rest ≠ []) : read (bytes m ++ rest) = none := by
  unfold read
  rw [readMsg_bytes rest hw h]
  simp [hr]
theorem read_cut {m : Msg} (k : Nat) (hw : Wf m) (h : may m = true) (hb : ∀ z ∈ bytes m, 0 ≤ z ∧ z ≤ 255) (hk : k < (bytes m).length) : read ((bytes m).take k) = none := by
  cases h1 : read ((bytes m).take k) with
  | none => rfl
  | some n =>
    exfalso
    obtain ⟨a, b, c⟩ := read_ok (fun z hz => hb z (List.mem_of_mem_take hz)) h1
    have e : bytes n ++ (bytes m).drop k = bytes m := by rw [b, List.take_append_drop]
    have := read_long ((bytes m).drop k) c a (by intro e2; have := List.drop_eq_nil_iff.1 e2; omega)
    rw [e, read_bytes hw h] at this
    cases this
theorem bytes_bd {m : Msg} (hw : Wf m) (h : may m = true) : ∀ z ∈ bytes m, 0 ≤ z ∧ z ≤ 255 := by
  obtain ⟨h1, h2, h3, h4, h5⟩ := may_iff.1 h
  have ha : ∀ (al : List (Int × Int)), (∀ a ∈ al, mayA a.1 a.2 = true ∧ 0 ≤ a.1 ∧ a.1 < 4294967296) → ∀ z ∈ aflat al, 0 ≤ z ∧ z ≤ 255 := by
    intro al
    induction al with
    | nil => intro _ z hz; simp [aflat] at hz
    | cons a al ih =>
      intro h z hz
      simp only [aflat, List.mem_append] at hz
      rcases hz with hz | hz
      · have hp : a.1 ≠ 0 ∧ 1 ≤ a.2 ∧ a.2 ≤ 65535 := by simpa [mayA, and_assoc] using (h a (by simp)).1
        have hq := (h a (by simp)).2
        simp [bytesA] at hz
        omega
      · exact ih (fun x hx => h x (by simp [hx])) z hz
  intro z hz
  unfold bytes Fr.put at hz
  simp only [List.mem_append] at hz
  rcases hz with hz | hz | hz | hz | hz | hz
  · exact Uv.enc_mem _ _ hz
  · exact Uv.flat_bd _ z hz
  · exact Uv.enc_mem _ _ hz
  · exact ha _ (fun a ha => ⟨h5 a ha, hw.1 a ha⟩) z hz
  · exact Uv.enc_mem _ _ hz
  · exact hw.2.2 z hz
theorem bytes_len {m : Msg} (h : may m = true) : 1 ≤ (bytes m).length ∧ (bytes m).length ≤ 1200 := by
  obtain ⟨h1, h2, h3, h4, h5⟩ := may_iff.1 h
  have hk := (numsOf_bd m.kind).2
  have e1 := Uv.enc_length m.kind.toNat (by omega)
  have e2 := Uv.enc_length m.addrs.length (by omega)
  have e3 := Uv.flat_len m.nums
  have e4 := aflat_len m.addrs
  have e5 := Fr.put_len m.body (by omega)
  have p1 := Uv.len_pos m.kind.toNat
  have q1 := Uv.len_small m.kind.toNat (by omega)
  have q2 := Uv.len_small m.addrs.length (by omega)
  have q3 := Uv.len_small m.body.length (by omega)
  unfold bytes
  simp only [List.length_append]
  omega
end Go.Proofs.YtdiilgedicfekaaDoor.Wi
namespace Go.Proofs.YtdiilgedicfekaaDoor
open Go.RowKit
set_option linter.unusedVariables false
set_option maxRecDepth 100000

theorem Bts.from {w : World} {A : Option Addr} {n c k : Nat} {zs : List Int} (h : Bts w A n zs) (hk : k ≤ n) (hc : n ≤ c) : Bts w (if c = k then A else A.map (·.add k)) (n - k) (zs.drop k) := by
  obtain ⟨h1, h2, h3⟩ := h
  refine ⟨by simp; omega, fun z hz => h2 z (List.mem_of_mem_drop hz), fun hn => ?_⟩
  obtain ⟨b, off, rfl, hb, hcell⟩ := h3 (by omega)
  rw [if_neg (by omega)]
  refine ⟨b, off + k, ?_, hb, fun j hj => ?_⟩
  · simp only [Option.map_some]
    unfold Addr.add
    split <;> simp_all
  · rw [Nat.add_assoc, hcell (k + j) (by omega)]
    simp [List.getD]
theorem Bts.tail {w : World} {A : Option Addr} {n k : Nat} {zs : List Int} (h : Bts w A n zs) (hk : k < n) : Bts w (Option.map (fun x => x.add k) A) (n - k) (zs.drop k) := by
  have := h.from (c := n) (k := k) (by omega) (Nat.le_refl _)
  rwa [if_neg (by omega)] at this

theorem Bts.zero {w : World} {A : Option Addr} : Bts w A 0 [] := ⟨rfl, by simp, fun h => by omega⟩
theorem Bts.piece {w : World} {A : Option Addr} {n k V : Nat} {zs : List Int} (h : Bts w A n zs) (hk : k + V ≤ n) : Bts w (Option.map (fun x => x.add k) A) V ((zs.drop k).take V) := by
  rcases Nat.eq_zero_or_pos V with h0 | h0
  · subst h0; simpa using Bts.zero
  · exact (h.tail (by omega)).cut (by omega)
theorem add_block (ad : Addr) (k : Nat) : (ad.add k).block = ad.block := by unfold Addr.add; split <;> rfl

/-- v is a slice that reads as zs; what it leads to lies in the blocks that p says -/
def Sl (w : World) (v : Value) (zs : List Int) (p : Nat → Prop) : Prop :=
  ∃ A n c, v = .slice A n c ∧ Bts w A n zs ∧ n ≤ c ∧ c ≤ maxLen ∧ (A = none → n = 0 ∧ c = 0) ∧ ∀ ad, A = some ad → p ad.block
theorem Sl.nil (w : World) (p : Nat → Prop) : Sl w (.slice none 0 0) [] p := ⟨none, 0, 0, rfl, ⟨rfl, by simp, fun h => by omega⟩, Nat.le_refl _, Nat.zero_le _, fun _ => ⟨rfl, rfl⟩, fun _ h => by cases h⟩

def ftup (v : Value) (zs : List Int) : Value := .tuple #[v, .int .i64 (Fr.size zs : Int), .int .i64 (Fr.code zs)]

set_option maxHeartbeats 1000000 in
theorem first_any (A : Option Addr) (n c : Nat) (zs : List Int) (w : World) (h : Bts w A n zs) (hnc : n ≤ c) (hc : c ≤ maxLen) :
    Calls Tryd.prog 74 #[.slice A n c] w fun e w' => ∃ v, e = .returned (ftup v zs) ∧ Sl w v (Fr.row zs) (fun b => ∃ ad, A = some ad ∧ b = ad.block) ∧ w = w' := by
  have HC := Lib.hid hc
  unfold maxLen at hc
  have HB := Lib.hid h; clear h
  rcases Uv.got_cases zs with ⟨h1, h2, h3, h4⟩ | ⟨h1, h2⟩
  · have hv := Uv.val_bd zs
    have hl := HB.out.len
    have HG := Lib.hid h4
    have HF : Hid (∀ x : Int, (1200 < Uv.val zs → x = 4) → (Uv.val zs ≤ 1200 → zs.length < Uv.size zs + (Uv.val zs).toNat → x = 2) → (Uv.val zs ≤ 1200 → ¬ zs.length < Uv.size zs + (Uv.val zs).toNat → x = 0) → Fr.code zs = x) := Lib.hid (by
      intro x h4 h2 h0
      unfold Fr.code
      rw [if_neg (by omega)]
      split
      · exact (h4 (by assumption)).symm
      · split
        · exact (h2 (by omega) (by assumption)).symm
        · exact (h0 (by omega) (by assumption)).symm)
    have HS : Hid (Fr.code zs = 0 → Fr.size zs = Uv.size zs + (Uv.val zs).toNat ∧ Fr.row zs = (zs.drop (Uv.size zs)).take (Uv.val zs).toNat) := Lib.hid (fun h => ⟨(Fr.size_ok h).1, by simp [Fr.row, h]⟩)
    clear h4
    have hk9 := Fr.size_le9 zs
    obtain ⟨V, hV⟩ : ∃ V : Nat, Uv.val zs = (V : Int) := ⟨(Uv.val zs).toNat, by omega⟩
    rw [hV] at HG HF HS hv
    simp only [Int.toNat_natCast] at HF HS
    generalize Uv.size zs = k at *
    clear hV h1
    by_cases hbig : 1200 < V
    · have t1 : decide ((1200 : Int) < (V : Int)) = true := by simp; omega
      have E := Lib.hid (HF.out 4 (fun _ => rfl) (by omega) (by omega))
      clear HF HS
      go_enter Tryd.func74, Tryd.ntmps74
      go_wp2_with (go_at_call 68; refine (get_at _ _ _ zs _ _ _ _ HG.out hnc HC.out HB.out).mono ?_; rintro e w' ⟨rfl, rfl⟩)
      go_ret3
      exact ⟨_, by rw [ftup, E.out, Fr.size_no (by rw [E.out]; decide)]; rfl, by rw [Fr.row_no (by rw [E.out]; decide)]; exact Sl.nil _ _, rfl⟩
    · have t1 : decide ((1200 : Int) < (V : Int)) = false := by simp; omega
      by_cases hsh : n < k + V
      · have t2 : decide ((n : Int) < (k : Int) + (V : Int)) = true := by simp; omega
        have E := Lib.hid (HF.out 2 (by omega) (fun _ _ => rfl) (by omega))
        clear HF HS
        go_enter Tryd.func74, Tryd.ntmps74
        go_wp2_with (go_at_call 68; refine (get_at _ _ _ zs _ _ _ _ HG.out hnc HC.out HB.out).mono ?_; rintro e w' ⟨rfl, rfl⟩)
        go_ret3
        exact ⟨_, by rw [ftup, E.out, Fr.size_no (by rw [E.out]; decide)]; rfl, by rw [Fr.row_no (by rw [E.out]; decide)]; exact Sl.nil _ _, rfl⟩
      · have t2 : decide ((n : Int) < (k : Int) + (V : Int)) = false := by simp; omega
        have E := Lib.hid (HF.out 0 (by omega) (by omega) (fun _ _ => rfl))
        have ES := Lib.hid (HS.out E.out)
        clear HF HS
        go_enter Tryd.func74, Tryd.ntmps74
        go_wp2_with (go_at_call 68; refine (get_at _ _ _ zs _ _ _ _ HG.out hnc HC.out HB.out).mono ?_; rintro e w' ⟨rfl, rfl⟩)
        · obtain rfl : V = 0 := by omega
          go_ret3
          refine ⟨_, by rw [ftup, E.out, ES.out.1]; rfl, ⟨A, 0, 0, rfl, ?_, Nat.le_refl _, Nat.zero_le _, fun _ => ⟨rfl, rfl⟩, fun ad e => ⟨ad, e, rfl⟩⟩, rfl⟩
          rw [ES.out.2, List.take_zero]
          exact Bts.zero
        · obtain ⟨ad, rfl⟩ := HB.out.some_of (by omega)
          go_ret3
          refine ⟨_, by rw [ftup, E.out, ES.out.1]; rfl, ⟨_, _, _, rfl, ?_, by omega, by unfold maxLen; omega, fun h => by simp at h, fun ad2 e => ⟨ad, rfl, ?_⟩⟩, rfl⟩
          · rw [ES.out.2]
            exact HB.out.piece (by omega)
          · simp at e; rw [← e]; exact add_block _ _
  · obtain ⟨⟨x, k, cd⟩, hg⟩ : ∃ t, Uv.got zs = t := ⟨_, rfl⟩
    have hcd : Uv.code zs = cd := by simp [Uv.code, hg]
    have E : Hid (Fr.code zs = cd) := Lib.hid (by unfold Fr.code; rw [if_pos (by omega), hcd])
    have t1 : (cd != 0) = true := by rw [bne_iff_ne]; omega
    have E2 : Hid (¬ Fr.code zs = 0) := Lib.hid (by rw [E.out]; omega)
    clear hcd h1 h2
    have HG := Lib.hid hg; clear hg
    go_enter Tryd.func74, Tryd.ntmps74
    go_wp2_with (go_at_call 68; refine (get_at _ _ _ zs _ _ _ _ HG.out hnc HC.out HB.out).mono ?_; rintro e w' ⟨rfl, rfl⟩)
    go_ret3
    exact ⟨_, by rw [ftup, Fr.size_no E2.out, E.out]; rfl, by rw [Fr.row_no E2.out]; exact Sl.nil _ _, rfl⟩

end Go.Proofs.YtdiilgedicfekaaDoor
namespace Go.Proofs.YtdiilgedicfekaaDoor
open Go.RowKit
set_option linter.unusedVariables false
set_option maxRecDepth 100000

set_option maxHeartbeats 400000 in
theorem clone_any (A : Option Addr) (n c : Nat) (zs : List Int) (w : World) (h : Bts w A n zs) (hnil : A = none → n = 0 ∧ c = 0) (hn : n ≤ 140737488355328) :
    Calls Tryd.prog 75 #[.slice A n c] w fun e w' => ∃ r, e = .returned r ∧ w'.ownsRow w.heap.size 5 1 r n (B zs) ∧ Below w.heap.size w w' := by
  have q22 : ∀ (w : World) (a : Option Addr) (n c n' c' : Nat), (binOp .eql 42 (.slice a n c) (.slice none n' c')).run Tryd.prog w = .ok (.bool a.isNone) w := fun w a n c n' c' => Lib.run_eql_slice_nil w _ _ a n c n' c' Tryd.underlying42
  cases A with
  | none =>
    obtain ⟨rfl, rfl⟩ := hnil rfl
    have hz : zs = [] := List.eq_nil_of_length_eq_zero h.len
    subst hz
    clear hnil h
    go_enter Tryd.func75, Tryd.ntmps75
    go_wp2
    go_ret
    exact ⟨_, rfl, World.ownsRow_nil _ _ _ _, Below.refl _ _⟩
  | some ad =>
    clear hnil
    have H := Lib.hid h; clear h
    go_enter Tryd.func75, Tryd.ntmps75
    go_wp2_with (at_builtin; refine wpList_append_bts rfl (.tmp 5) (.tmp 6) rfl w.heap.size _ 0 [] rfl (lit_own w) (some ad) n c zs rfl (H.out.alloc _) (by intro h; cases h) (by omega) (by simp) ?_; intro v5 w5 ho5 hg5; rw [List.nil_append, Nat.zero_add] at ho5; have HB5 := Lib.hid (own_grown_below (lit_own w) ((Below.refl w.heap.size w).alloc (Nat.le_refl _) _) (Nat.le_refl _) hg5); clear hg5)
    go_ret
    exact ⟨_, rfl, ho5, HB5.out⟩
theorem clone_sl (v : Value) (zs : List Int) (p : Nat → Prop) (w : World) (h : Sl w v zs p) (hn : zs.length ≤ 140737488355328) :
    Calls Tryd.prog 75 #[v] w fun e w' => ∃ r, e = .returned r ∧ w'.ownsRow w.heap.size 5 1 r zs.length (B zs) ∧ Below w.heap.size w w' := by
  obtain ⟨A, n, c, rfl, hb, _, _, hnil, _⟩ := h
  have hl := hb.len
  rw [hl] at hn ⊢
  exact clone_any A n c zs w hb hnil hn

set_option maxHeartbeats 400000 in
/-- frame.Get -/
theorem fget_any (A : Option Addr) (n c : Nat) (zs : List Int) (w : World) (h : Bts w A n zs) (hnc : n ≤ c) (hc : c ≤ maxLen) :
    Calls Tryd.prog 72 #[.slice A n c] w fun e w' => ∃ v, e = .returned (ftup v zs) ∧ w'.ownsRow w.heap.size 5 1 v (Fr.row zs).length (B (Fr.row zs)) ∧ Below w.heap.size w w' := by
  have H := Lib.hid (first_any A n c zs w h hnc hc); clear h hc
  have hl := Fr.row_le zs
  go_enter Tryd.func72, Tryd.ntmps72
  go_wp2_with (first
    | (go_at_call 74; refine H.out.mono ?_; rintro e w' ⟨v, rfl, hs, rfl⟩; have HS := Lib.hid hs; clear hs; unfold ftup)
    | (go_at_call 75; refine (clone_sl _ _ _ _ HS.out (by omega)).mono ?_; rintro e w' ⟨r, rfl, ho, hb⟩; have HO := Lib.hid ho; clear ho; have HB := Lib.hid hb; clear hb))
  go_ret3
  exact ⟨_, rfl, HO.out, HB.out⟩

theorem put_app (n : Nat) (zs : List Int) (h : zs.length = n) : Fr.put zs = Uv.enc n ++ zs := by rw [← h]; rfl

set_option maxHeartbeats 400000 in
/-- frame.Put -/
theorem fput_ok (A : Option Addr) (n c : Nat) (zs : List Int) (w : World) (h : Bts w A n zs) (hnil : A = none → n = 0 ∧ c = 0) (hn : n ≤ 1200) :
    Calls Tryd.prog 39 #[.slice A n c] w fun e w' => ∃ v, e = .returned (.tuple #[v, .int .i64 0]) ∧ w'.ownsRow w.heap.size 5 1 v (Fr.put zs).length (B (Fr.put zs)) ∧ Below w.heap.size w w' := by
  have t1 : decide ((1200 : Int) < (n : Int)) = false := by simp; omega
  have H := Lib.hid h; have HN := Lib.hid hnil; clear h hnil
  have HP := Lib.hid (put_any n w (by omega))
  have hl9 : (Uv.enc n).length ≤ 9 := by rw [Uv.enc_length n (by omega)]; exact Uv.len_small n (by omega)
  rw [put_app n zs H.out.len, List.length_append, H.out.len]
  generalize Uv.enc n = es at *
  generalize hel : es.length = el at *
  go_enter Tryd.func39, Tryd.ntmps39
  go_wp2_with (first
    | (go_at_call 37; refine HP.out.mono ?_; rintro e w1 ⟨r, rfl, ho, hb⟩; have HO := Lib.hid ho; clear ho; have HB := Lib.hid hb; clear hb)
    | (at_builtin; refine wpList_append_bts rfl (.tmp 10) (.tmp 11) rfl w.heap.size _ el es rfl HO.out A n c zs rfl (H.out.below HB.out) HN.out (by omega) HB.out.size ?_; intro v5 w5 ho5 hg5; have HB5 := Lib.hid (own_grown_below HO.out HB.out (Nat.le_refl _) hg5); clear hg5; have HO5 := Lib.hid ho5; clear ho5))
  go_ret2
  exact ⟨_, rfl, HO5.out, HB5.out⟩
set_option maxHeartbeats 400000 in
theorem fput_long (A : Option Addr) (n c : Nat) (w : World) (hn : 1200 < n) :
    Calls Tryd.prog 39 #[.slice A n c] w fun e w' => e = .returned (.tuple #[.slice none 0 0, .int .i64 4]) ∧ w = w' := by
  have t1 : decide ((1200 : Int) < (n : Int)) = true := by simp; omega
  go_enter Tryd.func39, Tryd.ntmps39
  go_wp2
  go_ret2
  exact ⟨rfl, rfl⟩

set_option maxHeartbeats 400000 in
/-- the document's own Put -/
theorem ref_fput_ok (A : Option Addr) (n c : Nat) (zs : List Int) (w : World) (h : Bts w A n zs) (hnil : A = none → n = 0 ∧ c = 0) (hn : n ≤ 1200) :
    Calls Tryd.prog 62 #[.slice A n c] w fun e w' => ∃ v, e = .returned (.tuple #[v, .int .i64 0]) ∧ w'.ownsRow w.heap.size 5 1 v (Fr.put zs).length (B (Fr.put zs)) ∧ Below w.heap.size w w' := by
  have t1 : decide ((1200 : Int) < (n : Int)) = false := by simp; omega
  have H := Lib.hid h; have HN := Lib.hid hnil; clear h hnil
  have HP := Lib.hid (ref_put_any n w)
  have hl9 : (Uv.enc n).length ≤ 9 := by rw [Uv.enc_length n (by omega)]; exact Uv.len_small n (by omega)
  rw [put_app n zs H.out.len, List.length_append, H.out.len]
  generalize Uv.enc n = es at *
  generalize hel : es.length = el at *
  go_enter Tryd.func62, Tryd.ntmps62
  go_wp2_with (first
    | (go_at_call 60; refine HP.out.mono ?_; rintro e w1 ⟨r, rfl, ho, hb⟩; have HO := Lib.hid ho; clear ho; have HB := Lib.hid hb; clear hb)
    | (at_builtin; refine wpList_append_bts rfl (.tmp 10) (.tmp 11) rfl w.heap.size _ el es rfl HO.out A n c zs rfl (H.out.below HB.out) HN.out (by omega) HB.out.size ?_; intro v5 w5 ho5 hg5; have HB5 := Lib.hid (own_grown_below HO.out HB.out (Nat.le_refl _) hg5); clear hg5; have HO5 := Lib.hid ho5; clear ho5))
  go_ret2
  exact ⟨_, rfl, HO5.out, HB5.out⟩
set_option maxHeartbeats 400000 in
theorem ref_fput_long (A : Option Addr) (n c : Nat) (w : World) (hn : 1200 < n) :
    Calls Tryd.prog 62 #[.slice A n c] w fun e w' => e = .returned (.tuple #[.slice none 0 0, .int .i64 4]) ∧ w = w' := by
  have t1 : decide ((1200 : Int) < (n : Int)) = true := by simp; omega
  go_enter Tryd.func62, Tryd.ntmps62
  go_wp2
  go_ret2
  exact ⟨rfl, rfl⟩

end Go.Proofs.YtdiilgedicfekaaDoor
namespace Go.Proofs.YtdiilgedicfekaaDoor
open Go.RowKit
set_option linter.unusedVariables false
set_option maxRecDepth 100000

set_option maxHeartbeats 1000000 in
theorem ref_fget_any (A : Option Addr) (n c : Nat) (zs : List Int) (w : World) (h : Bts w A n zs) (hnc : n ≤ c) (hc : c ≤ maxLen) :
    Calls Tryd.prog 55 #[.slice A n c] w fun e w' => ∃ v, e = .returned (ftup v zs) ∧ w'.ownsRow w.heap.size 5 1 v (Fr.row zs).length (B (Fr.row zs)) ∧ Below w.heap.size w w' := by
  have HC := Lib.hid hc
  unfold maxLen at hc
  have HB := Lib.hid h; clear h
  rcases Uv.got_cases zs with ⟨h1, h2, h3, h4⟩ | ⟨h1, h2⟩
  · have hv := Uv.val_bd zs
    have hl := HB.out.len
    have HG := Lib.hid h4
    have HF : Hid (∀ x : Int, (1200 < Uv.val zs → x = 4) → (Uv.val zs ≤ 1200 → zs.length < Uv.size zs + (Uv.val zs).toNat → x = 2) → (Uv.val zs ≤ 1200 → ¬ zs.length < Uv.size zs + (Uv.val zs).toNat → x = 0) → Fr.code zs = x) := Lib.hid (by
      intro x h4 h2 h0
      unfold Fr.code
      rw [if_neg (by omega)]
      split
      · exact (h4 (by assumption)).symm
      · split
        · exact (h2 (by omega) (by assumption)).symm
        · exact (h0 (by omega) (by assumption)).symm)
    have HS : Hid (Fr.code zs = 0 → Fr.size zs = Uv.size zs + (Uv.val zs).toNat ∧ Fr.row zs = (zs.drop (Uv.size zs)).take (Uv.val zs).toNat) := Lib.hid (fun h => ⟨(Fr.size_ok h).1, by simp [Fr.row, h]⟩)
    clear h4
    have hk9 := Fr.size_le9 zs
    obtain ⟨V, hV⟩ : ∃ V : Nat, Uv.val zs = (V : Int) := ⟨(Uv.val zs).toNat, by omega⟩
    rw [hV] at HG HF HS hv
    simp only [Int.toNat_natCast] at HF HS
    generalize Uv.size zs = k at *
    rw [hl] at h3
    clear hV h1
    by_cases hbig : 1200 < V
    · have t1 : decide ((1200 : Int) < (V : Int)) = true := by simp; omega
      have E := Lib.hid (HF.out 4 (fun _ => rfl) (by omega) (by omega))
      clear HF HS
      go_enter Tryd.func55, Tryd.ntmps55
      go_wp2_with (go_at_call 52; refine (ref_get_at _ _ _ zs _ _ _ _ HG.out hnc HC.out HB.out).mono ?_; rintro e w' ⟨rfl, rfl⟩)
      go_ret3
      exact ⟨_, by rw [ftup, E.out, Fr.size_no (by rw [E.out]; decide)]; rfl, by rw [Fr.row_no (by rw [E.out]; decide)]; exact World.ownsRow_nil _ _ _ _, Below.refl _ _⟩
    · have t1 : decide ((1200 : Int) < (V : Int)) = false := by simp; omega
      by_cases hsh : n < k + V
      · have t2 : decide ((n : Int) - (k : Int) < (V : Int)) = true := by simp; omega
        have E := Lib.hid (HF.out 2 (by omega) (fun _ _ => rfl) (by omega))
        clear HF HS
        go_enter Tryd.func55, Tryd.ntmps55
        go_wp2_with (go_at_call 52; refine (ref_get_at _ _ _ zs _ _ _ _ HG.out hnc HC.out HB.out).mono ?_; rintro e w' ⟨rfl, rfl⟩)
        go_ret3
        exact ⟨_, by rw [ftup, E.out, Fr.size_no (by rw [E.out]; decide)]; rfl, by rw [Fr.row_no (by rw [E.out]; decide)]; exact World.ownsRow_nil _ _ _ _, Below.refl _ _⟩
      · have t2 : decide ((n : Int) - (k : Int) < (V : Int)) = false := by simp; omega
        have E := Lib.hid (HF.out 0 (by omega) (by omega) (fun _ _ => rfl))
        have ES := Lib.hid (HS.out E.out)
        clear HF HS
        obtain ⟨ad, rfl⟩ := HB.out.some_of (by omega)
        rw [ES.out.2]
        have hll : ((zs.drop k).take V).length = V := by simp; omega
        rw [hll]
        by_cases hck : c = k
        · obtain rfl : V = 0 := by omega
          subst hck
          rw [List.take_zero]
          go_enter Tryd.func55, Tryd.ntmps55
          go_wp2_with (first
            | (go_at_call 52; refine (ref_get_at _ _ _ zs _ _ _ _ HG.out hnc HC.out HB.out).mono ?_; rintro e w' ⟨rfl, rfl⟩)
            | (at_builtin; refine wpList_append_bts rfl (.tmp 26) (.tmp 33) rfl w.heap.size _ 0 [] rfl (lit_own w) (some ad) 0 0 [] rfl Bts.zero (by intro h; cases h) (by omega) (by simp) ?_; intro v5 w5 ho5 hg5; rw [List.nil_append, Nat.zero_add] at ho5; have HB5 := Lib.hid (own_grown_below (lit_own w) ((Below.refl w.heap.size w).alloc (Nat.le_refl _) _) (Nat.le_refl _) hg5); clear hg5; have HO5 := Lib.hid ho5; clear ho5))
          go_ret3
          exact ⟨_, by rw [ftup, E.out, ES.out.1]; rfl, HO5.out, HB5.out⟩
        · go_enter Tryd.func55, Tryd.ntmps55
          go_wp2_with (first
            | (go_at_call 52; refine (ref_get_at _ _ _ zs _ _ _ _ HG.out hnc HC.out HB.out).mono ?_; rintro e w' ⟨rfl, rfl⟩)
            | (at_builtin; refine wpList_append_bts rfl (.tmp 26) (.tmp 33) rfl w.heap.size _ 0 [] rfl (lit_own w) (some (ad.add k)) V (c - k) ((zs.drop k).take V) (congrArg (fun m => Value.slice (some (ad.add k)) m (c - k)) (Nat.add_sub_cancel_left k V)) ((HB.out.piece (by omega)).alloc _) (by intro h; cases h) (by omega) (by simp) ?_; intro v5 w5 ho5 hg5; rw [List.nil_append, Nat.zero_add] at ho5; have HB5 := Lib.hid (own_grown_below (lit_own w) ((Below.refl w.heap.size w).alloc (Nat.le_refl _) _) (Nat.le_refl _) hg5); clear hg5; have HO5 := Lib.hid ho5; clear ho5))
          go_ret3
          exact ⟨_, by rw [ftup, E.out, ES.out.1]; rfl, HO5.out, HB5.out⟩
  · obtain ⟨⟨x, k, cd⟩, hg⟩ : ∃ t, Uv.got zs = t := ⟨_, rfl⟩
    have hcd : Uv.code zs = cd := by simp [Uv.code, hg]
    have E : Hid (Fr.code zs = cd) := Lib.hid (by unfold Fr.code; rw [if_pos (by omega), hcd])
    have t1 : (cd != 0) = true := by rw [bne_iff_ne]; omega
    have E2 : Hid (¬ Fr.code zs = 0) := Lib.hid (by rw [E.out]; omega)
    clear hcd h1 h2
    have HG := Lib.hid hg; clear hg
    go_enter Tryd.func55, Tryd.ntmps55
    go_wp2_with (go_at_call 52; refine (ref_get_at _ _ _ zs _ _ _ _ HG.out hnc HC.out HB.out).mono ?_; rintro e w' ⟨rfl, rfl⟩)
    go_ret3
    exact ⟨_, by rw [ftup, Fr.size_no E2.out, E.out]; rfl, by rw [Fr.row_no E2.out]; exact World.ownsRow_nil _ _ _ _, Below.refl _ _⟩

end Go.Proofs.YtdiilgedicfekaaDoor
namespace Go.Proofs.YtdiilgedicfekaaDoor
open Go.RowKit
set_option linter.unusedVariables false
set_option maxRecDepth 100000
theorem cells_of {w : World} {b : Nat} {C : Array Value} {t : TypeId} (h : w.heap[b]? = some (.cells C t (0, 0))) (j : Nat) : w.cell? ⟨b, j, none⟩ = C[j]? ∧ w.frozen? ⟨b, j, none⟩ = false := by
  constructor
  · simp [World.cell?, h]
  · simp [World.frozen?, h]

set_option maxHeartbeats 1000000 in
theorem rbytes_no (h p : Int) (w : World) (h0 : 0 ≤ h) (h1 : h < 4294967296) (hm : mayA h p = false) : Calls Tryd.prog 61 #[adr h p] w fun e w' => e = .returned (.slice none 0 0) ∧ Below w.heap.size w w' := by
  have HM := Lib.hid (fun W => rmay_any h p W h0 h1)
  rw [hm] at HM
  unfold adr at *
  clear hm
  go_enter Tryd.func61, Tryd.ntmps61
  go_wp2_with fail
  refine (HM.out _).mono ?_
  rintro e w1 ⟨rfl, hb⟩
  have HB := Lib.hid hb; clear hb
  go_wp2
  go_ret
  exact ⟨rfl, ((Below.refl _ _).alloc (Nat.le_refl _) _).trans (HB.out.mono (by simp))⟩
set_option maxHeartbeats 1000000 in
theorem rbytes_ok (h p : Int) (w : World) (h0 : 0 ≤ h) (h1 : h < 4294967296) (hm : mayA h p = true) : Calls Tryd.prog 61 #[adr h p] w fun e w' => ∃ g, e = .returned (.slice (some ⟨g, 0, none⟩) 6 6) ∧ w'.heap[g]? = some (.cells ((bytesA h p).map (Value.int .u8)).toArray 5 (0, 0)) ∧ w.heap.size ≤ g ∧ Below w.heap.size w w' := by
  have hp : h ≠ 0 ∧ 1 ≤ p ∧ p ≤ 65535 := by simpa [mayA, and_assoc] using hm
  obtain ⟨_, hp1, hp2⟩ := hp
  have HM := Lib.hid (fun W => rmay_any h p W h0 h1)
  rw [hm] at HM
  unfold adr at *
  clear hm
  go_enter Tryd.func61, Tryd.ntmps61
  go_wp2_with fail
  refine (HM.out _).mono ?_
  rintro e w1 ⟨rfl, hb⟩
  have c0 := (hb.cell (p := ⟨w.heap.size, 0, none⟩) (by simp))
  have c1 := (hb.cell (p := ⟨w.heap.size, 1, none⟩) (by simp))
  have HB := Lib.hid hb; clear hb
  go_wp2
  go_ret
  exact ⟨_, rfl, by have := (MapKept.heap_alloc w1 (.cells ((bytesA h p).map (Value.int .u8)).toArray 5)).1; simpa [bytesA] using this, by have := HB.out.size; simp at this; omega, (((Below.refl _ _).alloc (Nat.le_refl _) _).trans (HB.out.mono (by simp))).alloc (by have := HB.out.size; simp at this; omega) _⟩
end Go.Proofs.YtdiilgedicfekaaDoor
