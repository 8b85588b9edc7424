/-
  Frames as lists of bytes: what a frame is, which rows bytes begin with, and why they end. No program. Conditions: as each lemma states.
-/
import Derived.Test.YtebgfiibcmnfnaaDoorParts
namespace Go.Proofs.YtebgfiibcmnfnaaDoor.Fr
set_option linter.unusedVariables false

theorem size_le9 (zs : List Int) : Uv.size zs ≤ 9 := by
  have h1 := Uv.lead_fuel 9 zs
  unfold Uv.size Uv.got
  split
  · simp
  · split
    · simp
    · split
      · simp
      · simp; omega

/-- why bytes begin with no frame; 0: they do -/
def code (zs : List Int) : Int :=
  if Uv.code zs ≠ 0 then Uv.code zs else if 1200 < Uv.val zs then 4 else if zs.length < Uv.size zs + (Uv.val zs).toNat then 2 else 0
def size (zs : List Int) : Nat := if code zs = 0 then Uv.size zs + (Uv.val zs).toNat else 0
def row (zs : List Int) : List Int := if code zs = 0 then (zs.drop (Uv.size zs)).take (Uv.val zs).toNat else []

theorem code_bd (zs : List Int) : 0 ≤ code zs ∧ code zs ≤ 4 := by
  unfold code
  rcases Uv.got_cases zs with ⟨h, _⟩ | ⟨h1, h2⟩
  · rw [if_neg (by omega)]; split
    · omega
    · split <;> omega
  · rw [if_pos (by omega)]; omega
theorem code_ok {zs : List Int} (h : code zs = 0) : Uv.code zs = 0 ∧ Uv.val zs ≤ 1200 ∧ Uv.size zs + (Uv.val zs).toNat ≤ zs.length := by
  unfold code at h
  by_cases h1 : Uv.code zs = 0
  · rw [if_neg (by omega)] at h
    by_cases h2 : 1200 < Uv.val zs
    · rw [if_pos h2] at h; omega
    · rw [if_neg h2] at h
      by_cases h3 : zs.length < Uv.size zs + (Uv.val zs).toNat
      · rw [if_pos h3] at h; omega
      · exact ⟨h1, by omega, by omega⟩
  · rw [if_pos h1] at h; omega
theorem size_ok {zs : List Int} (h : code zs = 0) : size zs = Uv.size zs + (Uv.val zs).toNat ∧ 1 ≤ size zs ∧ size zs ≤ zs.length := by
  have h1 := code_ok h
  rcases Uv.got_cases zs with ⟨_, h2, _⟩ | ⟨h2, _⟩
  · unfold size
    rw [if_pos h]
    exact ⟨rfl, by omega, by omega⟩
  · omega
theorem row_len {zs : List Int} (h : code zs = 0) : (row zs).length = (Uv.val zs).toNat ∧ (row zs).length ≤ 1200 := by
  have h1 := code_ok h
  unfold row
  rw [if_pos h]
  have := Uv.val_bd zs
  simp; omega
theorem row_le (zs : List Int) : (row zs).length ≤ 1200 := by
  by_cases h : code zs = 0
  · exact (row_len h).2
  · simp [row, h]
theorem row_bd {zs : List Int} (h : ∀ z ∈ zs, 0 ≤ z ∧ z ≤ 255) : ∀ z ∈ row zs, 0 ≤ z ∧ z ≤ 255 := by
  unfold row
  split
  · exact fun z hz => h z (List.mem_of_mem_drop (List.mem_of_mem_take hz))
  · simp

/-- the rows of frames with which bytes begin, and why they end -/
def parts : Nat → List Int → List (List Int) × Int
  | 0, _ => ([], 0)
  | f + 1, zs => if zs = [] then ([], 0) else if code zs = 0 then (row zs :: (parts f (zs.drop (size zs))).1, (parts f (zs.drop (size zs))).2) else ([], code zs)
theorem parts_fuel : ∀ (f g : Nat) (zs : List Int), zs.length < f → zs.length < g → parts f zs = parts g zs
  | 0, _, _, h, _ => by omega
  | _ + 1, 0, _, _, h => by omega
  | f + 1, g + 1, zs, h1, h2 => by
    unfold parts
    by_cases h0 : zs = []
    · simp [h0]
    · by_cases h : code zs = 0
      · have := size_ok h
        rw [parts_fuel f g (zs.drop (size zs)) (by simp; omega) (by simp; omega)]
      · simp [h0, h]
def rows (zs : List Int) : List (List Int) := (parts (zs.length + 1) zs).1
def stop (zs : List Int) : Int := (parts (zs.length + 1) zs).2
theorem rows_nil : rows [] = [] := rfl
theorem stop_nil : stop [] = 0 := rfl
theorem rows_yes {zs : List Int} (h : code zs = 0) : rows zs = row zs :: rows (zs.drop (size zs)) ∧ stop zs = stop (zs.drop (size zs)) := by
  have hs := size_ok h
  have h0 : ¬ zs = [] := by rintro rfl; simp at hs; omega
  unfold rows stop
  rw [show parts (zs.length + 1) zs = (row zs :: (parts zs.length (zs.drop (size zs))).1, (parts zs.length (zs.drop (size zs))).2) by
    rw [parts]; simp [h0, h], parts_fuel zs.length ((zs.drop (size zs)).length + 1) _ (by simp; omega) (by simp)]
  exact ⟨rfl, rfl⟩
theorem rows_no {zs : List Int} (h0 : ¬ zs = []) (h : ¬ code zs = 0) : rows zs = [] ∧ stop zs = code zs := by
  unfold rows stop
  rw [parts]
  simp [h0, h]
theorem parts_bd : ∀ (f : Nat) (zs : List Int), 0 ≤ (parts f zs).2 ∧ (parts f zs).2 ≤ 4 ∧ (parts f zs).1.length ≤ zs.length
  | 0, _ => by simp [parts]
  | f + 1, zs => by
    unfold parts
    by_cases h0 : zs = []
    · simp [h0]
    · by_cases h : code zs = 0
      · have := parts_bd f (zs.drop (size zs))
        have := size_ok h
        simp [h0, h] at *; omega
      · have := code_bd zs
        simp [h0, h]; omega
theorem stop_bd (zs : List Int) : 0 ≤ stop zs ∧ stop zs ≤ 4 := ⟨(parts_bd _ _).1, (parts_bd _ _).2.1⟩
theorem parts_mem : ∀ (f : Nat) (zs : List Int), ∀ r ∈ (parts f zs).1, r.length ≤ 1200
  | 0, _, r, h => by simp [parts] at h
  | f + 1, zs, r, h => by
    unfold parts at h
    by_cases h0 : zs = []
    · simp [h0] at h
    · by_cases hc : code zs = 0
      · simp [h0, hc] at h
        rcases h with rfl | h
        · exact row_le zs
        · exact parts_mem f _ r h
      · simp [h0, hc] at h
theorem rows_mem_len (zs : List Int) : ∀ r ∈ rows zs, r.length ≤ 1200 := parts_mem _ _
theorem rows_len (zs : List Int) : (rows zs).length ≤ zs.length := (parts_bd _ _).2.2
/-- each row with 0, and last, where the bytes don't end behind a frame, why -/
def each (zs : List Int) : List (List Int × Int) := (rows zs).map (fun r => (r, 0)) ++ if stop zs = 0 then [] else [([], stop zs)]
theorem each_nil : each [] = [] := rfl
theorem each_yes {zs : List Int} (h : code zs = 0) : each zs = (row zs, 0) :: each (zs.drop (size zs)) := by
  unfold each
  rw [(rows_yes h).1, (rows_yes h).2]; rfl
theorem each_no {zs : List Int} (h0 : ¬ zs = []) (h : ¬ code zs = 0) : each zs = [([], code zs)] := by
  unfold each
  rw [(rows_no h0 h).1, (rows_no h0 h).2]; simp [h]
theorem each_len (zs : List Int) : (each zs).length ≤ zs.length + 1 := by
  have := rows_len zs
  unfold each
  split <;> simp <;> omega
theorem row_no {zs : List Int} (h : ¬ code zs = 0) : row zs = [] := by simp [row, h]
theorem size_no {zs : List Int} (h : ¬ code zs = 0) : size zs = 0 := by simp [size, h]

/-! ### rows as frames -/
def put (r : List Int) : List Int := Uv.enc r.length ++ r
def join : List (List Int) → List Int
  | [] => []
  | r :: rs => put r ++ join rs
theorem join_append : ∀ (a b : List (List Int)), join (a ++ b) = join a ++ join b
  | [], _ => rfl
  | r :: rs, b => by simp [join, join_append rs b, List.append_assoc]
theorem put_len (r : List Int) (h : r.length ≤ 1200) : (put r).length = Uv.len r.length + r.length := by
  unfold put
  rw [List.length_append, Uv.enc_length _ (by omega)]
theorem len_one (n : Nat) (h : n ≤ 127) : Uv.len n = 1 := Uv.len_unique n 0 (by omega) (by simp; omega) (fun j hj => by omega)
theorem len_two (n : Nat) (h : 127 < n) (h2 : n ≤ 1200) : Uv.len n = 2 := Uv.len_unique n 1 (by omega) (by simp; omega) (fun j hj => by
  obtain rfl : j = 0 := by omega
  simp; omega)
theorem put_got (r rest : List Int) (h : r.length ≤ 1200) : Uv.code (put r ++ rest) = 0 ∧ Uv.val (put r ++ rest) = (r.length : Int) ∧ Uv.size (put r ++ rest) = Uv.len r.length := by
  have := Uv.got_enc r.length (r ++ rest) (by omega)
  unfold put Uv.code Uv.val Uv.size
  rw [List.append_assoc, this]
  simp
theorem put_code (r rest : List Int) (h : r.length ≤ 1200) : code (put r ++ rest) = 0 := by
  have ⟨h1, h2, h3⟩ := put_got r rest h
  have := put_len r h
  unfold code
  rw [h1, h2, h3, if_neg (by simp), if_neg (by omega), if_neg (by simp; omega)]
theorem put_size (r rest : List Int) (h : r.length ≤ 1200) : size (put r ++ rest) = (put r).length := by
  have ⟨h1, h2, h3⟩ := put_got r rest h
  rw [(size_ok (put_code r rest h)).1, h2, h3, put_len r h]
  simp
theorem put_row (r rest : List Int) (h : r.length ≤ 1200) : row (put r ++ rest) = r := by
  have ⟨h1, h2, h3⟩ := put_got r rest h
  unfold row
  rw [if_pos (put_code r rest h), h2, h3]
  unfold put
  rw [List.append_assoc, ← Uv.enc_length r.length (by omega), List.drop_left]
  simp
theorem join_rows : ∀ (rs : List (List Int)) (rest : List Int), (∀ r ∈ rs, r.length ≤ 1200) → rows (join rs ++ rest) = rs ++ rows rest ∧ stop (join rs ++ rest) = stop rest
  | [], _, _ => ⟨rfl, rfl⟩
  | r :: rs, rest, h => by
    have hr := h r (by simp)
    have hi := join_rows rs rest (fun x hx => h x (by simp [hx]))
    have e : join (r :: rs) ++ rest = put r ++ (join rs ++ rest) := by simp [join]
    rw [e, (rows_yes (put_code r _ hr)).1, (rows_yes (put_code r _ hr)).2, put_row r _ hr, put_size r _ hr, List.drop_left, hi.1, hi.2]
    simp
theorem cut_put (r : List Int) (k : Nat) (h : r.length ≤ 1200) (hk : k < (put r).length) (h0 : 0 < k) : code ((put r).take k) = 2 := by
  have hl := put_len r h
  have hp := Uv.len_pos r.length
  by_cases hk2 : k < Uv.len r.length
  · have e : (put r).take k = (Uv.enc r.length).take k := by
      unfold put
      rw [List.take_append_of_le_length (by rw [Uv.enc_length _ (by omega)]; omega)]
    have h9 := Uv.len_small r.length (by omega)
    have hel := Uv.enc_length r.length (by omega)
    have hg := Uv.got_short ((Uv.enc r.length).take k) (by simp; omega) (fun i hi => by
      simp at hi
      have := Uv.enc_hi r.length i (by omega) (by omega)
      simp only [List.getD, List.getElem?_take] at this ⊢
      rw [if_pos (by omega)]; omega)
    rw [e]
    unfold code Uv.code
    rw [hg]; simp
  · have e : (put r).take k = Uv.enc r.length ++ r.take (k - Uv.len r.length) := by
      unfold put
      rw [List.take_append, Uv.enc_length _ (by omega), List.take_of_length_le (by rw [Uv.enc_length _ (by omega)]; omega)]
    have hg := Uv.got_enc r.length (r.take (k - Uv.len r.length)) (by omega)
    have hl2 : ((put r).take k).length = k := by simp; omega
    unfold code
    rw [hl2, e]
    unfold Uv.code Uv.val Uv.size
    rw [hg]
    simp; omega
theorem join_cut : ∀ (rs : List (List Int)) (k : Nat), (∀ r ∈ rs, r.length ≤ 1200) → k < (join rs).length →
    stop ((join rs).take k) = 2 ∨ (stop ((join rs).take k) = 0 ∧ (rows ((join rs).take k)).length < rs.length)
  | [], k, _, hk => by simp [join] at hk
  | r :: rs, k, h, hk => by
    have hr := h r (by simp)
    by_cases hk2 : k < (put r).length
    · have e : (join (r :: rs)).take k = (put r).take k := by
        rw [join, List.take_append_of_le_length (by omega)]
      rw [e]
      rcases Nat.eq_zero_or_pos k with h0 | h0
      · subst h0
        exact .inr ⟨rfl, by simp [rows_nil]⟩
      · have hc := cut_put r k hr hk2 h0
        left
        rw [(rows_no (by intro e; have := congrArg List.length e; rw [List.length_take, List.length_nil] at this; omega) (by omega)).2, hc]
    · have e : (join (r :: rs)).take k = put r ++ (join rs).take (k - (put r).length) := by
        rw [join, List.take_append, List.take_of_length_le (by omega)]
      rw [join, List.length_append] at hk
      have hi := join_cut rs (k - (put r).length) (fun x hx => h x (by simp [hx])) (by omega)
      rw [e, (rows_yes (put_code r _ hr)).1, (rows_yes (put_code r _ hr)).2, put_size r _ hr, List.drop_left]
      rcases hi with hi | ⟨h1, h2⟩
      · exact .inl hi
      · exact .inr ⟨h1, by simp; omega⟩
theorem join_bd : ∀ (rs : List (List Int)), (∀ r ∈ rs, ∀ z ∈ r, 0 ≤ z ∧ z ≤ 255) → ∀ z ∈ join rs, 0 ≤ z ∧ z ≤ 255
  | [], _, z, hz => by simp [join] at hz
  | r :: rs, h, z, hz => by
    simp only [join, put, List.mem_append] at hz
    rcases hz with (hz | hz) | hz
    · exact Uv.enc_mem _ z hz
    · exact h r (by simp) z hz
    · exact join_bd rs (fun x hx => h x (by simp [hx])) z hz
theorem put_le (r : List Int) (h : r.length ≤ 1200) : (put r).length ≤ 1202 ∧ 1 ≤ (put r).length := by
  have := put_len r h
  by_cases h2 : r.length ≤ 127
  · have := len_one r.length h2; omega
  · have := len_two r.length (by omega) h; omega
theorem join_len : ∀ (rs : List (List Int)), (∀ r ∈ rs, r.length ≤ 1200) → (join rs).length ≤ 1202 * rs.length ∧ rs.length ≤ (join rs).length
  | [], _ => by simp [join]
  | r :: rs, h => by
    have := put_le r (h r (by simp))
    have := join_len rs (fun x hx => h x (by simp [hx]))
    simp [join]; omega

end Go.Proofs.YtebgfiibcmnfnaaDoor.Fr
