/-
  Plain arithmetic of numbers as bytes (pieces of seven bits), without any program: how many pieces a number has, what its bytes are, what number bytes begin with. No conditions beyond those that each lemma states.
-/
import Derived.Laws.BitsAllLaws
import Derived.Lib.BitFns
namespace Go.Proofs.YtebgfiibcmnfnaaDoor.Uv

/-! ### the number of which bytes are the pieces -/
def num : List Int → Int
  | [] => 0
  | z :: zs => z % 128 + 128 * num zs

theorem num_nonneg : ∀ l, 0 ≤ num l
  | [] => by simp [num]
  | z :: zs => by have := num_nonneg zs; simp only [num]; omega
theorem num_lt : ∀ l : List Int, num l < 128 ^ l.length
  | [] => by simp [num]
  | z :: zs => by
    have := num_lt zs
    simp only [num, List.length_cons, Int.pow_succ]
    generalize (128 : Int) ^ zs.length = P at *
    omega
theorem num_snoc : ∀ (l : List Int) (z : Int), num (l ++ [z]) = num l + 128 ^ l.length * (z % 128)
  | [], z => by simp [num]
  | y :: l, z => by
    have h := num_snoc l z
    simp only [List.cons_append, num, List.length_cons, Int.pow_succ, h]
    rw [Int.mul_add, ← Int.mul_assoc, Int.mul_comm 128 (128 ^ l.length)]
    omega
theorem take_snoc (l : List Int) (k : Nat) (h : k < l.length) : l.take (k + 1) = l.take k ++ [l.getD k 0] := by
  rw [List.take_succ_eq_append_getElem h]
  simp [List.getD, h]
theorem num_take (l : List Int) (k : Nat) (h : k < l.length) : num (l.take (k + 1)) = num (l.take k) + 128 ^ k * (l.getD k 0 % 128) := by
  rw [take_snoc l k h, num_snoc, List.length_take, Nat.min_eq_left (by omega)]
theorem num_take_lt (l : List Int) (k : Nat) : num (l.take k) < 128 ^ k := by
  have h1 := num_lt (l.take k)
  have h2 : (l.take k).length ≤ k := by simp; omega
  have h3 : 128 ^ (l.take k).length ≤ 128 ^ k := Nat.pow_le_pow_right (by omega) h2
  have h4 : ((128 ^ (l.take k).length : Nat) : Int) ≤ ((128 ^ k : Nat) : Int) := Int.ofNat_le.2 h3
  simp only [Int.natCast_pow] at h4
  exact Int.lt_of_lt_of_le h1 h4

/-! ### how many bytes say that another one follows -/
def lead : Nat → List Int → Nat
  | 0, _ => 0
  | _ + 1, [] => 0
  | f + 1, z :: zs => if 127 < z then lead f zs + 1 else 0

theorem lead_fuel : ∀ f l, lead f l ≤ f
  | 0, _ => by simp [lead]
  | f + 1, [] => by simp [lead]
  | f + 1, z :: zs => by have := lead_fuel f zs; simp only [lead]; split <;> omega
theorem lead_len : ∀ f l, lead f l ≤ l.length
  | 0, _ => by simp [lead]
  | f + 1, [] => by simp [lead]
  | f + 1, z :: zs => by have := lead_len f zs; simp only [lead, List.length_cons]; split <;> omega
theorem lead_all : ∀ f l i, i < lead f l → 127 < l.getD i 0
  | 0, _, _, h => by simp [lead] at h
  | f + 1, [], _, h => by simp [lead] at h
  | f + 1, z :: zs, i, h => by
    simp only [lead] at h
    split at h
    · rename_i hz
      cases i with
      | zero => simpa using hz
      | succ i => have := lead_all f zs i (by omega); simpa using this
    · omega
theorem lead_stop : ∀ f l, lead f l = f ∨ lead f l = l.length ∨ l.getD (lead f l) 0 ≤ 127
  | 0, _ => by simp [lead]
  | f + 1, [] => by simp [lead]
  | f + 1, z :: zs => by
    have := lead_stop f zs
    simp only [lead]
    split
    · rename_i hz
      rcases this with h | h | h
      · left; omega
      · right; left; simp only [List.length_cons]; omega
      · right; right; simpa using h
    · right; right; simp; omega
theorem lead_unique (f : Nat) (l : List Int) (k : Nat) (h1 : k ≤ f) (h2 : k ≤ l.length) (h3 : ∀ i, i < k → 127 < l.getD i 0)
    (h4 : k = f ∨ k = l.length ∨ l.getD k 0 ≤ 127) : lead f l = k := by
  have a1 := lead_fuel f l
  have a2 := lead_len f l
  have a3 := lead_all f l
  have a4 := lead_stop f l
  rcases Nat.lt_trichotomy (lead f l) k with h | h | h
  · have := h3 _ h
    rcases a4 with a | a | a <;> omega
  · exact h
  · have := a3 _ h
    rcases h4 with a | a | a <;> omega

/-! ### what bytes begin with -/
def got (zs : List Int) : Int × Int × Int :=
  if lead 9 zs = 9 then (0, 0, 4) else if lead 9 zs = zs.length then (0, 0, 2)
  else if 0 < lead 9 zs ∧ zs.getD (lead 9 zs) 0 = 0 then (0, 0, 3) else (num (zs.take (lead 9 zs + 1)), ((lead 9 zs + 1 : Nat) : Int), 0)

theorem got_limit (zs : List Int) (h : 9 ≤ zs.length) (ha : ∀ i, i < 9 → 127 < zs.getD i 0) : got zs = (0, 0, 4) := by
  have e := lead_unique 9 zs 9 (by omega) h ha (.inl rfl)
  simp [got, e]
theorem got_short (zs : List Int) (h : zs.length < 9) (ha : ∀ i, i < zs.length → 127 < zs.getD i 0) : got zs = (0, 0, 2) := by
  have e := lead_unique 9 zs zs.length (by omega) (by omega) ha (.inr (.inl rfl))
  have : ¬ zs.length = 9 := by omega
  simp [got, e, this]
theorem got_bad (zs : List Int) (k : Nat) (h9 : k < 9) (hl : k < zs.length) (ha : ∀ i, i < k → 127 < zs.getD i 0) (hz : zs.getD k 0 = 0) (h0 : 0 < k) : got zs = (0, 0, 3) := by
  have e := lead_unique 9 zs k (by omega) (by omega) ha (.inr (.inr (by omega)))
  have n1 : ¬ k = 9 := by omega
  have n2 : ¬ k = zs.length := by omega
  unfold got
  rw [e, if_neg n1, if_neg n2, if_pos ⟨h0, hz⟩]
theorem got_ok (zs : List Int) (k : Nat) (h9 : k < 9) (hl : k < zs.length) (ha : ∀ i, i < k → 127 < zs.getD i 0) (hz : zs.getD k 0 ≤ 127) (h0 : k = 0 ∨ ¬ zs.getD k 0 = 0) :
    got zs = (num (zs.take (k + 1)), ((k + 1 : Nat) : Int), 0) := by
  have e := lead_unique 9 zs k (by omega) (by omega) ha (.inr (.inr hz))
  have n1 : ¬ k = 9 := by omega
  have n2 : ¬ k = zs.length := by omega
  have n3 : ¬ (0 < k ∧ zs.getD k 0 = 0) := fun ⟨a, b⟩ => h0.elim (fun h => by omega) (fun h => h b)
  unfold got
  rw [e, if_neg n1, if_neg n2, if_neg n3]

/-! ### bits -/
theorem and128_hi (z : Int) (h0 : 128 ≤ z) (h1 : z ≤ 255) : bits .and .u8 z 128 = 128 := by
  rw [u8_and z 128 (by omega) (by omega) (by omega) (by omega)]
  have : ∀ n : Fin 128, (n.val + 128) &&& 128 = 128 := by decide +kernel
  have h := this ⟨z.toNat - 128, by omega⟩
  simp only at h
  rw [show z.toNat - 128 + 128 = z.toNat by omega] at h
  rw [show (128 : Int).toNat = 128 from rfl, h]; rfl
theorem and128_lo (z : Int) (h0 : 0 ≤ z) (h1 : z ≤ 127) : bits .and .u8 z 128 = 0 := by
  rw [u8_and z 128 (by omega) (by omega) (by omega) (by omega)]
  have : ∀ n : Fin 128, n.val &&& 128 = 0 := by decide +kernel
  have h := this ⟨z.toNat, by omega⟩
  simp only at h
  rw [show (128 : Int).toNat = 128 from rfl, h]; rfl
theorem andNot128 (z : Int) (h0 : 0 ≤ z) (h1 : z ≤ 255) : bits .andNot .u8 z 128 = z % 128 := by
  rw [u8_andNot z 128 (by omega) (by omega) (by omega) (by omega)]
  rw [show 255 - (128 : Int).toNat = 127 from rfl, nat_mask7]
  omega
theorem or128 (z : Int) (h0 : 0 ≤ z) (h1 : z ≤ 255) : bits .or .u8 z 128 = z % 128 + 128 := by
  rw [u8_or z 128 (by omega) (by omega) (by omega) (by omega)]
  have : ∀ n : Fin 256, n.val ||| 128 = n.val % 128 + 128 := by decide +kernel
  have h := this ⟨z.toNat, by omega⟩
  simp only at h
  rw [show (128 : Int).toNat = 128 from rfl, h]
  omega
theorem or_step_nat (V d i : Nat) (hV : V < 2 ^ i) (hd : d * 2 ^ i < 18446744073709551616) (hV2 : V < 18446744073709551616) :
    bits .or .u64 (V : Int) ((d * 2 ^ i : Nat) : Int) = ((V + d * 2 ^ i : Nat) : Int) := by
  rw [u64_or_nat V (d * 2 ^ i) hV2 hd, Nat.or_comm, nat_join i (d * 2 ^ i) V (by simp) hV, Nat.add_comm]
theorem pow_i (k : Nat) : (128 : Int) ^ k = 2 ^ (7 * k) := by
  rw [Int.pow_mul]; rfl
theorem or_step (V d : Int) (k : Nat) (hk : k ≤ 8) (hV0 : 0 ≤ V) (hV : V < 128 ^ k) (hd0 : 0 ≤ d) (hd : d ≤ 127) :
    bits .or .u64 V (IntKind.u64.wrap (d * 2 ^ (7 * k))) = V + 128 ^ k * d := by
  obtain ⟨V, rfl⟩ := Int.eq_ofNat_of_zero_le hV0
  obtain ⟨d, rfl⟩ := Int.eq_ofNat_of_zero_le hd0
  rw [pow_i k] at hV ⊢
  have e : ((d : Int) * 2 ^ (7 * k)) = ((d * 2 ^ (7 * k) : Nat) : Int) := by simp
  have hp : 2 ^ (7 * k) ≤ 72057594037927936 := Nat.pow_le_pow_right (n := 2) (i := 7 * k) (j := 56) (by omega) (by omega)
  have hm : d * 2 ^ (7 * k) ≤ 127 * 72057594037927936 := Nat.mul_le_mul (by omega) hp
  have hV' : V < 2 ^ (7 * k) := by have : ((2 ^ (7 * k) : Nat) : Int) = 2 ^ (7 * k) := by simp
                                   omega
  rw [e, IntKind.wrap_u64, Int.emod_eq_of_lt (by omega) (by omega), or_step_nat V d (7 * k) hV' (by omega) (by omega)]
  simp [Int.mul_comm]

/-! ### how many pieces a number has -/
def ulen : Nat → Nat → Nat
  | 0, _ => 1
  | f + 1, v => if v < 128 then 1 else ulen f (v / 128) + 1

theorem ulen_pos : ∀ f v, 1 ≤ ulen f v
  | 0, _ => by simp [ulen]
  | f + 1, v => by simp only [ulen]; split <;> omega
theorem ulen_le : ∀ f v, ulen f v ≤ f + 1
  | 0, _ => by simp [ulen]
  | f + 1, v => by have := ulen_le f (v / 128); simp only [ulen]; split <;> omega
theorem div_pow (v k : Nat) : v / 128 ^ (k + 1) = v / 128 / 128 ^ k := by
  rw [Nat.div_div_eq_div_mul, Nat.pow_succ, Nat.mul_comm]
theorem div_pow' (v k : Nat) : v / 128 ^ (k + 1) = v / 128 ^ k / 128 := by
  rw [Nat.div_div_eq_div_mul, Nat.pow_succ]
theorem ulen_last : ∀ f v, v < 128 ^ (f + 1) → v / 128 ^ (ulen f v - 1) < 128
  | 0, v, h => by simpa [ulen] using h
  | f + 1, v, h => by
    simp only [ulen]
    split
    · simpa
    · have p := ulen_pos f (v / 128)
      rw [show ulen f (v / 128) + 1 - 1 = (ulen f (v / 128) - 1) + 1 by omega, div_pow]
      exact ulen_last f (v / 128) (by rw [Nat.pow_succ] at h; omega)
theorem ulen_before : ∀ f v k, k + 1 < ulen f v → 128 ≤ v / 128 ^ k
  | 0, v, k, h => by simp [ulen] at h
  | f + 1, v, k, h => by
    simp only [ulen] at h
    split at h
    · omega
    · cases k with
      | zero => simp; omega
      | succ k => rw [div_pow]; exact ulen_before f (v / 128) k (by omega)
theorem ulen_unique (f v k : Nat) (hv : v < 128 ^ (f + 1)) (h1 : v / 128 ^ k < 128) (h2 : ∀ j, j < k → 128 ≤ v / 128 ^ j) : ulen f v = k + 1 := by
  have p := ulen_pos f v
  have l := ulen_last f v hv
  have b := ulen_before f v
  rcases Nat.lt_trichotomy (ulen f v) (k + 1) with h | h | h
  · have := h2 (ulen f v - 1) (by omega); omega
  · exact h
  · have := b k (by omega); omega

/-- how many bytes a number below 2^64 has (ten from 2^63 on) -/
def len (v : Nat) : Nat := ulen 9 v
theorem len_pos (v : Nat) : 1 ≤ len v := ulen_pos 9 v
theorem len_last (v : Nat) (h : v < 18446744073709551616) : v / 128 ^ (len v - 1) < 128 := ulen_last 9 v (by omega)
theorem len_before (v k : Nat) (h : k + 1 < len v) : 128 ≤ v / 128 ^ k := ulen_before 9 v k h
theorem len_unique (v k : Nat) (hv : v < 18446744073709551616) (h1 : v / 128 ^ k < 128) (h2 : ∀ j, j < k → 128 ≤ v / 128 ^ j) : len v = k + 1 :=
  ulen_unique 9 v k (by omega) h1 h2
theorem len_small (v : Nat) (h : v < 9223372036854775808) : len v ≤ 9 := by
  rcases Nat.lt_or_ge 9 (len v) with h' | h'
  · have := len_before v 8 h'; omega
  · exact h'
theorem len_big (v : Nat) (h : 9223372036854775808 ≤ v) (hv : v < 18446744073709551616) : len v = 10 := by
  refine len_unique v 9 hv (by omega) fun j hj => ?_
  rw [Nat.le_div_iff_mul_le (Nat.pow_pos (by omega))]
  have : 128 ^ j ≤ 128 ^ 8 := Nat.pow_le_pow_right (by omega) (by omega)
  omega
theorem len_mono (a b : Nat) (h : b ≤ a) (ha : a < 18446744073709551616) : len b ≤ len a := by
  rcases Nat.lt_or_ge (len a) (len b) with h' | h'
  · have p := len_pos a
    have h1 := len_before b (len a - 1) (by omega)
    have h2 := len_last a ha
    have h3 : b / 128 ^ (len a - 1) ≤ a / 128 ^ (len a - 1) := Nat.div_le_div_right h
    omega
  · exact h'

/-! ### bits.Len64 -/
theorem or_one_half (x : Nat) : (x ||| 1) / 2 = x / 2 := by
  rw [Nat.or_div_two]; simp
theorem or_one_lt (x : Nat) (h : x < 2 ^ 64) : x ||| 1 < 2 ^ 64 := Nat.or_lt_two_pow h (by decide)
theorem or_one_ne (x : Nat) : x ||| 1 ≠ 0 := by
  intro h
  have := Nat.right_le_or (n := x) (m := 1)
  omega
theorem bitLen_or_one (x : Nat) (h0 : x ≠ 0) (h : x < 2 ^ 64) : Lib.bitLen (x ||| 1) = Lib.bitLen x := by
  rw [Lib.bitLen_half _ (or_one_ne x) (or_one_lt x h), Lib.bitLen_half x h0 h, or_one_half]
theorem bitLen_tiny : ∀ n : Fin 128, (Lib.bitLen (n.val ||| 1) + 6) / 7 = 1 := by decide +kernel
theorem bitLen_ulen : ∀ f v, v < 128 ^ (f + 1) → v < 2 ^ 64 → (Lib.bitLen (v ||| 1) + 6) / 7 = ulen f v
  | 0, v, h, _ => by simpa [ulen] using bitLen_tiny ⟨v, by simpa using h⟩
  | f + 1, v, h, h64 => by
    simp only [ulen]
    split
    · rename_i hv; exact bitLen_tiny ⟨v, hv⟩
    · rename_i hv
      have ih := bitLen_ulen f (v / 128) (by rw [Nat.pow_succ] at h; omega) (by omega)
      rw [bitLen_or_one _ (by omega) (by omega)] at ih
      rw [bitLen_or_one v (by omega) h64, Lib.bitLen_shift 7 v (by omega) h64]
      rw [show (2 : Nat) ^ 7 = 128 from rfl]
      omega
theorem bitLen_len (v : Nat) (h : v < 18446744073709551616) : (Lib.bitLen (v ||| 1) + 6) / 7 = len v := bitLen_ulen 9 v (by omega) (by omega)

/-! ### a number as bytes -/
def byte (v n i : Nat) : Int := ((v / 128 ^ i % 128 + if i + 1 < n then 128 else 0 : Nat) : Int)
def enc (v : Nat) : List Int := if v < 9223372036854775808 then (List.range (len v)).map (byte v (len v)) else []

theorem byte_bd (v n i : Nat) : 0 ≤ byte v n i ∧ byte v n i ≤ 255 := by unfold byte; split <;> omega
theorem enc_length (v : Nat) (h : v < 9223372036854775808) : (enc v).length = len v := by simp [enc, h]
theorem enc_big (v : Nat) (h : ¬ v < 9223372036854775808) : enc v = [] := by simp [enc, h]
theorem enc_get (v i : Nat) (h : v < 9223372036854775808) (hi : i < len v) : (enc v).getD i 0 = byte v (len v) i := by
  simp [enc, h, List.getD, hi]
theorem enc_mem (v : Nat) (z : Int) (h : z ∈ enc v) : 0 ≤ z ∧ z ≤ 255 := by
  unfold enc at h
  split at h
  · obtain ⟨i, _, rfl⟩ := List.mem_map.1 h
    exact byte_bd _ _ _
  · simp at h
theorem num_range (v m : Nat) : ∀ n, num ((List.range n).map (byte v m)) = ((v % 128 ^ n : Nat) : Int)
  | 0 => by simp [num, Nat.mod_one]
  | n + 1 => by
    rw [List.range_succ, List.map_append, List.map_cons, List.map_nil, num_snoc, num_range v m n, List.length_map, List.length_range, Nat.mod_pow_succ]
    have : byte v m n % 128 = ((v / 128 ^ n % 128 : Nat) : Int) := by unfold byte; split <;> omega
    rw [this]
    simp
theorem lt_pow_len (v : Nat) (h : v < 18446744073709551616) : v < 128 ^ len v := by
  have p := len_pos v
  have l := len_last v h
  rw [Nat.div_lt_iff_lt_mul (Nat.pow_pos (by omega))] at l
  rw [show len v = (len v - 1) + 1 by omega, Nat.pow_succ, Nat.mul_comm]
  exact l
theorem num_enc (v : Nat) (h : v < 9223372036854775808) : num (enc v) = v := by
  unfold enc
  rw [if_pos h, num_range, Nat.mod_eq_of_lt (lt_pow_len v (by omega))]
theorem enc_hi (v i : Nat) (h : v < 9223372036854775808) (hi : i + 1 < len v) : 128 ≤ (enc v).getD i 0 := by
  rw [enc_get v i h (by omega)]; unfold byte; rw [if_pos hi]; omega
theorem enc_lo (v : Nat) (h : v < 9223372036854775808) : (enc v).getD (len v - 1) 0 ≤ 127 := by
  have p := len_pos v
  rw [enc_get v _ h (by omega)]; unfold byte; rw [if_neg (by omega)]; omega
theorem enc_last_val (v : Nat) (h : v < 9223372036854775808) : (enc v).getD (len v - 1) 0 = ((v / 128 ^ (len v - 1) : Nat) : Int) := by
  have p := len_pos v
  have l := len_last v (by omega)
  rw [enc_get v _ h (by omega)]; unfold byte; rw [if_neg (by omega), Nat.mod_eq_of_lt l]; simp
theorem enc_last_ne (v : Nat) (h : v < 9223372036854775808) (h2 : 1 < len v) : ¬ (enc v).getD (len v - 1) 0 = 0 := by
  have b := len_before v (len v - 2) (by omega)
  rw [enc_last_val v h, show len v - 1 = (len v - 2) + 1 by omega, div_pow']
  omega
/-- what is put is got, whatever stands behind -/
theorem got_enc (v : Nat) (rest : List Int) (h : v < 9223372036854775808) : got (enc v ++ rest) = ((v : Int), ((len v : Nat) : Int), 0) := by
  have p := len_pos v
  have q := len_small v h
  have el := enc_length v h
  have g : ∀ i, i < len v → (enc v ++ rest).getD i 0 = (enc v).getD i 0 := fun i hi => by
    simp [List.getD, List.getElem?_append_left (show i < (enc v).length by omega)]
  have e := got_ok (enc v ++ rest) (len v - 1) (by omega) (by simp; omega) (fun i hi => by
      rw [g i (by omega)]; have := enc_hi v i h (by omega); omega)
    (by rw [g _ (by omega)]; exact enc_lo v h)
    (by rw [g _ (by omega)]
        rcases Nat.lt_or_ge 1 (len v) with h2 | h2
        · exact .inr (enc_last_ne v h h2)
        · left; omega)
  rw [e, show len v - 1 + 1 = len v by omega, List.take_append_of_le_length (by omega), List.take_of_length_le (by omega), num_enc v h]

end Go.Proofs.YtebgfiibcmnfnaaDoor.Uv
