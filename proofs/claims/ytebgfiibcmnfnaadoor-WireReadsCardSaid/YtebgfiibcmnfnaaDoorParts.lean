/-
  Plain lists: the numbers of which bytes are made, one behind the other, with the places where they begin. No program, no conditions beyond those that each lemma states.
-/
import Derived.Test.YtebgfiibcmnfnaaDoorMath
namespace Go.Proofs.YtebgfiibcmnfnaaDoor.Uv

def code (zs : List Int) : Int := (got zs).2.2
def size (zs : List Int) : Nat := (got zs).2.1.toNat
def val (zs : List Int) : Int := (got zs).1

theorem got_cases (zs : List Int) : (code zs = 0 ∧ 1 ≤ size zs ∧ size zs ≤ zs.length ∧ got zs = (val zs, (size zs : Int), 0)) ∨ (0 < code zs ∧ code zs ≤ 4) := by
  unfold code size val got
  have h1 := lead_len 9 zs
  split
  · right; simp
  · split
    · right; simp
    · split
      · right; simp
      · left
        refine ⟨rfl, ?_, ?_, ?_⟩
        · simp
        · simp; omega
        · simp
theorem val_bd (zs : List Int) : 0 ≤ val zs ∧ val zs ≤ 9223372036854775807 := by
  unfold val got
  split
  · simp
  · split
    · simp
    · split
      · simp
      · refine ⟨num_nonneg _, ?_⟩
        have hf := lead_fuel 9 zs
        have h1 := num_take_lt zs (lead 9 zs + 1)
        have h2 : 128 ^ (lead 9 zs + 1) ≤ 128 ^ 9 := Nat.pow_le_pow_right (by omega) (by omega)
        have h4 : ((128 ^ (lead 9 zs + 1) : Nat) : Int) ≤ ((128 ^ 9 : Nat) : Int) := Int.ofNat_le.2 h2
        simp only [Int.natCast_pow] at h4
        have := Int.lt_of_lt_of_le h1 h4
        have e : (((128 : Nat) : Int) ^ 9) = 9223372036854775808 := by decide
        rw [e] at this
        simp only
        omega

def parts : Nat → Nat → List Int → List (Nat × Int)
  | 0, _, _ => []
  | f + 1, i, zs => if code zs = 0 then (i, val zs) :: parts f (i + size zs) (zs.drop (size zs)) else []
theorem parts_fuel : ∀ (f g i : Nat) (zs : List Int), zs.length < f → zs.length < g → parts f i zs = parts g i zs
  | 0, _, _, _, h, _ => by omega
  | _ + 1, 0, _, _, _, h => by omega
  | f + 1, g + 1, i, zs, hf, hg => by
    simp only [parts]
    split
    · rename_i h
      rcases got_cases zs with ⟨_, h1, h2, _⟩ | h'
      · rw [parts_fuel f g (i + size zs) (zs.drop (size zs)) (by simp; omega) (by simp; omega)]
      · omega
    · rfl
/-- the numbers of which zs is made, told from place i on -/
def each (i : Nat) (zs : List Int) : List (Nat × Int) := parts (zs.length + 1) i zs
theorem each_no {i : Nat} {zs : List Int} (h : ¬ code zs = 0) : each i zs = [] := by
  simp [each, parts, h]
theorem each_yes {i : Nat} {zs : List Int} (h : code zs = 0) : each i zs = (i, val zs) :: each (i + size zs) (zs.drop (size zs)) := by
  rcases got_cases zs with ⟨_, h1, h2, _⟩ | h'
  · rw [each, parts, if_pos h]
    congr 1
    exact parts_fuel _ _ _ _ (by simp; omega) (by omega)
  · omega
theorem each_nil (i : Nat) : each i [] = [] := each_no (by decide)
theorem parts_len : ∀ (f i : Nat) (zs : List Int), (parts f i zs).length ≤ zs.length
  | 0, _, _ => by simp [parts]
  | f + 1, i, zs => by
    simp only [parts]
    split
    · rename_i h
      rcases got_cases zs with ⟨_, h1, h2, _⟩ | h'
      · have := parts_len f (i + size zs) (zs.drop (size zs))
        simp only [List.length_cons, List.length_drop] at *
        omega
      · omega
    · simp
theorem each_len (i : Nat) (zs : List Int) : (each i zs).length ≤ zs.length := parts_len _ _ _
theorem parts_shift : ∀ (f i j : Nat) (zs : List Int), (parts f i zs).length = (parts f j zs).length
  | 0, _, _, _ => rfl
  | f + 1, i, j, zs => by
    simp only [parts]
    split
    · simp [parts_shift f (i + size zs) (j + size zs) (zs.drop (size zs))]
    · rfl
theorem each_shift (i j : Nat) (zs : List Int) : (each i zs).length = (each j zs).length := parts_shift _ _ _ _
theorem parts_vals : ∀ (f i j : Nat) (zs : List Int), (parts f i zs).map (·.2) = (parts f j zs).map (·.2)
  | 0, _, _, _ => rfl
  | f + 1, i, j, zs => by
    simp only [parts]
    split
    · simp [parts_vals f (i + size zs) (j + size zs) (zs.drop (size zs))]
    · rfl

/-- numbers one behind the other -/
def flat : List Nat → List Int
  | [] => []
  | v :: vs => enc v ++ flat vs
/-- numbers one behind the other, each where it begins, from place i on -/
def places : Nat → List Nat → List (Nat × Int)
  | _, [] => []
  | i, v :: vs => (i, (v : Int)) :: places (i + len v) vs
theorem each_enc (i v : Nat) (rest : List Int) (h : v < 9223372036854775808) : each i (enc v ++ rest) = (i, (v : Int)) :: each (i + len v) rest := by
  have g := got_enc v rest h
  have h1 : code (enc v ++ rest) = 0 := by simp [code, g]
  have h2 : size (enc v ++ rest) = len v := by simp [size, g]
  have h3 : val (enc v ++ rest) = v := by simp [val, g]
  rw [each_yes h1, h2, h3]
  congr 2
  have := enc_length v h
  rw [← this, List.drop_left]
theorem each_flat : ∀ (i : Nat) (vs : List Nat) (rest : List Int), (∀ v ∈ vs, v < 9223372036854775808) → each i (flat vs ++ rest) = places i vs ++ each (i + (flat vs).length) rest
  | i, [], rest, _ => by simp [flat, places]
  | i, v :: vs, rest, h => by
    have hv := h v (by simp)
    have ih := each_flat (i + len v) vs rest (fun x hx => h x (by simp [hx]))
    rw [flat, List.append_assoc, each_enc i v _ hv, ih, places]
    simp [enc_length v hv, Nat.add_assoc]
theorem places_length : ∀ (i : Nat) (vs : List Nat), (places i vs).length = vs.length
  | _, [] => rfl
  | i, v :: vs => by simp [places, places_length (i + len v) vs]
theorem flat_append : ∀ (a b : List Nat), flat (a ++ b) = flat a ++ flat b
  | [], b => rfl
  | v :: a, b => by simp [flat, flat_append a b]
theorem flat_bd : ∀ (vs : List Nat), ∀ z ∈ flat vs, 0 ≤ z ∧ z ≤ 255
  | [], z, h => by simp [flat] at h
  | v :: vs, z, h => by
    rcases List.mem_append.1 h with h | h
    · exact enc_mem v z h
    · exact flat_bd vs z h
theorem flat_len : ∀ (vs : List Nat), (flat vs).length ≤ 9 * vs.length
  | [] => by simp [flat]
  | v :: vs => by
    have := flat_len vs
    have h1 : (enc v).length ≤ 9 := by
      by_cases h : v < 9223372036854775808
      · rw [enc_length v h]; exact len_small v h
      · rw [enc_big v h]; simp
    simp only [flat, List.length_append, List.length_cons]
    omega
theorem places_at : ∀ (i : Nat) (vs : List Nat) (k : Nat), (∀ v ∈ vs, v < 9223372036854775808) → k < vs.length → (places i vs)[k]? = some (i + (flat (vs.take k)).length, ((vs.getD k 0 : Nat) : Int))
  | _, [], k, _, h => by simp at h
  | i, v :: vs, 0, _, _ => by simp [places, flat]
  | i, v :: vs, k + 1, hs, h => by
    simp only [places, List.take_succ_cons, flat, List.length_append]
    rw [List.getElem?_cons_succ, places_at (i + len v) vs k (fun x hx => hs x (by simp [hx])) (by simpa using h)]
    simp [enc_length v (hs v (by simp)), Nat.add_assoc]
theorem drop_step {zs : List Int} {i : Nat} (h : code (zs.drop i) = 0) : each i (zs.drop i) = (i, val (zs.drop i)) :: each (i + size (zs.drop i)) (zs.drop (i + size (zs.drop i))) := by
  rw [each_yes h, List.drop_drop]

end Go.Proofs.YtebgfiibcmnfnaaDoor.Uv
