/-
  Plain words on a notary's entries: peers and texts as they lie in memory, and as a map's keys; what a map of tags says of a list of entries. Conditions: as each lemma states.
  Plain arithmetic of numbers as bytes (pieces of seven bits), without any program: how many pieces a number has, what its bytes are, what number bytes begin with. No conditions beyond those that each lemma states.
  Contracts of embrasure/uvar.Get and of the document's own embrasureref01.Get: both answer what 'Uv.got' says of the bytes, and leave memory alone. Conditions: the slice reads as the list zs of bytes.
-/
import Derived.Test.YtdiilgedicfekaaDoorRows
import Derived.WalkKit
import Derived.WalkSpells
import Derived.WalkLawsBesides
import Derived.Below
import Derived.Lib.Hide
import Derived.Laws.OwnMore
import Derived.Maps.AppendAt
import Derived.Maps.OwnSet
import Derived.DeepKeys4
import Derived.Deep.QuietTactic
import Derived.BigQuiet
import Derived.Laws.BitsAllLaws
import Derived.Lib.BitFns
namespace Go.Proofs.YtdiilgedicfekaaDoor
open Go.RowKit Go.Maps
set_option linter.unusedVariables false
theorem laidOut : laidOutB Tryd.prog = true := by kernel_rfl
theorem nTypes : Tryd.prog.types.size = 141 := by kernel_rfl
theorem law : Keyed Tryd.prog 94 := Keyed.of_law (deep_law_laid laidOut (m := 20) (by omega) (by rw [nTypes]; decide) (by kernel_rfl) (by kernel_rfl))
theorem keyT : Tryd.prog.keyType 94 = true := by kernel_rfl
theorem cellsOf48 : Tryd.prog.cellsOf 94 = 2 := by kernel_rfl
theorem cellsOf3 : Tryd.prog.cellsOf 3 = 1 := by kernel_rfl
theorem cellsOf9 : Tryd.prog.cellsOf 9 = 1 := by kernel_rfl
/-- an entry as it lies in memory -/
def ent (p : Int) (s : ByteArray) : Value := .agg #[.int .i64 p, .string s]
/-- what it reads as, as a key -/
def key (p : Int) (s : ByteArray) : Lit := .string (keyBytes [.int .i64 p, .string s.data.toList])
theorem key_mk (p : Int) (s : ByteArray) (hp : (Lit.int .i64 p).wf = true) (hs : s.size ≤ maxLen) : keyOf Tryd.prog 94 (ent p s) = some (key p s) := by
  unfold keyOf ent key
  simp only [Tryd.underlying94]
  rw [if_pos (by simp [keyT, Value.formed, Tryd.underlying94, cellsOf48]), nTypes]
  unfold Program.keyLits
  simp only [Tryd.underlying94, Value.cells]
  rw [if_pos (by rw [cellsOf48]; exact ⟨rfl, by kernel_rfl⟩)]
  have e1 : Tryd.prog.keyLits 141 3 [.int .i64 p] = some [.int .i64 p] := by simp only [Program.keyLits, Tryd.underlying3]; exact if_pos ⟨trivial, hp⟩
  have e2 : Tryd.prog.keyLits 141 9 [.string s] = some [.string s.data.toList] := by simp only [Program.keyLits, Tryd.underlying9]; exact if_pos hs
  simp only [List.mapM_cons, List.mapM_nil, List.drop_zero, cellsOf3, cellsOf9, List.drop_succ_cons, List.take_succ_cons, List.take_zero, e1, e2]
  rfl
theorem key_inj {p q : Int} {s t : ByteArray} (hp : (Lit.int .i64 p).wf = true) (hs : s.size ≤ maxLen) (hq : (Lit.int .i64 q).wf = true) (ht : t.size ≤ maxLen) (h : key p s = key q t) : p = q ∧ s = t := by
  have h1 := key_mk p s hp hs
  rw [h] at h1
  have := law.inj h1 (key_mk q t hq ht)
  simpa [ent] using this

abbrev Item := Int × List Int
def Bd (zs : List Int) : Prop := ∀ z ∈ zs, 0 ≤ z ∧ z ≤ 255
/-- bytes as a string -/
def str (zs : List Int) : ByteArray := ⟨(zs.map fun z => UInt8.ofNat z.toNat).toArray⟩
theorem str_size (zs : List Int) : (str zs).size = zs.length := by simp [str, ByteArray.size]
theorem u8_inj {a b : Int} (ha : 0 ≤ a ∧ a ≤ 255) (hb : 0 ≤ b ∧ b ≤ 255) (h : UInt8.ofNat a.toNat = UInt8.ofNat b.toNat) : a = b := by
  have := congrArg UInt8.toNat h
  simp only [UInt8.toNat_ofNat'] at this
  omega
theorem str_inj : ∀ {xs ys : List Int}, Bd xs → Bd ys → str xs = str ys → xs = ys := by
  intro xs ys hx hy h
  have h1 : xs.map (fun z => UInt8.ofNat z.toNat) = ys.map (fun z => UInt8.ofNat z.toNat) := by
    have := congrArg (fun b : ByteArray => b.data.toList) h
    simpa [str] using this
  clear h
  induction xs generalizing ys with
  | nil => cases ys with
    | nil => rfl
    | cons y ys => simp at h1
  | cons x xs ih => cases ys with
    | nil => simp at h1
    | cons y ys =>
      simp only [List.map_cons, List.cons.injEq] at h1
      rw [u8_inj (hx x (by simp)) (hy y (by simp)) h1.1, ih (fun z hz => hx z (by simp [hz])) (fun z hz => hy z (by simp [hz])) h1.2]

/-- a peer's number and a text that may be asked for -/
def Ok (x : Item) : Prop := (Lit.int .i64 x.1).wf = true ∧ Bd x.2 ∧ x.2.length ≤ maxLen
def keyx (x : Item) : Lit := key x.1 (str x.2)
theorem keyx_mk {x : Item} (h : Ok x) : keyOf Tryd.prog 94 (ent x.1 (str x.2)) = some (keyx x) := key_mk _ _ h.1 (by rw [str_size]; exact h.2.2)
theorem keyx_inj {x y : Item} (hx : Ok x) (hy : Ok y) (h : keyx x = keyx y) : x = y := by
  obtain ⟨h1, h2⟩ := key_inj hx.1 (by rw [str_size]; exact hx.2.2) hy.1 (by rw [str_size]; exact hy.2.2) h
  exact Prod.ext h1 (str_inj hx.2.1 hy.2.1 h2)
theorem keyx_isKey {x : Item} (h : Ok x) : WideAt.IsKeyLit (keyx x) := law.key (keyx_mk h)

/-- the tag of an entry among the entries (or that of the next one) -/
def tagL (L : List Item) (x : Item) : Nat := L.idxOf x + 1
/-- the entries behind a mint -/
def mintL (L : List Item) (x : Item) : List Item := if x ∈ L then L else L ++ [x]
theorem tagL_new {L : List Item} {x : Item} (h : x ∉ L) : tagL L x = L.length + 1 := by unfold tagL; rw [List.idxOf_eq_length h]
theorem tagL_mem {L : List Item} {x : Item} (h : x ∈ L) : tagL L x ≤ L.length := by unfold tagL; have := List.idxOf_lt_length_of_mem h; omega
theorem mintL_len (L : List Item) (x : Item) : (mintL L x).length ≤ L.length + 1 := by unfold mintL; split <;> simp

/-- a map of tags says of each entry its number -/
structure Tags (D : DataW Unit) (L : List Item) : Prop where
  isMap : IsMap D
  nodup : L.Nodup
  good : ∀ x ∈ L, Ok x
  has : ∀ x, Ok x → Maps.has D (keyx x) = decide (x ∈ L)
  tag : ∀ x ∈ L, D.atKey (keyx x) (.lit (.int .u64 0)) = .lit (.int .u64 (L.idxOf x + 1 : Nat))
theorem Tags.nil : Tags (.map []) [] := ⟨isMap_empty, List.nodup_nil, by simp, fun x _ => by simp [Maps.has], by simp⟩
theorem Tags.snoc {D : DataW Unit} {L : List Item} (h : Tags D L) {x : Item} (hx : Ok x) (hn : x ∉ L) : Tags (D.put (keyx x) (.lit (.int .u64 (L.length + 1 : Nat)))) (L ++ [x]) := by
  refine ⟨h.isMap.put _ _, ?_, ?_, ?_, ?_⟩
  · rw [List.nodup_append]
    refine ⟨h.nodup, by simp, ?_⟩
    intro a ha b hb
    simp only [List.mem_singleton] at hb
    subst hb
    exact fun e => hn (e ▸ ha)
  · intro y hy
    rcases List.mem_append.1 hy with h1 | h1
    · exact h.good y h1
    · simp only [List.mem_singleton] at h1; subst h1; exact hx
  · intro y hy
    by_cases e : y = x
    · subst e
      rw [has_put_same h.isMap (keyx_isKey hx)]
      simp
    · rw [has_put_other (fun e2 => e (keyx_inj hy hx e2)), h.has y hy]
      simp [e]
  · intro y hy
    by_cases e : y = x
    · subst e
      rw [atKey_put_same h.isMap (keyx_isKey hx), List.idxOf_append, if_neg hn]
      simp
    · have hy' : y ∈ L := by simpa [e] using hy
      rw [atKey_put_other (fun e2 => e (keyx_inj (h.good y hy') hx e2)), h.tag y hy', List.idxOf_append, if_pos hy']

/-- entries, cell by cell -/
def cellsL (L : List Item) : List Value := L.flatMap fun x => [.int .i64 x.1, .string (str x.2)]
theorem cellsL_snoc (L : List Item) (x : Item) : cellsL (L ++ [x]) = cellsL L ++ [.int .i64 x.1, .string (str x.2)] := by simp [cellsL]
theorem cellsL_len (L : List Item) : (cellsL L).length = L.length * 2 := by
  induction L with
  | nil => rfl
  | cons x L ih => simp [cellsL] at ih ⊢; omega
theorem cellsL_at : ∀ (L : List Item) (j : Nat) (x : Item), L[j]? = some x → (cellsL L)[j * 2]? = some (.int .i64 x.1) ∧ (cellsL L)[j * 2 + 1]? = some (.string (str x.2))
  | [], j, x, h => by simp at h
  | y :: L, 0, x, h => by
    simp only [List.getElem?_cons_zero, Option.some.injEq] at h
    subst h
    exact ⟨rfl, rfl⟩
  | y :: L, j + 1, x, h => by
    have := cellsL_at L j x (by simpa using h)
    have e : cellsL (y :: L) = .int .i64 y.1 :: .string (str y.2) :: cellsL L := rfl
    rw [e, show (j + 1) * 2 = j * 2 + 1 + 1 by omega]
    simpa using this

end Go.Proofs.YtdiilgedicfekaaDoor
namespace Go.Proofs.YtdiilgedicfekaaDoor.Uv

/-! ### the number of which bytes are the pieces -/
def num : List Int → Int
  | [] => 0
  | z :: zs => z % 128 + 128 * num zs

theorem num_nonneg : ∀ l, 0 ≤ num l
  | [] => by simp [num]
  | z :: zs => by have := num_nonneg zs; simp only [num]; omega
theorem num_lt : ∀ l : List Int, num l < 128 ^ l.length
  | [] => by simp [num]
  | z :: zs => by
    have := num_lt zs
    simp only [num, List.length_cons, Int.pow_succ]
    generalize (128 : Int) ^ zs.length = P at *
    omega
theorem num_snoc : ∀ (l : List Int) (z : Int), num (l ++ [z]) = num l + 128 ^ l.length * (z % 128)
  | [], z => by simp [num]
  | y :: l, z => by
    have h := num_snoc l z
    simp only [List.cons_append, num, List.length_cons, Int.pow_succ, h]
    rw [Int.mul_add, ← Int.mul_assoc, Int.mul_comm 128 (128 ^ l.length)]
    omega
theorem take_snoc (l : List Int) (k : Nat) (h : k < l.length) : l.take (k + 1) = l.take k ++ [l.getD k 0] := by
  rw [List.take_succ_eq_append_getElem h]
  simp [List.getD, h]
theorem num_take (l : List Int) (k : Nat) (h : k < l.length) : num (l.take (k + 1)) = num (l.take k) + 128 ^ k * (l.getD k 0 % 128) := by
  rw [take_snoc l k h, num_snoc, List.length_take, Nat.min_eq_left (by omega)]
theorem num_take_lt (l : List Int) (k : Nat) : num (l.take k) < 128 ^ k := by
  have h1 := num_lt (l.take k)
  have h2 : (l.take k).length ≤ k := by simp; omega
  have h3 : 128 ^ (l.take k).length ≤ 128 ^ k := Nat.pow_le_pow_right (by omega) h2
  have h4 : ((128 ^ (l.take k).length : Nat) : Int) ≤ ((128 ^ k : Nat) : Int) := Int.ofNat_le.2 h3
  simp only [Int.natCast_pow] at h4
  exact Int.lt_of_lt_of_le h1 h4

/-! ### how many bytes say that another one follows -/
def lead : Nat → List Int → Nat
  | 0, _ => 0
  | _ + 1, [] => 0
  | f + 1, z :: zs => if 127 < z then lead f zs + 1 else 0

theorem lead_fuel : ∀ f l, lead f l ≤ f
  | 0, _ => by simp [lead]
  | f + 1, [] => by simp [lead]
  | f + 1, z :: zs => by have := lead_fuel f zs; simp only [lead]; split <;> omega
theorem lead_len : ∀ f l, lead f l ≤ l.length
  | 0, _ => by simp [lead]
  | f + 1, [] => by simp [lead]
  | f + 1, z :: zs => by have := lead_len f zs; simp only [lead, List.length_cons]; split <;> omega
theorem lead_all : ∀ f l i, i < lead f l → 127 < l.getD i 0
  | 0, _, _, h => by simp [lead] at h
  | f + 1, [], _, h => by simp [lead] at h
  | f + 1, z :: zs, i, h => by
    simp only [lead] at h
    split at h
    · rename_i hz
      cases i with
      | zero => simpa using hz
      | succ i => have := lead_all f zs i (by omega); simpa using this
    · omega
theorem lead_stop : ∀ f l, lead f l = f ∨ lead f l = l.length ∨ l.getD (lead f l) 0 ≤ 127
  | 0, _ => by simp [lead]
  | f + 1, [] => by simp [lead]
  | f + 1, z :: zs => by
    have := lead_stop f zs
    simp only [lead]
    split
    · rename_i hz
      rcases this with h | h | h
      · left; omega
      · right; left; simp only [List.length_cons]; omega
      · right; right; simpa using h
    · right; right; simp; omega
theorem lead_unique (f : Nat) (l : List Int) (k : Nat) (h1 : k ≤ f) (h2 : k ≤ l.length) (h3 : ∀ i, i < k → 127 < l.getD i 0)
    (h4 : k = f ∨ k = l.length ∨ l.getD k 0 ≤ 127) : lead f l = k := by
  have a1 := lead_fuel f l
  have a2 := lead_len f l
  have a3 := lead_all f l
  have a4 := lead_stop f l
  rcases Nat.lt_trichotomy (lead f l) k with h | h | h
  · have := h3 _ h
    rcases a4 with a | a | a <;> omega
  · exact h
  · have := a3 _ h
    rcases h4 with a | a | a <;> omega

/-! ### what bytes begin with -/
def got (zs : List Int) : Int × Int × Int :=
  if lead 9 zs = 9 then (0, 0, 4) else if lead 9 zs = zs.length then (0, 0, 2)
  else if 0 < lead 9 zs ∧ zs.getD (lead 9 zs) 0 = 0 then (0, 0, 3) else (num (zs.take (lead 9 zs + 1)), ((lead 9 zs + 1 : Nat) : Int), 0)

theorem got_limit (zs : List Int) (h : 9 ≤ zs.length) (ha : ∀ i, i < 9 → 127 < zs.getD i 0) : got zs = (0, 0, 4) := by
  have e := lead_unique 9 zs 9 (by omega) h ha (.inl rfl)
  simp [got, e]
theorem got_short (zs : List Int) (h : zs.length < 9) (ha : ∀ i, i < zs.length → 127 < zs.getD i 0) : got zs = (0, 0, 2) := by
  have e := lead_unique 9 zs zs.length (by omega) (by omega) ha (.inr (.inl rfl))
  have : ¬ zs.length = 9 := by omega
  simp [got, e, this]
theorem got_bad (zs : List Int) (k : Nat) (h9 : k < 9) (hl : k < zs.length) (ha : ∀ i, i < k → 127 < zs.getD i 0) (hz : zs.getD k 0 = 0) (h0 : 0 < k) : got zs = (0, 0, 3) := by
  have e := lead_unique 9 zs k (by omega) (by omega) ha (.inr (.inr (by omega)))
  have n1 : ¬ k = 9 := by omega
  have n2 : ¬ k = zs.length := by omega
  unfold got
  rw [e, if_neg n1, if_neg n2, if_pos ⟨h0, hz⟩]
theorem got_ok (zs : List Int) (k : Nat) (h9 : k < 9) (hl : k < zs.length) (ha : ∀ i, i < k → 127 < zs.getD i 0) (hz : zs.getD k 0 ≤ 127) (h0 : k = 0 ∨ ¬ zs.getD k 0 = 0) :
    got zs = (num (zs.take (k + 1)), ((k + 1 : Nat) : Int), 0) := by
  have e := lead_unique 9 zs k (by omega) (by omega) ha (.inr (.inr hz))
  have n1 : ¬ k = 9 := by omega
  have n2 : ¬ k = zs.length := by omega
  have n3 : ¬ (0 < k ∧ zs.getD k 0 = 0) := fun ⟨a, b⟩ => h0.elim (fun h => by omega) (fun h => h b)
  unfold got
  rw [e, if_neg n1, if_neg n2, if_neg n3]

/-! ### bits -/
theorem and128_hi (z : Int) (h0 : 128 ≤ z) (h1 : z ≤ 255) : bits .and .u8 z 128 = 128 := by
  rw [u8_and z 128 (by omega) (by omega) (by omega) (by omega)]
  have : ∀ n : Fin 128, (n.val + 128) &&& 128 = 128 := by decide +kernel
  have h := this ⟨z.toNat - 128, by omega⟩
  simp only at h
  rw [show z.toNat - 128 + 128 = z.toNat by omega] at h
  rw [show (128 : Int).toNat = 128 from rfl, h]; rfl
theorem and128_lo (z : Int) (h0 : 0 ≤ z) (h1 : z ≤ 127) : bits .and .u8 z 128 = 0 := by
  rw [u8_and z 128 (by omega) (by omega) (by omega) (by omega)]
  have : ∀ n : Fin 128, n.val &&& 128 = 0 := by decide +kernel
  have h := this ⟨z.toNat, by omega⟩
  simp only at h
  rw [show (128 : Int).toNat = 128 from rfl, h]; rfl
theorem andNot128 (z : Int) (h0 : 0 ≤ z) (h1 : z ≤ 255) : bits .andNot .u8 z 128 = z % 128 := by
  rw [u8_andNot z 128 (by omega) (by omega) (by omega) (by omega)]
  rw [show 255 - (128 : Int).toNat = 127 from rfl, nat_mask7]
  omega
theorem or128 (z : Int) (h0 : 0 ≤ z) (h1 : z ≤ 255) : bits .or .u8 z 128 = z % 128 + 128 := by
  rw [u8_or z 128 (by omega) (by omega) (by omega) (by omega)]
  have : ∀ n : Fin 256, n.val ||| 128 = n.val % 128 + 128 := by decide +kernel
  have h := this ⟨z.toNat, by omega⟩
  simp only at h
  rw [show (128 : Int).toNat = 128 from rfl, h]
  omega
theorem or_step_nat (V d i : Nat) (hV : V < 2 ^ i) (hd : d * 2 ^ i < 18446744073709551616) (hV2 : V < 18446744073709551616) :
    bits .or .u64 (V : Int) ((d * 2 ^ i : Nat) : Int) = ((V + d * 2 ^ i : Nat) : Int) := by
  rw [u64_or_nat V (d * 2 ^ i) hV2 hd, Nat.or_comm, nat_join i (d * 2 ^ i) V (by simp) hV, Nat.add_comm]
theorem pow_i (k : Nat) : (128 : Int) ^ k = 2 ^ (7 * k) := by
  rw [Int.pow_mul]; rfl
theorem or_step (V d : Int) (k : Nat) (hk : k ≤ 8) (hV0 : 0 ≤ V) (hV : V < 128 ^ k) (hd0 : 0 ≤ d) (hd : d ≤ 127) :
    bits .or .u64 V (IntKind.u64.wrap (d * 2 ^ (7 * k))) = V + 128 ^ k * d := by
  obtain ⟨V, rfl⟩ := Int.eq_ofNat_of_zero_le hV0
  obtain ⟨d, rfl⟩ := Int.eq_ofNat_of_zero_le hd0
  rw [pow_i k] at hV ⊢
  have e : ((d : Int) * 2 ^ (7 * k)) = ((d * 2 ^ (7 * k) : Nat) : Int) := by simp
  have hp : 2 ^ (7 * k) ≤ 72057594037927936 := Nat.pow_le_pow_right (n := 2) (i := 7 * k) (j := 56) (by omega) (by omega)
  have hm : d * 2 ^ (7 * k) ≤ 127 * 72057594037927936 := Nat.mul_le_mul (by omega) hp
  have hV' : V < 2 ^ (7 * k) := by have : ((2 ^ (7 * k) : Nat) : Int) = 2 ^ (7 * k) := by simp
                                   omega
  rw [e, IntKind.wrap_u64, Int.emod_eq_of_lt (by omega) (by omega), or_step_nat V d (7 * k) hV' (by omega) (by omega)]
  simp [Int.mul_comm]

/-! ### how many pieces a number has -/
def ulen : Nat → Nat → Nat
  | 0, _ => 1
  | f + 1, v => if v < 128 then 1 else ulen f (v / 128) + 1

theorem ulen_pos : ∀ f v, 1 ≤ ulen f v
  | 0, _ => by simp [ulen]
  | f + 1, v => by simp only [ulen]; split <;> omega
theorem ulen_le : ∀ f v, ulen f v ≤ f + 1
  | 0, _ => by simp [ulen]
  | f + 1, v => by have := ulen_le f (v / 128); simp only [ulen]; split <;> omega
theorem div_pow (v k : Nat) : v / 128 ^ (k + 1) = v / 128 / 128 ^ k := by
  rw [Nat.div_div_eq_div_mul, Nat.pow_succ, Nat.mul_comm]
theorem div_pow' (v k : Nat) : v / 128 ^ (k + 1) = v / 128 ^ k / 128 := by
  rw [Nat.div_div_eq_div_mul, Nat.pow_succ]
theorem ulen_last : ∀ f v, v < 128 ^ (f + 1) → v / 128 ^ (ulen f v - 1) < 128
  | 0, v, h => by simpa [ulen] using h
  | f + 1, v, h => by
    simp only [ulen]
    split
    · simpa
    · have p := ulen_pos f (v / 128)
      rw [show ulen f (v / 128) + 1 - 1 = (ulen f (v / 128) - 1) + 1 by omega, div_pow]
      exact ulen_last f (v / 128) (by rw [Nat.pow_succ] at h; omega)
theorem ulen_before : ∀ f v k, k + 1 < ulen f v → 128 ≤ v / 128 ^ k
  | 0, v, k, h => by simp [ulen] at h
  | f + 1, v, k, h => by
    simp only [ulen] at h
    split at h
    · omega
    · cases k with
      | zero => simp; omega
      | succ k => rw [div_pow]; exact ulen_before f (v / 128) k (by omega)
theorem ulen_unique (f v k : Nat) (hv : v < 128 ^ (f + 1)) (h1 : v / 128 ^ k < 128) (h2 : ∀ j, j < k → 128 ≤ v / 128 ^ j) : ulen f v = k + 1 := by
  have p := ulen_pos f v
  have l := ulen_last f v hv
  have b := ulen_before f v
  rcases Nat.lt_trichotomy (ulen f v) (k + 1) with h | h | h
  · have := h2 (ulen f v - 1) (by omega); omega
  · exact h
  · have := b k (by omega); omega

/-- how many bytes a number below 2^64 has (ten from 2^63 on) -/
def len (v : Nat) : Nat := ulen 9 v
theorem len_pos (v : Nat) : 1 ≤ len v := ulen_pos 9 v
theorem len_last (v : Nat) (h : v < 18446744073709551616) : v / 128 ^ (len v - 1) < 128 := ulen_last 9 v (by omega)
theorem len_before (v k : Nat) (h : k + 1 < len v) : 128 ≤ v / 128 ^ k := ulen_before 9 v k h
theorem len_unique (v k : Nat) (hv : v < 18446744073709551616) (h1 : v / 128 ^ k < 128) (h2 : ∀ j, j < k → 128 ≤ v / 128 ^ j) : len v = k + 1 :=
  ulen_unique 9 v k (by omega) h1 h2
theorem len_small (v : Nat) (h : v < 9223372036854775808) : len v ≤ 9 := by
  rcases Nat.lt_or_ge 9 (len v) with h' | h'
  · have := len_before v 8 h'; omega
  · exact h'
theorem len_big (v : Nat) (h : 9223372036854775808 ≤ v) (hv : v < 18446744073709551616) : len v = 10 := by
  refine len_unique v 9 hv (by omega) fun j hj => ?_
  rw [Nat.le_div_iff_mul_le (Nat.pow_pos (by omega))]
  have : 128 ^ j ≤ 128 ^ 8 := Nat.pow_le_pow_right (by omega) (by omega)
  omega
theorem len_mono (a b : Nat) (h : b ≤ a) (ha : a < 18446744073709551616) : len b ≤ len a := by
  rcases Nat.lt_or_ge (len a) (len b) with h' | h'
  · have p := len_pos a
    have h1 := len_before b (len a - 1) (by omega)
    have h2 := len_last a ha
    have h3 : b / 128 ^ (len a - 1) ≤ a / 128 ^ (len a - 1) := Nat.div_le_div_right h
    omega
  · exact h'

/-! ### bits.Len64 -/
theorem or_one_half (x : Nat) : (x ||| 1) / 2 = x / 2 := by
  rw [Nat.or_div_two]; simp
theorem or_one_lt (x : Nat) (h : x < 2 ^ 64) : x ||| 1 < 2 ^ 64 := Nat.or_lt_two_pow h (by decide)
theorem or_one_ne (x : Nat) : x ||| 1 ≠ 0 := by
  intro h
  have := Nat.right_le_or (n := x) (m := 1)
  omega
theorem bitLen_or_one (x : Nat) (h0 : x ≠ 0) (h : x < 2 ^ 64) : Lib.bitLen (x ||| 1) = Lib.bitLen x := by
  rw [Lib.bitLen_half _ (or_one_ne x) (or_one_lt x h), Lib.bitLen_half x h0 h, or_one_half]
theorem bitLen_tiny : ∀ n : Fin 128, (Lib.bitLen (n.val ||| 1) + 6) / 7 = 1 := by decide +kernel
theorem bitLen_ulen : ∀ f v, v < 128 ^ (f + 1) → v < 2 ^ 64 → (Lib.bitLen (v ||| 1) + 6) / 7 = ulen f v
  | 0, v, h, _ => by simpa [ulen] using bitLen_tiny ⟨v, by simpa using h⟩
  | f + 1, v, h, h64 => by
    simp only [ulen]
    split
    · rename_i hv; exact bitLen_tiny ⟨v, hv⟩
    · rename_i hv
      have ih := bitLen_ulen f (v / 128) (by rw [Nat.pow_succ] at h; omega) (by omega)
      rw [bitLen_or_one _ (by omega) (by omega)] at ih
      rw [bitLen_or_one v (by omega) h64, Lib.bitLen_shift 7 v (by omega) h64]
      rw [show (2 : Nat) ^ 7 = 128 from rfl]
      omega
theorem bitLen_len (v : Nat) (h : v < 18446744073709551616) : (Lib.bitLen (v ||| 1) + 6) / 7 = len v := bitLen_ulen 9 v (by omega) (by omega)

/-! ### a number as bytes -/
def byte (v n i : Nat) : Int := ((v / 128 ^ i % 128 + if i + 1 < n then 128 else 0 : Nat) : Int)
def enc (v : Nat) : List Int := if v < 9223372036854775808 then (List.range (len v)).map (byte v (len v)) else []

theorem byte_bd (v n i : Nat) : 0 ≤ byte v n i ∧ byte v n i ≤ 255 := by unfold byte; split <;> omega
theorem enc_length (v : Nat) (h : v < 9223372036854775808) : (enc v).length = len v := by simp [enc, h]
theorem enc_big (v : Nat) (h : ¬ v < 9223372036854775808) : enc v = [] := by simp [enc, h]
theorem enc_get (v i : Nat) (h : v < 9223372036854775808) (hi : i < len v) : (enc v).getD i 0 = byte v (len v) i := by
  simp [enc, h, List.getD, hi]
theorem enc_mem (v : Nat) (z : Int) (h : z ∈ enc v) : 0 ≤ z ∧ z ≤ 255 := by
  unfold enc at h
  split at h
  · obtain ⟨i, _, rfl⟩ := List.mem_map.1 h
    exact byte_bd _ _ _
  · simp at h
theorem num_range (v m : Nat) : ∀ n, num ((List.range n).map (byte v m)) = ((v % 128 ^ n : Nat) : Int)
  | 0 => by simp [num, Nat.mod_one]
  | n + 1 => by
    rw [List.range_succ, List.map_append, List.map_cons, List.map_nil, num_snoc, num_range v m n, List.length_map, List.length_range, Nat.mod_pow_succ]
    have : byte v m n % 128 = ((v / 128 ^ n % 128 : Nat) : Int) := by unfold byte; split <;> omega
    rw [this]
    simp
theorem lt_pow_len (v : Nat) (h : v < 18446744073709551616) : v < 128 ^ len v := by
  have p := len_pos v
  have l := len_last v h
  rw [Nat.div_lt_iff_lt_mul (Nat.pow_pos (by omega))] at l
  rw [show len v = (len v - 1) + 1 by omega, Nat.pow_succ, Nat.mul_comm]
  exact l
theorem num_enc (v : Nat) (h : v < 9223372036854775808) : num (enc v) = v := by
  unfold enc
  rw [if_pos h, num_range, Nat.mod_eq_of_lt (lt_pow_len v (by omega))]
theorem enc_hi (v i : Nat) (h : v < 9223372036854775808) (hi : i + 1 < len v) : 128 ≤ (enc v).getD i 0 := by
  rw [enc_get v i h (by omega)]; unfold byte; rw [if_pos hi]; omega
theorem enc_lo (v : Nat) (h : v < 9223372036854775808) : (enc v).getD (len v - 1) 0 ≤ 127 := by
  have p := len_pos v
  rw [enc_get v _ h (by omega)]; unfold byte; rw [if_neg (by omega)]; omega
theorem enc_last_val (v : Nat) (h : v < 9223372036854775808) : (enc v).getD (len v - 1) 0 = ((v / 128 ^ (len v - 1) : Nat) : Int) := by
  have p := len_pos v
  have l := len_last v (by omega)
  rw [enc_get v _ h (by omega)]; unfold byte; rw [if_neg (by omega), Nat.mod_eq_of_lt l]; simp
theorem enc_last_ne (v : Nat) (h : v < 9223372036854775808) (h2 : 1 < len v) : ¬ (enc v).getD (len v - 1) 0 = 0 := by
  have b := len_before v (len v - 2) (by omega)
  rw [enc_last_val v h, show len v - 1 = (len v - 2) + 1 by omega, div_pow']
  omega
/-- what is put is got, whatever stands behind -/
theorem got_enc (v : Nat) (rest : List Int) (h : v < 9223372036854775808) : got (enc v ++ rest) = ((v : Int), ((len v : Nat) : Int), 0) := by
  have p := len_pos v
  have q := len_small v h
  have el := enc_length v h
  have g : ∀ i, i < len v → (enc v ++ rest).getD i 0 = (enc v).getD i 0 := fun i hi => by
    simp [List.getD, List.getElem?_append_left (show i < (enc v).length by omega)]
  have e := got_ok (enc v ++ rest) (len v - 1) (by omega) (by simp; omega) (fun i hi => by
      rw [g i (by omega)]; have := enc_hi v i h (by omega); omega)
    (by rw [g _ (by omega)]; exact enc_lo v h)
    (by rw [g _ (by omega)]
        rcases Nat.lt_or_ge 1 (len v) with h2 | h2
        · exact .inr (enc_last_ne v h h2)
        · left; omega)
  rw [e, show len v - 1 + 1 = len v by omega, List.take_append_of_le_length (by omega), List.take_of_length_le (by omega), num_enc v h]

end Go.Proofs.YtdiilgedicfekaaDoor.Uv
namespace Go.Proofs.YtdiilgedicfekaaDoor
open Go.RowKit
set_option linter.unusedVariables false
set_option maxRecDepth 100000

/-- the slice value '.slice A n c' reads, in w, as the bytes zs -/
def Bts (w : World) (A : Option Addr) (n : Nat) (zs : List Int) : Prop :=
  zs.length = n ∧ (∀ z ∈ zs, 0 ≤ z ∧ z ≤ 255) ∧
  (0 < n → ∃ b off, A = some ⟨b, off, none⟩ ∧ b < w.heap.size ∧ ∀ j, j < n → w.cell? ⟨b, off + j, none⟩ = some (.int .u8 (zs.getD j 0)))

theorem getD_bd {zs : List Int} (h : ∀ z ∈ zs, 0 ≤ z ∧ z ≤ 255) (j : Nat) : 0 ≤ zs.getD j 0 ∧ zs.getD j 0 ≤ 255 := by
  by_cases hj : j < zs.length
  · have := h zs[j] (List.getElem_mem hj)
    simpa [List.getD, hj] using this
  · simp [List.getD, List.getElem?_eq_none (by omega : zs.length ≤ j)]

def tup (t : Int × Int × Int) : Value := .tuple #[.int .u64 t.1, .int .i64 t.2.1, .int .i64 t.2.2]

theorem tup_eq {t : Int × Int × Int} {a b c : Int} (h : t = (a, b, c)) : Ending.returned (.tuple #[.int .u64 a, .int .i64 b, .int .i64 c]) = .returned (tup t) := by
  subst h; rfl

def Sofar (zs : List Int) (k : Nat) : Prop := ∀ i, i < k → 127 < zs.getD i 0
theorem Sofar.zero (zs : List Int) : Sofar zs 0 := fun i h => by omega
theorem Sofar.succ {zs : List Int} {k : Nat} {z : Int} (h : Sofar zs k) (hz : zs.getD k 0 = z) (h1 : 128 ≤ z) : Sofar zs (k + 1) := fun i hi => by
  rcases Nat.lt_or_ge i k with h' | h'
  · exact h i h'
  · obtain rfl : i = k := by omega
    omega
theorem val_step {zs : List Int} {k : Nat} {z V : Int} (hk : k ≤ 8) (hl : k < zs.length) (hz : zs.getD k 0 = z) (hV : V = Uv.num (zs.take k)) :
    bits .or .u64 V (IntKind.u64.wrap ((z % 128) * 2 ^ (7 * k))) = Uv.num (zs.take (k + 1)) := by
  have h0 := Uv.num_nonneg (zs.take k)
  have h1 := Uv.num_take_lt zs k
  subst hV
  rw [Uv.or_step _ _ k hk h0 h1 (by omega) (by omega), Uv.num_take zs k hl, hz]
theorem num_u64 {zs : List Int} {k : Nat} (hk : k ≤ 9) : 0 ≤ Uv.num (zs.take k) ∧ Uv.num (zs.take k) ≤ 9223372036854775807 := by
  refine ⟨Uv.num_nonneg _, ?_⟩
  have h1 := Uv.num_take_lt zs k
  have h2 : 128 ^ k ≤ 128 ^ 9 := Nat.pow_le_pow_right (by omega) hk
  have h4 : ((128 ^ k : Nat) : Int) ≤ ((128 ^ 9 : Nat) : Int) := Int.ofNat_le.2 h2
  simp only [Int.natCast_pow] at h4
  have := Int.lt_of_lt_of_le h1 h4
  have e : (((128 : Nat) : Int) ^ 9) = 9223372036854775808 := by decide
  rw [e] at this
  omega

theorem ok_end {zs : List Int} {k : Nat} {z V : Int} (hk : k ≤ 8) (hl : k < zs.length) (hS : Sofar zs k) (hz : zs.getD k 0 = z) (hz1 : z ≤ 127) (h0 : k = 0 ∨ ¬ z = 0)
    (hV : V = Uv.num (zs.take k)) : Uv.got zs = (bits .or .u64 V (IntKind.u64.wrap ((z % 128) * 2 ^ (7 * k))), (k : Int) + 1, 0) := by
  rw [val_step hk hl hz hV, Uv.got_ok zs k (by omega) hl hS (by omega) (by rw [hz]; exact h0)]
  simp
theorem bad_end {zs : List Int} {k : Nat} {z : Int} (hk : k ≤ 8) (hl : k < zs.length) (hS : Sofar zs k) (hz : zs.getD k 0 = z) (hz1 : z = 0) (h0 : 0 < k) : Uv.got zs = (0, 0, 3) :=
  Uv.got_bad zs k (by omega) hl hS (by omega) h0

set_option maxHeartbeats 1000000 in
theorem get_some (b off n c : Nat) (zs : List Int) (w : World) (hn : 0 < n) (hnc : n ≤ c) (hc : c ≤ maxLen) (hl : zs.length = n) (hbd : ∀ z ∈ zs, 0 ≤ z ∧ z ≤ 255)
    (hz : ∀ j, j < n → w.cell? ⟨b, off + j, none⟩ = some (.int .u8 (zs.getD j 0))) :
    Calls Tryd.prog 68 #[.slice (some ⟨b, off, none⟩) n c] w fun e w' => e = .returned (tup (Uv.got zs)) ∧ w = w' := by
  unfold maxLen at hc
  have HL := Lib.hid hl; clear hl
  have HZ := Lib.hid hz; clear hz
  have HB := Lib.hid hbd; clear hbd
  obtain ⟨m, hmn, hm9, hmm⟩ : ∃ m, m ≤ n ∧ m ≤ 9 ∧ ((n ≤ 9 ∧ n ≤ m) ∨ (9 < n ∧ 9 ≤ m)) := ⟨min n 9, by omega, by omega, by omega⟩
  rcases hmm with ⟨hn9, hmm⟩ | ⟨hn9, hmm⟩
  all_goals
    go_enter Tryd.func68, Tryd.ntmps68
    go_wp2
    go_loop [14, 5] (fun i v => ∃ (k : Nat) (V : Int), k ≤ m ∧ i = .int .i64 k ∧ v = .int .u64 V ∧ V = Uv.num (zs.take k) ∧ Sofar zs k) (fun i _ => m - (intOf i).toNat)
    case atStart => exact ⟨0, 0, by omega, rfl, rfl, by simp [Uv.num], Sofar.zero zs⟩
    case round =>
      obtain ⟨k, V, hk, rfl, rfl, hV, hS⟩ := hrel
      have HV := Lib.hid hV; clear hV
      have HS := Lib.hid hS; clear hS
      by_cases hkn : k < m
      · have hkn' : k < n := by omega
        have hk9 : k < 9 := by omega
        have hcell := HZ.out k hkn'
        have hb := getD_bd HB.out k
        obtain ⟨z, hzz⟩ : ∃ z, zs.getD k 0 = z := ⟨_, rfl⟩
        rw [hzz] at hcell hb
        have HZZ := Lib.hid hzz; clear hzz
        obtain ⟨hz0, hz1⟩ := hb
        have e2 := Uv.andNot128 z hz0 hz1
        by_cases h128 : 128 ≤ z
        · have e1 := Uv.and128_hi z h128 hz1
          go_wp2
          go_round
          case rel => exact ⟨k + 1, _, by omega, by go_num, rfl, val_step (by omega) (by have := HL.out; omega) HZZ.out HV.out, HS.out.succ HZZ.out h128⟩
          case measure => simp [intOf]; omega
        · have e1 := Uv.and128_lo z hz0 (by omega)
          have hkl : k < zs.length := by have := HL.out; omega
          by_cases hzk : z = 0 ∧ 0 < k
          · have E := Lib.hid (bad_end (by omega) hkl HS.out HZZ.out hzk.1 hzk.2)
            obtain ⟨hzk1, hzk2⟩ := hzk
            have hzk3 : (z == 0) = true := by simp [hzk1]
            clear hzk1
            go_wp2
            go_ret3
            exact ⟨tup_eq E.out, rfl⟩
          · have E := Lib.hid (ok_end (by omega) hkl HS.out HZZ.out (by omega) (by omega) HV.out)
            clear HS HV HZZ HZ HB HL
            by_cases hz3 : z = 0
            · have hzk3 : (z == 0) = true := by simp [hz3]
              have hk0 : k ≤ 0 := by omega
              clear hzk hz3
              go_wp2
              go_ret3
              exact ⟨tup_eq E.out, rfl⟩
            · have hzk3 : (z == 0) = false := by simp [hz3]
              clear hzk hz3
              go_wp2
              go_ret3
              exact ⟨tup_eq E.out, rfl⟩
      · by_cases hlt : n < 9
        · have E := Lib.hid (Uv.got_short zs (by have := HL.out; omega) (fun i hi => HS.out i (by have := HL.out; omega)))
          clear HS HV HZ HB HL
          go_wp2
          all_goals (go_ret3; exact ⟨tup_eq E.out, rfl⟩)
        · have E := Lib.hid (Uv.got_limit zs (by have := HL.out; omega) (fun i hi => HS.out i (by have := HL.out; omega)))
          clear HS HV HZ HB HL
          go_wp2
          all_goals (go_ret3; exact ⟨tup_eq E.out, rfl⟩)

set_option maxHeartbeats 1000000 in
theorem get_none (A : Option Addr) (c : Nat) (w : World) :
    Calls Tryd.prog 68 #[.slice A 0 c] w fun e w' => e = .returned (tup (Uv.got [])) ∧ w = w' := by
  go_enter Tryd.func68, Tryd.ntmps68
  go_wp2
  refine wp_loop_rounds 1 ?_
  rw [rounds_succ]
  go_wp2
  go_ret3
  exact ⟨tup_eq (Uv.got_short [] (by simp) (by simp)), rfl⟩

/-- uvar.Get, whatever the bytes -/
theorem get_any (A : Option Addr) (n c : Nat) (zs : List Int) (w : World) (hnc : n ≤ c) (hc : c ≤ maxLen) (h : Bts w A n zs) :
    Calls Tryd.prog 68 #[.slice A n c] w fun e w' => e = .returned (tup (Uv.got zs)) ∧ w = w' := by
  obtain ⟨hl, hbd, hcell⟩ := h
  rcases Nat.eq_zero_or_pos n with h0 | h0
  · subst h0
    obtain rfl : zs = [] := List.eq_nil_of_length_eq_zero hl
    exact get_none A c w
  · obtain ⟨b, off, rfl, _, hz⟩ := hcell h0
    exact get_some b off n c zs w h0 hnc hc hl hbd hz

/-! ### the document's own Get -/
theorem ref_ok {zs : List Int} {n : Nat} (h9 : n < 9) (hl : n < zs.length) (hS : Sofar zs n) (hz1 : zs.getD n 0 ≤ 127) (h0 : n = 0 ∨ ¬ zs.getD n 0 = 0) {V : Int}
    (hV : V = Uv.num ((zs.take (n + 1)).drop 0)) : Uv.got zs = (V, (n : Int) + 1, 0) := by
  rw [Uv.got_ok zs n h9 hl hS hz1 h0, hV]
  simp
theorem num_drop {zs : List Int} {n i : Nat} (hi : i ≤ n) (hl : n < zs.length) : Uv.num ((zs.take (n + 1)).drop i) = zs.getD i 0 % 128 + 128 * Uv.num ((zs.take (n + 1)).drop (i + 1)) := by
  have hlt : i < (zs.take (n + 1)).length := by simp; omega
  rw [List.drop_eq_getElem_cons hlt, Uv.num]
  simp [List.getD, show i < zs.length by omega]
theorem num_drop_u64 {zs : List Int} {n i : Nat} (hi : 1 ≤ i) (hn : n < 9) : 0 ≤ Uv.num ((zs.take (n + 1)).drop i) ∧ Uv.num ((zs.take (n + 1)).drop i) ≤ 72057594037927935 := by
  refine ⟨Uv.num_nonneg _, ?_⟩
  have h1 := Uv.num_lt ((zs.take (n + 1)).drop i)
  have h2 : 128 ^ ((zs.take (n + 1)).drop i).length ≤ 128 ^ 8 := Nat.pow_le_pow_right (by omega) (by simp; omega)
  have h4 : ((128 ^ ((zs.take (n + 1)).drop i).length : Nat) : Int) ≤ ((128 ^ 8 : Nat) : Int) := Int.ofNat_le.2 h2
  simp only [Int.natCast_pow] at h4
  have := Int.lt_of_lt_of_le h1 h4
  have e : (((128 : Nat) : Int) ^ 8) = 72057594037927936 := by decide
  rw [e] at this
  omega

set_option maxHeartbeats 1000000 in
theorem ref_get_some (b off n c : Nat) (zs : List Int) (w : World) (hn : 0 < n) (hnc : n ≤ c) (hc : c ≤ maxLen) (hl : zs.length = n) (hbd : ∀ z ∈ zs, 0 ≤ z ∧ z ≤ 255)
    (hz : ∀ j, j < n → w.cell? ⟨b, off + j, none⟩ = some (.int .u8 (zs.getD j 0))) :
    Calls Tryd.prog 52 #[.slice (some ⟨b, off, none⟩) n c] w fun e w' => e = .returned (tup (Uv.got zs)) ∧ w = w' := by
  unfold maxLen at hc
  have HL := Lib.hid hl; clear hl
  have HZ := Lib.hid hz; clear hz
  have HB := Lib.hid hbd; clear hbd
  go_enter Tryd.func52, Tryd.ntmps52
  go_wp2
  go_loop [5] (fun i => ∃ (k : Nat), k ≤ n ∧ k ≤ 9 ∧ i = .int .i64 k ∧ Sofar zs k) (fun i => n - (intOf i).toNat)
  case atStart => exact ⟨0, by omega, by omega, rfl, Sofar.zero zs⟩
  case round =>
    obtain ⟨k, hk, hk9, rfl, hS⟩ := hrel
    have HS := Lib.hid hS; clear hS
    by_cases hkn : k < n
    · have hcell := HZ.out k hkn
      have hb := getD_bd HB.out k
      obtain ⟨z, hzz⟩ : ∃ z, zs.getD k 0 = z := ⟨_, rfl⟩
      rw [hzz] at hcell hb
      have HZZ := Lib.hid hzz; clear hzz
      obtain ⟨hz0, hz1⟩ := hb
      by_cases hlt9 : k < 9
      · by_cases h128 : 127 < z
        · go_wp2
          go_round
          case rel => exact ⟨k + 1, by omega, by omega, by go_num, HS.out.succ HZZ.out (by omega)⟩
          case measure => simp [intOf]; omega
        · have k9 : ((k : Int) == 9) = false := by simp; omega
          have kn : ((k : Int) == (n : Int)) = false := by simp; omega
          have hkl : k < zs.length := by have := HL.out; omega
          by_cases hzk : z = 0 ∧ 0 < k
          · have E := Lib.hid (bad_end (by omega) hkl HS.out HZZ.out hzk.1 hzk.2)
            obtain ⟨hzk1, hzk2⟩ := hzk
            have hzk3 : (z == 0) = true := by simp [hzk1]
            clear hzk1
            go_wp2
            go_ret3
            exact ⟨tup_eq E.out, rfl⟩
          · have E : Hid (∀ V, V = Uv.num ((zs.take (k + 1)).drop 0) → Uv.got zs = (V, (k : Int) + 1, 0)) :=
              Lib.hid (fun V hV => ref_ok hlt9 hkl HS.out (by rw [HZZ.out]; omega) (by rw [HZZ.out]; omega) hV)
            have hzk3 : 0 < k → (z == 0) = false := fun h => by simp; omega
            clear hzk HS HZZ
            go_wp2
            all_goals
              go_loop [7, 6] (fun i v => ∃ V : Int, v = .int .u64 V ∧ ((∃ j : Nat, j ≤ k ∧ i = .int .i64 j ∧ V = Uv.num ((zs.take (k + 1)).drop (j + 1))) ∨ (i = .int .i64 (-1) ∧ V = Uv.num ((zs.take (k + 1)).drop 0)))) (fun i _ => (intOf i + 1).toNat)
              case atStart => exact ⟨0, rfl, .inl ⟨k, by omega, rfl, by rw [List.drop_of_length_le (List.length_take_le _ _)]; rfl⟩⟩
              case round =>
                obtain ⟨V, rfl, ⟨j, hj, rfl, hV⟩ | ⟨rfl, hV⟩⟩ := hrel
                · have hVb := num_drop_u64 (zs := zs) (n := k) (i := j + 1) (by omega) hlt9
                  rw [← hV] at hVb
                  obtain ⟨hV0, hV1⟩ := hVb
                  have HV := Lib.hid hV; clear hV
                  have hcell2 := HZ.out j (by omega)
                  have hb2 := getD_bd HB.out j
                  obtain ⟨y, hyy⟩ : ∃ y, zs.getD j 0 = y := ⟨_, rfl⟩
                  rw [hyy] at hcell2 hb2
                  have HY := Lib.hid hyy; clear hyy
                  obtain ⟨hy0, hy1⟩ := hb2
                  clear hcell
                  go_wp2
                  go_round
                  case rel =>
                    refine ⟨_, rfl, ?_⟩
                    have hst := num_drop (zs := zs) (i := j) hj hkl
                    rw [HY.out, ← HV.out] at hst
                    cases j with
                    | zero => exact .inr ⟨by go_num, by rw [hst]; omega⟩
                    | succ j => exact .inl ⟨j, by omega, by go_num, by rw [hst]; omega⟩
                  case measure => simp [intOf] <;> omega
                · have E2 := Lib.hid (E.out V hV)
                  clear E hV HZ HB
                  go_wp2
                  go_ret3
                  exact ⟨tup_eq E2.out, rfl⟩
      · have k9 : ((k : Int) == 9) = true := by simp; omega
        have E := Lib.hid (Uv.got_limit zs (by have := HL.out; omega) (fun i hi => HS.out i (by omega)))
        clear HS HZ HB HZZ
        go_wp2
        go_ret3
        exact ⟨tup_eq E.out, rfl⟩
    · by_cases hn9 : n < 9
      · have k9 : ((k : Int) == 9) = false := by simp; omega
        have kn : ((k : Int) == (n : Int)) = true := by simp; omega
        have E := Lib.hid (Uv.got_short zs (by have := HL.out; omega) (fun i hi => HS.out i (by have := HL.out; omega)))
        clear HS HZ HB
        go_wp2
        go_ret3
        exact ⟨tup_eq E.out, rfl⟩
      · have k9 : ((k : Int) == 9) = true := by simp; omega
        have E := Lib.hid (Uv.got_limit zs (by have := HL.out; omega) (fun i hi => HS.out i (by have := HL.out; omega)))
        clear HS HZ HB
        go_wp2
        go_ret3
        exact ⟨tup_eq E.out, rfl⟩

set_option maxHeartbeats 1000000 in
theorem ref_get_none (A : Option Addr) (c : Nat) (w : World) :
    Calls Tryd.prog 52 #[.slice A 0 c] w fun e w' => e = .returned (tup (Uv.got [])) ∧ w = w' := by
  go_enter Tryd.func52, Tryd.ntmps52
  go_wp2
  refine wp_loop_rounds 1 ?_
  rw [rounds_succ]
  go_wp2
  go_ret3
  exact ⟨tup_eq (Uv.got_short [] (by simp) (by simp)), rfl⟩

/-- the document's own Get, whatever the bytes -/
theorem ref_get_any (A : Option Addr) (n c : Nat) (zs : List Int) (w : World) (hnc : n ≤ c) (hc : c ≤ maxLen) (h : Bts w A n zs) :
    Calls Tryd.prog 52 #[.slice A n c] w fun e w' => e = .returned (tup (Uv.got zs)) ∧ w = w' := by
  obtain ⟨hl, hbd, hcell⟩ := h
  rcases Nat.eq_zero_or_pos n with h0 | h0
  · subst h0
    obtain rfl : zs = [] := List.eq_nil_of_length_eq_zero hl
    exact ref_get_none A c w
  · obtain ⟨b, off, rfl, _, hz⟩ := hcell h0
    exact ref_get_some b off n c zs w h0 hnc hc hl hbd hz

end Go.Proofs.YtdiilgedicfekaaDoor
