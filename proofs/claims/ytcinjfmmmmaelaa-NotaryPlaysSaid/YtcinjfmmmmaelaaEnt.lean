/-
  Plain words on a notary's entries: peers and texts as they lie in memory, and as a map's keys; what a map of tags says of a list of entries. Conditions: as each lemma states.
-/
import Derived.Test.YtcinjfmmmmaelaaRows
import Derived.WalkKit
import Derived.WalkSpells
import Derived.WalkLawsBesides
import Derived.Below
import Derived.Lib.Hide
import Derived.Laws.OwnMore
import Derived.Maps.AppendAt
import Derived.Maps.OwnSet
import Derived.DeepKeys4
import Derived.Deep.QuietTactic
import Derived.BigQuiet
namespace Go.Proofs.Ytcinjfmmmmaelaa
open Go.RowKit Go.Maps
set_option linter.unusedVariables false
theorem laidOut : laidOutB Try.prog = true := by kernel_rfl
theorem nTypes : Try.prog.types.size = 70 := by kernel_rfl
theorem law : Keyed Try.prog 48 := Keyed.of_law (deep_law_laid laidOut (m := 20) (by omega) (by rw [nTypes]; decide) (by kernel_rfl) (by kernel_rfl))
theorem keyT : Try.prog.keyType 48 = true := by kernel_rfl
theorem cellsOf48 : Try.prog.cellsOf 48 = 2 := by kernel_rfl
theorem cellsOf3 : Try.prog.cellsOf 3 = 1 := by kernel_rfl
theorem cellsOf9 : Try.prog.cellsOf 9 = 1 := by kernel_rfl
/-- an entry as it lies in memory -/
def ent (p : Int) (s : ByteArray) : Value := .agg #[.int .i64 p, .string s]
/-- what it reads as, as a key -/
def key (p : Int) (s : ByteArray) : Lit := .string (keyBytes [.int .i64 p, .string s.data.toList])
theorem key_mk (p : Int) (s : ByteArray) (hp : (Lit.int .i64 p).wf = true) (hs : s.size ≤ maxLen) : keyOf Try.prog 48 (ent p s) = some (key p s) := by
  unfold keyOf ent key
  simp only [Try.underlying48]
  rw [if_pos (by simp [keyT, Value.formed, Try.underlying48, cellsOf48]), nTypes]
  unfold Program.keyLits
  simp only [Try.underlying48, Value.cells]
  rw [if_pos (by rw [cellsOf48]; exact ⟨rfl, by kernel_rfl⟩)]
  have e1 : Try.prog.keyLits 70 3 [.int .i64 p] = some [.int .i64 p] := by simp only [Program.keyLits, Try.underlying3]; exact if_pos ⟨trivial, hp⟩
  have e2 : Try.prog.keyLits 70 9 [.string s] = some [.string s.data.toList] := by simp only [Program.keyLits, Try.underlying9]; exact if_pos hs
  simp only [List.mapM_cons, List.mapM_nil, List.drop_zero, cellsOf3, cellsOf9, List.drop_succ_cons, List.take_succ_cons, List.take_zero, e1, e2]
  rfl
theorem key_inj {p q : Int} {s t : ByteArray} (hp : (Lit.int .i64 p).wf = true) (hs : s.size ≤ maxLen) (hq : (Lit.int .i64 q).wf = true) (ht : t.size ≤ maxLen) (h : key p s = key q t) : p = q ∧ s = t := by
  have h1 := key_mk p s hp hs
  rw [h] at h1
  have := law.inj h1 (key_mk q t hq ht)
  simpa [ent] using this

abbrev Item := Int × List Int
def Bd (zs : List Int) : Prop := ∀ z ∈ zs, 0 ≤ z ∧ z ≤ 255
/-- bytes as a string -/
def str (zs : List Int) : ByteArray := ⟨(zs.map fun z => UInt8.ofNat z.toNat).toArray⟩
theorem str_size (zs : List Int) : (str zs).size = zs.length := by simp [str, ByteArray.size]
theorem u8_inj {a b : Int} (ha : 0 ≤ a ∧ a ≤ 255) (hb : 0 ≤ b ∧ b ≤ 255) (h : UInt8.ofNat a.toNat = UInt8.ofNat b.toNat) : a = b := by
  have := congrArg UInt8.toNat h
  simp only [UInt8.toNat_ofNat'] at this
  omega
theorem str_inj : ∀ {xs ys : List Int}, Bd xs → Bd ys → str xs = str ys → xs = ys := by
  intro xs ys hx hy h
  have h1 : xs.map (fun z => UInt8.ofNat z.toNat) = ys.map (fun z => UInt8.ofNat z.toNat) := by
    have := congrArg (fun b : ByteArray => b.data.toList) h
    simpa [str] using this
  clear h
  induction xs generalizing ys with
  | nil => cases ys with
    | nil => rfl
    | cons y ys => simp at h1
  | cons x xs ih => cases ys with
    | nil => simp at h1
    | cons y ys =>
      simp only [List.map_cons, List.cons.injEq] at h1
      rw [u8_inj (hx x (by simp)) (hy y (by simp)) h1.1, ih (fun z hz => hx z (by simp [hz])) (fun z hz => hy z (by simp [hz])) h1.2]

/-- a peer's number and a text that may be asked for -/
def Ok (x : Item) : Prop := (Lit.int .i64 x.1).wf = true ∧ Bd x.2 ∧ x.2.length ≤ maxLen
def keyx (x : Item) : Lit := key x.1 (str x.2)
theorem keyx_mk {x : Item} (h : Ok x) : keyOf Try.prog 48 (ent x.1 (str x.2)) = some (keyx x) := key_mk _ _ h.1 (by rw [str_size]; exact h.2.2)
theorem keyx_inj {x y : Item} (hx : Ok x) (hy : Ok y) (h : keyx x = keyx y) : x = y := by
  obtain ⟨h1, h2⟩ := key_inj hx.1 (by rw [str_size]; exact hx.2.2) hy.1 (by rw [str_size]; exact hy.2.2) h
  exact Prod.ext h1 (str_inj hx.2.1 hy.2.1 h2)
theorem keyx_isKey {x : Item} (h : Ok x) : WideAt.IsKeyLit (keyx x) := law.key (keyx_mk h)

/-- the tag of an entry among the entries (or that of the next one) -/
def tagL (L : List Item) (x : Item) : Nat := L.idxOf x + 1
/-- the entries behind a mint -/
def mintL (L : List Item) (x : Item) : List Item := if x ∈ L then L else L ++ [x]
theorem tagL_new {L : List Item} {x : Item} (h : x ∉ L) : tagL L x = L.length + 1 := by unfold tagL; rw [List.idxOf_eq_length h]
theorem tagL_mem {L : List Item} {x : Item} (h : x ∈ L) : tagL L x ≤ L.length := by unfold tagL; have := List.idxOf_lt_length_of_mem h; omega
theorem mintL_len (L : List Item) (x : Item) : (mintL L x).length ≤ L.length + 1 := by unfold mintL; split <;> simp

/-- a map of tags says of each entry its number -/
structure Tags (D : DataW Unit) (L : List Item) : Prop where
  isMap : IsMap D
  nodup : L.Nodup
  good : ∀ x ∈ L, Ok x
  has : ∀ x, Ok x → Maps.has D (keyx x) = decide (x ∈ L)
  tag : ∀ x ∈ L, D.atKey (keyx x) (.lit (.int .u64 0)) = .lit (.int .u64 (L.idxOf x + 1 : Nat))
theorem Tags.nil : Tags (.map []) [] := ⟨isMap_empty, List.nodup_nil, by simp, fun x _ => by simp [Maps.has], by simp⟩
theorem Tags.snoc {D : DataW Unit} {L : List Item} (h : Tags D L) {x : Item} (hx : Ok x) (hn : x ∉ L) : Tags (D.put (keyx x) (.lit (.int .u64 (L.length + 1 : Nat)))) (L ++ [x]) := by
  refine ⟨h.isMap.put _ _, ?_, ?_, ?_, ?_⟩
  · rw [List.nodup_append]
    refine ⟨h.nodup, by simp, ?_⟩
    intro a ha b hb
    simp only [List.mem_singleton] at hb
    subst hb
    exact fun e => hn (e ▸ ha)
  · intro y hy
    rcases List.mem_append.1 hy with h1 | h1
    · exact h.good y h1
    · simp only [List.mem_singleton] at h1; subst h1; exact hx
  · intro y hy
    by_cases e : y = x
    · subst e
      rw [has_put_same h.isMap (keyx_isKey hx)]
      simp
    · rw [has_put_other (fun e2 => e (keyx_inj hy hx e2)), h.has y hy]
      simp [e]
  · intro y hy
    by_cases e : y = x
    · subst e
      rw [atKey_put_same h.isMap (keyx_isKey hx), List.idxOf_append, if_neg hn]
      simp
    · have hy' : y ∈ L := by simpa [e] using hy
      rw [atKey_put_other (fun e2 => e (keyx_inj (h.good y hy') hx e2)), h.tag y hy', List.idxOf_append, if_pos hy']

/-- entries, cell by cell -/
def cellsL (L : List Item) : List Value := L.flatMap fun x => [.int .i64 x.1, .string (str x.2)]
theorem cellsL_snoc (L : List Item) (x : Item) : cellsL (L ++ [x]) = cellsL L ++ [.int .i64 x.1, .string (str x.2)] := by simp [cellsL]
theorem cellsL_len (L : List Item) : (cellsL L).length = L.length * 2 := by
  induction L with
  | nil => rfl
  | cons x L ih => simp [cellsL] at ih ⊢; omega
theorem cellsL_at : ∀ (L : List Item) (j : Nat) (x : Item), L[j]? = some x → (cellsL L)[j * 2]? = some (.int .i64 x.1) ∧ (cellsL L)[j * 2 + 1]? = some (.string (str x.2))
  | [], j, x, h => by simp at h
  | y :: L, 0, x, h => by
    simp only [List.getElem?_cons_zero, Option.some.injEq] at h
    subst h
    exact ⟨rfl, rfl⟩
  | y :: L, j + 1, x, h => by
    have := cellsL_at L j x (by simpa using h)
    have e : cellsL (y :: L) = .int .i64 y.1 :: .string (str y.2) :: cellsL L := rfl
    rw [e, show (j + 1) * 2 = j * 2 + 1 + 1 by omega]
    simpa using this

end Go.Proofs.Ytcinjfmmmmaelaa
