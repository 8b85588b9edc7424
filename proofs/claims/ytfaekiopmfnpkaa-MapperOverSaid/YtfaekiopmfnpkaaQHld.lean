/-
  Contracts of bytes.Equal and of embrasure/pmp.held. Conditions: the slices read as bytes.
-/
import Derived.Test.YtfaekiopmfnpkaaQAsk
import Derived.Laws.IdiomStrings
namespace Go.Proofs.Ytfaekiopmfnpkaa.Pp
open Go.RowKit
attribute [local go_sem] Oper.semAt_some
set_option linter.unusedVariables false
set_option linter.unusedSimpArgs false

def Bd (zs : List Int) : Prop := ∀ z ∈ zs, 0 ≤ z ∧ z ≤ 255
/-- bytes as a string -/
def str (zs : List Int) : ByteArray := ⟨(zs.map fun z => UInt8.ofNat z.toNat).toArray⟩
theorem u8_inj {a b : Int} (ha : 0 ≤ a ∧ a ≤ 255) (hb : 0 ≤ b ∧ b ≤ 255) (h : UInt8.ofNat a.toNat = UInt8.ofNat b.toNat) : a = b := by
  have := congrArg UInt8.toNat h
  simp only [UInt8.toNat_ofNat'] at this
  omega
theorem str_list (xs : List Int) : (str xs).toList = xs.map fun z => UInt8.ofNat z.toNat := ByteArray.toList_mk _
theorem map_inj : ∀ {xs ys : List Int}, Bd xs → Bd ys → (xs.map fun z => UInt8.ofNat z.toNat) = (ys.map fun z => UInt8.ofNat z.toNat) → xs = ys := by
  intro xs ys hx hy h1
  induction xs generalizing ys with
  | nil => cases ys with
    | nil => rfl
    | cons y ys => simp at h1
  | cons x xs ih => cases ys with
    | nil => simp at h1
    | cons y ys =>
      simp only [List.map_cons, List.cons.injEq] at h1
      rw [u8_inj (hx x (by simp)) (hy y (by simp)) h1.1, ih (fun z hz => hx z (by simp [hz])) (fun z hz => hy z (by simp [hz])) h1.2]
theorem conv_bts {w : World} {A : Option Addr} {n c : Nat} {zs : List Int} (h : Bts w A n zs) : (convert 38 9 (.slice A n c)).run Try.prog w = .ok (.string (str zs)) w := by
  cases A with
  | none =>
    have hn : n = 0 := by
      rcases Nat.eq_zero_or_pos n with h0 | h0
      · exact h0
      · obtain ⟨b, off, e, _⟩ := h.2.2 h0; cases e
    subst hn
    have hz : zs = [] := List.eq_nil_of_length_eq_zero h.1
    subst hz
    rw [run_convert_bytes_string w 38 9 5 none 0 c Try.underlying38 Try.underlying5 Try.underlying9]
    simp [Conv.bytesToString, str]
    rfl
  | some ad =>
    have hl : (zs.map fun z => UInt8.ofNat z.toNat).length = n := by rw [List.length_map]; exact h.1
    have := run_convert_bytes_back w 38 9 5 ad c (zs.map fun z => UInt8.ofNat z.toNat) Try.underlying38 Try.underlying5 Try.underlying9 (fun j hj => by
      have hj' : j < zs.length := by simpa using hj
      have hc := h.news j (.int .u8 (zs.getD j 0)) (B_at zs j hj')
      rw [hc]
      have hb := h.bd zs[j] (List.getElem_mem hj')
      simp only [List.getElem_map, UInt8.toNat_ofNat', List.getD, List.getElem?_eq_getElem hj', Option.getD_some, Option.some.injEq, Value.int.injEq, true_and]
      omega)
    rw [hl] at this
    exact this
theorem equal_any (A1 A2 : Option Addr) (n m c1 c2 : Nat) (xs ys : List Int) (w : World) (h1 : Bts w A1 n xs) (h2 : Bts w A2 m ys) :
    Calls Try.prog 48 #[.slice A1 n c1, .slice A2 m c2] w fun e w' => e = .returned (.bool (decide (xs = ys))) ∧ w = w' := by
  have k1 := conv_bts (c := c1) h1
  have k2 := conv_bts (c := c2) h2
  have e : decide (xs = ys) = ((str xs).toList == (str ys).toList) := by
    rw [Bool.eq_iff_iff, str_list, str_list, beq_iff_eq, decide_eq_true_eq]
    exact ⟨fun h => by rw [h], map_inj h1.bd h2.bd⟩
  rw [e]
  generalize str xs = s1 at *
  generalize str ys = s2 at *
  clear e h1 h2
  go_enter Try.func48, Try.ntmps48
  go_wp2
  go_ret
  exact ⟨rfl, rfl⟩

/-- what held answers -/
def hldT (ok : Bool) (l : Le) (h : Bool) : Value := .tuple #[leV (if ok then l else zeroL), .bool (if ok then h else false), .int .i64 (if ok then 0 else 3)]
set_option maxHeartbeats 1000000 in
theorem held_any (A1 A2 : Option Addr) (n m c1 c2 : Nat) (xs ys : List Int) (l : Le) (h : Bool) (w : World) (h1 : Bts w A1 n xs) (h2 : Bts w A2 m ys) :
    Calls Try.prog 45 #[.slice A1 n c1, .slice A2 m c2, leV l, .bool h] w fun e w' => e = .returned (hldT (decide (xs = ys)) l h) ∧ Below w.heap.size w w' := by
  have HE := Lib.hid (fun W (hb : Below w.heap.size w W) => equal_any A1 A2 n m c1 c2 xs ys W (h1.below hb) (h2.below hb))
  have HB2 : Hid (∀ C C' : Obj, Below w.heap.size w ((w.alloc C).alloc C')) := Lib.hid (fun C C' => ((Below.refl _ w).alloc (Nat.le_refl _) _).alloc (by simp) _)
  unfold hldT zeroL leV leA at *
  clear h1 h2
  generalize decide (xs = ys) = t at *
  cases t with
  | true =>
    simp only [if_true]
    go_enter Try.func45, Try.ntmps45
    go_wp2_with fail
    refine (HE.out _ (HB2.out _ _)).mono ?_
    rintro e w1 ⟨rfl, rfl⟩
    go_wp2
    refine ⟨rfl, .tuple #[_, _, _], by simp [results, Try.results45, go_sem], rfl, HB2.out _ _⟩
  | false =>
    simp only [if_false, Bool.false_eq_true]
    go_enter Try.func45, Try.ntmps45
    go_wp2_with fail
    refine (HE.out _ (HB2.out _ _)).mono ?_
    rintro e w1 ⟨rfl, rfl⟩
    go_wp2
    refine ⟨rfl, .tuple #[_, _, _], by simp [results, Try.results45, go_sem], rfl, HB2.out _ _⟩
end Go.Proofs.Ytfaekiopmfnpkaa.Pp
