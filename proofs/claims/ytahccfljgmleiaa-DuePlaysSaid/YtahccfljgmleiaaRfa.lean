/-
  Contracts of the document's less, find and Take. Conditions: as each lemma states.
-/
import Derived.Test.YtahccfljgmleiaaRfl
namespace Go.Proofs.Ytahccfljgmleiaa
open Go.RowKit Go.Shelf Go.Maps
attribute [local go_sem] Oper.semAt_some
set_option linter.unusedVariables false

theorem str_beq' (x y : Ky) : ((str x).toList == (str y).toList) = decide (x = y) := by
  rw [str_list, str_list, Bool.eq_iff_iff, beq_iff_eq, decide_eq_true_eq]
  exact ⟨fun h => Subtype.ext h, fun h => by rw [h]⟩
theorem dd (w : World) (a b : Nat) : (w.drewN a).drewN b = w.drewN (a + b) := by simp [World.drewN, Nat.add_assoc]
theorem str_el (x : Ky) (k : Nat) (a : UInt8) (h : x.1[k]? = some a) (hk : k < (str x).size) : (str x)[k] = a := by
  have hk2 : k < x.1.length := (List.getElem?_eq_some_iff.1 h).1
  rw [List.getElem?_eq_getElem hk2] at h
  have h2 := Option.some.inj h
  simpa [str, ByteArray.getElem_eq_getElem_data] using h2

set_option maxHeartbeats 1000000 in
theorem less_any (x y : Ky) (w : World) : Calls Try.prog 22 #[.string (str x), .string (str y)] w fun e w' => e = .returned (.bool (decide (x.1 < y.1))) ∧ ∃ q, w' = w.drewN q := by
  have sx : (str x).size = x.1.length := str_size x
  have sy : (str y).size = y.1.length := str_size y
  have hxm := x.2
  have hym := y.2
  unfold maxLen at hxm hym
  have AX := Lib.hid (str_el x)
  have AY := Lib.hid (str_el y)
  generalize str x = X at *
  generalize str y = Y at *
  have SX := Lib.hid sx
  have SY := Lib.hid sy
  clear sx sy
  go_enter Try.func22, Try.ntmps22
  go_wp2
  go_loopw [5] (fun i wr => ∃ k q : Nat, k ≤ x.1.length ∧ k ≤ y.1.length ∧ i = .int .i64 k ∧ wr = w.drewN q ∧ Hid (x.1.take k = y.1.take k)) (fun i _ => x.1.length - (intOf i).toNat)
  case atStart => exact ⟨0, 0, by omega, by omega, rfl, rfl, Lib.hid rfl⟩
  case round =>
    obtain ⟨k, q, hk1, hk2, rfl, rfl, HT⟩ := hrel
    by_cases h1 : k < x.1.length
    · have l1 : k < X.size := by rw [SX.out]; exact h1
      by_cases h2 : k < y.1.length
      · have l2 : k < Y.size := by rw [SY.out]; exact h2
        obtain ⟨a, ha⟩ : ∃ a, x.1[k]? = some a := ⟨_, List.getElem?_eq_getElem h1⟩
        obtain ⟨b, hb⟩ : ∃ b, y.1[k]? = some b := ⟨_, List.getElem?_eq_getElem h2⟩
        have ia := AX.out k a ha l1
        have ib := AY.out k b hb l2
        by_cases hab : a = b
        · have HT2 : Hid (x.1.take (k + 1) = y.1.take (k + 1)) := Lib.hid (by rw [List.take_add_one, List.take_add_one, HT.out, ha, hb, hab])
          rw [hab] at ia
          clear ha hb hab
          go_wp2
          go_quiet (fail)
          go_wp2
          go_roundw
          case rel => exact ⟨k + 1, _, by omega, by omega, by go_num, rfl, HT2⟩
          case measure => simp [intOf]; omega
        · have hn : ¬ a.toNat = b.toNat := fun h => hab (UInt8.toNat_inj.1 (by omega))
          have hn2 : (a.toNat != b.toNat) = true := by simpa using hn
          have HR : Hid (decide (a.toNat < b.toNat) = decide (x.1 < y.1)) := Lib.hid (by
            rw [decide_eq_decide, lt_at k x.1 y.1 a b HT.out ha hb hab, UInt8.lt_iff_toNat_lt])
          clear ha hb
          go_wp2
          go_quiet (fail)
          go_wp2
          go_quiet (fail)
          go_wp2
          go_ret
          exact ⟨ret_bool HR.out, _, by rw [dd, dd]⟩
      · have l2 : ¬ k < Y.size := by rw [SY.out]; exact h2
        have HR : Hid (decide (X.size < Y.size) = decide (x.1 < y.1)) := Lib.hid (by
          rw [decide_eq_decide, lt_end k x.1 y.1 HT.out (by omega), SX.out, SY.out])
        go_wp2
        go_ret
        exact ⟨ret_bool HR.out, _, rfl⟩
    · have l1 : ¬ k < X.size := by rw [SX.out]; exact h1
      have HR : Hid (decide (X.size < Y.size) = decide (x.1 < y.1)) := Lib.hid (by
        rw [decide_eq_decide, lt_end k x.1 y.1 HT.out (by omega), SX.out, SY.out])
      go_wp2
      go_ret
      exact ⟨ret_bool HR.out, _, rfl⟩

/-- where a name stands, or -1 -/
def Found (L : List En) (x : Ky) (v : Int) : Prop := (inL L x = false ∧ v = -1) ∨ ∃ (k : Nat) (t : Int), v = k ∧ L[k]? = some (x, t)
def NoName (L : List En) (x : Ky) (k : Nat) : Prop := ∀ j, j < k → ∀ e, L[j]? = some e → ¬ e.1 = x
theorem NoName.zero (L : List En) (x : Ky) : NoName L x 0 := fun j h => by omega
theorem NoName.succ {L : List En} {x : Ky} {k : Nat} {e : En} (h : NoName L x k) (hk : L[k]? = some e) (he : ¬ e.1 = x) : NoName L x (k + 1) := fun j hj f hf => by
  rcases Nat.lt_or_ge j k with h' | h'
  · exact h j h' f hf
  · obtain rfl : j = k := by omega
    rw [hk] at hf; cases hf; exact he
theorem NoName.end_ {L : List En} {x : Ky} (h : NoName L x L.length) : inL L x = false := by
  cases hi : inL L x with
  | false => rfl
  | true =>
    obtain ⟨t, ht⟩ := inL_iff.1 hi
    obtain ⟨j, hj, e⟩ := List.getElem_of_mem ht
    exact absurd rfl (h j hj (x, t) (by rw [List.getElem?_eq_getElem hj, e]))

set_option maxHeartbeats 1000000 in
theorem find_any (rb : Nat) (L : List En) (x : Ky) (w : World) (h : Rf w rb L) :
    Calls Try.prog 21 #[.pointer (some ⟨rb, 0, none⟩), .string (str x)] w fun e w' => (∃ v, e = .returned (.int .i64 v) ∧ Found L x v) ∧ w = w' := by
  obtain ⟨A, c, c0, hlc, hcm, hR⟩ := h.look
  unfold maxLen at hcm
  have HR := Lib.hid hR
  clear hR h
  go_enter Try.func21, Try.ntmps21
  go_wp2
  go_loop [5] (fun i => ∃ k : Nat, k ≤ L.length ∧ i = .int .i64 k ∧ Hid (NoName L x k)) (fun i => L.length - (intOf i).toNat)
  case atStart => exact ⟨0, by omega, rfl, Lib.hid (NoName.zero _ _)⟩
  case round =>
    obtain ⟨k, hk, rfl, HN⟩ := hrel
    by_cases h1 : k < L.length
    · obtain ⟨e, he⟩ : ∃ e, L[k]? = some e := ⟨_, List.getElem?_eq_getElem h1⟩
      obtain ⟨b, off, rfl, d0, d1⟩ := HR.out.at he
      have hb := str_beq' e.1 x
      have l1 : (k : Int) < (L.length : Int) := by omega
      by_cases hx : e.1 = x
      · rw [decide_eq_true hx] at hb
        have HF : Hid (Found L x (k : Int)) := Lib.hid (.inr ⟨k, e.2, rfl, by rw [he, ← hx]⟩)
        clear hx he
        go_wp2
        go_ret
        exact ⟨⟨_, rfl, HF.out⟩, rfl⟩
      · rw [decide_eq_false hx] at hb
        have HN2 := Lib.hid (HN.out.succ he hx)
        clear hx he
        go_wp2
        go_round
        case rel => exact ⟨k + 1, by omega, by go_num, HN2⟩
        case measure => simp [intOf]; omega
    · obtain rfl : k = L.length := by omega
      go_wp2
      go_ret
      exact ⟨⟨_, rfl, .inl ⟨HN.out.end_, rfl⟩⟩, rfl⟩
end Go.Proofs.Ytahccfljgmleiaa
