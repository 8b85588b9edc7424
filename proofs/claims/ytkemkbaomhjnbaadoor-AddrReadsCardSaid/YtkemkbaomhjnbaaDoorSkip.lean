/-
  Contracts of the document's own skip and take. Conditions: the text has a thousand bytes at most.
-/
import Derived.Test.YtkemkbaomhjnbaaDoorReadB
namespace Go.Proofs.YtkemkbaomhjnbaaDoor
open Go.RowKit
set_option linter.unusedVariables false

/-- the place behind a word that stands at a place -/
def skipL (s : List UInt8) (a : Int) (word : List UInt8) : Int := if a < 0 ∨ (s.drop a.toNat).take word.length ≠ word then -1 else a + word.length
theorem take_ext (s : List UInt8) (a b : Nat) : (st s).extract a b = st ((s.take b).drop a) := by
  apply ByteArray.ext
  simp [st, List.drop_take]
theorem skipL_neg (s word : List UInt8) : skipL s (-1) word = -1 := by simp [skipL]
theorem ret_i' {a b : Int} (h : a = b) : Ending.returned (.int .i64 a) = .returned (.int .i64 b) := by rw [h]
set_option maxRecDepth 100000 in
set_option maxHeartbeats 2000000 in
theorem skip_any (s : List UInt8) (a : Int) (word : List UInt8) (w : World) (hs : s.length ≤ 1000) (h0 : -1 ≤ a) (h1 : a ≤ s.length) (hw : word.length ≤ 20) (hw0 : 0 < word.length) :
    Calls Tryd.prog 35 #[.string (st s), .int .i64 a, .string (st word)] w fun e w' => e = .returned (.int .i64 (skipL s a word)) ∧ Below w.heap.size w w' := by
  by_cases ha : a < 0
  · have e : skipL s a word = -1 := by unfold skipL; rw [if_pos (.inl ha)]
    rw [e]
    generalize st s = S at *
    generalize st word = WD at *
    go_enter Tryd.func35, Tryd.ntmps35
    go_wp2
    go_ret
    exact ⟨rfl, Below.refl _ _⟩
  · obtain ⟨k, rfl⟩ : ∃ k : Nat, a = (k : Int) := ⟨a.toNat, by omega⟩
    have hsz := st_size s
    have hwz := st_size word
    by_cases hl : s.length < k + word.length
    · have hne : ¬ (s.drop k).take word.length = word := fun e => by
        have := congrArg List.length e
        simp at this
        omega
      have e : skipL s k word = -1 := by
        unfold skipL
        rw [if_pos (.inr (by rw [Int.toNat_natCast]; exact hne))]
      clear hne
      rw [e]
      obtain ⟨S, hS⟩ : ∃ S, st s = S := ⟨_, rfl⟩
      obtain ⟨WD, hWD⟩ : ∃ S, st word = S := ⟨_, rfl⟩
      rw [hS] at hsz ⊢
      rw [hWD] at hwz ⊢
      go_enter Tryd.func35, Tryd.ntmps35
      go_wp2
      go_ret
      exact ⟨rfl, Below.refl _ _⟩
    · have hx : (st s).extract k (k + word.length) = st ((s.drop k).take word.length) := by
        rw [take_ext, List.drop_take, show k + word.length - k = word.length by omega]
      obtain ⟨S, hS⟩ : ∃ S, st s = S := ⟨_, rfl⟩
      rw [hS] at hsz hx ⊢
      by_cases hq : (s.drop k).take word.length = word
      · have e : skipL s k word = k + word.length := by
          unfold skipL
          rw [if_neg (by rw [Int.toNat_natCast]; rintro (h | h); exact ha h; exact h hq)]
        rw [e]
        rw [hq] at hx
        obtain ⟨WD, hWD⟩ : ∃ S, st word = S := ⟨_, rfl⟩
        rw [hWD] at hwz hx ⊢
        go_enter Tryd.func35, Tryd.ntmps35
        go_wp2
        go_ret
        exact ⟨rfl, Below.refl _ _⟩
      · have e : skipL s k word = -1 := by
          unfold skipL
          rw [if_pos (.inr (by rw [Int.toNat_natCast]; exact hq))]
        rw [e]
        have hne : ((st ((s.drop k).take word.length)).toList == (st word).toList) = false := by
          rw [ByteArray.toList_eq, ByteArray.toList_eq, beq_eq_false_iff_ne]
          simpa [st] using hq
        obtain ⟨WD, hWD⟩ : ∃ S, st word = S := ⟨_, rfl⟩
        obtain ⟨XB, hXB⟩ : ∃ S, st ((s.drop k).take word.length) = S := ⟨_, rfl⟩
        rw [hWD] at hwz hne ⊢
        rw [hXB] at hx hne
        clear hq hWD hXB
        go_enter Tryd.func35, Tryd.ntmps35
        go_wp2
        go_ret
        exact ⟨rfl, Below.refl _ _⟩

/-- the number of which digits are, and how many there are; none: it is too great -/
def runD : List UInt8 → Nat → Nat → Option (Nat × Nat)
  | [], n, k => some (n, k)
  | c :: r, n, k => if 48 ≤ c.toNat ∧ c.toNat ≤ 57 then (if 2147483647 < n * 10 + (c.toNat - 48) then none else runD r (n * 10 + (c.toNat - 48)) (k + 1)) else some (n, k)
theorem runD_cons (c : UInt8) (r : List UInt8) (n k : Nat) : runD (c :: r) n k = if 48 ≤ c.toNat ∧ c.toNat ≤ 57 then (if 2147483647 < n * 10 + (c.toNat - 48) then none else runD r (n * 10 + (c.toNat - 48)) (k + 1)) else some (n, k) := rfl
/-- the number that stands at a place, and the place behind it -/
def takeL (s : List UInt8) (a : Int) : Int × Int := if a < 0 then (0, -1) else match runD (s.drop a.toNat) 0 0 with
  | none => (0, -1)
  | some (n, k) => if k = 0 ∨ ((s.getD a.toNat 0).toNat = 48 ∧ 1 < k) then (0, -1) else ((n : Int), a + (k : Int))
theorem tup2 {a b c d : Int} (h : (a, b) = (c, d)) : Ending.returned (.tuple #[.int .i64 a, .int .i64 b]) = .returned (.tuple #[.int .i64 c, .int .i64 d]) := by cases h; rfl
set_option maxRecDepth 100000 in
set_option maxHeartbeats 2000000 in
theorem take_any (s : List UInt8) (a : Int) (w : World) (hs : s.length ≤ 1000) (h0 : -1 ≤ a) (h1 : a ≤ s.length) :
    Calls Tryd.prog 36 #[.string (st s), .int .i64 a] w fun e w' => e = .returned (.tuple #[.int .i64 (takeL s a).1, .int .i64 (takeL s a).2]) ∧ Below w.heap.size w w' := by
  by_cases ha : a < 0
  · have e : takeL s a = (0, -1) := by unfold takeL; rw [if_pos ha]
    rw [e]
    obtain rfl : a = -1 := by omega
    generalize st s = S at *
    go_enter Tryd.func36, Tryd.ntmps36
    go_wp2
    refine wp_loop_rounds 1 ?_
    rw [rounds_succ]
    go_wp2
    go_ret2
    exact ⟨rfl, Below.refl _ _⟩
  · obtain ⟨f, rfl⟩ : ∃ k : Nat, a = (k : Int) := ⟨a.toNat, by omega⟩
    have HA := Lib.hid ha; clear ha
    have hsz := st_size s
    have hat : ∀ j (hj : j < s.length), (st s)[j]'(by rw [st_size]; exact hj) = s.getD j 0 := fun j hj => by
      simp [st, List.getD, hj]
      rfl
    obtain ⟨S, hS⟩ : ∃ S, st s = S := ⟨_, rfl⟩
    rw [hS] at hsz ⊢
    go_enter Tryd.func36, Tryd.ntmps36
    go_wp2
    go_loopw [1, 6] (fun x y wr => ∃ k n : Nat, x = .int .i64 ((f : Int) + (k : Int)) ∧ y = .int .i64 (n : Int) ∧ f + k ≤ s.length ∧ n ≤ 2147483647 ∧ runD (s.drop f) 0 0 = runD (s.drop (f + k)) n k ∧ wr = w) (fun x _ _ => s.length - (intOf x).toNat)
    case atStart => exact ⟨0, 0, by simp, rfl, by omega, by omega, by simp, rfl⟩
    case round =>
      obtain ⟨k, n, rfl, rfl, hk, hn, hr, rfl⟩ := hrel
      by_cases hlt : f + k < s.length
      · have hlt' : f + k < S.size := by omega
        obtain ⟨c, hc⟩ : ∃ c, s.getD (f + k) 0 = c := ⟨_, rfl⟩
        have hcS : S[f + k]'hlt' = c := by subst hS; rw [hat (f + k) hlt]; exact hc
        have hd : s.drop (f + k) = c :: s.drop (f + (k + 1)) := by
          rw [List.drop_eq_getElem_cons hlt, ← hc]
          simp [List.getD, hlt, Nat.add_assoc]
        rw [hd, runD_cons] at hr
        by_cases hd1 : 48 ≤ c.toNat ∧ c.toNat ≤ 57
        · rw [if_pos hd1] at hr
          obtain ⟨hd1, hd2⟩ := hd1
          by_cases hov : 2147483647 < n * 10 + (c.toNat - 48)
          · rw [if_pos hov] at hr
            have HT : Hid (takeL s (f : Int) = (0, -1)) := Lib.hid (by unfold takeL; rw [if_neg (by have := HA.out; omega), Int.toNat_natCast, hr])
            have u1 : IntKind.u8.wrap ((c.toNat : Int) - 48) = (c.toNat : Int) - 48 := IntWalk.u8_in _ (by omega)
            have u2 : decide ((2147483647 : Int) < (n : Int) * 10 + ((c.toNat : Int) - 48)) = true := by simp; omega
            clear hr hd hc
            go_wp2
            go_ret2
            exact ⟨by rw [HT.out]; rfl, Below.refl _ _⟩
          · rw [if_neg hov] at hr
            have HR := Lib.hid hr
            have u1 : IntKind.u8.wrap ((c.toNat : Int) - 48) = (c.toNat : Int) - 48 := IntWalk.u8_in _ (by omega)
            have u2 : decide ((2147483647 : Int) < (n : Int) * 10 + ((c.toNat : Int) - 48)) = false := by simp; omega
            clear hr hd hc
            go_wp2
            go_roundw
            case rel => exact ⟨k + 1, n * 10 + (c.toNat - 48), by go_num, by congr 1; omega, by omega, by omega, HR.out, trivial⟩
            case measure => simp [intOf]; omega
        · rw [if_neg hd1] at hr
          have HE := Lib.hid hr
          clear hr hd hc
          by_cases hd2 : c.toNat < 48
          · skip
            have HTK : Hid (takeL s (f : Int) = if k = 0 ∨ ((s.getD f 0).toNat = 48 ∧ 1 < k) then (0, -1) else ((n : Int), (f : Int) + (k : Int))) := Lib.hid (by unfold takeL; rw [if_neg (by have := HA.out; omega), Int.toNat_natCast, HE.out])
            by_cases hk0 : k = 0
            · have HT : Hid (takeL s (f : Int) = (0, -1)) := Lib.hid (by rw [HTK.out, if_pos (.inl hk0)])
              subst hk0
              simp only [Nat.add_zero] at hcS
              go_wp2
              go_ret2
              exact ⟨by rw [HT.out]; rfl, Below.refl _ _⟩
            · have hf : f < S.size := by omega
              have te : ((f : Int) + (k : Int) == (f : Int)) = false := by rw [beq_eq_false_iff_ne]; omega
              have hc0 : S[f]'hf = s.getD f 0 := by subst hS; exact hat f (by omega)
              obtain ⟨c0, hcc⟩ : ∃ c, s.getD f 0 = c := ⟨_, rfl⟩
              rw [hcc] at hc0 HTK
              by_cases h48 : c0.toNat = 48
              · by_cases hk1 : 1 < k
                · have HT : Hid (takeL s (f : Int) = (0, -1)) := Lib.hid (by rw [HTK.out, if_pos (.inr ⟨h48, hk1⟩)])
                  have tk : (1 : Int) < (k : Int) := by omega
                  go_wp2
                  go_ret2
                  exact ⟨by rw [HT.out]; rfl, Below.refl _ _⟩
                · have HT : Hid (takeL s (f : Int) = ((n : Int), (f : Int) + (k : Int))) := Lib.hid (by rw [HTK.out, if_neg (by omega)])
                  have tk : ¬ (1 : Int) < (k : Int) := by omega
                  go_wp2
                  go_ret2
                  exact ⟨by rw [HT.out]; rfl, Below.refl _ _⟩
              · have HT : Hid (takeL s (f : Int) = ((n : Int), (f : Int) + (k : Int))) := Lib.hid (by rw [HTK.out, if_neg (by omega)])
                have tk : ((c0.toNat : Int) == 48) = false := by rw [beq_eq_false_iff_ne]; omega
                go_wp2
                go_ret2
                exact ⟨by rw [HT.out]; rfl, Below.refl _ _⟩
          · have hd3 : 57 < c.toNat := by omega
            clear hd1
            have HTK : Hid (takeL s (f : Int) = if k = 0 ∨ ((s.getD f 0).toNat = 48 ∧ 1 < k) then (0, -1) else ((n : Int), (f : Int) + (k : Int))) := Lib.hid (by unfold takeL; rw [if_neg (by have := HA.out; omega), Int.toNat_natCast, HE.out])
            by_cases hk0 : k = 0
            · have HT : Hid (takeL s (f : Int) = (0, -1)) := Lib.hid (by rw [HTK.out, if_pos (.inl hk0)])
              subst hk0
              simp only [Nat.add_zero] at hcS
              go_wp2
              go_ret2
              exact ⟨by rw [HT.out]; rfl, Below.refl _ _⟩
            · have hf : f < S.size := by omega
              have te : ((f : Int) + (k : Int) == (f : Int)) = false := by rw [beq_eq_false_iff_ne]; omega
              have hc0 : S[f]'hf = s.getD f 0 := by subst hS; exact hat f (by omega)
              obtain ⟨c0, hcc⟩ : ∃ c, s.getD f 0 = c := ⟨_, rfl⟩
              rw [hcc] at hc0 HTK
              by_cases h48 : c0.toNat = 48
              · by_cases hk1 : 1 < k
                · have HT : Hid (takeL s (f : Int) = (0, -1)) := Lib.hid (by rw [HTK.out, if_pos (.inr ⟨h48, hk1⟩)])
                  have tk : (1 : Int) < (k : Int) := by omega
                  go_wp2
                  go_ret2
                  exact ⟨by rw [HT.out]; rfl, Below.refl _ _⟩
                · have HT : Hid (takeL s (f : Int) = ((n : Int), (f : Int) + (k : Int))) := Lib.hid (by rw [HTK.out, if_neg (by omega)])
                  have tk : ¬ (1 : Int) < (k : Int) := by omega
                  go_wp2
                  go_ret2
                  exact ⟨by rw [HT.out]; rfl, Below.refl _ _⟩
              · have HT : Hid (takeL s (f : Int) = ((n : Int), (f : Int) + (k : Int))) := Lib.hid (by rw [HTK.out, if_neg (by omega)])
                have tk : ((c0.toNat : Int) == 48) = false := by rw [beq_eq_false_iff_ne]; omega
                go_wp2
                go_ret2
                exact ⟨by rw [HT.out]; rfl, Below.refl _ _⟩
      · have HE : Hid (runD (s.drop f) 0 0 = some (n, k)) := Lib.hid (by rw [hr, List.drop_eq_nil_of_le (by omega)]; rfl)
        clear hr
        have HTK : Hid (takeL s (f : Int) = if k = 0 ∨ ((s.getD f 0).toNat = 48 ∧ 1 < k) then (0, -1) else ((n : Int), (f : Int) + (k : Int))) := Lib.hid (by unfold takeL; rw [if_neg (by have := HA.out; omega), Int.toNat_natCast, HE.out])
        by_cases hk0 : k = 0
        · have HT : Hid (takeL s (f : Int) = (0, -1)) := Lib.hid (by rw [HTK.out, if_pos (.inl hk0)])
          subst hk0
          go_wp2
          go_ret2
          exact ⟨by rw [HT.out]; rfl, Below.refl _ _⟩
        · have hf : f < S.size := by omega
          have te : ((f : Int) + (k : Int) == (f : Int)) = false := by rw [beq_eq_false_iff_ne]; omega
          have hc0 : S[f]'hf = s.getD f 0 := by subst hS; exact hat f (by omega)
          obtain ⟨c0, hcc⟩ : ∃ c, s.getD f 0 = c := ⟨_, rfl⟩
          rw [hcc] at hc0 HTK
          by_cases h48 : c0.toNat = 48
          · by_cases hk1 : 1 < k
            · have HT : Hid (takeL s (f : Int) = (0, -1)) := Lib.hid (by rw [HTK.out, if_pos (.inr ⟨h48, hk1⟩)])
              have tk : (1 : Int) < (k : Int) := by omega
              go_wp2
              go_ret2
              exact ⟨by rw [HT.out]; rfl, Below.refl _ _⟩
            · have HT : Hid (takeL s (f : Int) = ((n : Int), (f : Int) + (k : Int))) := Lib.hid (by rw [HTK.out, if_neg (by omega)])
              have tk : ¬ (1 : Int) < (k : Int) := by omega
              go_wp2
              go_ret2
              exact ⟨by rw [HT.out]; rfl, Below.refl _ _⟩
          · have HT : Hid (takeL s (f : Int) = ((n : Int), (f : Int) + (k : Int))) := Lib.hid (by rw [HTK.out, if_neg (by omega)])
            have tk : ((c0.toNat : Int) == 48) = false := by rw [beq_eq_false_iff_ne]; omega
            go_wp2
            go_ret2
            exact ⟨by rw [HT.out]; rfl, Below.refl _ _⟩
end Go.Proofs.YtkemkbaomhjnbaaDoor
