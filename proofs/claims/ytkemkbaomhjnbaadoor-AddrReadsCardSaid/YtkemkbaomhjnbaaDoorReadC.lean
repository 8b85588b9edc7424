/-
  The document's own reading of a place's text is that place. No program. Conditions: as each lemma states.
-/
import Derived.Test.YtkemkbaomhjnbaaDoorRParse
import Derived.ShutString
import Derived.ChangeMaps
namespace Go.Proofs.YtkemkbaomhjnbaaDoor
set_option linter.unusedVariables false

theorem runD_dec (m : Nat) : ∀ (rest : List UInt8), m ≤ 2147483647 → runD (Lib.decDigits m ++ rest) 0 0 = runD rest m (Lib.decDigits m).length := by
  induction m using Nat.strongRecOn with
  | _ m ih =>
    intro rest hm
    rw [Lib.decDigits]
    by_cases h : m < 10
    · rw [dif_pos h]
      have e : (UInt8.ofNat (48 + m)).toNat = 48 + m := ofNat_toNat _ (by omega)
      rw [List.cons_append, List.nil_append, runD_cons, e, if_pos (by omega), if_neg (by omega)]
      simp
    · rw [dif_neg h, List.append_assoc, ih (m / 10) (by omega) _ (by omega)]
      have e : (UInt8.ofNat (48 + m % 10)).toNat = 48 + m % 10 := ofNat_toNat _ (by omega)
      rw [List.cons_append, List.nil_append, runD_cons, e, if_pos (by omega), if_neg (by omega)]
      rw [List.length_append, List.length_singleton]
      congr 1
      omega
theorem dec_head (m : Nat) : ∀ c, (Lib.decDigits m).head? = some c → c.toNat = 48 → m = 0 := by
  induction m using Nat.strongRecOn with
  | _ m ih =>
    intro c hc h48
    rw [Lib.decDigits] at hc
    by_cases h : m < 10
    · rw [dif_pos h] at hc
      simp only [List.head?_cons, Option.some.injEq] at hc
      rw [← hc, ofNat_toNat _ (by omega)] at h48
      omega
    · rw [dif_neg h, List.head?_append] at hc
      cases hd : (Lib.decDigits (m / 10)).head? with
      | none => exact absurd (List.head?_eq_none_iff.1 hd) (dec_ne _)
      | some x =>
        rw [hd] at hc
        simp at hc
        subst hc
        have := ih (m / 10) (by omega) x hd h48
        omega
/-- no digit stands ahead -/
def NoD (rest : List UInt8) : Prop := ∀ c, rest.head? = some c → ¬ (48 ≤ c.toNat ∧ c.toNat ≤ 57)
theorem runD_stop (rest : List UInt8) (h : NoD rest) (n k : Nat) : runD rest n k = some (n, k) := by
  cases rest with
  | nil => rfl
  | cons c r => rw [runD_cons, if_neg (h c rfl)]
theorem take_here {s pre rest : List UInt8} {n a : Int} (e : s = pre ++ (dig n ++ rest)) (ha : a = (pre.length : Int)) (h0 : 0 ≤ n) (h1 : n ≤ 2147483647) (hr : NoD rest) : takeL s a = (n, a + (dig n).length) := by
  obtain ⟨m, rfl⟩ := Int.eq_ofNat_of_zero_le h0
  subst ha
  unfold takeL dig at *
  rw [Int.toNat_natCast] at *
  rw [if_neg (by omega), Int.toNat_natCast, e, List.drop_left, runD_dec m rest (by omega), runD_stop rest hr]
  simp only
  have hl : 0 < (Lib.decDigits m).length := List.length_pos_iff.2 (dec_ne m)
  rw [if_neg]
  rintro (h | ⟨h, h2⟩)
  · omega
  · have hg : (pre ++ (Lib.decDigits m ++ rest)).getD pre.length 0 = (Lib.decDigits m).getD 0 0 := by
      simp only [List.getD]
      rw [List.getElem?_append_right (Nat.le_refl _), Nat.sub_self, List.getElem?_append_left hl]
    rw [hg] at h
    cases hd : Lib.decDigits m with
    | nil => exact absurd hd (dec_ne m)
    | cons c r =>
      rw [hd] at h
      have h0 := dec_head m c (by rw [hd]; rfl) h
      subst h0
      have : (Lib.decDigits 0).length = 1 := by rw [Lib.decDigits]; rfl
      omega
theorem skip_here {s pre word rest : List UInt8} {a : Int} (e : s = pre ++ (word ++ rest)) (ha : a = (pre.length : Int)) : skipL s a word = a + word.length := by
  subst ha
  unfold skipL
  rw [if_neg]
  rintro (h | h)
  · omega
  · rw [Int.toNat_natCast, e, List.drop_left, List.take_left] at h
    exact h rfl
theorem skip_end {s word : List UInt8} {a : Int} (ha : a = (s.length : Int)) (hw : word ≠ []) : skipL s a word = -1 := by
  subst ha
  have hne : ¬ (s.drop ((s.length : Nat) : Int).toNat).take word.length = word := by
    rw [Int.toNat_natCast, List.drop_eq_nil_of_le (Nat.le_refl _), List.take_nil]
    exact fun e => hw e.symm
  unfold skipL
  rw [if_pos (.inr hne)]
theorem host_back (h : Int) (h0 : 0 ≤ h) (h1 : h < 4294967296) : ((((0 * 256 + h / 16777216) % 4294967296 * 256 + h / 65536 % 256) % 4294967296 * 256 + h / 256 % 256) % 4294967296 * 256 + h % 256) % 4294967296 = h := by
  have a1 : (0 * 256 + h / 16777216) % 4294967296 = h / 16777216 := by omega
  rw [a1]
  have a2 : (h / 16777216 * 256 + h / 65536 % 256) % 4294967296 = h / 65536 := by omega
  rw [a2]
  have a3 : (h / 65536 * 256 + h / 256 % 256) % 4294967296 = h / 256 := by omega
  rw [a3]
  omega
theorem nod (c : UInt8) (r : List UInt8) (h : c.toNat < 48) : NoD (c :: r) := fun x hx => by
  simp at hx
  subst hx
  omega
set_option maxHeartbeats 1000000 in
theorem refR_text {h p i : Int} {v : Bool} (h0 : 0 ≤ h) (h1 : h < 4294967296) (hm : mayP h p i v = true) : refR (textL h p i v) = ⟨h, p, i, v⟩ := by
  unfold mayP at hm
  simp only [Bool.and_eq_true, decide_eq_true_eq] at hm
  obtain ⟨hvi, ⟨hma, hi0⟩, hi1⟩ := hm
  have hp : h ≠ 0 ∧ 1 ≤ p ∧ p ≤ 65535 := by simpa [mayA, and_assoc] using hma
  obtain ⟨R, hR⟩ : ∃ R, (if i = 0 then [] else [47, 112, 50, 112, 47] ++ dig i) ++ (if v = true then [47, 112, 50, 112, 45, 99, 105, 114, 99, 117, 105, 116] else []) = R := ⟨_, rfl⟩
  obtain ⟨s, hs⟩ : ∃ s, textL h p i v = s := ⟨_, rfl⟩
  have e : s = [47, 105, 112, 52, 47] ++ (dig (h / 16777216) ++ ([46] ++ (dig (h / 65536 % 256) ++ ([46] ++ (dig (h / 256 % 256) ++ ([46] ++ (dig (h % 256) ++ ([47, 117, 100, 112, 47] ++ (dig p ++ R))))))))) := by
    rw [← hs, ← hR]
    unfold textL
    rw [hostL_cat]
    simp [List.append_assoc]
  have hNR : NoD R := by
    rw [← hR]
    by_cases hi : i = 0
    · rw [if_pos hi]
      have : v = false := by cases v <;> simp_all
      rw [if_neg (by rw [this]; simp)]
      intro c hc; simp at hc
    · rw [if_neg hi]
      exact nod 47 _ (by decide)
  have b0 : 0 ≤ h / 16777216 ∧ h / 16777216 ≤ 255 := by omega
  have b1 : 0 ≤ h / 65536 % 256 ∧ h / 65536 % 256 ≤ 255 := by omega
  have b2 : 0 ≤ h / 256 % 256 ∧ h / 256 % 256 ≤ 255 := by omega
  have b3 : 0 ≤ h % 256 ∧ h % 256 ≤ 255 := by omega
  have hb := host_back h h0 h1
  rw [hs]
  clear hs hma
  generalize h / 16777216 = x0 at *
  generalize h / 65536 % 256 = x1 at *
  generalize h / 256 % 256 = x2 at *
  generalize h % 256 = x3 at *
  have s0 := skip_here (s := s) (pre := []) (word := [47, 105, 112, 52, 47]) (rest := (dig x0 ++ ([46] ++ (dig x1 ++ ([46] ++ (dig x2 ++ ([46] ++ (dig x3 ++ ([47, 117, 100, 112, 47] ++ (dig p ++ R)))))))))) (a := 0) (by rw [List.nil_append]; exact e) rfl
  have t0 := take_here (s := s) (pre := [47, 105, 112, 52, 47]) (rest := ([46] ++ (dig x1 ++ ([46] ++ (dig x2 ++ ([46] ++ (dig x3 ++ ([47, 117, 100, 112, 47] ++ (dig p ++ R))))))))) (n := x0) (a := 5) e rfl b0.1 (by omega) (nod 46 _ (by decide))
  have s1 := skip_here (s := s) (pre := ([47, 105, 112, 52, 47] ++ dig x0)) (word := [46]) (rest := (dig x1 ++ ([46] ++ (dig x2 ++ ([46] ++ (dig x3 ++ ([47, 117, 100, 112, 47] ++ (dig p ++ R)))))))) (a := 5 + ((dig x0).length : Int)) (by rw [e]; simp) (by simp; omega)
  have t1 := take_here (s := s) (pre := ([47, 105, 112, 52, 47] ++ (dig x0 ++ [46]))) (rest := ([46] ++ (dig x2 ++ ([46] ++ (dig x3 ++ ([47, 117, 100, 112, 47] ++ (dig p ++ R))))))) (n := x1) (a := 5 + ((dig x0).length : Int) + 1) (by rw [e]; simp) (by simp; omega) b1.1 (by omega) (nod 46 _ (by decide))
  have s2 := skip_here (s := s) (pre := ([47, 105, 112, 52, 47] ++ (dig x0 ++ ([46] ++ dig x1)))) (word := [46]) (rest := (dig x2 ++ ([46] ++ (dig x3 ++ ([47, 117, 100, 112, 47] ++ (dig p ++ R)))))) (a := 5 + ((dig x0).length : Int) + 1 + ((dig x1).length : Int)) (by rw [e]; simp) (by simp; omega)
  have t2 := take_here (s := s) (pre := ([47, 105, 112, 52, 47] ++ (dig x0 ++ ([46] ++ (dig x1 ++ [46]))))) (rest := ([46] ++ (dig x3 ++ ([47, 117, 100, 112, 47] ++ (dig p ++ R))))) (n := x2) (a := 5 + ((dig x0).length : Int) + 1 + ((dig x1).length : Int) + 1) (by rw [e]; simp) (by simp; omega) b2.1 (by omega) (nod 46 _ (by decide))
  have s3 := skip_here (s := s) (pre := ([47, 105, 112, 52, 47] ++ (dig x0 ++ ([46] ++ (dig x1 ++ ([46] ++ dig x2)))))) (word := [46]) (rest := (dig x3 ++ ([47, 117, 100, 112, 47] ++ (dig p ++ R)))) (a := 5 + ((dig x0).length : Int) + 1 + ((dig x1).length : Int) + 1 + ((dig x2).length : Int)) (by rw [e]; simp) (by simp; omega)
  have t3 := take_here (s := s) (pre := ([47, 105, 112, 52, 47] ++ (dig x0 ++ ([46] ++ (dig x1 ++ ([46] ++ (dig x2 ++ [46]))))))) (rest := ([47, 117, 100, 112, 47] ++ (dig p ++ R))) (n := x3) (a := 5 + ((dig x0).length : Int) + 1 + ((dig x1).length : Int) + 1 + ((dig x2).length : Int) + 1) (by rw [e]; simp) (by simp; omega) b3.1 (by omega) (nod 47 _ (by decide))
  have s4 := skip_here (s := s) (pre := ([47, 105, 112, 52, 47] ++ (dig x0 ++ ([46] ++ (dig x1 ++ ([46] ++ (dig x2 ++ ([46] ++ dig x3)))))))) (word := [47, 117, 100, 112, 47]) (rest := (dig p ++ R)) (a := 5 + ((dig x0).length : Int) + 1 + ((dig x1).length : Int) + 1 + ((dig x2).length : Int) + 1 + ((dig x3).length : Int)) (by rw [e]; simp) (by simp; omega)
  have t4 := take_here (s := s) (pre := ([47, 105, 112, 52, 47] ++ (dig x0 ++ ([46] ++ (dig x1 ++ ([46] ++ (dig x2 ++ ([46] ++ (dig x3 ++ [47, 117, 100, 112, 47]))))))))) (rest := R) (n := p) (a := 5 + ((dig x0).length : Int) + 1 + ((dig x1).length : Int) + 1 + ((dig x2).length : Int) + 1 + ((dig x3).length : Int) + 5) (by rw [e]; simp) (by simp; omega) (by omega) (by omega) hNR
  have h1' : hr s 1 = ((0 * 256 + x0) % 4294967296, 5 + ((dig x0).length : Int)) := by
    have h0' : hr s 0 = (0, 5) := by rw [hr, s0]; rfl
    rw [hr, if_pos rfl, h0']
    simp only
    rw [t0]
  have h2' : hr s 2 = (((0 * 256 + x0) % 4294967296 * 256 + x1) % 4294967296, 5 + ((dig x0).length : Int) + 1 + ((dig x1).length : Int)) := by
    rw [hr, if_neg (by omega), h1']
    simp only
    rw [s1, show (([46] : List UInt8).length : Int) = 1 from rfl, t1]
  have h3' : hr s 3 = ((((0 * 256 + x0) % 4294967296 * 256 + x1) % 4294967296 * 256 + x2) % 4294967296, 5 + ((dig x0).length : Int) + 1 + ((dig x1).length : Int) + 1 + ((dig x2).length : Int)) := by
    rw [hr, if_neg (by omega), h2']
    simp only
    rw [s2, show (([46] : List UInt8).length : Int) = 1 from rfl, t2]
  have h4' : hr s 4 = (h, 5 + ((dig x0).length : Int) + 1 + ((dig x1).length : Int) + 1 + ((dig x2).length : Int) + 1 + ((dig x3).length : Int)) := by
    rw [hr, if_neg (by omega), h3']
    simp only
    rw [s3, show (([46] : List UInt8).length : Int) = 1 from rfl, t3, hb]
  have hlen : (s.length : Int) = 5 + ((dig x0).length : Int) + 1 + ((dig x1).length : Int) + 1 + ((dig x2).length : Int) + 1 + ((dig x3).length : Int) + 5 + ((dig p).length : Int) + (R.length : Int) := by
    rw [e]; simp; omega
  unfold refR
  simp only [h4', s4, show (([47, 117, 100, 112, 47] : List UInt8).length : Int) = 5 from rfl, t4]
  obtain ⟨pre, hpre⟩ : ∃ pre, ([47, 105, 112, 52, 47] ++ (dig x0 ++ ([46] ++ (dig x1 ++ ([46] ++ (dig x2 ++ ([46] ++ (dig x3 ++ ([47, 117, 100, 112, 47] ++ dig p))))))))) = pre := ⟨_, rfl⟩
  have ep : s = pre ++ R := by rw [← hpre, e]; simp
  have lp : 5 + ((dig x0).length : Int) + 1 + ((dig x1).length : Int) + 1 + ((dig x2).length : Int) + 1 + ((dig x3).length : Int) + 5 + ((dig p).length : Int) = (pre.length : Int) := by rw [← hpre]; simp; omega
  rw [lp]
  rw [lp] at hlen
  clear s0 s1 s2 s3 s4 t0 t1 t2 t3 t4 h1' h2' h3' h4' lp hpre e hb b0 b1 b2 b3 hNR
  by_cases hi : i = 0
  · have hv : v = false := by cases v <;> simp_all
    rw [if_pos hi, if_neg (by rw [hv]; simp)] at hR
    have hR0 : R = [] := hR.symm
    have hz := skip_end (s := s) (word := [47, 112, 50, 112, 47]) (a := (pre.length : Int)) (by rw [hlen, hR0]; simp) (by simp)
    rw [hz, if_neg (by omega), hi, hv]
  · rw [if_neg hi, List.append_assoc] at hR
    have s5 := skip_here (s := s) (pre := pre) (word := [47, 112, 50, 112, 47]) (rest := dig i ++ (if v = true then [47, 112, 50, 112, 45, 99, 105, 114, 99, 117, 105, 116] else [])) (a := (pre.length : Int)) (by rw [ep, ← hR]) rfl
    rw [show (([47, 112, 50, 112, 47] : List UInt8).length : Int) = 5 from rfl] at s5
    have hn : NoD (if v = true then [47, 112, 50, 112, 45, 99, 105, 114, 99, 117, 105, 116] else []) := by
      cases v with
      | true => exact nod 47 _ (by decide)
      | false => intro c hc; simp at hc
    have t5 := take_here (s := s) (pre := pre ++ [47, 112, 50, 112, 47]) (rest := if v = true then [47, 112, 50, 112, 45, 99, 105, 114, 99, 117, 105, 116] else []) (n := i) (a := (pre.length : Int) + 5) (by rw [ep, ← hR, List.append_assoc]) (by simp) hi0 hi1 hn
    rw [s5, t5, if_pos (by omega)]
    simp only
    cases v with
    | true =>
      have s6 := skip_here (s := s) (pre := pre ++ ([47, 112, 50, 112, 47] ++ dig i)) (word := [47, 112, 50, 112, 45, 99, 105, 114, 99, 117, 105, 116]) (rest := []) (a := (pre.length : Int) + 5 + ((dig i).length : Int)) (by rw [ep, ← hR]; simp) (by simp; omega)
      rw [s6, decide_eq_true (by omega)]
    | false =>
      have s6 := skip_end (s := s) (word := [47, 112, 50, 112, 45, 99, 105, 114, 99, 117, 105, 116]) (a := (pre.length : Int) + 5 + ((dig i).length : Int)) (by rw [hlen, ← hR]; simp; omega) (by simp)
      rw [s6, decide_eq_false (by omega)]

/-- a text that came in -/
def IsStr (w : World) (v : Value) (l : List UInt8) : Prop := v = .string (st l)
section
variable {H : Type} {enc : TypeId × Value → H} {W : World}
theorem open_str {r : Reach} {b0 : Nat} {v : Value} {d : DataW H} {p : List MemPlace} (hv : Value.okWide Tryd.prog W r b0 9 v) (h : DataW.Trod enc Tryd.prog W 0 (fun _ => true) true 9 v d p) : ∃ l, IsStr W v l := by
  obtain ⟨s, rfl, _⟩ := Go.ChangeMaps.open_string Tryd.underlying9 hv h
  exact ⟨s.data.toList, by unfold IsStr; rw [st_self]⟩
end
/-- what is no place's text is refused by the document's own reading, too -/
theorem ansR_is (l : List UInt8) : (∃ t, parseL l = some t ∧ ansR l = .tuple #[.agg #[.int .u32 (t.h : Int), .int .i64 t.p, .int .i64 t.i, .bool t.v], .int .i64 0]) ∨ (parseL l = none ∧ ansR l = .tuple #[.agg #[.int .u32 0, .int .i64 0, .int .i64 0, .bool false], .int .i64 3]) := by
  cases hp : parseL l with
  | some t =>
    left
    obtain ⟨hm, ht, hlt⟩ := parse_is hp
    have hr := refR_text (by omega) (by omega) hm
    rw [ht] at hr
    refine ⟨t, rfl, ?_⟩
    unfold ansR
    rw [hr, if_pos]
    · rfl
    · refine ⟨?_, ?_⟩
      · unfold Plc.text Plc.may; rw [if_pos hm]; exact ht
      · rw [← ht]; exact fun e => by simp [textL] at e
  | none =>
    right
    refine ⟨rfl, ?_⟩
    unfold ansR
    rw [if_neg]
    · rfl
    · rintro ⟨h1, h2⟩
      unfold Plc.text at h1
      split at h1
      · rename_i hm
        have hb := hr_bd l 4
        have hh : (refR l).h = (hr l 4).1 := by unfold refR; simp only; split <;> rfl
        obtain ⟨t, e, _⟩ := parse_text (by rw [hh]; exact hb.1) (by rw [hh]; exact hb.2.1) hm
        rw [h1, hp] at e
        cases e
      · exact h2 h1.symm
end Go.Proofs.YtkemkbaomhjnbaaDoor
