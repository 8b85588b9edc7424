/-
  A place's text is read as that place, and what is read has just that text. No program. Conditions: as each lemma states.
-/
import Derived.Test.YtkemkbaomhjnbaaDoorPlcIn
import Derived.Test.YtkemkbaomhjnbaaDoorParse
namespace Go.Proofs.YtkemkbaomhjnbaaDoor
set_option linter.unusedVariables false

/-! ### parts and joins -/
def joinC (c : UInt8) : List (List UInt8) → List UInt8
  | [] => []
  | [p] => p
  | p :: q :: ps => p ++ c :: joinC c (q :: ps)
theorem joinC_cons (c : UInt8) (p : List UInt8) {ps : List (List UInt8)} (h : ps ≠ []) : joinC c (p :: ps) = p ++ c :: joinC c ps := by
  cases ps with
  | nil => exact absurd rfl h
  | cons q ps => rfl
theorem parts_join (c : UInt8) : ∀ (ps : List (List UInt8)), ps ≠ [] → (∀ p ∈ ps, c ∉ p) → parts c (joinC c ps) = ps
  | [], h, _ => absurd rfl h
  | [p], _, h => by
    have h1 : c ∉ p := h p (by simp)
    clear h
    simp only [joinC]
    induction p with
    | nil => rfl
    | cons b l ih =>
      rw [parts_cons, if_neg (fun e => h1 (by simp [e])), ih (by simp) (fun e => h1 (List.mem_cons_of_mem _ e))]
  | p :: q :: ps, _, h => by
    have h1 : c ∉ p := h p (by simp)
    have ih := parts_join c (q :: ps) (by simp) (fun x hx => h x (List.mem_cons_of_mem _ hx))
    clear h
    rw [joinC_cons c p (by simp)]
    induction p with
    | nil => rw [List.nil_append, parts_cons, if_pos rfl, ih]
    | cons b l ihp =>
      rw [List.cons_append, parts_cons, if_neg (fun e => h1 (by simp [e])), ihp (by simp) (fun e => h1 (List.mem_cons_of_mem _ e))]
theorem join_parts (c : UInt8) : ∀ l : List UInt8, joinC c (parts c l) = l
  | [] => rfl
  | b :: l => by
    have ih := join_parts c l
    have hn := parts_ne c l
    rw [parts_cons]
    by_cases h : b = c
    · rw [if_pos h, joinC_cons c [] hn, ih, h]; rfl
    · rw [if_neg h]
      cases hp : parts c l with
      | nil => exact absurd hp hn
      | cons p ps =>
        rw [hp] at ih
        cases ps with
        | nil => simp only [joinC] at ih ⊢; rw [ih]
        | cons q qs => simp only [joinC] at ih ⊢; rw [List.cons_append, ih]

/-! ### numbers -/
theorem numF_cons (most : Int) (c : UInt8) (r : List UInt8) (k : Nat) (v : Int) : numF most (c :: r) k v = if c.toNat < 48 ∨ 57 < c.toNat then none else if (0 < k ∧ v = 0) ∨ (most - ((c.toNat : Int) - 48)) / 10 < v then none else numF most r (k + 1) (10 * v + ((c.toNat : Int) - 48)) := rfl
theorem numF_app (most : Int) : ∀ (l r : List UInt8) (k : Nat) (v : Int), numF most (l ++ r) k v = (numF most l k v).bind (fun x => numF most r (k + l.length) x)
  | [], r, k, v => by simp [numF]
  | c :: l, r, k, v => by
    rw [List.cons_append, numF_cons, numF_cons]
    split
    · rfl
    · split
      · rfl
      · rw [numF_app most l r (k + 1), List.length_cons, show k + 1 + l.length = k + (l.length + 1) by omega]
theorem ofNat_toNat (n : Nat) (h : n < 256) : (UInt8.ofNat n).toNat = n := by simp; omega
theorem dec_ne (n : Nat) : Lib.decDigits n ≠ [] := by rw [dec_pre]; simp
theorem numF_dec (most : Int) (hm : 9 ≤ most) (n : Nat) (h : (n : Int) ≤ most) : numF most (Lib.decDigits n) 0 0 = some (n : Int) := by
  induction n using Nat.strongRecOn with
  | _ n ih =>
    rw [Lib.decDigits]
    by_cases h10 : n < 10
    · rw [dif_pos h10]
      have e : (UInt8.ofNat (48 + n)).toNat = 48 + n := ofNat_toNat _ (by omega)
      unfold numF
      rw [e, if_neg (by omega), if_neg (by omega)]
      unfold numF
      congr 1
      omega
    · rw [dif_neg h10, numF_app, ih (n / 10) (by omega) (by omega)]
      have e : (UInt8.ofNat (48 + n % 10)).toNat = 48 + n % 10 := ofNat_toNat _ (by omega)
      have hl : 0 < (Lib.decDigits (n / 10)).length := List.length_pos_iff.2 (dec_ne _)
      simp only [Option.bind_some]
      unfold numF
      rw [e, if_neg (by omega), if_neg (by omega)]
      unfold numF
      congr 1
      omega
theorem numF_is (most : Int) : ∀ (l : List UInt8), l ≠ [] → ∀ v, numF most l 0 0 = some v → 0 ≤ v ∧ l = Lib.decDigits v.toNat := by
  intro l
  generalize hn : l.length = n
  induction n generalizing l with
  | zero => intro h; exact absurd (List.eq_nil_of_length_eq_zero hn) h
  | succ n ih =>
    intro h v hv
    obtain ⟨q, c, rfl⟩ : ∃ q c, l = q ++ [c] := ⟨l.dropLast, l.getLast h, (List.dropLast_concat_getLast h).symm⟩
    have hq : q.length = n := by simp at hn; omega
    rw [numF_app] at hv
    cases h1 : numF most q 0 0 with
    | none => rw [h1] at hv; cases hv
    | some x =>
      rw [h1] at hv
      simp only [Option.bind_some] at hv
      unfold numF at hv
      split at hv
      · cases hv
      · split at hv
        · cases hv
        · rename_i h2 h3
          unfold numF at hv
          simp only [Option.some.injEq] at hv
          by_cases hq0 : q = []
          · subst hq0
            simp [numF] at h1
            subst h1
            refine ⟨by omega, ?_⟩
            rw [Lib.decDigits, dif_pos (by omega)]
            simp only [List.nil_append, List.cons.injEq, and_true]
            rw [← UInt8.toNat_inj, ofNat_toNat _ (by omega)]
            omega
          · obtain ⟨hx, e⟩ := ih q hq hq0 x h1
            have hl : 0 < q.length := List.length_pos_iff.2 hq0
            have hx0 : x ≠ 0 := fun e0 => h3 (.inl ⟨by omega, e0⟩)
            refine ⟨by omega, ?_⟩
            have e1 : v.toNat / 10 = x.toNat := by omega
            have e2 : v.toNat % 10 = c.toNat - 48 := by omega
            rw [Lib.decDigits, dif_neg (by omega), e1, e2, ← e]
            congr 2
            rw [← UInt8.toNat_inj, ofNat_toNat _ (by omega)]
            omega
theorem numV_dig (least most n : Int) (hm : 9 ≤ most) (h0 : 0 ≤ n) (hl : least ≤ n) (h : n ≤ most) : numV least most (dig n) = (n, true) := by
  obtain ⟨m, rfl⟩ := Int.eq_ofNat_of_zero_le h0
  unfold numV dig
  rw [Int.toNat_natCast, numF_dec most hm m h]
  have hne := dec_ne m
  cases hd : Lib.decDigits m with
  | nil => exact absurd hd hne
  | cons a b => simp [hl]
theorem numV_is {least most : Int} {l : List UInt8} {n : Int} (hm : 9 ≤ most) (h : numV least most l = (n, true)) : l = dig n ∧ 0 ≤ n ∧ least ≤ n ∧ n ≤ most := by
  have hb := numV_bd least most l (by omega)
  rw [h] at hb
  unfold numV at h
  cases h1 : numF most l 0 0 with
  | none => rw [h1] at h; simp at h
  | some v =>
    rw [h1] at h
    simp only [Prod.mk.injEq, Bool.and_eq_true, Bool.not_eq_true', decide_eq_true_eq] at h
    obtain ⟨rfl, h2, h3⟩ := h
    have hne : l ≠ [] := by intro e; rw [e] at h2; cases h2
    obtain ⟨h4, h5⟩ := numF_is most l hne v h1
    exact ⟨h5, h4, h3, hb.2⟩
theorem dec_digit : ∀ (n : Nat), ∀ c ∈ Lib.decDigits n, 48 ≤ c.toNat ∧ c.toNat ≤ 57 := by
  intro n
  induction n using Nat.strongRecOn with
  | _ n ih =>
    intro c hc
    rw [Lib.decDigits] at hc
    by_cases h10 : n < 10
    · rw [dif_pos h10] at hc
      simp only [List.mem_singleton] at hc
      rw [hc, ofNat_toNat _ (by omega)]; omega
    · rw [dif_neg h10] at hc
      rcases List.mem_append.1 hc with h | h
      · exact ih (n / 10) (by omega) c h
      · simp only [List.mem_singleton] at h
        rw [h, ofNat_toNat _ (by omega)]; omega
theorem dig_no (n : Int) (c : UInt8) (hc : c.toNat < 48) : c ∉ dig n := fun h => by
  have := dec_digit n.toNat c h
  omega

/-! ### hosts -/
theorem hostL_join (h p : Int) : hostL h p = joinC 46 [dig (h / 16777216), dig (h / 65536 % 256), dig (h / 256 % 256), dig (h % 256)] := by
  rw [hostL_cat]
  simp [joinC]
theorem hostStep_some {v k : Nat} {z : List UInt8} {b : Int} (h : numV 0 255 z = (b, true)) : hostStep (some (v, k)) z = some (v * 256 % 4294967296 + b.toNat, k + 1) := by
  simp only [hostStep, h, if_true]
theorem hostUp_nat (a b c d n : Nat) (h : n < 4294967296) (ha : a = n / 16777216) (hb : b = n / 65536 % 256) (hc : c = n / 256 % 256) (hd : d = n % 256) : ((a * 256 % 4294967296 + b) * 256 % 4294967296 + c) * 256 % 4294967296 + d = n := by
  have h1 : a * 256 % 4294967296 + b = n / 65536 := by omega
  have h2 : (a * 256 % 4294967296 + b) * 256 % 4294967296 + c = n / 256 := by
    clear ha hb hd
    have h3 : n / 65536 * 256 < 4294967296 := by omega
    rw [h1, hc, Nat.mod_eq_of_lt h3]
    clear h1 hc
    omega
  have h4 : n / 256 * 256 < 4294967296 := by clear ha hb hc hd h1 h2; omega
  rw [h2, hd, Nat.mod_eq_of_lt h4]
  clear ha hb hc hd h1 h2 h4
  omega
set_option maxRecDepth 100000 in
theorem hostV_text (h p : Int) (h0 : 0 ≤ h) (h1 : h < 4294967296) (hh : h ≠ 0) : hostV (hostL h p) = (h.toNat, true) := by
  have n : ∀ x : Int, 0 ≤ x → x ≤ 255 → numV 0 255 (dig x) = (x, true) := fun x a b => numV_dig 0 255 x (by omega) a a b
  have e : hostFold (parts 46 (hostL h p)) = some (h.toNat, 4) := by
    rw [hostL_join, parts_join 46 _ (by simp) (by intro x hx; simp at hx; rcases hx with rfl | rfl | rfl | rfl <;> exact dig_no _ _ (by decide))]
    unfold hostFold
    simp only [List.foldl_cons, List.foldl_nil]
    rw [hostStep_some (n _ (by omega) (by omega)), hostStep_some (n _ (by omega) (by omega)), hostStep_some (n _ (by omega) (by omega)), hostStep_some (n _ (by omega) (by omega))]
    have e0 : (h / 16777216).toNat = h.toNat / 16777216 := by omega
    have e1 : (h / 65536 % 256).toNat = h.toNat / 65536 % 256 := by omega
    have e2 : (h / 256 % 256).toNat = h.toNat / 256 % 256 := by omega
    have e3 : (h % 256).toNat = h.toNat % 256 := by omega
    have e4 := hostUp_nat _ _ _ _ h.toNat (by omega) e0 e1 e2 e3
    rw [Nat.zero_mul, Nat.zero_mod, Nat.zero_add, e4]
  unfold hostV
  rw [e]
  have hd : decide (h.toNat ≠ 0) = true := decide_eq_true (by omega)
  simp only [hd]
  rfl
theorem hostStep_inv {s : Option (Nat × Nat)} {z : List UInt8} {v k : Nat} (h : hostStep s z = some (v, k)) : ∃ a j b, s = some (a, j) ∧ numV 0 255 z = (b, true) ∧ v = a * 256 % 4294967296 + b.toNat ∧ k = j + 1 := by
  cases s with
  | none => cases h
  | some x =>
    obtain ⟨a, j⟩ := x
    simp only [hostStep] at h
    split at h
    · rename_i hb
      simp only [Option.some.injEq, Prod.mk.injEq] at h
      exact ⟨a, j, (numV 0 255 z).1, rfl, by rw [← hb], h.1.symm, h.2.symm⟩
    · cases h
theorem hostV_is {l : List UInt8} {v : Nat} (p : Int) (h : hostV l = (v, true)) : l = hostL (v : Int) p ∧ v ≠ 0 ∧ v < 4294967296 := by
  have hlt := hostV_bd l
  rw [h] at hlt
  have hj := join_parts 46 l
  unfold hostV at h
  cases hf : hostFold (parts 46 l) with
  | none => rw [hf] at h; simp at h
  | some x =>
    obtain ⟨v', k⟩ := x
    rw [hf] at h
    simp only [Prod.mk.injEq, Bool.and_eq_true, decide_eq_true_eq] at h
    obtain ⟨rfl, rfl, hv⟩ := h
    have hk := (hostFold_bd _ _ _ _ rfl hf).2
    generalize parts 46 l = ps at *
    match ps, hk with
    | [a, b, c, d], _ =>
      unfold hostFold at hf
      simp only [List.foldl_cons, List.foldl_nil] at hf
      obtain ⟨v3, j3, nd, e3, hd, rfl, _⟩ := hostStep_inv hf
      obtain ⟨v2, j2, nc, e2, hc, rfl, _⟩ := hostStep_inv e3
      obtain ⟨v1, j1, nb, e1, hb, rfl, _⟩ := hostStep_inv e2
      obtain ⟨v0, j0, na, e0, ha, rfl, _⟩ := hostStep_inv e1
      simp only [Option.some.injEq, Prod.mk.injEq] at e0
      obtain ⟨rfl, _⟩ := e0
      obtain ⟨rfl, a0, _, a1⟩ := numV_is (by omega) ha
      obtain ⟨rfl, b0, _, b1⟩ := numV_is (by omega) hb
      obtain ⟨rfl, c0, _, c1⟩ := numV_is (by omega) hc
      obtain ⟨rfl, d0, _, d1⟩ := numV_is (by omega) hd
      refine ⟨?_, hv, hlt⟩
      rw [← hj, hostL_join]
      congr 2
      · congr 1; omega
      · congr 1
        · congr 1; omega
        · congr 1
          · congr 1; omega
          · congr 1; congr 1; omega

/-! ### places -/
def pieces (h p i : Int) (v : Bool) : List (List UInt8) := [[], [105, 112, 52], hostL h p, [117, 100, 112], dig p] ++ ((if i = 0 then [] else [[112, 50, 112], dig i]) ++ if v = true then [[112, 50, 112, 45, 99, 105, 114, 99, 117, 105, 116]] else [])
theorem textL_join (h p i : Int) (v : Bool) : textL h p i v = joinC 47 (pieces h p i v) := by
  unfold textL pieces
  by_cases hi : i = 0 <;> cases v <;> simp [hi, joinC]
theorem hostL_no (h p : Int) : (47 : UInt8) ∉ hostL h p := by
  rw [hostL_cat]
  have d : ∀ n, (47 : UInt8) ∉ dig n := fun n => dig_no n 47 (by decide)
  simp [d]
theorem pieces_no (h p i : Int) (v : Bool) : ∀ z ∈ pieces h p i v, (47 : UInt8) ∉ z := by
  intro z hz
  unfold pieces at hz
  have d : ∀ n, (47 : UInt8) ∉ dig n := fun n => dig_no n 47 (by decide)
  by_cases hi : i = 0 <;> cases v <;> simp [hi] at hz <;> (rcases hz with rfl | rfl | rfl | rfl | hz) <;> first
    | exact hostL_no h p
    | decide
    | (subst hz; exact d _)
    | (rcases hz with rfl | rfl | rfl | rfl <;> first | exact d _ | decide)
    | (rcases hz with rfl | rfl | rfl <;> first | exact d _ | decide)
    | (rcases hz with rfl | rfl <;> first | exact d _ | decide)
theorem parse_text {h p i : Int} {v : Bool} (h0 : 0 ≤ h) (h1 : h < 4294967296) (hm : mayP h p i v = true) : ∃ s, parseL (textL h p i v) = some s ∧ (s.h : Int) = h ∧ s.p = p ∧ s.i = i ∧ s.v = v := by
  unfold mayP at hm
  simp only [Bool.and_eq_true, decide_eq_true_eq] at hm
  obtain ⟨hvi, ⟨hma, hi0⟩, hi1⟩ := hm
  have hp : h ≠ 0 ∧ 1 ≤ p ∧ p ≤ 65535 := by simpa [mayA, and_assoc] using hma
  have eh := hostV_text h p h0 h1 hp.1
  have ep := numV_dig 1 65535 p (by omega) (by omega) hp.2.1 hp.2.2
  have hparts : parts 47 (textL h p i v) = pieces h p i v := by
    rw [textL_join, parts_join 47 _ (by unfold pieces; simp) (pieces_no h p i v)]
  unfold parseL
  rw [hparts]
  unfold pieces foldP
  by_cases hi : i = 0
  · have hv : v = false := by cases v <;> simp_all
    subst hi; subst hv
    refine ⟨⟨5, true, h.toNat, p, 0, false⟩, ?_, by show ((h.toNat : Nat) : Int) = h; omega, rfl, rfl, rfl⟩
    simp [stepP, put, eh, ep]
  · have ei := numV_dig 1 2147483647 i (by omega) hi0 (by omega) hi1
    cases v with
    | false =>
      refine ⟨⟨7, true, h.toNat, p, i, false⟩, ?_, by show ((h.toNat : Nat) : Int) = h; omega, rfl, rfl, rfl⟩
      simp [stepP, put, eh, ep, ei, hi]
    | true =>
      refine ⟨⟨8, true, h.toNat, p, i, true⟩, ?_, by show ((h.toNat : Nat) : Int) = h; omega, rfl, rfl, rfl⟩
      simp [stepP, put, eh, ep, ei, hi]
end Go.Proofs.YtkemkbaomhjnbaaDoor
