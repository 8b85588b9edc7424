/-
  What the document's own FromBytes reads, step by step, against the message of bytes: pure facts of lists. Conditions: as each states.
-/
import Derived.Test.YtebgfiibcmnfnaaDoorLawBytes
namespace Go.Proofs.YtebgfiibcmnfnaaDoor
open Go.RowKit
set_option linter.unusedVariables false

theorem readMsg_parts {zs r : List Int} {m : Wi.Msg} (h : Wi.readMsg zs = some (m, r)) : Uv.code zs = 0 ∧ m.kind = Uv.val zs ∧ ∃ r1 r2, Wi.readNums (nrest zs) (Wi.numsOf (Uv.val zs)).toNat = some (m.nums, r1) ∧ Uv.code r1 = 0 ∧ Wi.readAddrs (nrest r1) (Uv.val r1).toNat = some (m.addrs, r2) ∧ Fr.code r2 = 0 := by
  unfold Wi.readMsg at h
  by_cases c1 : Uv.code zs = 0
  · rw [if_pos c1] at h
    have e1 : nrest zs = zs.drop (Uv.size zs) := by unfold nrest; rw [if_pos c1]
    rw [← e1] at h
    cases h1 : Wi.readNums (nrest zs) (Wi.numsOf (Uv.val zs)).toNat with
    | none => rw [h1] at h; cases h
    | some x =>
      obtain ⟨vs, r1⟩ := x
      rw [h1] at h
      simp only at h
      by_cases c2 : Uv.code r1 = 0
      · rw [if_pos c2] at h
        have e2 : nrest r1 = r1.drop (Uv.size r1) := by unfold nrest; rw [if_pos c2]
        rw [← e2] at h
        cases h2 : Wi.readAddrs (nrest r1) (Uv.val r1).toNat with
        | none => rw [h2] at h; cases h
        | some x =>
          obtain ⟨al, q⟩ := x
          rw [h2] at h
          simp only at h
          by_cases c3 : Fr.code q = 0
          · rw [if_pos c3] at h
            simp only [Option.some.injEq, Prod.mk.injEq] at h
            obtain ⟨rfl, rfl⟩ := h
            exact ⟨c1, rfl, r1, q, rfl, c2, h2, c3⟩
          · rw [if_neg c3] at h; cases h
      · rw [if_neg c2] at h; cases h
  · rw [if_neg c1] at h; cases h
theorem read_parts {zs : List Int} {m : Wi.Msg} (h : Wi.read zs = some m) : Wi.may m = true ∧ Wi.readMsg zs = some (m, []) := by
  unfold Wi.read at h
  cases h1 : Wi.readMsg zs with
  | none => rw [h1] at h; cases h
  | some x =>
    obtain ⟨m', r⟩ := x
    rw [h1] at h
    simp only at h
    by_cases c : r = [] ∧ Wi.may m' = true
    · rw [if_pos c] at h
      simp only [Option.some.injEq] at h
      subst h
      rw [c.1]
      exact ⟨c.2, rfl⟩
    · rw [if_neg c] at h; cases h
/-- where one step fails, none is read -/
theorem read_not {zs : List Int} (h : ∀ m, Wi.may m = true → Wi.readMsg zs = some (m, []) → False) : Wi.read zs = none := by
  cases h1 : Wi.read zs with
  | none => rfl
  | some m => exact (h m (read_parts h1).1 (read_parts h1).2).elim
theorem readNums_none {zs : List Int} {i : Nat} (h : Wi.readNums zs i = none) : ∀ {j : Nat}, i ≤ j → Wi.readNums zs j = none := by
  intro j hj
  induction j with
  | zero => obtain rfl : i = 0 := by omega
            exact h
  | succ j ih =>
    rcases Nat.lt_or_ge i (j + 1) with h' | h'
    · unfold Wi.readNums
      rw [ih (by omega)]
    · obtain rfl : i = j + 1 := by omega
      exact h
theorem rd_kind {zs : List Int} (h : Uv.code zs ≠ 0 ∨ Uv.val zs < 1 ∨ 18 < Uv.val zs) : Wi.read zs = none := read_not (fun m hm hr => by
  obtain ⟨h1, h2, _⟩ := readMsg_parts hr
  have h3 := Wi.numsOf_bd m.kind
  have h4 := (Wi.may_iff.1 hm).1
  omega)
theorem rd_num {zs : List Int} {i a K : Nat} {vs : List Nat} (hK : (Wi.numsOf (Uv.val zs)).toNat = K) (hi : i < K) (h : Wi.readNums (nrest zs) i = some (vs, zs.drop a)) (hc : Uv.code (zs.drop a) ≠ 0) : Wi.read zs = none := read_not (fun m hm hr => by
  obtain ⟨_, _, r1, r2, h1, _⟩ := readMsg_parts hr
  rw [hK, readNums_none (num_no h hc) (by omega)] at h1
  cases h1)
theorem rd_num_yes {zs : List Int} {i a : Nat} {vs : List Nat} (ha : a ≤ zs.length) (h : Wi.readNums (nrest zs) i = some (vs, zs.drop a)) (hc : Uv.code (zs.drop a) = 0) :
    Wi.readNums (nrest zs) (i + 1) = some (vs ++ [(Uv.val (zs.drop a)).toNat], zs.drop (a + Uv.size (zs.drop a))) ∧ a + Uv.size (zs.drop a) ≤ zs.length := by
  have h1 := num_yes h hc
  have e : nrest (zs.drop a) = zs.drop (a + Uv.size (zs.drop a)) := by unfold nrest; rw [if_pos hc, List.drop_drop]
  rw [e] at h1
  refine ⟨h1, ?_⟩
  rcases Uv.got_cases (zs.drop a) with h2 | h2
  · have := h2.2.2.1
    simp at this
    omega
  · omega
theorem nrest_size {zs : List Int} (hc : Uv.code zs = 0) : nrest zs = zs.drop (Uv.size zs) ∧ Uv.size zs ≤ zs.length := by
  refine ⟨by unfold nrest; rw [if_pos hc], ?_⟩
  rcases Uv.got_cases zs with h2 | h2
  · exact h2.2.2.1
  · omega
theorem code_nil : Uv.code [] ≠ 0 := by decide +kernel
theorem rd_many {zs : List Int} {a K : Nat} {vs : List Nat} (hb : ∀ z ∈ zs, 0 ≤ z ∧ z ≤ 255) (hK : (Wi.numsOf (Uv.val zs)).toNat = K) (h : Wi.readNums (nrest zs) K = some (vs, zs.drop a)) (hc : zs.length ≤ a ∨ 8 < zs.getD a 0) : Wi.read zs = none := read_not (fun m hm hr => by
  obtain ⟨_, _, r1, r2, h1, h2, h3, _⟩ := readMsg_parts hr
  rw [hK, h] at h1
  simp only [Option.some.injEq, Prod.mk.injEq] at h1
  obtain ⟨_, rfl⟩ := h1
  rcases hc with hc | hc
  · rw [List.drop_eq_nil_of_le hc] at h2
    exact code_nil h2
  · have hb1 : ∀ z ∈ zs.drop a, 0 ≤ z ∧ z ≤ 255 := fun z hz => hb z (List.mem_of_mem_drop hz)
    have h4 := (Wi.readAddrs_bd (nrest_bd hb1) h3).2.1
    have h5 := (Wi.may_iff.1 hm).2.1
    have h6 := Uv.val_bd (zs.drop a)
    have h7 := Uv.enc_val (zs.drop a) hb1 h2
    rw [Uv.enc_one _ (by omega)] at h7
    have h8 := congrArg (fun l : List Int => l.getD 0 0) h7
    simp only [List.getD, List.getElem?_drop, Nat.add_zero] at h8
    simp at h8
    have h9 : zs.getD a 0 = ((Uv.val (zs.drop a)).toNat : Int) := by
      unfold List.getD
      rw [← h8]
      omega
    omega)
theorem rd_many_yes {zs : List Int} {a : Nat} (hb : ∀ z ∈ zs, 0 ≤ z ∧ z ≤ 255) (ha : a < zs.length) (h8 : zs.getD a 0 ≤ 8) : Uv.code (zs.drop a) = 0 ∧ Uv.val (zs.drop a) = zs.getD a 0 ∧ nrest (zs.drop a) = zs.drop (a + 1) := by
  have h0 := hb zs[a] (List.getElem_mem ha)
  have hg : zs.getD a 0 = zs[a] := by simp [List.getD, ha]
  have hd : zs.drop a = Uv.enc zs[a].toNat ++ zs.drop (a + 1) := by
    rw [Uv.enc_one _ (by omega), List.drop_eq_getElem_cons ha, Int.toNat_of_nonneg h0.1]
    rfl
  have h1 := Wi.enc_code zs[a].toNat (zs.drop (a + 1)) (by omega)
  rw [← hd] at h1
  refine ⟨h1.1, by rw [h1.2.1, hg]; omega, ?_⟩
  unfold nrest
  rw [if_pos h1.1]
  exact h1.2.2
/-- what stands when j addresses have been read: they are the message's, or none is read, and one of them isn't one -/
def AdOk (zs : List Int) (a0 j a : Nat) (al : List (Int × Int)) : Prop := Wi.readAddrs (zs.drop a0) j = some (al, zs.drop a) ∨ (Wi.read zs = none ∧ ∃ x ∈ al, mayA x.1 x.2 = false)
theorem rd_adr {zs : List Int} {a a0 j a1 K V : Nat} {vs : List Nat} {al : List (Int × Int)} (hK : (Wi.numsOf (Uv.val zs)).toNat = K) (h : Wi.readNums (nrest zs) K = some (vs, zs.drop a)) (hv : Uv.val (zs.drop a) = (V : Int)) (hn : nrest (zs.drop a) = zs.drop a0) (hj : j < V) (ho : Wi.readAddrs (zs.drop a0) j = some (al, zs.drop a1)) (hc : acode (zs.drop a1) ≠ 0) : Wi.read zs = none := read_not (fun m hm hr => by
  obtain ⟨_, _, r1, r2, h1, h2, h3, _⟩ := readMsg_parts hr
  rw [hK, h] at h1
  simp only [Option.some.injEq, Prod.mk.injEq] at h1
  obtain ⟨_, rfl⟩ := h1
  rw [hn, hv, Int.toNat_natCast, readAddrs_none (adr_no ho hc) (by omega)] at h3
  cases h3)
theorem acode_short {r : List Int} (h : r.length < 6) : acode r ≠ 0 := by
  unfold acode
  rw [if_neg (by omega)]
  decide
theorem adOk_short {zs : List Int} {a a0 j a1 K V : Nat} {vs : List Nat} {al : List (Int × Int)} (hK : (Wi.numsOf (Uv.val zs)).toNat = K) (h : Wi.readNums (nrest zs) K = some (vs, zs.drop a)) (hv : Uv.val (zs.drop a) = (V : Int)) (hn : nrest (zs.drop a) = zs.drop a0) (hj : j < V) (ho : AdOk zs a0 j a1 al) (hc : zs.length < a1 + 6) : Wi.read zs = none := by
  rcases ho with ho | ho
  · exact rd_adr hK h hv hn hj ho (acode_short (by simp; omega))
  · exact ho.1
theorem adOk_step {zs : List Int} {a a0 j a1 K V : Nat} {vs : List Nat} {al : List (Int × Int)} (hK : (Wi.numsOf (Uv.val zs)).toNat = K) (h : Wi.readNums (nrest zs) K = some (vs, zs.drop a)) (hv : Uv.val (zs.drop a) = (V : Int)) (hn : nrest (zs.drop a) = zs.drop a0) (hj : j < V) (ho : AdOk zs a0 j a1 al) : AdOk zs a0 (j + 1) (a1 + 6) (al ++ [(ahost (zs.drop a1), aport (zs.drop a1))]) := by
  rcases ho with ho | ⟨h1, x, hx, h2⟩
  · by_cases hc : acode (zs.drop a1) = 0
    · have h1 := adr_yes ho hc
      unfold arest at h1
      rw [if_pos hc, List.drop_drop] at h1
      exact .inl h1
    · refine .inr ⟨rd_adr hK h hv hn hj ho hc, (ahost (zs.drop a1), aport (zs.drop a1)), by simp, ?_⟩
      have h6 : ¬ (6 ≤ (zs.drop a1).length ∧ mayA (Wi.host6 (zs.drop a1)) (Wi.port6 (zs.drop a1)) = true) := fun h => hc (by unfold acode; rw [if_pos h])
      unfold ahost aport
      rw [if_neg h6, if_neg h6]
      decide
  · exact .inr ⟨h1, x, by simp [hx], h2⟩
theorem rd_frame {zs : List Int} {a a0 a1 K V : Nat} {vs : List Nat} {al : List (Int × Int)} (hK : (Wi.numsOf (Uv.val zs)).toNat = K) (h : Wi.readNums (nrest zs) K = some (vs, zs.drop a)) (hv : Uv.val (zs.drop a) = (V : Int)) (hn : nrest (zs.drop a) = zs.drop a0) (ho : AdOk zs a0 V a1 al) (hc : Fr.code (zs.drop a1) ≠ 0) : Wi.read zs = none := by
  rcases ho with ho | ho
  · exact read_not (fun m hm hr => by
      obtain ⟨_, _, r1, r2, h1, h2, h3, h4⟩ := readMsg_parts hr
      rw [hK, h] at h1
      simp only [Option.some.injEq, Prod.mk.injEq] at h1
      obtain ⟨_, rfl⟩ := h1
      rw [hn, hv, Int.toNat_natCast, ho] at h3
      simp only [Option.some.injEq, Prod.mk.injEq] at h3
      obtain ⟨_, rfl⟩ := h3
      exact hc h4)
  · exact ho.1
theorem rd_end {zs : List Int} {a a0 a1 K V : Nat} {vs : List Nat} {al : List (Int × Int)} (hb : ∀ z ∈ zs, 0 ≤ z ∧ z ≤ 255) (hz : Uv.code zs = 0) (hK : (Wi.numsOf (Uv.val zs)).toNat = K) (h : Wi.readNums (nrest zs) K = some (vs, zs.drop a)) (h2 : Uv.code (zs.drop a) = 0) (hv : Uv.val (zs.drop a) = (V : Int)) (hn : nrest (zs.drop a) = zs.drop a0) (ho : AdOk zs a0 V a1 al) (hc : Fr.code (zs.drop a1) = 0) (hw : Wi.Wf ⟨Uv.val zs, vs, al, Fr.row (zs.drop a1)⟩) :
    Wi.read zs = if outB ⟨Uv.val zs, vs, al, Fr.row (zs.drop a1)⟩ = zs then some ⟨Uv.val zs, vs, al, Fr.row (zs.drop a1)⟩ else none := by
  have hne : zs ≠ [] := fun e => code_nil (by rw [e] at hz; exact hz)
  by_cases he : outB ⟨Uv.val zs, vs, al, Fr.row (zs.drop a1)⟩ = zs
  · rw [if_pos he]
    unfold outB at he
    by_cases hm : Wi.may ⟨Uv.val zs, vs, al, Fr.row (zs.drop a1)⟩ = true
    · rw [if_pos hm] at he
      have := Wi.read_bytes hw hm
      rw [he] at this
      exact this
    · rw [if_neg hm] at he
      exact absurd he.symm hne
  · rw [if_neg he]
    rcases ho with ho | ho
    · have hr := readMsg_yes hK hz h h2 (by rw [hn, hv, Int.toNat_natCast]; exact ho) hc
      unfold Wi.read
      rw [hr]
      simp only
      have : ¬ (frest (zs.drop a1) = [] ∧ Wi.may ⟨Uv.val zs, vs, al, Fr.row (zs.drop a1)⟩ = true) := fun hh => he (by
        have := (Wi.readMsg_ok hb hr).1
        rw [hh.1, List.append_nil] at this
        unfold outB
        rw [if_pos hh.2, this])
      rw [if_neg this]
    · exact ho.1
end Go.Proofs.YtebgfiibcmnfnaaDoor
