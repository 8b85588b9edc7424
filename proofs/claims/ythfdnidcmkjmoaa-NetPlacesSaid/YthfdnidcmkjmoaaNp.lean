/-
  What NetPlaces' walk is told: integers that came in; the net of a loop of Sends; what is left of it, and which were taken. Conditions: as each states.
-/
import Derived.Test.YthfdnidcmkjmoaaNa
import Derived.Laws.MakeOwn
namespace Go.Proofs.Ythfdnidcmkjmoaa
open Go.RowKit
set_option linter.unusedVariables false

def IsNums (w : World) (v : Value) (zs : List Int) : Prop := ∃ A cap, v = .slice A zs.length cap ∧ zs.length ≤ cap ∧ cap ≤ maxLen ∧ (0 < zs.length → ∃ b off, A = some ⟨b, off, none⟩ ∧ b < w.heap.size ∧ ∀ j, j < zs.length → w.cell? ⟨b, off + j, none⟩ = some (.int .i64 (zs.getD j 0))) ∧ ∀ j, W64 (zs.getD j 0)
section
variable {H : Type} {enc : TypeId × Value → H} {W : World}
theorem open_nums {r : Reach} {b0 : Nat} {v : Value} {d : DataW H} {p : List MemPlace} (hv : Value.okWide Try.prog W r b0 51 v) (h : DataW.Trod enc Try.prog W 0 (fun _ => true) true 51 v d p) : ∃ zs, IsNums W v zs := by
  obtain ⟨A, l, c, rfl⟩ := WideShapes.okWide_slice Try.underlying51 hv
  obtain ⟨fuel, hf⟩ := h
  rcases Go.ChangeShapes.open_ints Try.underlying51 Try.underlying3 (by kernel_rfl) (by simpa [Value.cells] using hf) with ⟨hcs, _⟩ | ⟨x, l, c, zs, hcs, _, hl, hm, hz, _, hcell, hwz⟩
  · simp at hcs
    obtain ⟨rfl, rfl, rfl⟩ := hcs
    exact ⟨[], none, 0, rfl, Nat.le_refl _, Nat.zero_le _, fun h => by simp at h, fun j => by simp [W64]⟩
  · simp at hcs
    obtain ⟨rfl, rfl, rfl⟩ := hcs
    have hzl : zs.length = c := by simpa using hz
    refine ⟨zs.take l, some x, c, by rw [List.length_take, Nat.min_eq_left (by omega)], by rw [List.length_take]; omega, hm, fun hpos => ?_, fun j => ?_⟩
    · have hlt : (zs.take l).length = l := by rw [List.length_take]; omega
      rw [hlt] at hpos ⊢
      obtain ⟨b, off, rfl, hc⟩ := ints_at hcell (by omega)
      refine ⟨b, off, rfl, World.block_lt_of_cell? W _ (hc 0 (by omega)), fun j hj => ?_⟩
      rw [hc j (by omega)]
      simp [List.getD, hj]
    · by_cases hj : j < (zs.take l).length
      · have h1 : (zs.take l).getD j 0 ∈ zs := by
          simp only [List.getD, List.getElem?_eq_getElem hj, Option.getD_some]
          exact List.mem_of_mem_take (List.getElem_mem hj)
        exact bounds_i64 (hwz _ h1)
      · simp [List.getD, List.getElem?_eq_none (by omega : (zs.take l).length ≤ j), W64]
end
/-- the datagrams of a loop of Sends -/
def mkD (j : Nat) : Dg := ⟨(j : Int) + 1, a11, a11, [(j : Int)]⟩
def mkM (i : Nat) : List Dg := (List.range i).map mkD
theorem mkM_len (i : Nat) : (mkM i).length = i := by simp [mkM]
theorem mkM_ok {i : Nat} (h : i ≤ 300) : OkD (mkM i) i := ⟨by rw [mkM_len]; omega, by intro d hd; simp [mkM] at hd; obtain ⟨j, _, rfl⟩ := hd; simp [mkD], by omega, by omega⟩
theorem mkM_send {i : Nat} (h : i < 300) : sendN (mkM i) i a11 a11 [(i : Int)] = (((i : Int) + 1, 0), mkM (i + 1), (i : Int) + 1) := by
  unfold sendN putN
  rw [if_pos ⟨rfl, rfl, by simp⟩, mkM_len, if_pos h]
  simp [mkM, List.range_succ, mkD]
/-- what is left: some of k datagrams, no two alike, those that tk doesn't say -/
structure Lft (k : Nat) (M : List Dg) (tk : Nat → Bool) : Prop where
  from_ : ∀ d ∈ M, ∃ j, j < k ∧ d = mkD j ∧ tk (j + 1) = false
  apart : M.Pairwise fun d e => d.no ≠ e.no
theorem Lft.start (k : Nat) : Lft k (mkM k) (fun _ => false) := by
  refine ⟨fun d hd => ?_, ?_⟩
  · simp [mkM] at hd
    obtain ⟨j, hj, rfl⟩ := hd
    exact ⟨j, hj, rfl, rfl⟩
  · unfold mkM
    rw [List.pairwise_map]
    refine List.Pairwise.imp (R := fun a b => a < b) ?_ List.pairwise_lt_range
    intro a b hab
    simp [mkD]; omega
theorem eraseIdx_pair {M : List Dg} {i : Nat} {d : Dg} (h : M.Pairwise fun d e => d.no ≠ e.no) (hi : M[i]? = some d) : ∀ e ∈ M.eraseIdx i, e.no ≠ d.no := by
  intro e he
  rw [List.mem_eraseIdx_iff_getElem?] at he
  obtain ⟨j, hj, hje⟩ := he
  obtain ⟨h1, h2⟩ := List.getElem?_eq_some_iff.1 hi
  obtain ⟨h3, h4⟩ := List.getElem?_eq_some_iff.1 hje
  rw [List.pairwise_iff_getElem] at h
  rcases Nat.lt_or_ge i j with hlt | hge
  · have := h i j h1 h3 hlt
    rw [h2, h4] at this
    exact fun e => this e.symm
  · have := h j i h3 h1 (by omega)
    rw [h2, h4] at this
    exact this
/-- one is taken from a place -/
theorem Lft.take {k : Nat} {M : List Dg} {tk : Nat → Bool} (h : Lft k M tk) (hM : 0 < M.length) (p : Int) :
    ∃ j, j < k ∧ atN M p = (j : Int) + 1 ∧ tk (j + 1) = false ∧ (takeN M ((j : Int) + 1)).1 = (mkD j, 0) ∧ (takeN M ((j : Int) + 1)).2.length + 1 = M.length ∧ Lft k (takeN M ((j : Int) + 1)).2 (fun i => if i = j + 1 then true else tk i) := by
  have hr1 := Int.emod_nonneg p (show (M.length : Int) ≠ 0 by omega)
  have hr2 := Int.emod_lt_of_pos p (show (0 : Int) < M.length by omega)
  have hi : (p % (M.length : Int)).toNat < M.length := by omega
  obtain ⟨i, hie⟩ : ∃ i, (p % (M.length : Int)).toNat = i := ⟨_, rfl⟩
  rw [hie] at hi
  obtain ⟨j, hj, hd, ht⟩ := h.from_ M[i] (List.getElem_mem hi)
  have hat : atN M p = (j : Int) + 1 := by
    unfold atN
    rw [if_neg (by omega), hie]
    simp [List.getD, hi, hd, mkD]
  have hf : findN M ((j : Int) + 1) = some i := findN_hit (d := mkD j) (by rw [List.getElem?_eq_getElem hi, hd]) rfl (fun j' hj' y hy => by
    obtain ⟨h3, h4⟩ := List.getElem?_eq_some_iff.1 hy
    have := (List.pairwise_iff_getElem.1 h.apart) j' i h3 hi hj'
    rw [h4, hd] at this
    exact this)
  have htk : takeN M ((j : Int) + 1) = ((mkD j, 0), M.eraseIdx i) := by
    unfold takeN
    rw [hf]
    simp [List.getD, hi, hd]
  refine ⟨j, hj, hat, ht, by rw [htk], by rw [htk]; simp [List.length_eraseIdx, hi]; omega, ?_⟩
  rw [htk]
  have hpe := eraseIdx_pair h.apart (List.getElem?_eq_getElem hi)
  refine ⟨fun d hd' => ?_, h.apart.sublist (List.eraseIdx_sublist M i)⟩
  obtain ⟨j', hj', hd2, ht'⟩ := h.from_ d (List.mem_of_mem_eraseIdx hd')
  refine ⟨j', hj', hd2, ?_⟩
  have := hpe d hd'
  rw [hd, hd2] at this
  have hne : ¬ j' + 1 = j + 1 := fun e => this (by simp [mkD]; omega)
  rw [if_neg hne]
  exact ht'
theorem Lft.ok {k : Nat} {M : List Dg} {tk : Nat → Bool} (h : Lft k M tk) (hk : M.length ≤ 300) (hk3 : k ≤ 300) : OkD M k := ⟨by omega, fun d hd => by obtain ⟨j, _, rfl, _⟩ := h.from_ d hd; simp [mkD], by omega, by omega⟩
end Go.Proofs.Ythfdnidcmkjmoaa
