/-
  A message's parts that the call itself has made, as the parts of a message. Conditions: as each states.
-/
import Derived.Test.YtebgfiibcmnfnaaDoorMsgAdr
namespace Go.Proofs.YtebgfiibcmnfnaaDoor
open Go.RowKit
set_option linter.unusedVariables false

theorem own_ns {V : World} {base n : Nat} {v : Value} {vs : List Nat} (h : V.ownsRow base 39 1 v n (U vs)) (hn : vs.length = n) (hb : ∀ x ∈ vs, x < 18446744073709551616) : Ns V v vs := by
  subst hn
  obtain ⟨hl, ⟨rfl, h0⟩ | ⟨g, cap, cur, rfl, h1, hg, h2, h3, h4, h5⟩⟩ := h
  · exact ⟨none, 0, by rw [h0], by omega, Nat.zero_le _, fun _ => ⟨h0, rfl⟩, hb, fun h => by omega⟩
  · refine ⟨_, cap, rfl, h2, h3, (fun h => by cases h), hb, fun hp => ⟨g, 0, rfl, fun j hj => ?_⟩⟩
    rw [Nat.zero_add, (cells_of hg j).1]
    have h6 := congrArg (fun l : List Value => l[j]?) h5
    simp only [Nat.mul_one] at h6
    rw [List.getElem?_take_of_lt hj] at h6
    rw [← Array.getElem?_toList, h6]
    simp [U, List.getD, hj]
theorem A2_get : ∀ (al : List (Int × Int)) (j : Nat), j < al.length → (A2 al)[j * 2]? = some (.int .u32 (al.getD j (0, 0)).1) ∧ (A2 al)[j * 2 + 1]? = some (.int .i64 (al.getD j (0, 0)).2)
  | [], j, h => by simp at h
  | a :: al, 0, _ => by simp [A2]
  | a :: al, j + 1, h => by
    have ih := A2_get al j (by simpa using h)
    have e : A2 (a :: al) = .int .u32 a.1 :: .int .i64 a.2 :: A2 al := by simp [A2]
    rw [e, show (j + 1) * 2 = j * 2 + 1 + 1 by omega]
    simpa using ih
theorem own_as {V : World} {base n : Nat} {v : Value} {al : List (Int × Int)} (h : V.ownsRow base 45 2 v n (A2 al)) (hn : al.length = n) (hb : ∀ a ∈ al, 0 ≤ a.1 ∧ a.1 < 4294967296) : As V v al := by
  subst hn
  obtain ⟨hl, ⟨rfl, h0⟩ | ⟨g, cap, cur, rfl, h1, hg, h2, h3, h4, h5⟩⟩ := h
  · exact ⟨none, 0, by rw [h0], by omega, Nat.zero_le _, fun _ => ⟨h0, rfl⟩, hb, fun h => by omega⟩
  · refine ⟨_, cap, rfl, h2, h3, (fun h => by cases h), hb, fun hp => ⟨g, 0, rfl, fun j hj => ?_⟩⟩
    have ha := A2_get al j hj
    have h6 := fun i (hi : i < al.length * 2) => congrArg (fun l : List Value => l[i]?) h5
    have h7 : ∀ i, i < al.length * 2 → cur[i]? = (A2 al)[i]? := fun i hi => by
      have := h6 i hi
      simp only [List.getElem?_take_of_lt hi] at this
      rw [← Array.getElem?_toList, this]
    rw [Nat.zero_add, (cells_of hg _).1, (cells_of hg _).1, h7 _ (by omega), h7 _ (by omega)]
    exact ha
theorem own_tx {V : World} {base : Nat} {v : Value} {zs : List Int} (h : V.ownsRow base 5 1 v zs.length (B zs)) (hb : ∀ z ∈ zs, 0 ≤ z ∧ z ≤ 255) : Tx V v zs := by
  obtain ⟨A, c, rfl, h1, h2, h3⟩ := own_form h hb
  exact ⟨A, c, rfl, h3, h1, h2, own_nil h⟩
/-- a value of the call's own is a slice -/
theorem own_slice {V : World} {base e size n : Nat} {v : Value} {xs : List Value} (h : V.ownsRow base e size v n xs) : ∃ A c, v = .slice A n c := by
  obtain ⟨hl, ⟨rfl, h0⟩ | ⟨g, cap, cur, rfl, h1, hg, h2, h3, h4, h5⟩⟩ := h
  · exact ⟨none, 0, by rw [h0]⟩
  · exact ⟨_, _, rfl⟩
end Go.Proofs.YtebgfiibcmnfnaaDoor
