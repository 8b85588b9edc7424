/-
  Contracts of slices.IndexFunc, slices.ContainsFunc and slices.DeleteFunc at addresses, for the tests that see and lets hand over. Conditions: as each lemma states.
-/
import Derived.Test.YtidhdgcmagpkgaaSea
import Derived.Test.YtidhdgcmagpkgaaDel
namespace Go.Proofs.Ytidhdgcmagpkgaa
open Go.RowKit
set_option linter.unusedVariables false

/-- a function value that answers by a plain test of an address -/
def TestsA (g : Nat) (lb : Array Value) (q : A2 → Bool) (S : Nat → Prop) (w : World) : Prop :=
  ∀ (a : A2) (W : World), Keeps S w W → Calls Try.prog g (#[adr a] ++ lb) W fun e w' => e = .returned (.bool (q a)) ∧ Below W.heap.size W w'
theorem cellsA_in {w : World} {g : Nat} {C : Array Value} {xs : List A2} (hg : w.heap[g]? = some (.cells C 36 (0, 0))) (ht : C.toList.take (xs.length * 2) = cellsA xs) (j : Nat) (a : A2) (h : xs[j]? = some a) : w.cell? ⟨g, j * 2, none⟩ = some (.int .u32 a.1) ∧ w.cell? ⟨g, j * 2 + 1, none⟩ = some (.int .i64 a.2) := by
  have hj := (List.getElem?_eq_some_iff.1 h).1
  obtain ⟨h1, h2⟩ := cellsA_at h
  rw [← ht, List.getElem?_take_of_lt (by omega)] at h1 h2
  rw [(cells_of hg _).1, (cells_of hg _).1]
  exact ⟨by simpa using h1, by simpa using h2⟩

set_option maxHeartbeats 2000000 in
theorem indexA50_some (cb : Nat) (q : A2 → Bool) (b c : Nat) (xs : List A2) (S : Nat → Prop) (w : World)
    (hp : TestsA 61 #[.pointer (some ⟨cb, 0, none⟩)] q S w) (hbig : xs.length ≤ 1000) (hc : ∀ (j : Nat) (a : A2), xs[j]? = some a → w.cell? ⟨b, j * 2, none⟩ = some (.int .u32 a.1) ∧ w.cell? ⟨b, j * 2 + 1, none⟩ = some (.int .i64 a.2)) :
    Calls Try.prog 69 #[.slice (some ⟨b, 0, none⟩) xs.length c, .func (.func 61) #[] #[.pointer (some ⟨cb, 0, none⟩)]] w fun e w' => e = .returned (.int .i64 (idxP q xs)) ∧ Below w.heap.size w w' := by
  have HP := Lib.hid (fun (a : A2) (W : World) (h : Below w.heap.size w W) => hp a W (.all h)); clear hp
  have HC := Lib.hid hc; clear hc
  go_enter Try.func69, Try.ntmps69
  go_wp2
  go_loopg [5, 8] xs.length (fun gg _ s8 wr => ∃ kk : Nat, kk ≤ xs.length ∧ xs.length - kk ≤ gg ∧ s8 = .int .i64 kk ∧ Hid (Below w.heap.size w wr) ∧ Hid (∀ j, j < kk → ∀ y, xs[j]? = some y → q y = false))
  case atStart => exact ⟨0, Nat.zero_le _, by omega, rfl, Lib.hid (Below.refl _ _), Lib.hid (fun j hj => absurd hj (Nat.not_lt_zero _))⟩
  case round =>
    obtain ⟨kk, hkk, hg, rfl, HB, A⟩ := hrel
    by_cases hlt : kk < xs.length
    · have hltz : (kk : Int) < (xs.length : Int) := by omega
      obtain ⟨a, hpk⟩ : ∃ a, xs[kk]? = some a := ⟨_, List.getElem?_eq_getElem hlt⟩
      obtain ⟨k1, k2⟩ := HC.out kk a hpk
      have l1 := World.block_lt_of_cell? w _ k1
      have d1 := (HB.out.cell (p := ⟨b, kk * 2, none⟩) l1).trans k1
      have d2 := (HB.out.cell (p := ⟨b, kk * 2 + 1, none⟩) l1).trans k2
      have hcall := HP.out a wr HB.out
      have HPK := Lib.hid hpk; clear hpk k1 k2 l1
      unfold adr at hcall
      cases hq : q a with
      | true =>
        rw [hq] at hcall
        have HR : Hid (idxP q xs = (kk : Int)) := Lib.hid (by unfold idxP; rw [idxP_hit HPK.out hq A.out])
        clear hq
        go_wp2_with (go_at_call 61; refine hcall.mono ?_; rintro e w' ⟨rfl, hb⟩; have HB2 := Lib.hid hb; clear hb)
        go_ret
        exact ⟨ret_i HR.out.symm, HB.out.trans (HB2.out.mono HB.out.size)⟩
      | false =>
        rw [hq] at hcall
        have HQ := Lib.hid hq; clear hq
        go_wp2_with (go_at_call 61; refine hcall.mono ?_; rintro e w' ⟨rfl, hb⟩; have HB2 := Lib.hid hb; clear hb)
        go_roundg (xs.length - (kk + 1))
        case measure => omega
        case rel =>
          refine ⟨kk + 1, by omega, by omega, by go_num, Lib.hid (HB.out.trans (HB2.out.mono HB.out.size)), Lib.hid (fun j hj y hy => ?_)⟩
          by_cases e : j = kk
          · subst e
            rw [HPK.out] at hy; cases hy; exact HQ.out
          · exact A.out j (by omega) y hy
    · have hltz : ¬ (kk : Int) < (xs.length : Int) := by omega
      obtain rfl : kk = xs.length := by omega
      have HR : Hid (idxP q xs = -1) := Lib.hid (by unfold idxP; rw [idxP_miss A.out])
      go_wp2
      go_ret
      exact ⟨ret_i HR.out.symm, HB.out⟩

set_option maxHeartbeats 2000000 in
theorem indexA53_some (c1 c2 : Nat) (q : A2 → Bool) (b c : Nat) (xs : List A2) (S : Nat → Prop) (w : World)
    (hp : TestsA 55 #[.pointer (some ⟨c1, 0, none⟩), .pointer (some ⟨c2, 0, none⟩)] q S w) (hbig : xs.length ≤ 1000) (hc : ∀ (j : Nat) (a : A2), xs[j]? = some a → w.cell? ⟨b, j * 2, none⟩ = some (.int .u32 a.1) ∧ w.cell? ⟨b, j * 2 + 1, none⟩ = some (.int .i64 a.2)) :
    Calls Try.prog 69 #[.slice (some ⟨b, 0, none⟩) xs.length c, .func (.func 55) #[] #[.pointer (some ⟨c1, 0, none⟩), .pointer (some ⟨c2, 0, none⟩)]] w fun e w' => e = .returned (.int .i64 (idxP q xs)) ∧ Below w.heap.size w w' := by
  have HP := Lib.hid (fun (a : A2) (W : World) (h : Below w.heap.size w W) => hp a W (.all h)); clear hp
  have HC := Lib.hid hc; clear hc
  go_enter Try.func69, Try.ntmps69
  go_wp2
  go_loopg [5, 8] xs.length (fun gg _ s8 wr => ∃ kk : Nat, kk ≤ xs.length ∧ xs.length - kk ≤ gg ∧ s8 = .int .i64 kk ∧ Hid (Below w.heap.size w wr) ∧ Hid (∀ j, j < kk → ∀ y, xs[j]? = some y → q y = false))
  case atStart => exact ⟨0, Nat.zero_le _, by omega, rfl, Lib.hid (Below.refl _ _), Lib.hid (fun j hj => absurd hj (Nat.not_lt_zero _))⟩
  case round =>
    obtain ⟨kk, hkk, hg, rfl, HB, A⟩ := hrel
    by_cases hlt : kk < xs.length
    · have hltz : (kk : Int) < (xs.length : Int) := by omega
      obtain ⟨a, hpk⟩ : ∃ a, xs[kk]? = some a := ⟨_, List.getElem?_eq_getElem hlt⟩
      obtain ⟨k1, k2⟩ := HC.out kk a hpk
      have l1 := World.block_lt_of_cell? w _ k1
      have d1 := (HB.out.cell (p := ⟨b, kk * 2, none⟩) l1).trans k1
      have d2 := (HB.out.cell (p := ⟨b, kk * 2 + 1, none⟩) l1).trans k2
      have hcall := HP.out a wr HB.out
      have HPK := Lib.hid hpk; clear hpk k1 k2 l1
      unfold adr at hcall
      cases hq : q a with
      | true =>
        rw [hq] at hcall
        have HR : Hid (idxP q xs = (kk : Int)) := Lib.hid (by unfold idxP; rw [idxP_hit HPK.out hq A.out])
        clear hq
        go_wp2_with (go_at_call 55; refine hcall.mono ?_; rintro e w' ⟨rfl, hb⟩; have HB2 := Lib.hid hb; clear hb)
        go_ret
        exact ⟨ret_i HR.out.symm, HB.out.trans (HB2.out.mono HB.out.size)⟩
      | false =>
        rw [hq] at hcall
        have HQ := Lib.hid hq; clear hq
        go_wp2_with (go_at_call 55; refine hcall.mono ?_; rintro e w' ⟨rfl, hb⟩; have HB2 := Lib.hid hb; clear hb)
        go_roundg (xs.length - (kk + 1))
        case measure => omega
        case rel =>
          refine ⟨kk + 1, by omega, by omega, by go_num, Lib.hid (HB.out.trans (HB2.out.mono HB.out.size)), Lib.hid (fun j hj y hy => ?_)⟩
          by_cases e : j = kk
          · subst e
            rw [HPK.out] at hy; cases hy; exact HQ.out
          · exact A.out j (by omega) y hy
    · have hltz : ¬ (kk : Int) < (xs.length : Int) := by omega
      obtain rfl : kk = xs.length := by omega
      have HR : Hid (idxP q xs = -1) := Lib.hid (by unfold idxP; rw [idxP_miss A.out])
      go_wp2
      go_ret
      exact ⟨ret_i HR.out.symm, HB.out⟩

set_option maxHeartbeats 1000000 in
theorem indexA_none (a : Option Addr) (c : Nat) (fv : Value) (w : World) :
    Calls Try.prog 69 #[.slice a 0 c, fv] w fun e w' => e = .returned (.int .i64 (-1)) ∧ w = w' := by
  go_enter Try.func69, Try.ntmps69
  go_wp2
  go_loopg [5, 8] 0 (fun _ _ s8 wr => s8 = .int .i64 0 ∧ wr = w)
  case atStart => exact ⟨rfl, rfl⟩
  case round =>
    obtain ⟨rfl, rfl⟩ := hrel
    go_wp2
    go_ret
    exact ⟨rfl, rfl⟩
theorem idx_any {α : Type} (q : α → Bool) (xs : List α) : decide (0 ≤ idxP q xs) = xs.any q := by
  unfold idxP
  cases h : xs.findIdx? q with
  | none =>
    rw [List.findIdx?_eq_none_iff] at h
    have : xs.any q = false := by rw [List.any_eq_false]; intro x hx; simp [h x hx]
    rw [this]; rfl
  | some k =>
    rw [List.findIdx?_eq_some_iff_getElem] at h
    obtain ⟨hk, ht, _⟩ := h
    have : xs.any q = true := by rw [List.any_eq_true]; exact ⟨_, List.getElem_mem hk, ht⟩
    rw [this]
    show decide (0 ≤ (k : Int)) = true
    simp
/-- slices.ContainsFunc: whether the test holds of one of them -/
theorem contains_any (c1 c2 : Nat) (q : A2 → Bool) (v : Value) (xs : List A2) (S : Nat → Prop) (w : World) (h : w.ownsRow 0 36 2 v xs.length (cellsA xs)) (hbig : xs.length ≤ 1000)
    (hp : TestsA 55 #[.pointer (some ⟨c1, 0, none⟩), .pointer (some ⟨c2, 0, none⟩)] q S w) :
    Calls Try.prog 56 #[v, .func (.func 55) #[] #[.pointer (some ⟨c1, 0, none⟩), .pointer (some ⟨c2, 0, none⟩)]] w fun e w' => e = .returned (.bool (xs.any q)) ∧ Below w.heap.size w w' := by
  have hI : Calls Try.prog 69 #[v, .func (.func 55) #[] #[.pointer (some ⟨c1, 0, none⟩), .pointer (some ⟨c2, 0, none⟩)]] w fun e w' => e = .returned (.int .i64 (idxP q xs)) ∧ Below w.heap.size w w' := by
    rcases h.2 with ⟨rfl, h0⟩ | ⟨g, cap, cur, rfl, hb, hg, hn, hm, hsz, htake⟩
    · obtain rfl := List.eq_nil_of_length_eq_zero h0
      refine (indexA_none _ _ _ w).mono ?_
      rintro e w' ⟨rfl, rfl⟩
      exact ⟨rfl, Below.refl _ _⟩
    · exact indexA53_some c1 c2 q g cap xs S w hp hbig (cellsA_in hg htake)
  have HR := Lib.hid (idx_any q xs)
  generalize idxP q xs = i at *
  generalize xs.any q = r at *
  clear h hp
  go_enter Try.func56, Try.ntmps56
  go_wp2_with (go_at_call 69; refine hI.mono ?_; rintro e w' ⟨rfl, hb⟩; have HB := Lib.hid hb; clear hb)
  go_ret
  exact ⟨ret_b HR.out, HB.out⟩
end Go.Proofs.Ytidhdgcmagpkgaa
