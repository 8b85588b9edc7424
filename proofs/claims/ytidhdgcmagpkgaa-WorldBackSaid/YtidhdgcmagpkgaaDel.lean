/-
  Plain words on a row from which some are struck; contracts of slices.IndexFunc and slices.DeleteFunc at pointers to bindings, for a function value that answers by a plain test. Conditions: as each lemma states.
-/
import Derived.Test.YtidhdgcmagpkgaaMem
import Derived.Deep.LoopGhost
import Derived.Lib.SliceRun
import Derived.Lib.Walk
namespace Go.Proofs.Ytidhdgcmagpkgaa
open Go.RowKit
set_option linter.unusedVariables false

/-- where the first one is of which it holds, or -1 -/
def idxP {α : Type} (q : α → Bool) (xs : List α) : Int := match xs.findIdx? q with
  | none => -1
  | some k => (k : Int)
theorem idxP_hit {α : Type} {q : α → Bool} {xs : List α} {k : Nat} {x : α} (h : xs[k]? = some x) (hx : q x = true) (hb : ∀ j, j < k → ∀ y, xs[j]? = some y → q y = false) : xs.findIdx? q = some k := by
  rw [List.findIdx?_eq_some_iff_getElem]
  obtain ⟨hk, e⟩ := List.getElem?_eq_some_iff.1 h
  refine ⟨hk, by rw [e]; exact hx, fun j hj => ?_⟩
  have := hb j hj (xs[j]) (List.getElem?_eq_getElem _)
  simp [this]
theorem idxP_miss {α : Type} {q : α → Bool} {xs : List α} (hb : ∀ j, j < xs.length → ∀ y, xs[j]? = some y → q y = false) : xs.findIdx? q = none := by
  rw [List.findIdx?_eq_none_iff]
  intro y hy
  obtain ⟨j, hj, e⟩ := List.getElem_of_mem hy
  exact hb j hj y (by rw [List.getElem?_eq_getElem hj, e])

/-- a row rewritten as it is gone through: the first j have been looked at, i are left of them -/
structure KI {α : Type} (enc : α → List Value) (k : Nat) (q : α → Bool) (xs : List α) (i j : Nat) (cur : Array Value) : Prop where
  len : i = ((xs.take j).filter (fun x => !q x)).length
  low : cur.toList.take (i * k) = ((xs.take j).filter (fun x => !q x)).flatMap enc
  high : ∀ t, j * k ≤ t → t < xs.length * k → cur[t]? = (xs.flatMap enc)[t]?
section
variable {α : Type} {enc : α → List Value} {k : Nat} {q : α → Bool} {xs : List α} {i j : Nat} {cur cur' : Array Value}
theorem KI.le (h : KI enc k q xs i j cur) (hj : j ≤ xs.length) : i ≤ j := by
  rw [h.len]
  have := List.length_filter_le (fun x => !q x) (xs.take j)
  rw [List.length_take] at this
  omega
theorem flat_len (hk : ∀ x, (enc x).length = k) : ∀ l : List α, (l.flatMap enc).length = l.length * k
  | [] => by simp
  | x :: l => by rw [List.flatMap_cons, List.length_append, hk, flat_len hk l, List.length_cons, Nat.add_mul]; omega
theorem KI.skip (h : KI enc k q xs i j cur) {x : α} (hj : xs[j]? = some x) (hq : q x = true) : KI enc k q xs i (j + 1) cur := by
  have e : (xs.take (j + 1)).filter (fun x => !q x) = (xs.take j).filter (fun x => !q x) := by
    rw [List.take_add_one, hj, List.filter_append]; simp [hq]
  exact ⟨by rw [e]; exact h.len, by rw [e]; exact h.low, fun t h1 h2 => h.high t (by rw [Nat.add_mul] at h1; omega) h2⟩
theorem KI.keep (h : KI enc k q xs i j cur) {x : α} (hj : xs[j]? = some x) (hq : q x = false) (hk : (enc x).length = k) (hin : ∀ t, t < k → cur'[i * k + t]? = (enc x)[t]?) (hout : ∀ t, (t < i * k ∨ i * k + k ≤ t) → cur'[t]? = cur[t]?) : KI enc k q xs (i + 1) (j + 1) cur' := by
  have hjl := (List.getElem?_eq_some_iff.1 hj).1
  have hij := h.le (Nat.le_of_lt hjl)
  have e : (xs.take (j + 1)).filter (fun x => !q x) = (xs.take j).filter (fun x => !q x) ++ [x] := by
    rw [List.take_add_one, hj, List.filter_append]; simp [hq]
  refine ⟨by rw [e, List.length_append, ← h.len]; rfl, ?_, fun t h1 h2 => ?_⟩
  · rw [e, List.flatMap_append, ← h.low, Nat.add_mul, Nat.one_mul, List.take_add]
    congr 1
    · refine List.ext_getElem? fun t => ?_
      by_cases ht : t < i * k
      · rw [List.getElem?_take_of_lt ht, List.getElem?_take_of_lt ht]
        simpa using hout t (.inl ht)
      · rw [List.getElem?_take_eq_none (by omega), List.getElem?_take_eq_none (by omega)]
    · refine List.ext_getElem? fun t => ?_
      by_cases ht : t < k
      · rw [List.getElem?_take_of_lt ht, List.getElem?_drop]
        simpa using hin t ht
      · rw [List.getElem?_take_eq_none (by omega), List.getElem?_eq_none (by simp [hk]; omega)]
  · have h3 : i * k ≤ j * k := Nat.mul_le_mul_right k hij
    rw [Nat.add_mul] at h1
    rw [hout t (.inr (by omega))]
    exact h.high t (by omega) h2
theorem KI.start (hb : ∀ t, t < j → ∀ y, xs[t]? = some y → q y = false) {x : α} (hj : xs[j]? = some x) (hx : q x = true) (hk : ∀ x, (enc x).length = k) (hc : cur.toList.take (xs.length * k) = xs.flatMap enc) : KI enc k q xs j (j + 1) cur := by
  have hjl := (List.getElem?_eq_some_iff.1 hj).1
  have e0 : (xs.take j).filter (fun x => !q x) = xs.take j := by
    rw [List.filter_eq_self]
    intro y hy
    obtain ⟨t, ht, e⟩ := List.getElem_of_mem hy
    rw [List.length_take] at ht
    have := hb t (by omega) y (by rw [← e, List.getElem_take]; exact List.getElem?_eq_getElem _)
    simp [this]
  have e : (xs.take (j + 1)).filter (fun x => !q x) = xs.take j := by
    rw [List.take_add_one, hj, List.filter_append, e0]; simp [hx]
  refine ⟨by rw [e, List.length_take]; omega, ?_, fun t h1 h2 => ?_⟩
  · rw [e]
    have h1 : xs.flatMap enc = (xs.take j).flatMap enc ++ (xs.drop j).flatMap enc := by rw [← List.flatMap_append, List.take_append_drop]
    have h2 : ((xs.take j).flatMap enc).length = j * k := by rw [flat_len hk, List.length_take]; congr 1; omega
    have h3 : (cur.toList.take (xs.length * k)).take (j * k) = cur.toList.take (j * k) := by
      rw [List.take_take]; congr 1
      exact Nat.min_eq_left (Nat.mul_le_mul_right k (Nat.le_of_lt hjl))
    rw [← h3, hc, h1, ← h2, List.take_left]
  · rw [← hc, List.getElem?_take_of_lt h2]; simp
theorem KI.done (h : KI enc k q xs i xs.length cur) : i = (xs.filter (fun x => !q x)).length ∧ cur.toList.take (i * k) = (xs.filter (fun x => !q x)).flatMap enc := by
  have h1 := h.len; have h2 := h.low
  rw [List.take_length] at h1 h2
  exact ⟨h1, h2⟩
end
theorem cellsP_flat (l : List Nat) : cellsP l = l.flatMap (fun p => [ptr p]) := by
  unfold cellsP
  induction l with
  | nil => rfl
  | cons p l ih => rw [List.map_cons, List.flatMap_cons, ih]; rfl
/-- cells set in a row -/
theorem setCells_obj {b : Nat} {t : TypeId} : ∀ (vs : List Value) (o : Nat) (w : World) (C : Array Value), w.heap[b]? = some (.cells C t (0, 0)) →
    ∃ C', (w.setCells b o vs).heap[b]? = some (.cells C' t (0, 0)) ∧ C'.size = C.size ∧ ∀ k, k < o → C'[k]? = C[k]?
  | [], _, _, C, h => ⟨C, h, rfl, fun _ _ => rfl⟩
  | v :: vs, o, w, C, h => by
    obtain ⟨C', h1, h2, h3⟩ := setCells_obj vs (o + 1) (w.setCell ⟨b, o, none⟩ v) (C.setIfInBounds o v) (heap_setCell_same w b o C t v h)
    refine ⟨C', h1, by rw [h2]; simp, fun k hk => ?_⟩
    rw [h3 k (by omega), Array.getElem?_setIfInBounds_ne (by omega)]
theorem setCells_keeps {b : Nat} : ∀ (vs : List Value) (o : Nat) (w : World), Keeps (fun k => k = b) w (w.setCells b o vs)
  | [], _, w => Keeps.refl _ w
  | v :: vs, o, w => (Keeps.set (S := fun k => k = b) (Keeps.refl _ w) b o v rfl).trans (setCells_keeps vs (o + 1) _)

/-- a function value that answers by a plain test of a binding's block, and only reads -/
def Tests (g : Nat) (lb : Array Value) (q : Nat → Bool) (ps : List Nat) (S : Nat → Prop) (w : World) : Prop :=
  ∀ p ∈ ps, ∀ W, Keeps S w W → Calls Try.prog g (#[ptr p] ++ lb) W fun e w' => e = .returned (.bool (q p)) ∧ ∃ n, w' = W.drewN n
theorem ret_i {a b : Int} (h : a = b) : Ending.returned (.int .i64 a) = .returned (.int .i64 b) := by rw [h]
theorem drw (w : World) (a b : Nat) : (w.drewN a).drewN b = w.drewN (a + b) := by simp [World.drewN, Nat.add_assoc]

set_option maxHeartbeats 2000000 in
theorem indexP46_some (cb : Nat) (q : Nat → Bool) (b c : Nat) (ps : List Nat) (S : Nat → Prop) (w : World)
    (hp : Tests 33 #[.pointer (some ⟨cb, 0, none⟩)] q ps S w) (hbig : ps.length ≤ 1000) (hc : ∀ j p, ps[j]? = some p → w.cell? ⟨b, j, none⟩ = some (ptr p)) :
    Calls Try.prog 63 #[.slice (some ⟨b, 0, none⟩) ps.length c, .func (.func 33) #[] #[.pointer (some ⟨cb, 0, none⟩)]] w fun e w' => e = .returned (.int .i64 (idxP q ps)) ∧ ∃ n, w' = w.drewN n := by
  have HP := Lib.hid (fun (p : Nat) (h : p ∈ ps) (n : Nat) => hp p h (w.drewN n) ((Keeps.refl S w).drewN n)); clear hp
  have HC := Lib.hid hc; clear hc
  go_enter Try.func63, Try.ntmps63
  go_wp2
  go_loopg [5, 8] ps.length (fun gg _ s8 wr => ∃ kk n : Nat, kk ≤ ps.length ∧ ps.length - kk ≤ gg ∧ s8 = .int .i64 kk ∧ wr = w.drewN n ∧ Hid (∀ j, j < kk → ∀ y, ps[j]? = some y → q y = false))
  case atStart => exact ⟨0, 0, Nat.zero_le _, by omega, rfl, rfl, Lib.hid (fun j hj => absurd hj (Nat.not_lt_zero _))⟩
  case round =>
    obtain ⟨kk, n, hkk, hg, rfl, rfl, A⟩ := hrel
    by_cases hlt : kk < ps.length
    · have hltz : (kk : Int) < (ps.length : Int) := by omega
      obtain ⟨p, hpk⟩ : ∃ p, ps[kk]? = some p := ⟨_, List.getElem?_eq_getElem hlt⟩
      have hcell := HC.out kk p hpk
      have hcall := HP.out p (List.mem_of_getElem? hpk) n
      have HPK := Lib.hid hpk; clear hpk
      unfold ptr at hcell hcall
      cases hq : q p with
      | true =>
        rw [hq] at hcall
        have HR : Hid (idxP q ps = (kk : Int)) := Lib.hid (by unfold idxP; rw [idxP_hit HPK.out hq A.out])
        clear hq
        go_wp2_with (go_at_call 33; refine hcall.mono ?_; rintro e w' ⟨rfl, q', rfl⟩)
        go_ret
        exact ⟨ret_i HR.out.symm, _, rfl⟩
      | false =>
        rw [hq] at hcall
        have HQ := Lib.hid hq; clear hq
        go_wp2_with (go_at_call 33; refine hcall.mono ?_; rintro e w' ⟨rfl, q', rfl⟩)
        go_roundg (ps.length - (kk + 1))
        case measure => omega
        case rel =>
          refine ⟨kk + 1, _, by omega, by omega, by go_num, rfl, Lib.hid (fun j hj y hy => ?_)⟩
          by_cases e : j = kk
          · subst e
            rw [HPK.out] at hy; cases hy; exact HQ.out
          · exact A.out j (by omega) y hy
    · have hltz : ¬ (kk : Int) < (ps.length : Int) := by omega
      obtain rfl : kk = ps.length := by omega
      have HR : Hid (idxP q ps = -1) := Lib.hid (by unfold idxP; rw [idxP_miss A.out])
      go_wp2
      go_ret
      exact ⟨ret_i HR.out.symm, _, rfl⟩
set_option maxHeartbeats 1000000 in
theorem indexP_none (a : Option Addr) (c : Nat) (fv : Value) (w : World) :
    Calls Try.prog 63 #[.slice a 0 c, fv] w fun e w' => e = .returned (.int .i64 (-1)) ∧ w = w' := by
  go_enter Try.func63, Try.ntmps63
  go_wp2
  go_loopg [5, 8] 0 (fun _ _ s8 wr => s8 = .int .i64 0 ∧ wr = w)
  case atStart => exact ⟨rfl, rfl⟩
  case round =>
    obtain ⟨rfl, rfl⟩ := hrel
    go_wp2
    go_ret
    exact ⟨rfl, rfl⟩
end Go.Proofs.Ytidhdgcmagpkgaa
