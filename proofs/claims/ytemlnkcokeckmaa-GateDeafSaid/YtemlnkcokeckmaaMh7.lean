/-
  Contracts of nat's isBox, New, Box and Reboot. Conditions: as each lemma states.
  Plain words on a row from which some are struck; contracts of slices.IndexFunc and slices.DeleteFunc at pointers to bindings, for a function value that answers by a plain test. Conditions: as each lemma states.
  Contracts of slices.DeleteFunc at pointers to bindings. Conditions: as each lemma states.
  Contracts of nat's forget and goesOn: who is struck; the time goes on. Conditions: the box lies in memory; at most 1000 bindings.
  The contract of nat's goesOn. Conditions: the box lies in memory; at most 1000 bindings.
-/
import Derived.Test.YtemlnkcokeckmaaMh6
import Derived.Deep.RegionHeld
import Derived.Deep.LoopGhost
import Derived.Lib.SliceRun
import Derived.Lib.Walk
import Derived.Deep.QuietTactic
import Derived.BigQuiet
import Derived.LaidEqlPtr
namespace Go.Proofs.Ytemlnkcokeckmaa
open Go.RowKit
attribute [local go_sem] Oper.semAt_some
set_option linter.unusedVariables false
set_option linter.unusedSimpArgs false

def W64 (n : Int) : Prop := -9223372036854775808 ≤ n ∧ n ≤ 9223372036854775807
def isBx (x : Bx) : Prop := (0 ≤ x.host ∧ x.host < 4294967296) ∧ W64 x.lo ∧ W64 x.hi ∧ W64 x.map ∧ W64 x.filter ∧ W64 x.life ∧ W64 x.most
def box2 (x : Bx) : Bool := mayA (x.host, x.lo) && (mayA (x.host, x.hi) && (decide (x.lo ≤ x.hi) && (isWayB x.map && (isWayB x.filter && (decide (1 ≤ x.life) && (decide (x.life ≤ 1099511627776) && (decide (1 ≤ x.most) && (decide (x.most ≤ 100)))))))))

set_option maxRecDepth 100000 in
set_option maxHeartbeats 4000000 in
theorem isBox_any (x : Bx) (w : World) (hx : isBx x) : Calls Try.prog 39 #[.agg (boxCells x)] w fun e w' => e = .returned (.bool (box2 x)) ∧ Below w.heap.size w w' := by
  obtain ⟨hh, hlo, hhi, _⟩ := hx
  have HA := Lib.hid (fun W => may_any (x.host, x.lo) W ⟨hh, hlo⟩)
  have HB := Lib.hid (fun W => may_any (x.host, x.hi) W ⟨hh, hhi⟩)
  have HC := Lib.hid (fun W => isWay_any x.map W)
  have HD := Lib.hid (fun W => isWay_any x.filter W)
  clear hh hlo hhi
  unfold box2
  obtain ⟨host, lo, hi, map, filter, life, most⟩ := x
  unfold boxCells
  unfold adr at HA HB
  dsimp only at *
  have HBE : Hid (∀ (C C' C'' : Obj) (u v : Value) (a b : Nat) , Below w.heap.size w ((w.alloc C).alloc C')) := Lib.hid (fun C C' C'' u v a b => ((Below.refl _ w).alloc (Nat.le_refl _) _).alloc (by simp) _)

  go_enter Try.func39, Try.ntmps39
  go_wp2
  go_region
  all_goals
    go_wp2_with fail
    refine (HA.out _).mono ?_
    rintro e w1 ⟨rfl, hb⟩
    have HW1 : Hid (Below w.heap.size w w1) := Lib.hid ((((((Below.refl w.heap.size w).alloc (Nat.le_refl _) _).alloc (by simp) _).alloc (by simp; omega) _)).trans ⟨hb.os, hb.tape, hb.output, hb.size, fun k hk => hb.block k (by simp; omega)⟩)
    have HF : Hid (∀ W, Below (w.heap.size + 3) w1 W → (W.cell? ⟨w.heap.size, 1, none⟩ = some (.int .i64 lo) ∧ W.cell? ⟨w.heap.size, 2, none⟩ = some (.int .i64 hi) ∧ W.cell? ⟨w.heap.size, 3, none⟩ = some (.int .i64 map) ∧ W.cell? ⟨w.heap.size, 4, none⟩ = some (.int .i64 filter) ∧ W.cell? ⟨w.heap.size, 5, none⟩ = some (.int .i64 life) ∧ W.cell? ⟨w.heap.size, 6, none⟩ = some (.int .i64 most))) := Lib.hid (fun W hW => by
      have hs : w.heap.size + 3 ≤ w1.heap.size := by have := hb.size; simpa using this
      have hc := fun k => (hW.cell (p := ⟨w.heap.size, k, none⟩) (by show w.heap.size < _; omega)).trans (hb.cell (p := ⟨w.heap.size, k, none⟩) (by simp; omega))
      exact ⟨(hc 1).trans (by go_simp), (hc 2).trans (by go_simp), (hc 3).trans (by go_simp), (hc 4).trans (by go_simp), (hc 5).trans (by go_simp), (hc 6).trans (by go_simp)⟩)
    have d0 := hb.cell (p := ⟨w.heap.size + 1, 0, none⟩) (by simp)
    have d1 := hb.cell (p := ⟨w.heap.size + 1, 1, none⟩) (by simp)
    have d2 := hb.cell (p := ⟨w.heap.size + 2, 0, none⟩) (by simp)
    have d3 := hb.cell (p := ⟨w.heap.size + 2, 1, none⟩) (by simp)
    have HS1 : Hid (w.heap.size + 3 ≤ w1.heap.size) := Lib.hid (by have := hb.size; simpa using this)
    clear hb
    cases ha : mayA (host, lo) with
    | false =>
      have GA := Lib.hid ha; clear ha
      go_wp2
      go_ret
      exact ⟨ret_b (by simp [GA.out] <;> (intros; omega)), HW1.out⟩
    | true =>
      have GA := Lib.hid ha; clear ha
      go_wp2_with fail
      refine (HB.out _).mono ?_
      rintro e w2 ⟨rfl, hb⟩
      obtain ⟨c1, c2, c3, c4, c5, c6⟩ := HF.out w2 (hb.mono HS1.out)
      have HW2 : Hid (Below w.heap.size w w2) := Lib.hid (HW1.out.trans (hb.mono (by have := HS1.out; omega)))
      clear hb d0 d1 d2 d3
      cases hb : mayA (host, hi) with
      | false =>
        have GB := Lib.hid hb; clear hb
        go_wp2
        go_ret
        exact ⟨ret_b (by simp [GA.out, GB.out] <;> (intros; omega)), HW2.out⟩
      | true =>
        have GB := Lib.hid hb; clear hb
        by_cases k1 : lo ≤ hi
        case neg =>
          go_wp2
          go_ret
          exact ⟨ret_b (by simp [k1, GA.out, GB.out] <;> (intros; omega)), HW2.out⟩
        case pos =>
          go_wp2_with fail
          refine (HC.out _).mono ?_
          rintro e w3 ⟨rfl, rfl⟩
          cases hb : isWayB map with
          | false =>
            have GC := Lib.hid hb; clear hb
            go_wp2
            go_ret
            exact ⟨ret_b (by simp [k1, GA.out, GB.out, GC.out] <;> (intros; omega)), HW2.out⟩
          | true =>
            have GC := Lib.hid hb; clear hb
            go_wp2_with fail
            refine (HD.out _).mono ?_
            rintro e w3 ⟨rfl, rfl⟩
            cases hb : isWayB filter with
            | false =>
              have GD := Lib.hid hb; clear hb
              go_wp2
              go_ret
              exact ⟨ret_b (by simp [k1, GA.out, GB.out, GC.out, GD.out] <;> (intros; omega)), HW2.out⟩
            | true =>
              have GD := Lib.hid hb; clear hb
              by_cases k2 : 1 ≤ life
              case neg =>
                go_wp2
                go_ret
                exact ⟨ret_b (by simp [k1, GA.out, GB.out, GC.out, GD.out, k2] <;> (intros; omega)), HW2.out⟩
              case pos =>
                by_cases k3 : life ≤ 1099511627776
                case neg =>
                  go_wp2
                  go_ret
                  exact ⟨ret_b (by simp [k1, GA.out, GB.out, GC.out, GD.out, k2, k3] <;> (intros; omega)), HW2.out⟩
                case pos =>
                  by_cases k4 : 1 ≤ most
                  case neg =>
                    go_wp2
                    go_ret
                    exact ⟨ret_b (by simp [k1, GA.out, GB.out, GC.out, GD.out, k2, k3, k4] <;> (intros; omega)), HW2.out⟩
                  case pos =>
                    by_cases k5 : most ≤ 100
                    case neg =>
                      go_wp2
                      go_ret
                      exact ⟨ret_b (by simp [k1, GA.out, GB.out, GC.out, GD.out, k2, k3, k4, k5] <;> (intros; omega)), HW2.out⟩
                    case pos =>
                      go_wp2
                      go_ret
                      exact ⟨ret_b (by simp [k1, k2, k3, k4, k5, GA.out, GB.out, GC.out, GD.out] <;> (intros; omega)), HW2.out⟩
end Go.Proofs.Ytemlnkcokeckmaa
namespace Go.Proofs.Ytemlnkcokeckmaa
open Go.RowKit
set_option linter.unusedVariables false

/-- where the first one is of which it holds, or -1 -/
def idxP {α : Type} (q : α → Bool) (xs : List α) : Int := match xs.findIdx? q with
  | none => -1
  | some k => (k : Int)
theorem idxP_hit {α : Type} {q : α → Bool} {xs : List α} {k : Nat} {x : α} (h : xs[k]? = some x) (hx : q x = true) (hb : ∀ j, j < k → ∀ y, xs[j]? = some y → q y = false) : xs.findIdx? q = some k := by
  rw [List.findIdx?_eq_some_iff_getElem]
  obtain ⟨hk, e⟩ := List.getElem?_eq_some_iff.1 h
  refine ⟨hk, by rw [e]; exact hx, fun j hj => ?_⟩
  have := hb j hj (xs[j]) (List.getElem?_eq_getElem _)
  simp [this]
theorem idxP_miss {α : Type} {q : α → Bool} {xs : List α} (hb : ∀ j, j < xs.length → ∀ y, xs[j]? = some y → q y = false) : xs.findIdx? q = none := by
  rw [List.findIdx?_eq_none_iff]
  intro y hy
  obtain ⟨j, hj, e⟩ := List.getElem_of_mem hy
  exact hb j hj y (by rw [List.getElem?_eq_getElem hj, e])

/-- a row rewritten as it is gone through: the first j have been looked at, i are left of them -/
structure KI {α : Type} (enc : α → List Value) (k : Nat) (q : α → Bool) (xs : List α) (i j : Nat) (cur : Array Value) : Prop where
  len : i = ((xs.take j).filter (fun x => !q x)).length
  low : cur.toList.take (i * k) = ((xs.take j).filter (fun x => !q x)).flatMap enc
  high : ∀ t, j * k ≤ t → t < xs.length * k → cur[t]? = (xs.flatMap enc)[t]?
section
variable {α : Type} {enc : α → List Value} {k : Nat} {q : α → Bool} {xs : List α} {i j : Nat} {cur cur' : Array Value}
theorem KI.le (h : KI enc k q xs i j cur) (hj : j ≤ xs.length) : i ≤ j := by
  rw [h.len]
  have := List.length_filter_le (fun x => !q x) (xs.take j)
  rw [List.length_take] at this
  omega
theorem flat_len (hk : ∀ x, (enc x).length = k) : ∀ l : List α, (l.flatMap enc).length = l.length * k
  | [] => by simp
  | x :: l => by rw [List.flatMap_cons, List.length_append, hk, flat_len hk l, List.length_cons, Nat.add_mul]; omega
theorem KI.skip (h : KI enc k q xs i j cur) {x : α} (hj : xs[j]? = some x) (hq : q x = true) : KI enc k q xs i (j + 1) cur := by
  have e : (xs.take (j + 1)).filter (fun x => !q x) = (xs.take j).filter (fun x => !q x) := by
    rw [List.take_add_one, hj, List.filter_append]; simp [hq]
  exact ⟨by rw [e]; exact h.len, by rw [e]; exact h.low, fun t h1 h2 => h.high t (by rw [Nat.add_mul] at h1; omega) h2⟩
theorem KI.keep (h : KI enc k q xs i j cur) {x : α} (hj : xs[j]? = some x) (hq : q x = false) (hk : (enc x).length = k) (hin : ∀ t, t < k → cur'[i * k + t]? = (enc x)[t]?) (hout : ∀ t, (t < i * k ∨ i * k + k ≤ t) → cur'[t]? = cur[t]?) : KI enc k q xs (i + 1) (j + 1) cur' := by
  have hjl := (List.getElem?_eq_some_iff.1 hj).1
  have hij := h.le (Nat.le_of_lt hjl)
  have e : (xs.take (j + 1)).filter (fun x => !q x) = (xs.take j).filter (fun x => !q x) ++ [x] := by
    rw [List.take_add_one, hj, List.filter_append]; simp [hq]
  refine ⟨by rw [e, List.length_append, ← h.len]; rfl, ?_, fun t h1 h2 => ?_⟩
  · rw [e, List.flatMap_append, ← h.low, Nat.add_mul, Nat.one_mul, List.take_add]
    congr 1
    · refine List.ext_getElem? fun t => ?_
      by_cases ht : t < i * k
      · rw [List.getElem?_take_of_lt ht, List.getElem?_take_of_lt ht]
        simpa using hout t (.inl ht)
      · rw [List.getElem?_take_eq_none (by omega), List.getElem?_take_eq_none (by omega)]
    · refine List.ext_getElem? fun t => ?_
      by_cases ht : t < k
      · rw [List.getElem?_take_of_lt ht, List.getElem?_drop]
        simpa using hin t ht
      · rw [List.getElem?_take_eq_none (by omega), List.getElem?_eq_none (by simp [hk]; omega)]
  · have h3 : i * k ≤ j * k := Nat.mul_le_mul_right k hij
    rw [Nat.add_mul] at h1
    rw [hout t (.inr (by omega))]
    exact h.high t (by omega) h2
theorem KI.start (hb : ∀ t, t < j → ∀ y, xs[t]? = some y → q y = false) {x : α} (hj : xs[j]? = some x) (hx : q x = true) (hk : ∀ x, (enc x).length = k) (hc : cur.toList.take (xs.length * k) = xs.flatMap enc) : KI enc k q xs j (j + 1) cur := by
  have hjl := (List.getElem?_eq_some_iff.1 hj).1
  have e0 : (xs.take j).filter (fun x => !q x) = xs.take j := by
    rw [List.filter_eq_self]
    intro y hy
    obtain ⟨t, ht, e⟩ := List.getElem_of_mem hy
    rw [List.length_take] at ht
    have := hb t (by omega) y (by rw [← e, List.getElem_take]; exact List.getElem?_eq_getElem _)
    simp [this]
  have e : (xs.take (j + 1)).filter (fun x => !q x) = xs.take j := by
    rw [List.take_add_one, hj, List.filter_append, e0]; simp [hx]
  refine ⟨by rw [e, List.length_take]; omega, ?_, fun t h1 h2 => ?_⟩
  · rw [e]
    have h1 : xs.flatMap enc = (xs.take j).flatMap enc ++ (xs.drop j).flatMap enc := by rw [← List.flatMap_append, List.take_append_drop]
    have h2 : ((xs.take j).flatMap enc).length = j * k := by rw [flat_len hk, List.length_take]; congr 1; omega
    have h3 : (cur.toList.take (xs.length * k)).take (j * k) = cur.toList.take (j * k) := by
      rw [List.take_take]; congr 1
      exact Nat.min_eq_left (Nat.mul_le_mul_right k (Nat.le_of_lt hjl))
    rw [← h3, hc, h1, ← h2, List.take_left]
  · rw [← hc, List.getElem?_take_of_lt h2]; simp
theorem KI.done (h : KI enc k q xs i xs.length cur) : i = (xs.filter (fun x => !q x)).length ∧ cur.toList.take (i * k) = (xs.filter (fun x => !q x)).flatMap enc := by
  have h1 := h.len; have h2 := h.low
  rw [List.take_length] at h1 h2
  exact ⟨h1, h2⟩
end
theorem cellsP_flat (l : List Nat) : cellsP l = l.flatMap (fun p => [ptr p]) := by
  unfold cellsP
  induction l with
  | nil => rfl
  | cons p l ih => rw [List.map_cons, List.flatMap_cons, ih]; rfl
/-- cells set in a row -/
theorem setCells_obj {b : Nat} {t : TypeId} : ∀ (vs : List Value) (o : Nat) (w : World) (C : Array Value), w.heap[b]? = some (.cells C t (0, 0)) →
    ∃ C', (w.setCells b o vs).heap[b]? = some (.cells C' t (0, 0)) ∧ C'.size = C.size ∧ ∀ k, k < o → C'[k]? = C[k]?
  | [], _, _, C, h => ⟨C, h, rfl, fun _ _ => rfl⟩
  | v :: vs, o, w, C, h => by
    obtain ⟨C', h1, h2, h3⟩ := setCells_obj vs (o + 1) (w.setCell ⟨b, o, none⟩ v) (C.setIfInBounds o v) (heap_setCell_same w b o C t v h)
    refine ⟨C', h1, by rw [h2]; simp, fun k hk => ?_⟩
    rw [h3 k (by omega), Array.getElem?_setIfInBounds_ne (by omega)]
theorem setCells_keeps {b : Nat} : ∀ (vs : List Value) (o : Nat) (w : World), Keeps (fun k => k = b) w (w.setCells b o vs)
  | [], _, w => Keeps.refl _ w
  | v :: vs, o, w => (Keeps.set (S := fun k => k = b) (Keeps.refl _ w) b o v rfl).trans (setCells_keeps vs (o + 1) _)

/-- a function value that answers by a plain test of a binding's block, and only reads -/
def Tests (g : Nat) (lb : Array Value) (q : Nat → Bool) (ps : List Nat) (S : Nat → Prop) (w : World) : Prop :=
  ∀ p ∈ ps, ∀ W, Keeps S w W → Calls Try.prog g (#[ptr p] ++ lb) W fun e w' => e = .returned (.bool (q p)) ∧ ∃ n, w' = W.drewN n
theorem ret_i {a b : Int} (h : a = b) : Ending.returned (.int .i64 a) = .returned (.int .i64 b) := by rw [h]
theorem drw (w : World) (a b : Nat) : (w.drewN a).drewN b = w.drewN (a + b) := by simp [World.drewN, Nat.add_assoc]

set_option maxHeartbeats 2000000 in
theorem indexP46_some (cb : Nat) (q : Nat → Bool) (b c : Nat) (ps : List Nat) (S : Nat → Prop) (w : World)
    (hp : Tests 77 #[.pointer (some ⟨cb, 0, none⟩)] q ps S w) (hbig : ps.length ≤ 1000) (hc : ∀ j p, ps[j]? = some p → w.cell? ⟨b, j, none⟩ = some (ptr p)) :
    Calls Try.prog 103 #[.slice (some ⟨b, 0, none⟩) ps.length c, .func (.func 77) #[] #[.pointer (some ⟨cb, 0, none⟩)]] w fun e w' => e = .returned (.int .i64 (idxP q ps)) ∧ ∃ n, w' = w.drewN n := by
  have HP := Lib.hid (fun (p : Nat) (h : p ∈ ps) (n : Nat) => hp p h (w.drewN n) ((Keeps.refl S w).drewN n)); clear hp
  have HC := Lib.hid hc; clear hc
  go_enter Try.func103, Try.ntmps103
  go_wp2
  go_loopg [5, 8] ps.length (fun gg _ s8 wr => ∃ kk n : Nat, kk ≤ ps.length ∧ ps.length - kk ≤ gg ∧ s8 = .int .i64 kk ∧ wr = w.drewN n ∧ Hid (∀ j, j < kk → ∀ y, ps[j]? = some y → q y = false))
  case atStart => exact ⟨0, 0, Nat.zero_le _, by omega, rfl, rfl, Lib.hid (fun j hj => absurd hj (Nat.not_lt_zero _))⟩
  case round =>
    obtain ⟨kk, n, hkk, hg, rfl, rfl, A⟩ := hrel
    by_cases hlt : kk < ps.length
    · have hltz : (kk : Int) < (ps.length : Int) := by omega
      obtain ⟨p, hpk⟩ : ∃ p, ps[kk]? = some p := ⟨_, List.getElem?_eq_getElem hlt⟩
      have hcell := HC.out kk p hpk
      have hcall := HP.out p (List.mem_of_getElem? hpk) n
      have HPK := Lib.hid hpk; clear hpk
      unfold ptr at hcell hcall
      cases hq : q p with
      | true =>
        rw [hq] at hcall
        have HR : Hid (idxP q ps = (kk : Int)) := Lib.hid (by unfold idxP; rw [idxP_hit HPK.out hq A.out])
        clear hq
        go_wp2_with (go_at_call 77; refine hcall.mono ?_; rintro e w' ⟨rfl, q', rfl⟩)
        go_ret
        exact ⟨ret_i HR.out.symm, _, rfl⟩
      | false =>
        rw [hq] at hcall
        have HQ := Lib.hid hq; clear hq
        go_wp2_with (go_at_call 77; refine hcall.mono ?_; rintro e w' ⟨rfl, q', rfl⟩)
        go_roundg (ps.length - (kk + 1))
        case measure => omega
        case rel =>
          refine ⟨kk + 1, _, by omega, by omega, by go_num, rfl, Lib.hid (fun j hj y hy => ?_)⟩
          by_cases e : j = kk
          · subst e
            rw [HPK.out] at hy; cases hy; exact HQ.out
          · exact A.out j (by omega) y hy
    · have hltz : ¬ (kk : Int) < (ps.length : Int) := by omega
      obtain rfl : kk = ps.length := by omega
      have HR : Hid (idxP q ps = -1) := Lib.hid (by unfold idxP; rw [idxP_miss A.out])
      go_wp2
      go_ret
      exact ⟨ret_i HR.out.symm, _, rfl⟩
set_option maxHeartbeats 2000000 in
theorem indexP41_some (cb : Nat) (q : Nat → Bool) (b c : Nat) (ps : List Nat) (S : Nat → Prop) (w : World)
    (hp : Tests 54 #[.pointer (some ⟨cb, 0, none⟩)] q ps S w) (hbig : ps.length ≤ 1000) (hc : ∀ j p, ps[j]? = some p → w.cell? ⟨b, j, none⟩ = some (ptr p)) :
    Calls Try.prog 103 #[.slice (some ⟨b, 0, none⟩) ps.length c, .func (.func 54) #[] #[.pointer (some ⟨cb, 0, none⟩)]] w fun e w' => e = .returned (.int .i64 (idxP q ps)) ∧ ∃ n, w' = w.drewN n := by
  have HP := Lib.hid (fun (p : Nat) (h : p ∈ ps) (n : Nat) => hp p h (w.drewN n) ((Keeps.refl S w).drewN n)); clear hp
  have HC := Lib.hid hc; clear hc
  go_enter Try.func103, Try.ntmps103
  go_wp2
  go_loopg [5, 8] ps.length (fun gg _ s8 wr => ∃ kk n : Nat, kk ≤ ps.length ∧ ps.length - kk ≤ gg ∧ s8 = .int .i64 kk ∧ wr = w.drewN n ∧ Hid (∀ j, j < kk → ∀ y, ps[j]? = some y → q y = false))
  case atStart => exact ⟨0, 0, Nat.zero_le _, by omega, rfl, rfl, Lib.hid (fun j hj => absurd hj (Nat.not_lt_zero _))⟩
  case round =>
    obtain ⟨kk, n, hkk, hg, rfl, rfl, A⟩ := hrel
    by_cases hlt : kk < ps.length
    · have hltz : (kk : Int) < (ps.length : Int) := by omega
      obtain ⟨p, hpk⟩ : ∃ p, ps[kk]? = some p := ⟨_, List.getElem?_eq_getElem hlt⟩
      have hcell := HC.out kk p hpk
      have hcall := HP.out p (List.mem_of_getElem? hpk) n
      have HPK := Lib.hid hpk; clear hpk
      unfold ptr at hcell hcall
      cases hq : q p with
      | true =>
        rw [hq] at hcall
        have HR : Hid (idxP q ps = (kk : Int)) := Lib.hid (by unfold idxP; rw [idxP_hit HPK.out hq A.out])
        clear hq
        go_wp2_with (go_at_call 54; refine hcall.mono ?_; rintro e w' ⟨rfl, q', rfl⟩)
        go_ret
        exact ⟨ret_i HR.out.symm, _, rfl⟩
      | false =>
        rw [hq] at hcall
        have HQ := Lib.hid hq; clear hq
        go_wp2_with (go_at_call 54; refine hcall.mono ?_; rintro e w' ⟨rfl, q', rfl⟩)
        go_roundg (ps.length - (kk + 1))
        case measure => omega
        case rel =>
          refine ⟨kk + 1, _, by omega, by omega, by go_num, rfl, Lib.hid (fun j hj y hy => ?_)⟩
          by_cases e : j = kk
          · subst e
            rw [HPK.out] at hy; cases hy; exact HQ.out
          · exact A.out j (by omega) y hy
    · have hltz : ¬ (kk : Int) < (ps.length : Int) := by omega
      obtain rfl : kk = ps.length := by omega
      have HR : Hid (idxP q ps = -1) := Lib.hid (by unfold idxP; rw [idxP_miss A.out])
      go_wp2
      go_ret
      exact ⟨ret_i HR.out.symm, _, rfl⟩
set_option maxHeartbeats 1000000 in
theorem indexP_none (a : Option Addr) (c : Nat) (fv : Value) (w : World) :
    Calls Try.prog 103 #[.slice a 0 c, fv] w fun e w' => e = .returned (.int .i64 (-1)) ∧ w = w' := by
  go_enter Try.func103, Try.ntmps103
  go_wp2
  go_loopg [5, 8] 0 (fun _ _ s8 wr => s8 = .int .i64 0 ∧ wr = w)
  case atStart => exact ⟨rfl, rfl⟩
  case round =>
    obtain ⟨rfl, rfl⟩ := hrel
    go_wp2
    go_ret
    exact ⟨rfl, rfl⟩
end Go.Proofs.Ytemlnkcokeckmaa
namespace Go.Proofs.Ytemlnkcokeckmaa
open Go.RowKit
set_option linter.unusedVariables false

set_option maxHeartbeats 1000000 in
theorem deleteP_none (fv : Value) (w : World) :
    Calls Try.prog 86 #[.slice none 0 0, fv] w fun e w' => e = .returned (.slice none 0 0) ∧ w = w' := by
  go_enter Try.func86, Try.ntmps86
  go_wp2_with (go_at_call 103; refine (indexP_none _ _ _ _).mono ?_; rintro e w' ⟨rfl, rfl⟩)
  go_ret
  exact ⟨rfl, rfl⟩

set_option maxHeartbeats 4000000 in
theorem deleteP46_some (cb : Nat) (q : Nat → Bool) (g cap : Nat) (cur : Array Value) (ps : List Nat) (w : World) (hg : w.heap[g]? = some (.cells cur 93 (0, 0))) (hn : ps.length ≤ cap) (hm : cap ≤ maxLen) (hsz : cur.size = cap) (htake : cur.toList.take (ps.length * 1) = ps.flatMap (fun p => [ptr p])) (hbig : ps.length ≤ 1000)
    (hp : Tests 77 #[.pointer (some ⟨cb, 0, none⟩)] q ps (fun k => k = g) w) :
    Calls Try.prog 86 #[.slice (some ⟨g, 0, none⟩) ps.length cap, .func (.func 77) #[] #[.pointer (some ⟨cb, 0, none⟩)]] w fun e w' => ∃ n' cur', e = .returned (.slice (some ⟨g, 0, none⟩) n' cap) ∧ n' = (ps.filter (fun p => !q p)).length ∧ w'.heap[g]? = some (.cells cur' 93 (0, 0)) ∧ cur'.size = cap ∧ cur'.toList.take (n' * 1) = (ps.filter (fun p => !q p)).flatMap (fun p => [ptr p]) ∧ Keeps (fun k => k = g) w w' := by
  have hc : ∀ j p, ps[j]? = some p → cur[j]? = some (ptr p) := fun j p hj => by
    have hjl := (List.getElem?_eq_some_iff.1 hj).1
    have h1 := cellsP_at hj
    rw [cellsP_flat, ← htake, List.getElem?_take_of_lt (by omega)] at h1
    simpa using h1
  have hI := indexP46_some cb q g cap ps (fun k => k = g) w hp hbig (fun j p hj => by rw [(cells_of hg j).1]; exact hc j p hj)
  unfold maxLen at hm
  cases hf : ps.findIdx? q with
  | none =>
    have e1 : idxP q ps = -1 := by unfold idxP; rw [hf]
    rw [e1] at hI
    have e2 : ps.filter (fun p => !q p) = ps := by
      rw [List.filter_eq_self]
      intro p hpm
      rw [List.findIdx?_eq_none_iff] at hf
      simp [hf p hpm]
    have HR : Hid (ps.filter (fun p => !q p) = ps) := Lib.hid e2
    have HG := Lib.hid hg; have HT := Lib.hid htake
    clear hg htake e2 hc hp hf e1
    go_enter Try.func86, Try.ntmps86
    go_wp2_with (go_at_call 103; refine hI.mono ?_; rintro e w' ⟨rfl, q0, rfl⟩)
    go_ret
    exact ⟨_, cur, rfl, by rw [HR.out], HG.out, hsz, by rw [HR.out]; exact HT.out, (Keeps.refl _ w).drewN q0⟩
  | some k0 =>
    have e1 : idxP q ps = (k0 : Int) := by unfold idxP; rw [hf]
    rw [e1] at hI
    rw [List.findIdx?_eq_some_iff_getElem] at hf
    obtain ⟨hk0, ht, hall⟩ := hf
    have hst : KI (fun p => [ptr p]) 1 q ps k0 (k0 + 1) cur := KI.start (x := ps[k0]) (fun t h1 y hy => by
      obtain ⟨h2, h3⟩ := List.getElem?_eq_some_iff.1 hy
      have := hall t h1
      rw [h3] at this
      simpa using this) (List.getElem?_eq_getElem hk0) ht (fun _ => rfl) htake
    have HST := Lib.hid hst
    have HP := Lib.hid hp
    have HG := Lib.hid hg
    clear hst hp hall ht htake hc e1 hg
    go_enter Try.func86, Try.ntmps86
    go_wp2_with (go_at_call 103; refine hI.mono ?_; rintro e w' ⟨rfl, q0, rfl⟩)
    have HI0 : Hid (w.heap[g]? = some (.cells cur 93 (0, 0))) := HG
    go_loopg [5, 6, 7] ps.length (fun gg s5 s6 _ wr => ∃ (i j : Nat) (ck : Array Value), s5 = .int .i64 i ∧ s6 = .int .i64 j ∧ i < j ∧ j ≤ ps.length ∧ ps.length - j ≤ gg ∧ Hid (wr.heap[g]? = some (.cells ck 93 (0, 0))) ∧ Hid (ck.size = cap) ∧ Hid (Keeps (fun k => k = g) w wr) ∧ Hid (KI (fun p => [ptr p]) 1 q ps i j ck))
    case atStart => exact ⟨k0, k0 + 1, cur, rfl, by go_num, by omega, by omega, by omega, HG, Lib.hid hsz, Lib.hid ((Keeps.refl _ w).drewN q0), HST⟩
    case round =>
      obtain ⟨i, j, ck, rfl, rfl, hij, hjn, hgg, HCK, HSZ, HK, HKI⟩ := hrel
      by_cases hlt : j < ps.length
      · have hltz : (j : Int) < (ps.length : Int) := by omega
        obtain ⟨p, hpj⟩ : ∃ p, ps[j]? = some p := ⟨_, List.getElem?_eq_getElem hlt⟩
        have cj : wr.cell? ⟨g, j, none⟩ = some (ptr p) := by
          rw [(cells_of HCK.out j).1, HKI.out.high j (by omega) (by omega), ← cellsP_flat]
          exact cellsP_at hpj
        have ci : ∃ u, wr.cell? ⟨g, i, none⟩ = some u := by
          rw [(cells_of HCK.out i).1]
          exact ⟨_, Array.getElem?_eq_getElem (by have := HSZ.out; omega)⟩
        obtain ⟨u, ci⟩ := ci
        have fi := (cells_of HCK.out i).2
        have hcall := HP.out p (List.mem_of_getElem? hpj) wr HK.out
        have HPJ := Lib.hid hpj; clear hpj
        unfold ptr at cj hcall
        have li : i < ps.length := by omega
        cases hq : q p with
        | false =>
          rw [hq] at hcall
          have HQ := Lib.hid hq; clear hq
          go_wp2_with (go_at_call 77; refine hcall.mono ?_; rintro e w' ⟨rfl, qq, rfl⟩)
          go_roundg (ps.length - (j + 1))
          case measure => omega
          case rel =>
            refine ⟨i + 1, j + 1, ck.setIfInBounds i (ptr p), by go_num, by go_num, by omega, by omega, Nat.le_refl _, Lib.hid (heap_setCell_same _ g i ck 93 _ HCK.out), Lib.hid (by have := HSZ.out; simpa using this), Lib.hid ((HK.out.drewN qq).set g i _ rfl), Lib.hid ?_⟩
            refine HKI.out.keep HPJ.out HQ.out rfl (fun t ht => ?_) (fun t ht => ?_)
            · obtain rfl : t = 0 := by omega
              rw [Nat.mul_one, Nat.add_zero, Array.getElem?_setIfInBounds_self, if_pos (by have := HSZ.out; omega)]; rfl
            · rw [Array.getElem?_setIfInBounds_ne (by omega)]
        | true =>
          rw [hq] at hcall
          have HQ := Lib.hid hq; clear hq
          go_wp2_with (go_at_call 77; refine hcall.mono ?_; rintro e w' ⟨rfl, qq, rfl⟩)
          go_roundg (ps.length - (j + 1))
          case measure => omega
          case rel => exact ⟨i, j + 1, ck, rfl, by go_num, by omega, by omega, Nat.le_refl _, HCK, HSZ, Lib.hid (HK.out.drewN qq), Lib.hid (HKI.out.skip HPJ.out HQ.out)⟩
      · obtain rfl : j = ps.length := by omega
        have hltz : ¬ (ps.length : Int) < (ps.length : Int) := by omega
        have hcl : ∀ ty, (Builtin.clear_ #[88] ty #[.slice (some ⟨g, i, none⟩) (ps.length - i) (cap - i)]).run Try.prog wr = .ok (.tuple #[]) (wr.setCells g i (List.replicate (ps.length - i) (.pointer none))) :=
          fun ty => Lib.run_clear_slice wr 88 93 ty (.pointer none) Try.underlying88 (fun w => by kernel_rfl) rfl rfl g i _ _ (by omega) (fun t ht => by rw [(cells_of HCK.out _).1, Array.getElem?_eq_getElem (by have := HSZ.out; omega)]; rfl) (fun t ht => (cells_of HCK.out _).2)
        have HEND : Hid (i = (ps.filter (fun p => !q p)).length ∧ ∃ cur', (wr.setCells g i (List.replicate (ps.length - i) (.pointer none))).heap[g]? = some (.cells cur' 93 (0, 0)) ∧ cur'.size = cap ∧ cur'.toList.take (i * 1) = (ps.filter (fun p => !q p)).flatMap (fun p => [ptr p]) ∧ Keeps (fun k => k = g) w (wr.setCells g i (List.replicate (ps.length - i) (.pointer none)))) := Lib.hid (by
          obtain ⟨h1, h2⟩ := HKI.out.done
          obtain ⟨C', c1, c2, c3⟩ := setCells_obj (List.replicate (ps.length - i) (.pointer none)) i wr ck HCK.out
          refine ⟨h1, C', c1, c2.trans HSZ.out, ?_, HK.out.trans (setCells_keeps _ _ _)⟩
          rw [← h2]
          refine List.ext_getElem? fun t => ?_
          by_cases ht : t < i * 1
          · rw [List.getElem?_take_of_lt ht, List.getElem?_take_of_lt ht]
            simpa using c3 t (by omega)
          · rw [List.getElem?_take_eq_none (by omega), List.getElem?_take_eq_none (by omega)])
        have l1 : (i : Int) ≤ (ps.length : Int) := by omega
        have l2 : (i : Int) ≤ (cap : Int) := by omega
        have l3 : ¬ cap - i = 0 := by omega
        go_wp2
        go_ret
        exact ⟨_, rfl, HEND.out.1, by simpa only [Nat.mul_one] using HEND.out.2⟩

set_option maxHeartbeats 4000000 in
theorem deleteP41_some (cb : Nat) (q : Nat → Bool) (g cap : Nat) (cur : Array Value) (ps : List Nat) (w : World) (hg : w.heap[g]? = some (.cells cur 93 (0, 0))) (hn : ps.length ≤ cap) (hm : cap ≤ maxLen) (hsz : cur.size = cap) (htake : cur.toList.take (ps.length * 1) = ps.flatMap (fun p => [ptr p])) (hbig : ps.length ≤ 1000)
    (hp : Tests 54 #[.pointer (some ⟨cb, 0, none⟩)] q ps (fun k => k = g) w) :
    Calls Try.prog 86 #[.slice (some ⟨g, 0, none⟩) ps.length cap, .func (.func 54) #[] #[.pointer (some ⟨cb, 0, none⟩)]] w fun e w' => ∃ n' cur', e = .returned (.slice (some ⟨g, 0, none⟩) n' cap) ∧ n' = (ps.filter (fun p => !q p)).length ∧ w'.heap[g]? = some (.cells cur' 93 (0, 0)) ∧ cur'.size = cap ∧ cur'.toList.take (n' * 1) = (ps.filter (fun p => !q p)).flatMap (fun p => [ptr p]) ∧ Keeps (fun k => k = g) w w' := by
  have hc : ∀ j p, ps[j]? = some p → cur[j]? = some (ptr p) := fun j p hj => by
    have hjl := (List.getElem?_eq_some_iff.1 hj).1
    have h1 := cellsP_at hj
    rw [cellsP_flat, ← htake, List.getElem?_take_of_lt (by omega)] at h1
    simpa using h1
  have hI := indexP41_some cb q g cap ps (fun k => k = g) w hp hbig (fun j p hj => by rw [(cells_of hg j).1]; exact hc j p hj)
  unfold maxLen at hm
  cases hf : ps.findIdx? q with
  | none =>
    have e1 : idxP q ps = -1 := by unfold idxP; rw [hf]
    rw [e1] at hI
    have e2 : ps.filter (fun p => !q p) = ps := by
      rw [List.filter_eq_self]
      intro p hpm
      rw [List.findIdx?_eq_none_iff] at hf
      simp [hf p hpm]
    have HR : Hid (ps.filter (fun p => !q p) = ps) := Lib.hid e2
    have HG := Lib.hid hg; have HT := Lib.hid htake
    clear hg htake e2 hc hp hf e1
    go_enter Try.func86, Try.ntmps86
    go_wp2_with (go_at_call 103; refine hI.mono ?_; rintro e w' ⟨rfl, q0, rfl⟩)
    go_ret
    exact ⟨_, cur, rfl, by rw [HR.out], HG.out, hsz, by rw [HR.out]; exact HT.out, (Keeps.refl _ w).drewN q0⟩
  | some k0 =>
    have e1 : idxP q ps = (k0 : Int) := by unfold idxP; rw [hf]
    rw [e1] at hI
    rw [List.findIdx?_eq_some_iff_getElem] at hf
    obtain ⟨hk0, ht, hall⟩ := hf
    have hst : KI (fun p => [ptr p]) 1 q ps k0 (k0 + 1) cur := KI.start (x := ps[k0]) (fun t h1 y hy => by
      obtain ⟨h2, h3⟩ := List.getElem?_eq_some_iff.1 hy
      have := hall t h1
      rw [h3] at this
      simpa using this) (List.getElem?_eq_getElem hk0) ht (fun _ => rfl) htake
    have HST := Lib.hid hst
    have HP := Lib.hid hp
    have HG := Lib.hid hg
    clear hst hp hall ht htake hc e1 hg
    go_enter Try.func86, Try.ntmps86
    go_wp2_with (go_at_call 103; refine hI.mono ?_; rintro e w' ⟨rfl, q0, rfl⟩)
    have HI0 : Hid (w.heap[g]? = some (.cells cur 93 (0, 0))) := HG
    go_loopg [5, 6, 7] ps.length (fun gg s5 s6 _ wr => ∃ (i j : Nat) (ck : Array Value), s5 = .int .i64 i ∧ s6 = .int .i64 j ∧ i < j ∧ j ≤ ps.length ∧ ps.length - j ≤ gg ∧ Hid (wr.heap[g]? = some (.cells ck 93 (0, 0))) ∧ Hid (ck.size = cap) ∧ Hid (Keeps (fun k => k = g) w wr) ∧ Hid (KI (fun p => [ptr p]) 1 q ps i j ck))
    case atStart => exact ⟨k0, k0 + 1, cur, rfl, by go_num, by omega, by omega, by omega, HG, Lib.hid hsz, Lib.hid ((Keeps.refl _ w).drewN q0), HST⟩
    case round =>
      obtain ⟨i, j, ck, rfl, rfl, hij, hjn, hgg, HCK, HSZ, HK, HKI⟩ := hrel
      by_cases hlt : j < ps.length
      · have hltz : (j : Int) < (ps.length : Int) := by omega
        obtain ⟨p, hpj⟩ : ∃ p, ps[j]? = some p := ⟨_, List.getElem?_eq_getElem hlt⟩
        have cj : wr.cell? ⟨g, j, none⟩ = some (ptr p) := by
          rw [(cells_of HCK.out j).1, HKI.out.high j (by omega) (by omega), ← cellsP_flat]
          exact cellsP_at hpj
        have ci : ∃ u, wr.cell? ⟨g, i, none⟩ = some u := by
          rw [(cells_of HCK.out i).1]
          exact ⟨_, Array.getElem?_eq_getElem (by have := HSZ.out; omega)⟩
        obtain ⟨u, ci⟩ := ci
        have fi := (cells_of HCK.out i).2
        have hcall := HP.out p (List.mem_of_getElem? hpj) wr HK.out
        have HPJ := Lib.hid hpj; clear hpj
        unfold ptr at cj hcall
        have li : i < ps.length := by omega
        cases hq : q p with
        | false =>
          rw [hq] at hcall
          have HQ := Lib.hid hq; clear hq
          go_wp2_with (go_at_call 54; refine hcall.mono ?_; rintro e w' ⟨rfl, qq, rfl⟩)
          go_roundg (ps.length - (j + 1))
          case measure => omega
          case rel =>
            refine ⟨i + 1, j + 1, ck.setIfInBounds i (ptr p), by go_num, by go_num, by omega, by omega, Nat.le_refl _, Lib.hid (heap_setCell_same _ g i ck 93 _ HCK.out), Lib.hid (by have := HSZ.out; simpa using this), Lib.hid ((HK.out.drewN qq).set g i _ rfl), Lib.hid ?_⟩
            refine HKI.out.keep HPJ.out HQ.out rfl (fun t ht => ?_) (fun t ht => ?_)
            · obtain rfl : t = 0 := by omega
              rw [Nat.mul_one, Nat.add_zero, Array.getElem?_setIfInBounds_self, if_pos (by have := HSZ.out; omega)]; rfl
            · rw [Array.getElem?_setIfInBounds_ne (by omega)]
        | true =>
          rw [hq] at hcall
          have HQ := Lib.hid hq; clear hq
          go_wp2_with (go_at_call 54; refine hcall.mono ?_; rintro e w' ⟨rfl, qq, rfl⟩)
          go_roundg (ps.length - (j + 1))
          case measure => omega
          case rel => exact ⟨i, j + 1, ck, rfl, by go_num, by omega, by omega, Nat.le_refl _, HCK, HSZ, Lib.hid (HK.out.drewN qq), Lib.hid (HKI.out.skip HPJ.out HQ.out)⟩
      · obtain rfl : j = ps.length := by omega
        have hltz : ¬ (ps.length : Int) < (ps.length : Int) := by omega
        have hcl : ∀ ty, (Builtin.clear_ #[88] ty #[.slice (some ⟨g, i, none⟩) (ps.length - i) (cap - i)]).run Try.prog wr = .ok (.tuple #[]) (wr.setCells g i (List.replicate (ps.length - i) (.pointer none))) :=
          fun ty => Lib.run_clear_slice wr 88 93 ty (.pointer none) Try.underlying88 (fun w => by kernel_rfl) rfl rfl g i _ _ (by omega) (fun t ht => by rw [(cells_of HCK.out _).1, Array.getElem?_eq_getElem (by have := HSZ.out; omega)]; rfl) (fun t ht => (cells_of HCK.out _).2)
        have HEND : Hid (i = (ps.filter (fun p => !q p)).length ∧ ∃ cur', (wr.setCells g i (List.replicate (ps.length - i) (.pointer none))).heap[g]? = some (.cells cur' 93 (0, 0)) ∧ cur'.size = cap ∧ cur'.toList.take (i * 1) = (ps.filter (fun p => !q p)).flatMap (fun p => [ptr p]) ∧ Keeps (fun k => k = g) w (wr.setCells g i (List.replicate (ps.length - i) (.pointer none)))) := Lib.hid (by
          obtain ⟨h1, h2⟩ := HKI.out.done
          obtain ⟨C', c1, c2, c3⟩ := setCells_obj (List.replicate (ps.length - i) (.pointer none)) i wr ck HCK.out
          refine ⟨h1, C', c1, c2.trans HSZ.out, ?_, HK.out.trans (setCells_keeps _ _ _)⟩
          rw [← h2]
          refine List.ext_getElem? fun t => ?_
          by_cases ht : t < i * 1
          · rw [List.getElem?_take_of_lt ht, List.getElem?_take_of_lt ht]
            simpa using c3 t (by omega)
          · rw [List.getElem?_take_eq_none (by omega), List.getElem?_take_eq_none (by omega)])
        have l1 : (i : Int) ≤ (ps.length : Int) := by omega
        have l2 : (i : Int) ≤ (cap : Int) := by omega
        have l3 : ¬ cap - i = 0 := by omega
        go_wp2
        go_ret
        exact ⟨_, rfl, HEND.out.1, by simpa only [Nat.mul_one] using HEND.out.2⟩

theorem deleteP46 (cb : Nat) (q : Nat → Bool) (kv : Value) (ps : List Nat) (w : World) (h : w.ownsRow 0 93 1 kv ps.length (cellsP ps)) (hbig : ps.length ≤ 1000)
    (hp : Tests 77 #[.pointer (some ⟨cb, 0, none⟩)] q ps (fun k => kv.ownBlock = some k) w) :
    Calls Try.prog 86 #[kv, .func (.func 77) #[] #[.pointer (some ⟨cb, 0, none⟩)]] w fun e w' => ∃ kv', e = .returned kv' ∧ kv'.ownBlock = kv.ownBlock ∧ w'.ownsRow 0 93 1 kv' (ps.filter (fun p => !q p)).length (cellsP (ps.filter (fun p => !q p))) ∧ Keeps (fun k => kv.ownBlock = some k) w w' := by
  rcases h.2 with ⟨rfl, h0⟩ | ⟨g, cap, cur, rfl, hb, hg, hn, hm, hsz, htake⟩
  · obtain rfl := List.eq_nil_of_length_eq_zero h0
    refine (deleteP_none _ w).mono ?_
    rintro e w' ⟨rfl, rfl⟩
    exact ⟨_, rfl, rfl, World.ownsRow_nil _ _ _ _, Keeps.refl _ _⟩
  · have e : (fun k => Value.ownBlock (.slice (some ⟨g, 0, none⟩) ps.length cap) = some k) = (fun k => k = g) := by
      funext k; exact propext ⟨fun h => (Option.some.inj h).symm, fun h => by rw [h]; rfl⟩
    rw [e] at hp ⊢
    refine (deleteP46_some cb q g cap cur ps w hg hn hm (by omega) (by rw [htake, cellsP_flat]) hbig hp).mono ?_
    rintro e w' ⟨n', cur', rfl, rfl, h1, h2, h3, h4⟩
    have h5 := List.length_filter_le (fun p => !q p) ps
    exact ⟨_, rfl, rfl, ⟨by simp [cellsP], .inr ⟨g, cap, cur', rfl, Nat.zero_le _, h1, by omega, hm, by omega, by rw [h3, cellsP_flat]⟩⟩, h4⟩

theorem deleteP41 (cb : Nat) (q : Nat → Bool) (kv : Value) (ps : List Nat) (w : World) (h : w.ownsRow 0 93 1 kv ps.length (cellsP ps)) (hbig : ps.length ≤ 1000)
    (hp : Tests 54 #[.pointer (some ⟨cb, 0, none⟩)] q ps (fun k => kv.ownBlock = some k) w) :
    Calls Try.prog 86 #[kv, .func (.func 54) #[] #[.pointer (some ⟨cb, 0, none⟩)]] w fun e w' => ∃ kv', e = .returned kv' ∧ kv'.ownBlock = kv.ownBlock ∧ w'.ownsRow 0 93 1 kv' (ps.filter (fun p => !q p)).length (cellsP (ps.filter (fun p => !q p))) ∧ Keeps (fun k => kv.ownBlock = some k) w w' := by
  rcases h.2 with ⟨rfl, h0⟩ | ⟨g, cap, cur, rfl, hb, hg, hn, hm, hsz, htake⟩
  · obtain rfl := List.eq_nil_of_length_eq_zero h0
    refine (deleteP_none _ w).mono ?_
    rintro e w' ⟨rfl, rfl⟩
    exact ⟨_, rfl, rfl, World.ownsRow_nil _ _ _ _, Keeps.refl _ _⟩
  · have e : (fun k => Value.ownBlock (.slice (some ⟨g, 0, none⟩) ps.length cap) = some k) = (fun k => k = g) := by
      funext k; exact propext ⟨fun h => (Option.some.inj h).symm, fun h => by rw [h]; rfl⟩
    rw [e] at hp ⊢
    refine (deleteP41_some cb q g cap cur ps w hg hn hm (by omega) (by rw [htake, cellsP_flat]) hbig hp).mono ?_
    rintro e w' ⟨n', cur', rfl, rfl, h1, h2, h3, h4⟩
    have h5 := List.length_filter_le (fun p => !q p) ps
    exact ⟨_, rfl, rfl, ⟨by simp [cellsP], .inr ⟨g, cap, cur', rfl, Nat.zero_le _, h1, by omega, hm, by omega, by rw [h3, cellsP_flat]⟩⟩, h4⟩
end Go.Proofs.Ytemlnkcokeckmaa
namespace Go.Proofs.Ytemlnkcokeckmaa
open Go.RowKit
attribute [local go_sem] Oper.semAt_some
set_option linter.unusedVariables false

/-- a test of bindings as a test of their blocks -/
def byP (L : List Nd) (f : Nd → Bool) (p : Nat) : Bool := L.any fun d => d.p == p && f d
theorem byP_at {L : List Nd} (hs : L.Pairwise Apart) (f : Nd → Bool) {d : Nd} (hd : d ∈ L) : byP L f d.p = f d := by
  unfold byP
  rw [Bool.eq_iff_iff, List.any_eq_true]
  constructor
  · rintro ⟨e, he, h⟩
    rw [Bool.and_eq_true, beq_iff_eq] at h
    have : e = d := by
      by_cases heq : e = d
      · exact heq
      · exfalso
        obtain ⟨i, hi, rfl⟩ := List.getElem_of_mem he
        obtain ⟨j, hj, rfl⟩ := List.getElem_of_mem hd
        have hij : i ≠ j := fun e => heq (by subst e; rfl)
        rcases Nat.lt_or_ge i j with h1 | h1
        · exact (List.pairwise_iff_getElem.1 hs i j hi hj h1).1 h.1
        · exact (List.pairwise_iff_getElem.1 hs j i hj hi (by omega)).1 h.1.symm
    rw [← this]; exact h.2
  · exact fun h => ⟨d, hd, by simp [h]⟩
theorem filter_byP {L : List Nd} (hs : L.Pairwise Apart) (f : Nd → Bool) : (L.map Nd.p).filter (fun p => !byP L f p) = (L.filter (fun d => !f d)).map Nd.p := by
  rw [List.filter_map]
  congr 1
  refine List.filter_congr fun d hd => ?_
  show (!byP L f d.p) = _
  rw [byP_at hs f hd]
theorem Na.map_len {w : World} {nb : Nat} {x : Bx} {now : Int} {kv : Value} {L : List Nd} (h : Na w nb x now kv L) : w.ownsRow 0 93 1 kv (L.map Nd.p).length (cellsP (L.map Nd.p)) := by
  rw [List.length_map]; exact h.row

set_option maxHeartbeats 1000000 in
theorem until_any (cb : Nat) (t : Int) (d : Nd) (w : World) (hc : w.cell? ⟨cb, 0, none⟩ = some (.int .i64 t)) (h : NdAt w d) :
    Calls Try.prog 77 #[ptr d.p, .pointer (some ⟨cb, 0, none⟩)] w fun e w' => e = .returned (.bool (decide (d.b.until_ ≤ t))) ∧ ∃ n, w' = w.drewN n := by
  have hu := h.cells.1.2.2.2.2.2.1
  unfold ptr
  generalize d.p = p at *
  generalize d.b.until_ = u at *
  clear h
  go_enter Try.func77, Try.ntmps77
  go_wp2
  go_quiet (fail)
  go_wp2
  go_ret
  exact ⟨rfl, _, rfl⟩
theorem info72 : (Try.prog.info? 98).map (fun i => i.size) = some 8 := by kernel_rfl
set_option maxHeartbeats 1000000 in
theorem isHad_any (cb : Nat) (o : Option Nat) (p : Nat) (w : World) (hc : w.cell? ⟨cb, 0, none⟩ = some (.pointer (o.map fun k => ⟨k, 0, none⟩)))
    (hp : ∃ C, w.heap[p]? = some (.cells C 98 (0, 0))) (ho : ∀ k, o = some k → ∃ C, w.heap[k]? = some (.cells C 98 (0, 0))) :
    Calls Try.prog 54 #[ptr p, .pointer (some ⟨cb, 0, none⟩)] w fun e w' => e = .returned (.bool (decide (o = some p))) ∧ ∃ n, w' = w.drewN n := by
  unfold ptr
  obtain ⟨j, hj, hjs⟩ : ∃ j, Try.prog.info? 98 = some j ∧ j.size = 8 := by
    have h := info72
    cases hj : Try.prog.info? 98 with
    | none => rw [hj] at h; cases h
    | some j => rw [hj] at h; exact ⟨j, rfl, by simpa using h⟩
  cases o with
  | none =>
    dsimp only [Option.map] at hc
    clear hj hjs hp ho
    go_enter Try.func54, Try.ntmps54
    go_wp2
    go_ret
    exact ⟨rfl, 0, rfl⟩
  | some k =>
    dsimp only [Option.map] at hc
    obtain ⟨C, hp⟩ := hp
    obtain ⟨C', ho⟩ := ho k rfl
    by_cases hk : k = p
    · subst hk
      have hE := run_eql_ptr_same (P := Try.prog) w (j := j) ⟨k, 0, none⟩ Try.underlying93 hj
      clear hj hjs hp ho
      go_enter Try.func54, Try.ntmps54
      go_wp2
      go_ret
      exact ⟨ret_b (by simp), 0, rfl⟩
    · have hE := run_eql_ptr_other (P := Try.prog) w (j := j) (a := ⟨p, 0, none⟩) (b := ⟨k, 0, none⟩) Try.underlying93 hj (by rw [hjs]; decide) (fun e => hk (by simpa using e.symm)) hp ho
      have HK := Lib.hid hk
      clear hj hjs hp ho hk
      go_enter Try.func54, Try.ntmps54
      go_wp2
      go_ret
      exact ⟨ret_b (by simp [HK.out]), 0, rfl⟩

theorem own_slice {w : World} {base : Nat} {e : TypeId} {k : Nat} {v : Value} {n : Nat} {xs : List Value} (h : w.ownsRow base e k v n xs) : ∃ A m c, v = .slice A m c := by
  rcases h.2 with ⟨rfl, _⟩ | ⟨g, cap, cur, rfl, _⟩
  · exact ⟨_, _, _, rfl⟩
  · exact ⟨_, _, _, rfl⟩
/-- what forget leaves: those of whom it is so are gone -/
def Gone (w : World) (nb : Nat) (x : Bx) (now : Int) (kv : Value) (L' : List Nd) : Ending → World → Prop := fun e w' =>
  e = .returned (.tuple #[]) ∧ ∃ kv', Na w' nb x now kv' L' ∧ kv'.ownBlock = kv.ownBlock ∧ Keeps (fun k => k = nb ∨ kv.ownBlock = some k) w w'
theorem gone_end {w w1 : World} {nb : Nat} {x : Bx} {now : Int} {kv kv' : Value} {L : List Nd} {f : Nd → Bool} (h : Na w nb x now kv L) (h1 : kv'.ownBlock = kv.ownBlock)
    (h2 : w1.ownsRow 0 93 1 kv' ((L.map Nd.p).filter (fun p => !byP L f p)).length (cellsP ((L.map Nd.p).filter (fun p => !byP L f p)))) (h3 : Keeps (fun k => kv.ownBlock = some k) w w1) :
    Gone w nb x now kv (L.filter (fun d => !f d)) (.returned (.tuple #[])) (w1.setCell ⟨nb, 7, none⟩ kv') := by
  rw [filter_byP h.sep] at h2
  have ht1 : w1.heap[nb]? = some (.cells (natCells x kv now) 90 (0, 0)) := (h3.block nb h.lt h.ne_row).trans h.top
  have hk : Keeps (fun k => k = nb ∨ kv.ownBlock = some k) w (w1.setCell ⟨nb, 7, none⟩ kv') := (h3.mono (fun k _ e => Or.inr e)).set nb 7 kv' (.inl rfl)
  refine ⟨rfl, kv', ⟨heap_setCell_same w1 nb 7 _ 90 kv' ht1, ?_, fun d hd => ?_, h.sep.filter _⟩, h1, hk⟩
  · rw [List.length_map] at h2
    refine own_at h2 (fun g hg => heap_setCell_other w1 ⟨nb, 7, none⟩ g kv' (fun e => ?_))
    have e2 : g = nb := e
    rw [h1] at hg
    rw [e2] at hg
    exact h.ne_row hg
  · have hd' := (List.mem_filter.1 hd).1
    refine (h.nds d hd').kept (hk.block _ (h.nds d hd').lt ?_) (fun g hg => hk.block g ((h.nds d hd').rowlt hg) ?_)
    · rintro (e | e)
      · exact h.ne_nd hd' e
      · exact h.row_nd hd' e
    · rintro (e | e)
      · rw [e] at hg; exact h.ne_seen hd' hg
      · exact h.row_seen hd' e hg

set_option maxHeartbeats 1000000 in
theorem forget46 (cb nb : Nat) (x : Bx) (now : Int) (kv : Value) (L : List Nd) (f : Nd → Bool) (w : World) (h : Na w nb x now kv L) (hbig : L.length ≤ 1000)
    (hp : Tests 77 #[.pointer (some ⟨cb, 0, none⟩)] (byP L f) (L.map Nd.p) (fun k => kv.ownBlock = some k) w) :
    Calls Try.prog 53 #[.pointer (some ⟨nb, 0, none⟩), .func (.func 77) #[] #[.pointer (some ⟨cb, 0, none⟩)]] w (Gone w nb x now kv (L.filter (fun d => !f d))) := by
  have hD := deleteP46 cb (byP L f) kv (L.map Nd.p) w h.map_len (by rw [List.length_map]; exact hbig) hp
  have c7 := h.cells.2.1
  have H := Lib.hid h
  have hlt := h.lt
  clear h hp
  generalize hv : (fun d => !f d) = ff
  subst hv
  go_enter Try.func53, Try.ntmps53
  go_wp2_with fail
  refine hD.mono ?_
  rintro e w1 ⟨kv', rfl, h1, h2, h3⟩
  obtain ⟨A, m, c, rfl⟩ := own_slice h2
  have HG := Lib.hid (gone_end H.out h1 h2 h3)
  have ct : w1.heap[nb]? = some (.cells (natCells x kv now) 90 (0, 0)) := (h3.block nb hlt H.out.ne_row).trans H.out.top
  have d7 : w1.cell? ⟨nb, 7, none⟩ = some kv := (cells_of ct 7).1
  have f7 := (cells_of ct 7).2
  clear ct h1 h2 h3
  go_wp2
  go_end0
  exact HG.out

set_option maxHeartbeats 1000000 in
theorem forget41 (cb nb : Nat) (x : Bx) (now : Int) (kv : Value) (L : List Nd) (f : Nd → Bool) (w : World) (h : Na w nb x now kv L) (hbig : L.length ≤ 1000)
    (hp : Tests 54 #[.pointer (some ⟨cb, 0, none⟩)] (byP L f) (L.map Nd.p) (fun k => kv.ownBlock = some k) w) :
    Calls Try.prog 53 #[.pointer (some ⟨nb, 0, none⟩), .func (.func 54) #[] #[.pointer (some ⟨cb, 0, none⟩)]] w (Gone w nb x now kv (L.filter (fun d => !f d))) := by
  have hD := deleteP41 cb (byP L f) kv (L.map Nd.p) w h.map_len (by rw [List.length_map]; exact hbig) hp
  have c7 := h.cells.2.1
  have H := Lib.hid h
  have hlt := h.lt
  clear h hp
  generalize hv : (fun d => !f d) = ff
  subst hv
  go_enter Try.func53, Try.ntmps53
  go_wp2_with fail
  refine hD.mono ?_
  rintro e w1 ⟨kv', rfl, h1, h2, h3⟩
  obtain ⟨A, m, c, rfl⟩ := own_slice h2
  have HG := Lib.hid (gone_end H.out h1 h2 h3)
  have ct : w1.heap[nb]? = some (.cells (natCells x kv now) 90 (0, 0)) := (h3.block nb hlt H.out.ne_row).trans H.out.top
  have d7 : w1.cell? ⟨nb, 7, none⟩ = some kv := (cells_of ct 7).1
  have f7 := (cells_of ct 7).2
  clear ct h1 h2 h3
  go_wp2
  go_end0
  exact HG.out
end Go.Proofs.Ytemlnkcokeckmaa
namespace Go.Proofs.Ytemlnkcokeckmaa
open Go.RowKit
attribute [local go_sem] Oper.semAt_some
set_option linter.unusedVariables false

/-- may the time go on to t? -/
def goes (now t : Int) : Bool := decide (now ≤ t) && decide (t ≤ 1099511627776)
def dead (t : Int) (d : Nd) : Bool := decide (d.b.until_ ≤ t)
/-- those that are left at t -/
def liveN (L : List Nd) (t : Int) : List Nd := L.filter (fun d => !dead t d)
def Went (w : World) (nb : Nat) (x : Bx) (now t : Int) (kv : Value) (L : List Nd) : Ending → World → Prop := fun e w' =>
  e = .returned (.bool (goes now t)) ∧ if goes now t = true then ∃ kv', Na w' nb x t kv' (liveN L t) ∧ kv'.ownBlock = kv.ownBlock ∧ Keeps (fun k => k = nb ∨ kv.ownBlock = some k) w w' else Below w.heap.size w w'

theorem set_now {w : World} {nb : Nat} {x : Bx} {now : Int} {kv : Value} {L : List Nd} (h : Na w nb x now kv L) (t : Int) : Na (w.setCell ⟨nb, 8, none⟩ (.int .i64 t)) nb x t kv L := by
  have ho : ∀ k, k ≠ nb → (w.setCell ⟨nb, 8, none⟩ (.int .i64 t)).heap[k]? = w.heap[k]? := fun k hk => heap_setCell_other w ⟨nb, 8, none⟩ k _ hk
  refine ⟨heap_setCell_same w nb 8 _ 90 _ h.top, own_at h.row (fun g hg => ho g (fun e => by rw [e] at hg; exact h.ne_row hg)), fun d hd => (h.nds d hd).kept (ho _ (h.ne_nd hd)) (fun g hg => ho g (fun e => by rw [e] at hg; exact h.ne_seen hd hg)), h.sep⟩

theorem lt_of_cell {w : World} {a : Addr} {v : Value} (h : w.cell? a = some v) : a.block < w.heap.size := World.block_lt_of_cell? w a h
theorem tests46 {V : World} {nb cb : Nat} {x : Bx} {now t : Int} {kv : Value} {L : List Nd} (h : Na V nb x now kv L) (hc : V.cell? ⟨cb, 0, none⟩ = some (.int .i64 t)) (hcb : kv.ownBlock ≠ some cb) :
    Tests 77 #[.pointer (some ⟨cb, 0, none⟩)] (byP L (dead t)) (L.map Nd.p) (fun k => kv.ownBlock = some k) V := by
  intro p hp W hW
  obtain ⟨d, hd, rfl⟩ := List.mem_map.1 hp
  rw [byP_at h.sep _ hd]
  have hcl := lt_of_cell hc
  refine until_any cb t d W ((World.cell?_of_block (hW.block cb hcl hcb)).trans hc) ((h.nds d hd).kept (hW.block _ (h.nds d hd).lt (h.row_nd hd)) (fun g hg => hW.block g ((h.nds d hd).rowlt hg) (fun e => h.row_seen hd e hg)))
theorem isHad_tests {V : World} {nb cb : Nat} {x : Bx} {now : Int} {kv : Value} {L : List Nd} (o : Option Nat) (h : Na V nb x now kv L) (hc : V.cell? ⟨cb, 0, none⟩ = some (.pointer (o.map fun k => ⟨k, 0, none⟩))) (hcb : kv.ownBlock ≠ some cb) (ho : ∀ k, o = some k → ∃ d ∈ L, d.p = k) :
    Tests 54 #[.pointer (some ⟨cb, 0, none⟩)] (byP L (fun d => decide (o = some d.p))) (L.map Nd.p) (fun k => kv.ownBlock = some k) V := by
  intro p hp W hW
  obtain ⟨d, hd, rfl⟩ := List.mem_map.1 hp
  rw [byP_at h.sep _ hd]
  have hcl := lt_of_cell hc
  have hob : ∀ d ∈ L, ∃ C, W.heap[d.p]? = some (.cells C 98 (0, 0)) := fun d hd => ⟨_, (hW.block _ (h.nds d hd).lt (h.row_nd hd)).trans (h.nds d hd).own⟩
  refine isHad_any cb o d.p W ((World.cell?_of_block (hW.block cb hcl hcb)).trans hc) (hob d hd) (fun k hk => ?_)
  obtain ⟨e, he, rfl⟩ := ho k hk
  exact hob e he
set_option maxHeartbeats 2000000 in
theorem goesOn_any (nb : Nat) (x : Bx) (now t : Int) (kv : Value) (L : List Nd) (w : World) (h : Na w nb x now kv L) (hbig : L.length ≤ 1000) :
    Calls Try.prog 40 #[.pointer (some ⟨nb, 0, none⟩), .int .i64 t] w (Went w nb x now t kv L) := by
  have c8 := h.cells.2.2.1
  have f8 := h.cells.2.2.2 8
  have hlt := h.lt
  have H := Lib.hid h; clear h
  by_cases h1 : t < now
  · have HR : Hid (goes now t = false) := Lib.hid (by have : ¬ now ≤ t := by omega
                                                      simp [goes, this])
    go_enter Try.func40, Try.ntmps40
    go_wp2
    go_quiet (fail)
    go_wp2
    go_ret
    exact ⟨ret_b HR.out.symm, by rw [HR.out, if_neg (by simp)]; exact below_drw ((Below.refl _ _).alloc (Nat.le_refl _) _) _⟩
  · by_cases h2 : 1099511627776 < t
    · have HR : Hid (goes now t = false) := Lib.hid (by have : ¬ t ≤ 1099511627776 := by omega
                                                        simp [goes, this])
      go_enter Try.func40, Try.ntmps40
      go_wp2
      go_quiet (fail)
      go_wp2
      go_ret
      exact ⟨ret_b HR.out.symm, by rw [HR.out, if_neg (by simp)]; exact below_drw ((Below.refl _ _).alloc (Nat.le_refl _) _) _⟩
    · have HR : Hid (goes now t = true) := Lib.hid (by have : now ≤ t := by omega
                                                       have h3 : t ≤ 1099511627776 := by omega
                                                       simp [goes, this, h3])
      go_enter Try.func40, Try.ntmps40
      go_wp2
      go_quiet (fail)
      go_wp2_with fail
      have hV : Below w.heap.size w ((w.alloc (.cells #[.int .i64 t] 3)).drewN nq) := below_drw ((Below.refl _ _).alloc (Nat.le_refl _) _) _
      have hc0 : ((w.alloc (.cells #[.int .i64 t] 3)).drewN nq).cell? ⟨w.heap.size, 0, none⟩ = some (.int .i64 t) := by go_simp
      have hN := set_now (H.out.below hV) t
      have hKV : Keeps (fun k => k = nb ∨ kv.ownBlock = some k) w (((w.alloc (.cells #[.int .i64 t] 3)).drewN nq).setCell ⟨nb, 8, none⟩ (.int .i64 t)) := (Keeps.all hV).set nb 8 _ (.inl rfl)
      have hc1 : (((w.alloc (.cells #[.int .i64 t] 3)).drewN nq).setCell ⟨nb, 8, none⟩ (.int .i64 t)).cell? ⟨w.heap.size, 0, none⟩ = some (.int .i64 t) :=
        (World.cell?_of_block (heap_setCell_other _ ⟨nb, 8, none⟩ w.heap.size _ (fun e => by have e2 : w.heap.size = nb := e; omega))).trans hc0
      have HN := Lib.hid hN; have HKV := Lib.hid hKV
      have hF := forget46 w.heap.size nb x t kv L (dead t) _ hN hbig (tests46 hN hc1 (fun e => by have := H.out.foot_lt (.inr (.inl e)); omega))
      clear hV hc0 hN hKV hc1
      generalize ((w.alloc (.cells #[.int .i64 t] 3)).drewN nq).setCell ⟨nb, 8, none⟩ (.int .i64 t) = V at *
      refine hF.mono ?_
      rintro e w' ⟨rfl, hg⟩
      have HG := Lib.hid hg; clear hg
      go_wp2
      go_ret
      refine ⟨ret_b HR.out.symm, ?_⟩
      rw [HR.out, if_pos rfl]
      obtain ⟨kv', g1, g2, g3⟩ := HG.out
      exact ⟨kv', g1, g2, HKV.out.trans g3⟩
end Go.Proofs.Ytemlnkcokeckmaa
