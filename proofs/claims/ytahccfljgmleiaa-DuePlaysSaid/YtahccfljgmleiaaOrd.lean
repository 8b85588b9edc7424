/-
  Contracts of cmp.Compare, cmp.Or, and of the table's own comparison: by times, then by names. Conditions: the table stands for its list of timers.
-/
import Derived.Test.YtahccfljgmleiaaTab
import Derived.OwnWalk
import Derived.Deep.RegionWith
import Derived.StillTailTactics
import Derived.Sort.Walk0
import Derived.Laws.Cover1
namespace Go.Proofs.Ytahccfljgmleiaa
open Go.RowKit Go.Maps
set_option linter.unusedVariables false

/-- how two numbers stand -/
def cmpV (a b : Int) : Int := if a < b then -1 else if b < a then 1 else 0
theorem cmpV_lt {a b : Int} (h : a < b) : cmpV a b = -1 := if_pos h
theorem cmpV_gt {a b : Int} (h : b < a) : cmpV a b = 1 := by rw [cmpV, if_neg (by omega), if_pos h]
theorem cmpV_eq (a : Int) : cmpV a a = 0 := by simp [cmpV]
/-- how two names stand -/
def cmpS (x y : List UInt8) : Int := if x < y then -1 else if y < x then 1 else 0
/-- the first that isn't 0 -/
def orV (a b : Int) : Int := if a = 0 then b else a
theorem orV_0 (b : Int) : orV 0 b = b := rfl
theorem orV_n {a b : Int} (h : ¬ a = 0) : orV a b = a := if_neg h
/-- how two names of a table stand -/
def cfOf (L : List En) (x y : Ky) : Int := orV (cmpV (timeOf L x) (timeOf L y)) (cmpS x.1 y.1)
theorem cf_lt (L : List En) (x y : Ky) : ltOf (cfOf L) x y = decide (bef (x, timeOf L x) (y, timeOf L y)) := by
  have h0 : ltOf (cfOf L) x y = decide (cfOf L x y < 0) := rfl
  rw [h0]
  unfold cfOf bef
  rcases Int.lt_trichotomy (timeOf L x) (timeOf L y) with c | c | c
  · rw [cmpV_lt c, orV_n (by omega)]; simp [c]
  · rw [c, cmpV_eq, orV_0]
    unfold cmpS
    by_cases h1 : x.1 < y.1
    · simp [h1]
    · by_cases h2 : y.1 < x.1 <;> simp [h1, h2]
  · have c2 : ¬ timeOf L x < timeOf L y := by omega
    have c3 : ¬ timeOf L x = timeOf L y := by omega
    rw [cmpV_gt c, orV_n (by omega)]; simp [c2, c3]
theorem cf_weak (L : List En) : Sort.SWO (ltOf (cfOf L)) where
  irrefl x := by rw [cf_lt]; simpa using bef_irrefl _
  trans x y z h1 h2 := by
    rw [cf_lt, decide_eq_true_eq] at *
    exact bef_trans h1 h2
  ntrans x y z h1 h2 := by
    rw [cf_lt, decide_eq_false_iff_not] at *
    intro h3
    by_cases e : x = y
    · subst e; exact h2 h3
    · exact h2 (bef_trans (bef_total h1 e) h3)
theorem cf_parts {L : List En} {x y : Ky} (h1 : ltOf (cfOf L) x y = false) (h2 : ltOf (cfOf L) y x = false) : x = y := by
  rw [cf_lt, decide_eq_false_iff_not] at *
  refine Classical.byContradiction fun e => h2 (bef_total h1 e)

set_option maxHeartbeats 1000000 in
theorem nanI (a : Int) (w : World) : Calls Try.prog 38 #[.int .i64 a] w fun e w' => e = .returned (.bool false) ∧ w' = w := by
  have t : (a != a) = false := by simp
  go_enter Try.func38, Try.ntmps38
  go_wp2
  go_ret
  all_goals first | exact ⟨rfl, rfl⟩ | simp
set_option maxHeartbeats 1000000 in
theorem nanS (a : ByteArray) (w : World) : Calls Try.prog 39 #[.string a] w fun e w' => e = .returned (.bool false) ∧ w' = w := by
  go_enter Try.func39, Try.ntmps39
  go_wp2
  go_ret
  exact ⟨by simp, rfl⟩
set_option maxHeartbeats 1000000 in
theorem cmpI (a b : Int) (w : World) : Calls Try.prog 33 #[.int .i64 a, .int .i64 b] w fun e w' => e = .returned (.int .i64 (cmpV a b)) ∧ w' = w := by
  have N := Lib.hid nanI
  rcases Int.lt_trichotomy a b with c | rfl | c
  · rw [cmpV_lt c]
    go_enter Try.func33, Try.ntmps33
    go_wp2_with (go_at_call 38; refine (N.out _ _).mono ?_; rintro e w1 ⟨rfl, rfl⟩)
    go_ret
    exact ⟨rfl, rfl⟩
  · rw [cmpV_eq]
    go_enter Try.func33, Try.ntmps33
    go_wp2_with (go_at_call 38; refine (N.out _ _).mono ?_; rintro e w1 ⟨rfl, rfl⟩)
    go_ret
    exact ⟨rfl, rfl⟩
  · rw [cmpV_gt c]
    have c' : ¬ a < b := by omega
    go_enter Try.func33, Try.ntmps33
    go_wp2_with (go_at_call 38; refine (N.out _ _).mono ?_; rintro e w1 ⟨rfl, rfl⟩)
    go_ret
    exact ⟨rfl, rfl⟩
theorem str_list (x : Ky) : (str x).toList = x.1 := ByteArray.toList_mk x.1
set_option maxHeartbeats 1000000 in
theorem cmpStr (x y : Ky) (w : World) : Calls Try.prog 34 #[.string (str x), .string (str y)] w fun e w' => e = .returned (.int .i64 (cmpS x.1 y.1)) ∧ w' = w := by
  have N := Lib.hid nanS
  have hx := str_list x
  have hy := str_list y
  have e1 : Op.bytesLess x.1 y.1 = decide (x.1 < y.1) := bytesLess_eq _ _
  have e2 : Op.bytesLess (str x).toList (str y).toList = decide (x.1 < y.1) := by rw [hx, hy]; exact bytesLess_eq _ _
  have e3 : ((str x).toList == (str y).toList) = decide (x.1 = y.1) := by rw [hx, hy]; by_cases h : x.1 = y.1 <;> simp [h]
  clear hx hy e1
  generalize str x = sx at *
  generalize str y = sy at *
  by_cases h1 : x.1 < y.1
  · have d1 : decide (x.1 < y.1) = true := decide_eq_true h1
    rw [d1] at e2
    rw [show cmpS x.1 y.1 = -1 from if_pos h1]
    clear d1 h1 e3
    go_enter Try.func34, Try.ntmps34
    go_wp2_with (go_at_call 39; refine (N.out _ _).mono ?_; rintro e w1 ⟨rfl, rfl⟩)
    go_ret
    exact ⟨rfl, rfl⟩
  · have d1 : decide (x.1 < y.1) = false := decide_eq_false h1
    rw [d1] at e2
    by_cases h2 : x.1 = y.1
    · rw [decide_eq_true h2] at e3
      rw [show cmpS x.1 y.1 = 0 from by unfold cmpS; rw [if_neg h1, if_neg (by rw [h2]; exact List.lt_irrefl _)]]
      clear d1 h1 h2
      go_enter Try.func34, Try.ntmps34
      go_wp2_with (go_at_call 39; refine (N.out _ _).mono ?_; rintro e w1 ⟨rfl, rfl⟩)
      go_ret
      exact ⟨rfl, rfl⟩
    · rw [decide_eq_false h2] at e3
      have h3 : y.1 < x.1 := by
        by_cases h4 : y.1 < x.1
        · exact h4
        · exact absurd (List.le_antisymm (List.not_lt.1 h4) (List.not_lt.1 h1)) h2
      rw [show cmpS x.1 y.1 = 1 from by unfold cmpS; rw [if_neg h1, if_pos h3]]
      clear d1 h1 h2 h3
      go_enter Try.func34, Try.ntmps34
      go_wp2_with (go_at_call 39; refine (N.out _ _).mono ?_; rintro e w1 ⟨rfl, rfl⟩)
      go_ret
      exact ⟨rfl, rfl⟩

set_option maxHeartbeats 1000000 in
theorem or_any (g : Nat) (a b : Int) (w : World) (c0 : w.cell? ⟨g, 0, none⟩ = some (.int .i64 a)) (c1 : w.cell? ⟨g, 1, none⟩ = some (.int .i64 b)) :
    Calls Try.prog 32 #[.slice (some ⟨g, 0, none⟩) 2 2] w fun e w' => e = .returned (.int .i64 (orV a b)) ∧ w' = w := by
  have hs0 : (0 : Int) + 1 = 1 := rfl
  by_cases ha : a = 0
  · subst ha
    rw [orV_0]
    by_cases hb : b = 0
    · subst hb
      go_enter Try.func32, Try.ntmps32
      go_wp2
      go_loopw [8] (fun i wr => wr = w ∧ ∃ k : Nat, k ≤ 2 ∧ i = .int .i64 k) (fun i _ => 2 - (intOf i).toNat)
      case atStart => exact ⟨rfl, 0, by omega, rfl⟩
      case round =>
        obtain ⟨rfl, k, hk, rfl⟩ := hrel
        rcases (show k = 0 ∨ k = 1 ∨ k = 2 by omega) with rfl | rfl | rfl
        · go_wp2
          go_roundw
          case rel => exact ⟨trivial, 1, by omega, rfl⟩
          case measure => simp [intOf]
        · go_wp2
          go_roundw
          case rel => exact ⟨trivial, 2, by omega, rfl⟩
          case measure => simp [intOf]
        · go_wp2
          go_ret
          exact ⟨rfl, rfl⟩
    · have tb : (b != 0) = true := by rw [bne_iff_ne]; exact hb
      go_enter Try.func32, Try.ntmps32
      go_wp2
      go_loopw [8] (fun i wr => wr = w ∧ ∃ k : Nat, k ≤ 1 ∧ i = .int .i64 k) (fun i _ => 2 - (intOf i).toNat)
      case atStart => exact ⟨rfl, 0, by omega, rfl⟩
      case round =>
        obtain ⟨rfl, k, hk, rfl⟩ := hrel
        rcases (show k = 0 ∨ k = 1 by omega) with rfl | rfl
        · go_wp2
          go_roundw
          case rel => exact ⟨trivial, 1, by omega, rfl⟩
          case measure => simp [intOf]
        · go_wp2
          go_ret
          exact ⟨rfl, rfl⟩
  · rw [orV_n ha]
    have ta : (a != 0) = true := by rw [bne_iff_ne]; exact ha
    go_enter Try.func32, Try.ntmps32
    go_wp2
    go_loopw [8] (fun i wr => wr = w ∧ i = .int .i64 0) (fun i _ => 2 - (intOf i).toNat)
    case atStart => exact ⟨rfl, rfl⟩
    case round =>
      obtain ⟨rfl, rfl⟩ := hrel
      go_wp2
      go_ret
      exact ⟨rfl, rfl⟩

/-- blocks tb and bm are a table that stands for the timers L -/
structure Du (w : World) (tb bm : Nat) (L : List En) : Prop where
  own : w.heap[tb]? = some (.cells #[.map (some bm)] 60 (0, 0))
  map : ∃ D, w.ownsMap Try.prog 9 (plainElem (H := Unit) Try.prog 3) bm L.length D ∧ Tags D L
  tbl : Tbl L
theorem map_kept {w w' : World} {b n : Nat} {D : DataW Unit} (h : w.ownsMap Try.prog 9 (plainElem Try.prog 3) b n D) (hb : w'.heap[b]? = w.heap[b]?) : w'.ownsMap Try.prog 9 (plainElem Try.prog 3) b n D := by
  obtain ⟨es, clock, h1, h2⟩ := h
  exact ⟨es, clock, hb.trans h1, h2⟩
section
variable {w w' : World} {tb bm : Nat} {L : List En}
theorem Du.kept (h : Du w tb bm L) (h1 : w'.heap[tb]? = w.heap[tb]?) (h2 : w'.heap[bm]? = w.heap[bm]?) : Du w' tb bm L := by
  obtain ⟨D, hm, hT⟩ := h.map
  exact ⟨h1.trans h.own, ⟨D, map_kept hm h2, hT⟩, h.tbl⟩
theorem Du.lt (h : Du w tb bm L) : tb < w.heap.size ∧ bm < w.heap.size := by
  obtain ⟨D, hm, hT⟩ := h.map
  exact ⟨(Array.getElem?_eq_some_iff.1 h.own).1, hm.lt⟩
theorem Du.ne (h : Du w tb bm L) : bm ≠ tb := by
  rintro rfl
  obtain ⟨D, ⟨es, clock, h1, _⟩, hT⟩ := h.map
  rw [h.own] at h1
  cases h1
theorem Du.below {n : Nat} (h : Du w tb bm L) (hb : Below n w w') (h1 : tb < n) (h2 : bm < n) : Du w' tb bm L := h.kept (hb.block _ h1) (hb.block _ h2)
theorem Du.after (h : Du w tb bm L) (hb : Below w.heap.size w w') : Du w' tb bm L := h.below hb h.lt.1 h.lt.2
theorem Du.cell (h : Du w tb bm L) : w.cell? ⟨tb, 0, none⟩ = some (.map (some bm)) := by
  have := h.own
  simp [World.cell?, this]
theorem zeroI (w : World) : (zeroValue 3).run Try.prog w = .ok (.int .i64 0) w := by kernel_rfl
theorem Du.look (h : Du w tb bm L) (x : Ky) : (Instr.lookup 58 (.map (some bm)) (.string (str x)) false).run Try.prog w = .ok (.int .i64 (timeOf L x)) w := by
  obtain ⟨D, hm, hT⟩ := h.map
  obtain ⟨c, hrun, hat, _⟩ := hm.lookup_int (string_keyed Try.underlying9) Try.underlying58 Try.underlying3 (zeroI w) (key_mk x)
  rw [hT.timeAt h.tbl x] at hat
  have : timeOf L x = c := by simpa using hat
  rw [this]; exact hrun
theorem Du.lookOk (h : Du w tb bm L) (x : Ky) : (Instr.lookup 58 (.map (some bm)) (.string (str x)) true).run Try.prog w = .ok (.tuple #[.int .i64 (timeOf L x), .bool (inL L x)]) w := by
  obtain ⟨D, hm, hT⟩ := h.map
  obtain ⟨v, ps, hr, hv⟩ := hm.look_ok (string_keyed Try.underlying9) Try.underlying58 (z := .int .i64 0) (zeroI w) (zd := .lit (.int .i64 0)) (zp := []) (plainElem_int Try.underlying3 (by decide)) (key_mk x)
  rw [hT.timeAt h.tbl x] at hv
  obtain ⟨c, rfl, hc, _⟩ := plainElem_int_inv Try.underlying3 hv
  have : timeOf L x = c := by simpa using congrArg Prod.fst hc
  rw [hr, hT.has x, this]
end

theorem or_at (a b : Int) (W : World) : Calls Try.prog 32 #[.slice (some ⟨W.heap.size, 0, none⟩) 2 2] (W.alloc (.cells #[.int .i64 a, .int .i64 b] 3)) fun e w' => e = .returned (.int .i64 (orV a b)) ∧ w' = W.alloc (.cells #[.int .i64 a, .int .i64 b] 3) :=
  or_any _ a b _ (by simp) (by simp)

set_option maxRecDepth 100000 in
set_option maxHeartbeats 4000000 in
/-- how two names stand, by the table's own comparison -/
theorem order_any (tb bm : Nat) (L : List En) (x y : Ky) (w : World) (h : Du w tb bm L) :
    Calls Try.prog 27 #[.pointer (some ⟨tb, 0, none⟩), .string (str x), .string (str y)] w fun e w' => e = .returned (.int .i64 (cfOf L x y)) ∧ ∃ q os, w' = Sort.grow (w.drewN q) os := by
  have C1 := Lib.hid cmpI
  have C2 := Lib.hid cmpStr
  have C3 := Lib.hid or_at
  have HD : Hid (Du w.drew tb bm L) := Lib.hid (h.kept rfl rfl)
  clear h
  go_enter Try.func27, Try.ntmps27
  go_wp2_with fail
  have c0 := HD.out.cell
  have l1 := HD.out.look x
  have l2 := HD.out.look y
  refine wp_region_still_tail 16 (by kernel_rfl) (by kernel_rfl) ?_
  change wpStill _ _ w.drew (fun a => wpList _ _ _ _ a w.drew) _ _
  obtain ⟨W, hW⟩ : ∃ W, W = w.drew := ⟨_, rfl⟩
  rw [← hW] at c0 l1 l2 ⊢
  have HW := Lib.hid hW
  clear hW HD
  simp only [List.take_succ_cons, List.take_zero, List.drop_succ_cons, List.drop_zero]
  repeat still_step
  still_call (C1.out _ _ _)
  repeat still_step
  still_call (C2.out _ _ _)
  refine wpStill_nil ?_
  change wpList _ _ _ _ _ W
  go_wp2_with fail
  refine (C3.out _ _ _).mono ?_
  rintro e w1 ⟨rfl, rfl⟩
  go_wp2
  go_ret
  refine ⟨rfl, 1, #[.cells #[.int .i64 (cmpV (timeOf L x) (timeOf L y)), .int .i64 (cmpS x.1 y.1)] 3], ?_⟩
  rw [HW.out]
  exact Sort.alloc_eq_grow _ _

end Go.Proofs.Ytahccfljgmleiaa
