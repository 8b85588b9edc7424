/-
  The contract of Next: the first in order. Condition: the table stands for its list of timers.
-/
import Derived.Test.YtahccfljgmleiaaSet
import Derived.Sort.KeysCollected
namespace Go.Proofs.Ytahccfljgmleiaa
open Go.RowKit Go.Maps
set_option linter.unusedVariables false

theorem below_grown' {n : Nat} {w w' : World} (h : Below n w w') (hn : w.heap.size ≤ n) : w.grownBy w' none := ⟨h.os, h.tape, h.output, h.size, fun k hk _ => h.block k (by omega)⟩
theorem grown_below {w w' : World} {row : Option Nat} (h : w.grownBy w' row) {n : Nat} (hn : n ≤ w.heap.size) (hr : ∀ r, row = some r → n ≤ r) : Below n w w' :=
  ⟨h.os, h.tape, h.output, h.size, fun k hk => h.block k (by omega) (fun e => by have := hr k e.symm; omega)⟩
theorem grow_below (w : World) (q : Nat) (os : Array Obj) : Below w.heap.size w (Sort.grow (w.drewN q) os) :=
  ⟨rfl, rfl, rfl, by rw [Sort.size_grow]; exact Nat.le_add_right _ _, fun k hk => by
    show (w.heap ++ os)[k]? = _
    rw [Array.getElem?_append_left hk]⟩

theorem below_drewN' {n : Nat} {w W : World} (h : Below n w W) (q : Nat) : Below n w (W.drewN q) := ⟨h.os, h.tape, h.output, h.size, h.block⟩
/-- the first of a table, as Next answers it -/
def firstOf : List En → Ky × Int × Bool
  | [] => (⟨[], Nat.zero_le _⟩, 0, false)
  | e :: _ => (e.1, e.2, true)
/-- the best of those that have come: f, if has -/
structure Best (L : List En) (left : Lit → Bool) (f : Ky) (has : Bool) : Prop where
  none : has = false → f = ⟨[], Nat.zero_le _⟩ ∧ ∀ y : Ky, inL L y = true → left (.string y.1) = true
  some : has = true → inL L f = true ∧ ∀ y : Ky, inL L y = true → left (.string y.1) = false → ¬ bef (y, timeOf L y) (f, timeOf L f)
theorem Best.start {D : DataW Unit} {L : List En} (hT : Tags D L) : Best L (Maps.has D) ⟨[], Nat.zero_le _⟩ false := ⟨fun _ => ⟨rfl, fun y hy => by rw [hT.has y]; exact hy⟩, fun h => by cases h⟩
theorem struck {left : Lit → Bool} {x y : Ky} (h : (left (.string y.1) && !(Lit.string y.1).sameKey (.string x.1)) = false) : y = x ∨ left (.string y.1) = false := by
  by_cases e : y = x
  · exact .inl e
  · right
    have : (Lit.string y.1).sameKey (.string x.1) = false := sameKey_ne (key_ne e)
    rw [this] at h; simpa using h
theorem Best.take {L : List En} {left : Lit → Bool} {f x : Ky} {has : Bool} (h : Best L left f has) (hx : inL L x = true) (hb : has = true → bef (x, timeOf L x) (f, timeOf L f)) : Best L (fun z => left z && !z.sameKey (.string x.1)) x true := by
  refine ⟨(fun h => by cases h), fun _ => ⟨hx, fun y hy hl => ?_⟩⟩
  rcases struck hl with rfl | hl
  · exact bef_irrefl _
  · cases has with
    | false => rw [(h.none rfl).2 y hy] at hl; cases hl
    | true => exact fun hyx => (h.some rfl).2 y hy hl (bef_trans hyx (hb rfl))
theorem Best.leave {L : List En} {left : Lit → Bool} {f x : Ky} (h : Best L left f true) (hb : ¬ bef (x, timeOf L x) (f, timeOf L f)) : Best L (fun z => left z && !z.sameKey (.string x.1)) f true := by
  refine ⟨(fun h => by cases h), fun _ => ⟨(h.some rfl).1, fun y hy hl => ?_⟩⟩
  rcases struck hl with rfl | hl
  · exact hb
  · exact (h.some rfl).2 y hy hl
theorem Best.end_ {L : List En} {left : Lit → Bool} {f : Ky} {has : Bool} (h : Best L left f has) (hL : Tbl L) (hl : ∀ kl, left kl = false) : (f, timeOf L f, has) = firstOf L := by
  cases has with
  | false =>
    obtain ⟨rfl, hn⟩ := h.none rfl
    cases L with
    | nil => rfl
    | cons e L =>
      have := hn e.1 (inL_iff.2 ⟨e.2, by simp⟩)
      rw [hl] at this; cases this
  | true =>
    obtain ⟨hi, hb⟩ := h.some rfl
    cases L with
    | nil => cases hi
    | cons e L =>
      have he : timeOf (e :: L) e.1 = e.2 := timeOf_mem hL (by simp)
      have h1 := hb e.1 (inL_iff.2 ⟨e.2, by simp⟩) (hl _)
      rw [he] at h1
      obtain ⟨t, ht⟩ := inL_iff.1 hi
      have hft : timeOf (e :: L) f = t := timeOf_mem hL ht
      rw [hft] at h1 ⊢
      rcases List.mem_cons.1 ht with h2 | h2
      · rw [show firstOf (e :: L) = (e.1, e.2, true) from rfl, ← h2]
      · exact absurd (List.rel_of_pairwise_cons hL.sorted h2) h1

def Firsts (w : World) (L : List En) : Ending → World → Prop := fun e w' => e = .returned (.tuple #[.string (str (firstOf L).1), .int .i64 (firstOf L).2.1, .bool (firstOf L).2.2]) ∧ Below w.heap.size w w'

set_option maxHeartbeats 4000000 in
theorem next_any' (tb bm : Nat) (L : List En) (w : World) (h : Du w tb bm L) : Calls Try.prog 19 #[.pointer (some ⟨tb, 0, none⟩)] w (Firsts w L) := by
  have mixed : Try.prog.follows .mixedOrders = true := follows
  have HD := Lib.hid h
  obtain ⟨D, hm, hT⟩ := h.map
  have hT0 := Lib.hid hT
  have c0 := h.cell
  have hlt := h.lt
  clear h
  have hstr : Value.string (str ⟨[], Nat.zero_le _⟩) = Value.string ByteArray.empty := rfl
  go_enter Try.func19, Try.ntmps19
  go_wp2_with (first | (at_range; refine wpList_range_own _ rfl _ 58 rfl 9 3 (string_keyed Try.underlying9) Try.underlying58 _ bm L.length D rfl hm ?_; intro wz hrg0 hg0 hs0) | go_in)
  go_frame
  have hb0 : Below w.heap.size w wz := below_grown' (grown_below hg0 (Nat.le_refl _) (fun r e => by cases e)) (Nat.le_refl _) |> fun h => grown_below h (Nat.le_refl _) (fun r e => by cases e)
  have HS0 := Lib.hid hs0
  clear hs0 hg0 hm hT
  go_loopw [5, 6] (fun vf vh wr => ∃ (left : Lit → Bool) (cnt : Nat) (f : Ky) (has : Bool), vf = .string (str f) ∧ vh = .bool has ∧ wr.ranges Try.prog 9 (plainElem (H := Unit) Try.prog 3) bm w.heap.size L.length D left cnt ∧ Hid (Best L left f has) ∧ Hid (Below w.heap.size w wr)) (fun _ _ wr => wr.rangeLeft bm w.heap.size)
  case atStart => exact ⟨_, _, ⟨[], Nat.zero_le _⟩, false, rfl, rfl, hrg0, Lib.hid (Best.start hT0.out), Lib.hid hb0⟩
  case round =>
    clear hrg0 hb0
    obtain ⟨left, cnt, f, has, rfl, rfl, hrg, HB, HBW⟩ := hrel
    go_wp2_with (at_next; refine wpList_next_ranges _ rfl _ rfl 9 (string_keyed Try.underlying9) _ (fun x : Ky => Value.string (str x)) (fun c : Int => Value.int .i64 c) (fun key kl hk => by
      obtain ⟨x, rfl, _, hx⟩ := Maps.keyOf_str Try.underlying9 hk
      exact ⟨⟨x, hx⟩, rfl⟩) (fun v y hv => by
      obtain ⟨c, rfl, _⟩ := plainElem_int_inv Try.underlying3 hv
      exact ⟨c, rfl⟩) bm w.heap.size L.length D left cnt rfl hrg ?_ ?_)
    · intro _ hl0
      have HE := Lib.hid (HB.out.end_ HD.out.tbl hl0)
      have HD1 : Hid (Du wr tb bm L) := Lib.hid (HD.out.after HBW.out)
      have d0 := HD1.out.cell
      have hlkf : ∀ q, (Instr.lookup 58 (.map (some bm)) (.string (str f)) false).run Try.prog (wr.drewN q) = .ok (.int .i64 (timeOf L f)) (wr.drewN q) := fun q => (HD1.out.kept (w' := wr.drewN q) rfl rfl).look f
      clear hl0 hrg HB
      go_wp2
      go_quiet (fail)
      clear hlkf
      go_wp2
      refine bodyPost_ret (v := .tuple #[.string (str f), .int .i64 (timeOf L f), .bool has]) (by simp [results, Try.results19, go_sem]) rfl ?_
      unfold Firsts
      rw [← HE.out]
      exact ⟨rfl, below_drewN' HBW.out _⟩
    · intro xv xp c kl y1 y2 w1 cnt1 hkey hlk hv hat hrg1 hlt1 hg1 hs1 hen
      obtain ⟨x, hx⟩ : ∃ x : Ky, x = ⟨xv, xp⟩ := ⟨_, rfl⟩
      rw [← hx] at hkey hen ⊢
      rw [key_mk x] at hkey
      obtain rfl : kl = .string x.1 := (Option.some.inj hkey).symm
      have hin : inL L x = true := by
        rw [← hT0.out.has x]
        exact has_true_of_atKey hat
      have hb1 : Below w.heap.size w w1 := HBW.out.trans (grown_below hg1 HBW.out.size (fun r e => by cases e; exact Nat.le_refl _))
      have HD1 : Hid (Du w1 tb bm L) := Lib.hid (HD.out.after hb1)
      have HB1 := Lib.hid hb1
      have HR1 := Lib.hid hrg1
      have HR0 := Lib.hid hrg
      have HLT := Lib.hid hlt1
      clear hkey hlk hv hat hrg1 hrg hg1 hs1 hb1 hx hlt1
      cases has with
      | false =>
        have HB2 := Lib.hid (HB.out.take hin (fun h => by cases h))
        clear hin HB
        go_wp2
        go_roundw
        case rel => exact ⟨_, _, x, true, rfl, rfl, HR1.out, HB2, HB1⟩
        case measure => rw [HR1.out.left_eq, HR0.out.left_eq]; exact HLT.out
      | true =>
        go_wp2_with fail
        refine (order_any tb bm L x f _ HD1.out).mono ?_
        rintro e w2 ⟨rfl, q, os, rfl⟩
        have hgb := grow_below w1 q os
        have HR2 : Hid ((Sort.grow (w1.drewN q) os).ranges Try.prog 9 (plainElem (H := Unit) Try.prog 3) bm w.heap.size L.length D _ _) := Lib.hid (HR1.out.kept (below_grown' hgb (Nat.le_refl _)) (by simp) (by simp))
        have HB2 : Hid (Below w.heap.size w (Sort.grow (w1.drewN q) os)) := Lib.hid (HB1.out.trans (hgb.mono HB1.out.size))
        clear hgb
        obtain ⟨w2, hw2⟩ : ∃ w2, w2 = Sort.grow (w1.drewN q) os := ⟨_, rfl⟩
        rw [← hw2] at HR2 HB2 ⊢
        clear hw2
        have hc : decide (cfOf L x f < 0) = decide (bef (x, timeOf L x) (f, timeOf L f)) := cf_lt L x f
        by_cases hbf : bef (x, timeOf L x) (f, timeOf L f)
        · rw [decide_eq_true hbf] at hc
          have hc2 : cfOf L x f < 0 := of_decide_eq_true hc
          have HB3 := Lib.hid (HB.out.take hin (fun _ => hbf))
          clear hin hbf HB
          go_wp2
          go_roundw
          case rel => exact ⟨_, _, x, true, rfl, rfl, HR2.out, HB3, HB2⟩
          case measure => rw [HR2.out.left_eq, HR0.out.left_eq]; exact HLT.out
        · rw [decide_eq_false hbf] at hc
          have hc2 : ¬ cfOf L x f < 0 := of_decide_eq_false hc
          have HB3 := Lib.hid (HB.out.leave hbf)
          clear hin hbf HB
          go_wp2
          go_roundw
          case rel => exact ⟨_, _, f, true, rfl, rfl, HR2.out, HB3, HB2⟩
          case measure => rw [HR2.out.left_eq, HR0.out.left_eq]; exact HLT.out

end Go.Proofs.Ytahccfljgmleiaa
