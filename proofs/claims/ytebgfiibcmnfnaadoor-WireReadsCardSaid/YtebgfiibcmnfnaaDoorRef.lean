/-
  Contracts of the document's own embrasureref01.Put and embrasureref01.Same: Put answers the number as bytes ('Uv.enc') in a row of its own; Same says whether two rows of bytes are the same. Conditions: the number is a uint64; the slices read as bytes.
-/
import Derived.Test.YtebgfiibcmnfnaaDoorPut
import Derived.Maps.AppendAt
import Derived.Deep.QuietTactic
import Derived.BigQuiet
namespace Go.Proofs.YtebgfiibcmnfnaaDoor
open Go.RowKit
set_option linter.unusedVariables false

def High (v k : Nat) : Prop := ∀ j, j < k → 128 ≤ v / 128 ^ j
theorem High.zero (v : Nat) : High v 0 := fun j h => by omega
theorem High.succ {v k X : Nat} (h : High v k) (hX : X = v / 128 ^ k) (h1 : 127 < X) : High v (k + 1) := fun j hj => by
  rcases Nat.lt_or_ge j k with h' | h'
  · exact h j h'
  · obtain rfl : j = k := by omega
    omega
theorem High.le {v k : Nat} (h : High v k) (hv : v < 9223372036854775808) : k ≤ 8 := by
  rcases Nat.lt_or_ge 8 k with h' | h'
  · have := h 8 h'; omega
  · exact h'
theorem High.len {v k X : Nat} (h : High v k) (hv : v < 9223372036854775808) (hX : X = v / 128 ^ k) (h1 : X ≤ 127) : Uv.len v = k + 1 :=
  Uv.len_unique v k (by omega) (by omega) h
theorem row_snoc (v k : Nat) : row v (k + 1) (k + 1) = row v k k ++ [((v / 128 ^ k % 128 + 128 : Nat) : Int)] := by
  unfold row
  rw [List.range_succ, List.map_append]
  congr 1
  · refine List.map_congr_left fun i hi => ?_
    have := List.mem_range.1 hi
    rw [if_pos (by omega), if_pos this]
  · simp
theorem enc_row {v k X : Nat} (h : High v k) (hv : v < 9223372036854775808) (hX : X = v / 128 ^ k) (h1 : X ≤ 127) : Uv.enc v = row v k k ++ [(X : Int)] := by
  have hl := h.len hv hX h1
  unfold Uv.enc row
  rw [if_pos hv, hl, List.range_succ, List.map_append]
  congr 1
  · refine List.map_congr_left fun i hi => ?_
    have := List.mem_range.1 hi
    simp [Uv.byte, this]
  · simp [Uv.byte, ← hX]; omega

theorem grow_below {w wr w1 : World} {u : Value} {k : Nat} {xs : List Value} {o : Obj} (hown : wr.ownsRow w.heap.size 5 1 u k xs) (hb : Below w.heap.size w wr) (hg : (wr.alloc o).grownBy w1 u.ownBlock) :
    Below w.heap.size w w1 := (hb.alloc hb.size o).grown hg (by have := hb.size; simp; omega) (fun g h => (hown.lt g h).1)

set_option maxHeartbeats 1000000 in
theorem ref_put_small (v : Nat) (w : World) (hv : v < 9223372036854775808) :
    Calls Tryd.prog 27 #[.int .u64 (v : Int)] w fun e w' => ∃ r, e = .returned r ∧ w'.ownsRow w.heap.size 5 1 r (Uv.enc v).length (B (Uv.enc v)) ∧ Below w.heap.size w w' := by
  obtain ⟨i0, hi0, hz0, hz1, hz2⟩ := info_parts u8_info
  have hv2 : decide ((9223372036854775807 : Int) < (v : Int)) = false := by simp; omega
  go_enter Tryd.func27, Tryd.ntmps27
  go_wp2
  go_loopw [0, 3] (fun x r wr => ∃ (k X : Nat), x = .int .u64 (X : Int) ∧ X = v / 128 ^ k ∧ High v k ∧ wr.ownsRow w.heap.size 5 1 r k (B (row v k k)) ∧ Below w.heap.size w wr)
    (fun x _ _ => (intOf x).toNat)
  case atStart => exact ⟨0, v, rfl, by simp, High.zero v, World.ownsRow_nil _ _ _ _, Below.refl _ _⟩
  case round =>
    rename_i r wr
    obtain ⟨k, X, rfl, hX, hH, hown, hbel⟩ := hrel
    have hXv : X ≤ v := by rw [hX]; exact Nat.div_le_self _ _
    have hk8 := hH.le hv
    have HX := Lib.hid hX; clear hX
    have HB := Lib.hid hbel; clear hbel
    have hsz := HB.out.size
    by_cases hx : 127 < X
    · go_wp2_with (at_builtin; refine wpList_append_own _ rfl _ _ 24 rfl w.heap.size 5 i0 (.int .u8 0) 1 1 Tryd.underlying24 hi0 hz0 hz1 hz2 rfl (by decide) _ k (B (row v k k)) rfl (hown.alloc _) ⟨wr.heap.size, 0, none⟩ 1 1 [.int .u8 _] rfl rfl (cell_one_new _ _ _) (by simp [Value.oneCell']) (by unfold maxLen; omega) (by omega) (by simp; omega) ?_; intro v' w1 hown' hgrow _; have HG := Lib.hid (grow_below hown HB.out hgrow); clear hgrow; have HO := Lib.hid hown'; clear hown')
      go_roundw
      case rel =>
        refine ⟨k + 1, X / 128, by go_num, by rw [Uv.div_pow', ← HX.out], hH.succ HX.out hx, ?_, HG.out⟩
        have e : B (row v (k + 1) (k + 1)) = B (row v k k) ++ [Value.int IntKind.u8 (128 + (X : Int) % 128)] := by
          rw [row_snoc, B_append, ← HX.out, show (128 + (X : Int) % 128) = ((X % 128 + 128 : Nat) : Int) by omega]; rfl
        rw [e]; exact HO.out
      case measure => simp [intOf]; omega
    · go_wp2_with (at_builtin; refine wpList_append_own _ rfl _ _ 24 rfl w.heap.size 5 i0 (.int .u8 0) 1 1 Tryd.underlying24 hi0 hz0 hz1 hz2 rfl (by decide) _ k (B (row v k k)) rfl (hown.alloc _) ⟨wr.heap.size, 0, none⟩ 1 1 [.int .u8 _] rfl rfl (cell_one_new _ _ _) (by simp [Value.oneCell']) (by unfold maxLen; omega) (by omega) (by simp; omega) ?_; intro v' w1 hown' hgrow _; have HG := Lib.hid (grow_below hown HB.out hgrow); clear hgrow; have HO := Lib.hid hown'; clear hown')
      go_ret
      have e : B (Uv.enc v) = B (row v k k) ++ [Value.int IntKind.u8 (X : Int)] := by
        rw [enc_row hH hv HX.out (by omega), B_append]; rfl
      have e2 : (Uv.enc v).length = k + 1 := by rw [enc_row hH hv HX.out (by omega)]; simp [row_length]
      rw [e, e2]
      exact ⟨_, rfl, HO.out, HG.out⟩

set_option maxHeartbeats 400000 in
theorem ref_put_big (v : Nat) (w : World) (hv : ¬ v < 9223372036854775808) :
    Calls Tryd.prog 27 #[.int .u64 (v : Int)] w fun e w' => ∃ r, e = .returned r ∧ w'.ownsRow w.heap.size 5 1 r (Uv.enc v).length (B (Uv.enc v)) ∧ Below w.heap.size w w' := by
  have hv2 : decide ((9223372036854775807 : Int) < (v : Int)) = true := by simp; omega
  rw [Uv.enc_big v hv]
  go_enter Tryd.func27, Tryd.ntmps27
  go_wp2
  go_ret
  exact ⟨_, rfl, World.ownsRow_nil _ _ _ _, Below.refl _ _⟩

/-- the document's own Put, whatever the number -/
theorem ref_put_any (v : Nat) (w : World) :
    Calls Tryd.prog 27 #[.int .u64 (v : Int)] w fun e w' => ∃ r, e = .returned r ∧ w'.ownsRow w.heap.size 5 1 r (Uv.enc v).length (B (Uv.enc v)) ∧ Below w.heap.size w w' := by
  by_cases h : v < 9223372036854775808
  · exact ref_put_small v w h
  · exact ref_put_big v w h

/-! ### Same -/
def Alike (xs ys : List Int) (k : Nat) : Prop := ∀ j, j < k → xs.getD j 0 = ys.getD j 0
theorem Alike.zero (xs ys : List Int) : Alike xs ys 0 := fun j h => by omega
theorem Alike.succ {xs ys : List Int} {k : Nat} (h : Alike xs ys k) {x y : Int} (hx : xs.getD k 0 = x) (hy : ys.getD k 0 = y) (e : x = y) : Alike xs ys (k + 1) := fun j hj => by
  rcases Nat.lt_or_ge j k with h' | h'
  · exact h j h'
  · obtain rfl : j = k := by omega
    omega
theorem Alike.eq {xs ys : List Int} {n : Nat} (h : Alike xs ys n) (hx : xs.length = n) (hy : ys.length = n) : xs = ys := by
  refine List.ext_getElem (by omega) fun i h1 h2 => ?_
  have := h i (by omega)
  simpa [List.getD, h1, h2] using this
theorem getD_ne {xs ys : List Int} {k : Nat} {x y : Int} (hx : xs.getD k 0 = x) (hy : ys.getD k 0 = y) (h : ¬ x = y) : ¬ xs = ys := fun e => h (by rw [← hx, ← hy, e])

theorem ret_bool {a b : Bool} (h : a = b) : Ending.returned (.bool a) = .returned (.bool b) := by rw [h]

set_option maxHeartbeats 1000000 in
theorem same_some (b1 o1 b2 o2 n c1 c2 : Nat) (xs ys : List Int) (w : World) (hn : 0 < n) (hc1 : n ≤ maxLen) (hx : xs.length = n) (hy : ys.length = n)
    (hcx : ∀ j, j < n → w.cell? ⟨b1, o1 + j, none⟩ = some (.int .u8 (xs.getD j 0))) (hcy : ∀ j, j < n → w.cell? ⟨b2, o2 + j, none⟩ = some (.int .u8 (ys.getD j 0))) :
    Calls Tryd.prog 14 #[.slice (some ⟨b1, o1, none⟩) n c1, .slice (some ⟨b2, o2, none⟩) n c2] w fun e w' => e = .returned (.bool (decide (xs = ys))) ∧ ∃ q, w' = w.drewN q := by
  unfold maxLen at hc1
  have HX := Lib.hid hx; clear hx
  have HY := Lib.hid hy; clear hy
  have HCX := Lib.hid hcx; clear hcx
  have HCY := Lib.hid hcy; clear hcy
  have hnn : ((n : Int) != (n : Int)) = false := by simp
  go_enter Tryd.func14, Tryd.ntmps14
  go_wp2
  go_loopw [5] (fun i wr => ∃ (k q : Nat), k ≤ n ∧ i = .int .i64 k ∧ wr = w.drewN q ∧ Alike xs ys k) (fun i _ => n - (intOf i).toNat)
  case atStart => exact ⟨0, 0, by omega, rfl, rfl, Alike.zero _ _⟩
  case round =>
    obtain ⟨k, q, hk, rfl, rfl, hA⟩ := hrel
    have HA := Lib.hid hA; clear hA
    by_cases hkn : k < n
    · have h1 := HCX.out k hkn
      have h2 := HCY.out k hkn
      obtain ⟨x, hxx⟩ : ∃ x, xs.getD k 0 = x := ⟨_, rfl⟩
      obtain ⟨y, hyy⟩ : ∃ y, ys.getD k 0 = y := ⟨_, rfl⟩
      rw [hxx] at h1
      rw [hyy] at h2
      have HXX := Lib.hid hxx; clear hxx
      have HYY := Lib.hid hyy; clear hyy
      by_cases hxy : x = y
      · have t1 : (x != y) = false := by simp [hxy]
        have HE := Lib.hid hxy; clear hxy
        go_wp2
        go_quiet (fail)
        go_wp2
        go_roundw
        case rel => exact ⟨k + 1, _, by omega, by go_num, rfl, HA.out.succ HXX.out HYY.out HE.out⟩
        case measure => simp [intOf]; omega
      · have t1 : (x != y) = true := by simp [hxy]
        have E := Lib.hid (getD_ne HXX.out HYY.out hxy)
        clear hxy
        go_wp2
        go_quiet (fail)
        go_wp2
        go_ret
        exact ⟨ret_bool (by simp [E.out]), q + nq, by rw [World.drewN_drewN]⟩
    · have E := Lib.hid (HA.out.eq (n := k) (by have := HX.out; omega) (by have := HY.out; omega))
      go_wp2
      go_ret
      exact ⟨ret_bool (by simp [E.out]), _, rfl⟩

set_option maxHeartbeats 400000 in
theorem same_none (A1 A2 : Option Addr) (c1 c2 : Nat) (w : World) :
    Calls Tryd.prog 14 #[.slice A1 0 c1, .slice A2 0 c2] w fun e w' => e = .returned (.bool true) ∧ ∃ q, w' = w.drewN q := by
  go_enter Tryd.func14, Tryd.ntmps14
  go_wp2
  refine wp_loop_rounds 1 ?_
  rw [rounds_succ]
  go_wp2
  go_ret
  exact ⟨rfl, 0, rfl⟩

set_option maxHeartbeats 400000 in
theorem same_len (A1 A2 : Option Addr) (n m c1 c2 : Nat) (w : World) (h : ¬ n = m) :
    Calls Tryd.prog 14 #[.slice A1 n c1, .slice A2 m c2] w fun e w' => e = .returned (.bool false) ∧ ∃ q, w' = w.drewN q := by
  have t : ((n : Int) != (m : Int)) = true := by rw [bne_iff_ne]; omega
  clear h
  go_enter Tryd.func14, Tryd.ntmps14
  go_wp2
  go_ret
  exact ⟨rfl, 0, rfl⟩

/-- the document's own Same -/
theorem same_any (A1 A2 : Option Addr) (n m c1 c2 : Nat) (xs ys : List Int) (w : World) (hn : n ≤ maxLen) (h1 : Bts w A1 n xs) (h2 : Bts w A2 m ys) :
    Calls Tryd.prog 14 #[.slice A1 n c1, .slice A2 m c2] w fun e w' => e = .returned (.bool (decide (xs = ys))) ∧ ∃ q, w' = w.drewN q := by
  obtain ⟨l1, _, k1⟩ := h1
  obtain ⟨l2, _, k2⟩ := h2
  by_cases hnm : n = m
  · subst hnm
    rcases Nat.eq_zero_or_pos n with h0 | h0
    · subst h0
      obtain rfl : xs = [] := List.eq_nil_of_length_eq_zero l1
      obtain rfl : ys = [] := List.eq_nil_of_length_eq_zero l2
      exact (same_none A1 A2 c1 c2 w).mono fun e w' h => ⟨h.1, h.2⟩
    · obtain ⟨b1, o1, rfl, _, hx⟩ := k1 h0
      obtain ⟨b2, o2, rfl, _, hy⟩ := k2 h0
      exact same_some b1 o1 b2 o2 n c1 c2 xs ys w h0 hn l1 l2 hx hy
  · have hne : ¬ xs = ys := fun e => hnm (by rw [← l1, ← l2, e])
    exact (same_len A1 A2 n m c1 c2 w hnm).mono fun e w' h => ⟨by rw [h.1]; simp [hne], h.2⟩

theorem below_drewN' {B : Nat} {a w : World} (h : Below B a w) (n : Nat) : Below B a (w.drewN n) := h.trans ⟨rfl, rfl, rfl, Nat.le_refl _, fun _ _ => rfl⟩

end Go.Proofs.YtebgfiibcmnfnaaDoor
