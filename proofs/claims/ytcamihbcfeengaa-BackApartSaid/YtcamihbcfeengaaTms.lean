/-
  The contracts of the document's own Times (a row of the first times), of embrasure/back.Times (a closure over three boxes), and of its iterator: it tells each try's number and the time behind it, up to the greatest time. Conditions: the rounds keep the boxes.
-/
import Derived.Test.YtcamihbcfeengaaTold
import Derived.Shelf.Abstract
import Derived.Shelf.RegionOpen
import Derived.OwnWalkIn
import Derived.TacticsInMore
import Derived.LoopNIn
import Derived.LoopIn
import Derived.Laws.OwnMore
import Derived.Maps.AppendAt
import Derived.Test.YtcamihbcfeengaaSm
namespace Go.Proofs.Ytcamihbcfeengaa
open Go.RowKit Go.Shelf
attribute [local go_sem] Oper.semAt_some
set_option linter.unusedVariables false

namespace Bk
/-- is it a plan, and a time? -/
def good (f m t : Int) : Prop := plan f m = true ∧ time t = true
/-- the time behind try z -/
def tm (f m t : Int) (z : Nat) : Int := t + (S f.toNat m.toNat (z + 1) : Nat)
/-- so many times are there of the first 'many' -/
def cnt (f m t : Int) (many k : Nat) : Prop :=
  (good f m t → k ≤ many ∧ (∀ i, i < k → tm f m t i ≤ 1099511627776) ∧ (k = many ∨ 1099511627776 < tm f m t k)) ∧ (¬ good f m t → k = 0)
/-- all are told -/
def all (f m t : Int) (k : Nat) : Prop := (good f m t → (∀ i, i < k → tm f m t i ≤ 1099511627776) ∧ 1099511627776 < tm f m t k) ∧ (¬ good f m t → k = 0)
def Ts (f m t : Int) (k : Nat) : List Value := (List.range k).map fun i => .int .i64 (tm f m t i)
theorem Ts_snoc (f m t : Int) (k : Nat) : Ts f m t (k + 1) = Ts f m t k ++ [.int .i64 (tm f m t k)] := by
  unfold Ts; rw [List.range_succ, List.map_append]; rfl
theorem Ts_at (f m t : Int) (k j : Nat) (h : j < k) : (Ts f m t k)[j]? = some (.int .i64 (tm f m t j)) := by
  unfold Ts; simp [h]
theorem tm_zero {f m t : Int} : t + (S f.toNat m.toNat 0 : Nat) = t := by simp [S]
end Bk

theorem int_info : (Try.prog.info? 3).map (fun i => (i.zero, i.size, i.bytes)) = some (some (.int .i64 0), 1, 8) := by kernel_rfl
theorem grow_below' {w wr w1 : World} {u : Value} {k : Nat} {e : TypeId} {xs : List Value} {o : Obj} (hown : wr.ownsRow w.heap.size e 1 u k xs) (hb : Below w.heap.size w wr) (hg : (wr.alloc o).grownBy w1 u.ownBlock) :
    Below w.heap.size w w1 := (hb.alloc hb.size o).grown hg (by have := hb.size; simp; omega) (fun g h => (hown.lt g h).1)

set_option maxHeartbeats 1000000 in
theorem rTimes_good (f m t many : Nat) (w : World) (hg : Bk.good f m t) (hmany : many ≤ 100) :
    Calls Try.prog 13 #[.int .i64 (f : Int), .int .i64 (m : Int), .int .i64 (t : Int), .int .i64 (many : Int)] w fun e w' => ∃ r k, e = .returned r ∧ Bk.cnt f m t many k ∧ w'.ownsRow w.heap.size 3 1 r k (Bk.Ts f m t k) ∧ Below w.heap.size w w' := by
  obtain ⟨i3, hi3, hb0, hb1, hb2⟩ := info_parts int_info
  have ⟨hp, ht⟩ := hg
  obtain ⟨h1, h2, h3⟩ := (Bk.plan_iff f m).1 hp
  obtain ⟨h4, h5⟩ := (Bk.time_iff t).1 ht
  have HG := Lib.hid hg; clear hg
  have HP := Lib.hid hp; clear hp ht
  go_enter Try.func13, Try.ntmps13
  go_wp2_with (go_at_call 17; refine (Plan_any _ _ _).mono ?_; rintro e w' ⟨rfl, rfl⟩; rw [HP.out])
  go_loopw [9, 10, 11, 12, 13] (fun o a i _ _ wr => ∃ k : Nat, k ≤ many ∧ i = .int .i64 (k : Int) ∧ a = .int .i64 ((t : Int) + (Bk.S f m k : Nat)) ∧ (t : Int) + (Bk.S f m k : Nat) ≤ 1099511627776 ∧ (∀ j, j < k → Bk.tm f m t j ≤ 1099511627776) ∧ wr.ownsRow w.heap.size 3 1 o k (Bk.Ts f m t k) ∧ Below w.heap.size w wr) (fun _ _ i _ _ _ => many - (intOf i).toNat)
  case atStart => exact ⟨0, by omega, rfl, by simp [Bk.S], by simp [Bk.S]; omega, fun j h => by omega, World.ownsRow_nil _ _ _ _, Below.refl _ _⟩
  case round =>
    obtain ⟨k, hk, rfl, rfl, hle, hall, ho, hb⟩ := hrel
    have HAL := Lib.hid hall; clear hall
    have HB := Lib.hid hb; clear hb
    have hsz := HB.out.size
    have hW := Bk.W_le f m k
    have HT : Hid (Bk.tm f m t k = (t : Int) + (Bk.S f m k : Nat) + (Bk.W f m k : Nat)) := Lib.hid (by unfold Bk.tm; simp only [Int.toNat_natCast]; rw [Bk.S]; omega)
    have HT2 : Hid ((t : Int) + (Bk.S f m (k + 1) : Nat) = Bk.tm f m t k) := Lib.hid (by unfold Bk.tm; simp only [Int.toNat_natCast])
    have HV := Lib.hid (wv_plan (k := k) HP.out)
    generalize Bk.S f m k = s at *
    generalize hwk : Bk.W f m k = x at *
    clear hwk
    by_cases hkm : k < many
    · by_cases hx : (t : Int) + (s : Int) + (x : Int) ≤ 1099511627776
      · go_wp2_with (first
          | (go_at_call 10; refine (rWait_any f m k _ (by omega)).mono ?_; rintro e w' ⟨rfl, rfl⟩; rw [HV.out])
          | (at_builtin; refine wpList_append_own _ rfl (.tmp 44) (.tmp 46) 28 rfl w.heap.size 3 i3 (.int .i64 0) 1 8 Try.underlying28 hi3 hb0 hb1 hb2 rfl (by decide) _ k (Bk.Ts f m t k) rfl (ho.alloc _) ⟨wr.heap.size, 0, none⟩ 1 1 [.int .i64 _] rfl rfl (cell_one_new _ _ _) (by simp [Value.oneCell']) (by unfold maxLen; omega) (by omega) (by simp; omega) ?_; intro v1' w1 ho1' hg1 _; have HB1 := Lib.hid (grow_below' ho HB.out hg1); clear hg1; have HO1 := Lib.hid ho1'; clear ho1'))
        go_roundw
        case rel => exact ⟨k + 1, by omega, by go_num, by rw [HT2.out, HT.out], by rw [HT2.out, HT.out]; exact hx, fun j hj => by
          rcases Nat.lt_or_ge j k with h | h
          · exact HAL.out j h
          · obtain rfl : j = k := by omega
            rw [HT.out]; exact hx, by rw [Bk.Ts_snoc, HT.out]; exact HO1.out, HB1.out⟩
        case measure => simp [intOf]; omega
      · go_wp2_with (go_at_call 10; refine (rWait_any f m k _ (by omega)).mono ?_; rintro e w' ⟨rfl, rfl⟩; rw [HV.out])
        go_ret
        exact ⟨_, k, rfl, ⟨fun _ => ⟨by omega, HAL.out, .inr (by rw [HT.out]; omega)⟩, fun h => absurd HG.out h⟩, ho, HB.out⟩
    · go_wp2
      go_ret
      exact ⟨_, k, rfl, ⟨fun _ => ⟨by omega, HAL.out, .inl (by omega)⟩, fun h => absurd HG.out h⟩, ho, HB.out⟩

set_option maxHeartbeats 1000000 in
theorem rTimes_any (f m t : Int) (many : Nat) (w : World) (hmany : many ≤ 100) :
    Calls Try.prog 13 #[.int .i64 f, .int .i64 m, .int .i64 t, .int .i64 (many : Int)] w fun e w' => ∃ r k, e = .returned r ∧ Bk.cnt f m t many k ∧ w'.ownsRow w.heap.size 3 1 r k (Bk.Ts f m t k) ∧ Below w.heap.size w w' := by
  by_cases hg : Bk.good f m t
  · obtain ⟨h1, h2, h3⟩ := (Bk.plan_iff f m).1 hg.1
    obtain ⟨h4, h5⟩ := (Bk.time_iff t).1 hg.2
    obtain ⟨f, rfl⟩ := Int.eq_ofNat_of_zero_le (show 0 ≤ f by omega)
    obtain ⟨m, rfl⟩ := Int.eq_ofNat_of_zero_le (show 0 ≤ m by omega)
    obtain ⟨t, rfl⟩ := Int.eq_ofNat_of_zero_le h4
    exact rTimes_good f m t many w hg hmany
  · have hc : Bk.cnt f m t many 0 := ⟨fun h => absurd h hg, fun _ => rfl⟩
    have HC := Lib.hid hc
    by_cases hp : Bk.plan f m = true
    · have ht : ¬ (0 ≤ t ∧ t ≤ 1099511627776) := fun h => hg ⟨hp, (Bk.time_iff t).2 h⟩
      have HP := Lib.hid hp
      clear hg hp hc
      by_cases h0 : 0 ≤ t
      · go_enter Try.func13, Try.ntmps13
        go_wp2_with (go_at_call 17; refine (Plan_any _ _ _).mono ?_; rintro e w' ⟨rfl, rfl⟩; rw [HP.out])
        go_ret
        exact ⟨_, 0, rfl, HC.out, World.ownsRow_nil _ _ _ _, Below.refl _ _⟩
      · go_enter Try.func13, Try.ntmps13
        go_wp2_with (go_at_call 17; refine (Plan_any _ _ _).mono ?_; rintro e w' ⟨rfl, rfl⟩; rw [HP.out])
        go_ret
        exact ⟨_, 0, rfl, HC.out, World.ownsRow_nil _ _ _ _, Below.refl _ _⟩
    · have HP := Lib.hid (Bool.eq_false_iff.2 hp)
      clear hg hp hc
      go_enter Try.func13, Try.ntmps13
      go_wp2_with (go_at_call 17; refine (Plan_any _ _ _).mono ?_; rintro e w' ⟨rfl, rfl⟩; rw [HP.out])
      go_ret
      exact ⟨_, 0, rfl, HC.out, World.ownsRow_nil _ _ _ _, Below.refl _ _⟩

set_option maxHeartbeats 400000 in
/-- back.Times hands back a closure over three boxes -/
theorem Times_any (f m t : Int) (w : World) :
    Calls Try.prog 14 #[.int .i64 f, .int .i64 m, .int .i64 t] w fun e w' =>
      e = .returned (.func (.func 18) #[] #[.pointer (some ⟨w.heap.size, 0, none⟩), .pointer (some ⟨w.heap.size + 1, 0, none⟩), .pointer (some ⟨w.heap.size + 2, 0, none⟩)]) ∧
      w' = ((w.alloc (.cells #[.int .i64 f] 3)).alloc (.cells #[.int .i64 m] 3)).alloc (.cells #[.int .i64 t] 3) := by
  go_enter Try.func14, Try.ntmps14
  go_wp2
  go_ret
  exact ⟨rfl, rfl⟩
end Go.Proofs.Ytcamihbcfeengaa
