/-
  The contract of the iterator that embrasure/back.Times hands back: it tells each try's number and the time behind it, up to the greatest time. Conditions: the rounds keep the three boxes.
-/
import Derived.Test.YtcamihbcfeengaaTms
namespace Go.Proofs.Ytcamihbcfeengaa
open Go.RowKit Go.Shelf
attribute [local go_sem] Oper.semAt_some
set_option linter.unusedVariables false

/-- these blocks are as they were -/
def SameAt (gs : List Nat) (W W' : World) : Prop := ∀ g ∈ gs, W'.heap[g]? = W.heap[g]?
theorem SameAt.refl (gs : List Nat) (W : World) : SameAt gs W W := fun _ _ => rfl
theorem SameAt.t {gs : List Nat} {A B C : World} (h : SameAt gs A B) (k : SameAt gs B C) : SameAt gs A C := fun g hg => (k g hg).trans (h g hg)
theorem SameAt.cell {gs : List Nat} {W W' : World} (h : SameAt gs W W') {a : Addr} (ha : a.block ∈ gs) : W'.cell? a = W.cell? a := World.cell?_of_block (w := W) (h a.block ha)

/-- what a round is handed: the try's number and the time -/
def encT (f m t : Int) (z : Nat) : Array Value := #[.int .i64 (z : Int), .int .i64 (Bk.tm f m t z)]
def OkT (f m t : Int) (pre : List Nat) (z : Nat) (_ : World) : Prop := Bk.good f m t ∧ pre = List.range z ∧ (∀ i, i ≤ z → Bk.tm f m t i ≤ 1099511627776)

theorem range_snoc (k : Nat) : List.range k ++ [k] = List.range (k + 1) := List.range_succ.symm

set_option maxRecDepth 100000 in
set_option maxHeartbeats 2000000 in
theorem times1_in (n : Nat) (hn : 1 ≤ n) (l b1 b2 b3 B0 : Nat) (gs : List Nat) (f m t : Int) (J Jx : List Nat → World → Prop)
    (hY : ∀ pre x W, J pre W → OkT f m t pre x W → YieldAt Fence.wide (n - 1) Try.prog l (encT f m t x) W fun e W' => Kept gs false B0 W W' ∧
      ((e = .returned (.bool true) ∧ J (pre ++ [x]) W') ∨ (e = .returned (.bool false) ∧ Jx (pre ++ [x]) W')))
    (W : World) (hc1 : W.cell? ⟨b1, 0, none⟩ = some (.int .i64 f)) (hc2 : W.cell? ⟨b2, 0, none⟩ = some (.int .i64 m)) (hc3 : W.cell? ⟨b3, 0, none⟩ = some (.int .i64 t))
    (hB1 : b1 ∈ gs) (hB2 : b2 ∈ gs) (hB3 : b3 ∈ gs) (h0 : J [] W) :
    CallsIn Fence.wide n Try.prog 18 #[.func (.yield l) #[] #[], .pointer (some ⟨b1, 0, none⟩), .pointer (some ⟨b2, 0, none⟩), .pointer (some ⟨b3, 0, none⟩)] W fun e W' => (∃ v, e = .returned v) ∧
      ((∃ ys, (∃ k, ys = List.range k ∧ Bk.all f m t k) ∧ J ys W') ∨ (∃ pre, (∃ k, pre = List.range (k + 1)) ∧ Jx pre W')) := by
  refine callsIn_of_wp Try.func18 rfl trivial ?_ rfl
  simp only [Try.ntmps18, List.size_toArray, List.length_cons, List.length_nil, Nat.reduceAdd, Nat.reduceSub, Array.replicate_succ, Array.replicate_zero, List.push_toArray, List.append_toArray, List.nil_append, List.cons_append]
  have HY := Lib.hid hY; clear hY
  by_cases hp : Bk.plan f m = true
  · by_cases ht : Bk.time t = true
    · obtain ⟨p1, p2, p3⟩ := (Bk.plan_iff f m).1 hp
      obtain ⟨p4, p5⟩ := (Bk.time_iff t).1 ht
      have HG : Hid (Bk.good f m t) := Lib.hid ⟨hp, ht⟩
      have HP := Lib.hid hp; clear hp
      have HT := Lib.hid ht; clear ht
      obtain ⟨f, rfl⟩ := Int.eq_ofNat_of_zero_le (show 0 ≤ f by omega)
      obtain ⟨m, rfl⟩ := Int.eq_ofNat_of_zero_le (show 0 ≤ m by omega)
      obtain ⟨t, rfl⟩ := Int.eq_ofNat_of_zero_le p4
      gi_wp2_with fail
      refine ⟨trivial, ?_⟩
      refine (callsIn_wide.2 (isPlan_any _ _ _)).mono ?_; rintro e w' ⟨rfl, rfl⟩; rw [HP.out]
      gi_wp2_with fail
      refine ⟨trivial, ?_⟩
      refine (callsIn_wide.2 (isTime_any _ _)).mono ?_; rintro e w' ⟨rfl, rfl⟩; rw [HT.out]
      gi_wp2
      have H1 := Lib.hid hc1; have H2 := Lib.hid hc2; clear hc1 hc2 hc3
      gi_loopw [5, 6] (fun a i wr => ∃ k : Nat, i = .int .i64 (k : Int) ∧ a = .int .i64 ((t : Int) + (Bk.S f m k : Nat)) ∧ (t : Int) + (Bk.S f m k : Nat) ≤ 1099511627776 ∧ k ≤ Bk.S f m k ∧ (∀ j, j < k → Bk.tm f m t j ≤ 1099511627776) ∧ J (List.range k) wr ∧ SameAt gs W wr) (fun _ i _ => 1099511627777 - (intOf i).toNat)
      case atStart => exact ⟨0, rfl, by simp [Bk.S], by simp [Bk.S]; omega, by omega, fun j h => by omega, h0, SameAt.refl _ _⟩
      case round =>
        obtain ⟨k, rfl, rfl, hle, hks, hall, hJ, hS⟩ := hrel
        have hc1 := (hS.cell (a := ⟨b1, 0, none⟩) hB1).trans H1.out
        have hc2 := (hS.cell (a := ⟨b2, 0, none⟩) hB2).trans H2.out
        have HAL := Lib.hid hall; clear hall
        have HJ := Lib.hid hJ; clear hJ
        have HS := Lib.hid hS; clear hS
        have hW := Bk.W_le f m k
        have hW1 := Bk.W_ge (f := f) (m := m) (by omega) k
        have HT1 : Hid (Bk.tm f m t k = (t : Int) + (Bk.S f m k : Nat) + (Bk.W f m k : Nat)) := Lib.hid (by unfold Bk.tm; simp only [Int.toNat_natCast]; rw [Bk.S]; omega)
        have HT2 : Hid ((t : Int) + (Bk.S f m (k + 1) : Nat) = Bk.tm f m t k) := Lib.hid (by unfold Bk.tm; simp only [Int.toNat_natCast])
        have HS2 : Hid (Bk.S f m (k + 1) = Bk.S f m k + Bk.W f m k) := Lib.hid rfl
        have hWA := fun W => wait_any f m k W (by omega) (by omega) (by omega) (by omega)
        have HWA := Lib.hid hWA; clear hWA
        generalize Bk.S f m k = s at *
        generalize hwk : Bk.W f m k = x at *
        clear hwk
        by_cases hx : (t : Int) + (s : Int) + (x : Int) ≤ 1099511627776
        · have htm : Bk.time ((t : Int) + (s : Int) + (x : Int)) = true := (Bk.time_iff _).2 ⟨by omega, hx⟩
          have HTM := Lib.hid htm; clear htm
          have HOK : Hid (∀ i, i ≤ k → Bk.tm f m t i ≤ 1099511627776) := Lib.hid (fun i hi => by
            rcases Nat.lt_or_ge i k with h | h
            · exact HAL.out i h
            · obtain rfl : i = k := by omega
              rw [HT1.out]; exact hx)
          obtain ⟨fn, tmps, assign, body, hy, hR⟩ := HY.out (List.range k) k wr HJ.out ⟨HG.out, rfl, HOK.out⟩
          dsimp only [encT] at hy hR
          rw [HT1.out] at hy
          rw [range_snoc] at hR
          gi_wp2_with fail
          refine ⟨trivial, ?_⟩
          refine (callsIn_wide.2 (HWA.out _)).mono ?_; rintro e w' ⟨rfl, rfl⟩
          gi_wp2_with fail
          refine ⟨trivial, ?_⟩
          refine (callsIn_wide.2 (isTime_any _ _)).mono ?_; rintro e w' ⟨rfl, rfl⟩; rw [HTM.out]
          gi_wp2
          refine hR.mono ?_
          rintro e W3 ⟨hk3, ⟨rfl, hJ3⟩ | ⟨rfl, hJx3⟩⟩
          · have HJ3 := Lib.hid hJ3; clear hJ3
            have HK3 := Lib.hid hk3; clear hk3
            gi_wp2
            go_roundw
            case rel => exact ⟨k + 1, by go_num, by rw [HT2.out, HT1.out], by rw [HT2.out, HT1.out]; exact hx, by rw [HS2.out]; omega, fun j hj => HOK.out j (by omega), HJ3.out, HS.out.t HK3.out.same⟩
            case measure => simp [intOf]; omega
          · gi_wp2
            refine bodyPost_ret (results_none rfl _ _ _) rfl ?_
            exact ⟨⟨_, rfl⟩, .inr ⟨_, ⟨k, rfl⟩, hJx3⟩⟩
        · have htm : Bk.time ((t : Int) + (s : Int) + (x : Int)) = false := by rw [← Bool.not_eq_true, Bk.time_iff]; omega
          have HTM := Lib.hid htm; clear htm
          gi_wp2_with fail
          refine ⟨trivial, ?_⟩
          refine (callsIn_wide.2 (HWA.out _)).mono ?_; rintro e w' ⟨rfl, rfl⟩
          gi_wp2_with fail
          refine ⟨trivial, ?_⟩
          refine (callsIn_wide.2 (isTime_any _ _)).mono ?_; rintro e w' ⟨rfl, rfl⟩; rw [HTM.out]
          gi_wp2
          refine ⟨fun _ h => (by cases h), ?_⟩
          gi_wp2
          refine bodyPost_ret (results_none rfl _ _ _) rfl ?_
          exact ⟨⟨_, rfl⟩, .inl ⟨_, ⟨k, rfl, fun _ => ⟨HAL.out, by rw [HT1.out]; omega⟩, fun h => absurd HG.out h⟩, HJ.out⟩⟩
    · have HP := Lib.hid hp
      have HT := Lib.hid (Bool.eq_false_iff.2 ht)
      have HN : Hid (¬ Bk.good f m t) := Lib.hid (fun h => ht h.2)
      clear hp ht
      gi_wp2_with fail
      refine ⟨trivial, ?_⟩
      refine (callsIn_wide.2 (isPlan_any _ _ _)).mono ?_; rintro e w' ⟨rfl, rfl⟩; rw [HP.out]
      gi_wp2_with fail
      refine ⟨trivial, ?_⟩
      refine (callsIn_wide.2 (isTime_any _ _)).mono ?_; rintro e w' ⟨rfl, rfl⟩; rw [HT.out]
      gi_wp2
      refine bodyPost_ret (results_none rfl _ _ _) rfl ?_
      exact ⟨⟨_, rfl⟩, .inl ⟨[], ⟨0, rfl, fun h => absurd h HN.out, fun _ => rfl⟩, h0⟩⟩
  · have HP := Lib.hid (Bool.eq_false_iff.2 hp)
    have HN : Hid (¬ Bk.good f m t) := Lib.hid (fun h => hp h.1)
    clear hp
    gi_wp2_with fail
    refine ⟨trivial, ?_⟩
    refine (callsIn_wide.2 (isPlan_any _ _ _)).mono ?_; rintro e w' ⟨rfl, rfl⟩; rw [HP.out]
    gi_wp2
    refine ⟨trivial, ?_⟩
    gi_wp2
    refine bodyPost_ret (results_none rfl _ _ _) rfl ?_
    exact ⟨⟨_, rfl⟩, .inl ⟨[], ⟨0, rfl, fun h => absurd h HN.out, fun _ => rfl⟩, h0⟩⟩

/-- the iterator of back.Times, over its boxes -/
theorem times_tells (n : Nat) (hn : 1 ≤ n) (b1 b2 b3 : Nat) (gs : List Nat) (f m t : Int) (w : World) (hlt : ∀ g ∈ gs, g < w.heap.size)
    (hc1 : w.cell? ⟨b1, 0, none⟩ = some (.int .i64 f)) (hc2 : w.cell? ⟨b2, 0, none⟩ = some (.int .i64 m)) (hc3 : w.cell? ⟨b3, 0, none⟩ = some (.int .i64 t))
    (hB1 : b1 ∈ gs) (hB2 : b2 ∈ gs) (hB3 : b3 ∈ gs) :
    Tells Fence.wide n Try.prog 18 #[.pointer (some ⟨b1, 0, none⟩), .pointer (some ⟨b2, 0, none⟩), .pointer (some ⟨b3, 0, none⟩)] (encT f m t) (OkT f m t) gs false (fun ys => ∃ k, ys = List.range k ∧ Bk.all f m t k) (fun pre => ∃ k, pre = List.range (k + 1)) w := fun l J Jx W hW _ h0 hY =>
  times1_in n hn l b1 b2 b3 W.heap.size gs f m t J Jx hY W ((hW.cell (p := ⟨b1, 0, none⟩) (hlt b1 hB1)).trans hc1) ((hW.cell (p := ⟨b2, 0, none⟩) (hlt b2 hB2)).trans hc2) ((hW.cell (p := ⟨b3, 0, none⟩) (hlt b3 hB3)).trans hc3) hB1 hB2 hB3 h0
end Go.Proofs.Ytcamihbcfeengaa
