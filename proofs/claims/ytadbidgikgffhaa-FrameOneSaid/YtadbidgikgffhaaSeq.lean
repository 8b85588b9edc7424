/-
  The contract of the iterator that embrasure/frame.each hands back: it tells the rows of frames as pieces of the bytes, each with 0, and last, where they don't end behind a frame, why. Conditions: the rounds keep the blocks in which the bytes lie.
-/
import Derived.Test.YtadbidgikgffhaaTold
import Derived.Shelf.Abstract
import Derived.Shelf.RegionOpen
import Derived.OwnWalkIn
import Derived.TacticsInMore
import Derived.LoopNIn
import Derived.LoopIn
import Derived.Test.YtadbidgikgffhaaRowsSame
namespace Go.Proofs.Ytadbidgikgffhaa
open Go.RowKit Go.Shelf
attribute [local go_sem] Oper.semAt_some
set_option linter.unusedVariables false

/-- these blocks are as they were -/
def SameAt (gs : List Nat) (W W' : World) : Prop := ∀ g ∈ gs, W'.heap[g]? = W.heap[g]?
theorem SameAt.refl (gs : List Nat) (W : World) : SameAt gs W W := fun _ _ => rfl
theorem SameAt.t {gs : List Nat} {A B C : World} (h : SameAt gs A B) (k : SameAt gs B C) : SameAt gs A C := fun g hg => (k g hg).trans (h g hg)
theorem SameAt.cell {gs : List Nat} {W W' : World} (h : SameAt gs W W') {a : Addr} (ha : a.block ∈ gs) : W'.cell? a = W.cell? a := World.cell?_of_block (w := W) (h a.block ha)
theorem Bts.same {gs : List Nat} {W W' : World} {A : Option Addr} {n : Nat} {zs : List Int} (h : Bts W A n zs) (hA : 0 < n → ∀ ad, A = some ad → ad.block ∈ gs) (k : SameAt gs W W') : Bts W' A n zs := by
  obtain ⟨h1, h2, h3⟩ := h
  refine ⟨h1, h2, fun hn => ?_⟩
  obtain ⟨b, off, rfl, hlt, hc⟩ := h3 hn
  have hb : b ∈ gs := hA hn _ rfl
  have hc' : ∀ j, j < n → W'.cell? ⟨b, off + j, none⟩ = some (.int .u8 (zs.getD j 0)) := fun j hj => (k.cell (a := ⟨b, off + j, none⟩) hb).trans (hc j hj)
  exact ⟨b, off, rfl, lt_of_cell (hc' 0 hn), hc'⟩
theorem Sl.same {gs : List Nat} {W W' : World} {v : Value} {zs : List Int} (h : Sl W v zs (· ∈ gs)) (k : SameAt gs W W') : Sl W' v zs (· ∈ gs) := by
  obtain ⟨A, n, c, h1, h2, h3, h4, h5, h6⟩ := h
  exact ⟨A, n, c, h1, h2.same (fun _ => h6) k, h3, h4, h5, h6⟩

/-- what a round is handed: the piece, the row as which it reads, and the code -/
abbrev Item := Value × List Int × Int
def encE (x : Item) : Array Value := #[x.1, .int .i64 x.2.2]
def OkE (zs : List Int) (gs : List Nat) (pre : List Item) (x : Item) (W : World) : Prop := Sl W x.1 x.2.1 (· ∈ gs) ∧ (pre ++ [x]).map (·.2) <+: Fr.each zs

theorem drop_each {zs : List Int} {i : Nat} (h : Fr.code (zs.drop i) = 0) : Fr.each (zs.drop i) = (Fr.row (zs.drop i), 0) :: Fr.each (zs.drop (i + Fr.size (zs.drop i))) := by
  rw [Fr.each_yes h, List.drop_drop]

set_option maxRecDepth 100000 in
set_option maxHeartbeats 2000000 in
theorem each1_in (n : Nat) (hn : 1 ≤ n) (l Bn B0 : Nat) (gs : List Nat) (A : Option Addr) (m c : Nat) (zs : List Int) (J Jx : List Item → World → Prop)
    (hY : ∀ pre x W, J pre W → OkE zs gs pre x W → YieldAt Fence.wide (n - 1) Try.prog l (encE x) W fun e W' => Kept gs false B0 W W' ∧
      ((e = .returned (.bool true) ∧ J (pre ++ [x]) W') ∨ (e = .returned (.bool false) ∧ Jx (pre ++ [x]) W')))
    (W : World) (hbox : W.cell? ⟨Bn, 0, none⟩ = some (.slice A m c)) (hBn : Bn ∈ gs) (hA : 0 < m → ∀ ad, A = some ad → ad.block ∈ gs) (hb : Bts W A m zs) (hmc : m ≤ c) (hc : c ≤ maxLen) (h0 : J [] W) :
    CallsIn Fence.wide n Try.prog 29 #[.func (.yield l) #[] #[], .pointer (some ⟨Bn, 0, none⟩)] W fun e W' => (∃ v, e = .returned v) ∧
      ((∃ ys, ys.map (·.2) = Fr.each zs ∧ J ys W') ∨ (∃ pre, pre.map (·.2) <+: Fr.each zs ∧ Jx pre W')) := by
  unfold maxLen at hc
  refine callsIn_of_wp Try.func29 rfl trivial ?_ rfl
  simp only [Try.ntmps29, List.size_toArray, List.length_cons, List.length_nil, Nat.reduceAdd, Nat.reduceSub, Array.replicate_succ, Array.replicate_zero, List.push_toArray, List.append_toArray, List.nil_append, List.cons_append]
  have HY := Lib.hid hY; clear hY
  have HA := Lib.hid hA; clear hA
  have HBT := Lib.hid hb; clear hb
  have HBX := Lib.hid hbox; clear hbox
  gi_wp2
  gi_loopw [3] (fun p wr => ∃ (i : Nat) (pre : List Item), p = .int .i64 (i : Int) ∧ i ≤ m ∧ Fr.each zs = pre.map (·.2) ++ Fr.each (zs.drop i) ∧ J pre wr ∧ SameAt gs W wr) (fun p _ => m - (intOf p).toNat)
  case atStart => exact ⟨0, [], rfl, by omega, by simp, h0, SameAt.refl _ _⟩
  case round =>
    obtain ⟨i, pre, rfl, hi, he, hJ, hS⟩ := hrel
    have hbx := (hS.cell (a := ⟨Bn, 0, none⟩) hBn).trans HBX.out
    have HBt := Lib.hid (HBT.out.same HA.out hS)
    have HE := Lib.hid he; clear he
    have HS := Lib.hid hS; clear hS
    have HJ := Lib.hid hJ; clear hJ
    by_cases him : i < m
    · have hc2 : c - i ≤ maxLen := by unfold maxLen; omega
      have HC2 := Lib.hid hc2; clear hc2
      gi_wp2_with fail
      refine ⟨trivial, ?_⟩
      refine (callsIn_wide.2 (first_any _ _ _ (zs.drop i) wr (HBt.out.tail him) (by omega) HC2.out)).mono ?_
      rintro e w' ⟨v, rfl, hsl, rfl⟩
      have hsl2 : Sl wr v (Fr.row (zs.drop i)) (· ∈ gs) := hsl.mono (by
        rintro b ⟨ad, h1, rfl⟩
        cases A with
        | none => simp at h1
        | some ad0 => simp at h1; rw [← h1, add_block]; exact HA.out (by omega) ad0 rfl)
      have HSL := Lib.hid hsl2
      clear hsl hsl2
      unfold ftup
      by_cases hcd : Fr.code (zs.drop i) = 0
      · have hl : (zs.drop i).length = m - i := by rw [List.length_drop, HBt.out.len]
        have hs := (Fr.size_ok hcd).2
        rw [hl] at hs
        have he := HE.out
        rw [drop_each hcd] at he
        rw [hcd]
        obtain ⟨fn, tmps, assign, body, hy, hR⟩ := HY.out pre (v, Fr.row (zs.drop i), 0) wr HJ.out ⟨HSL.out, by rw [he]; exact ⟨Fr.each (zs.drop (i + Fr.size (zs.drop i))), by simp⟩⟩
        dsimp only [encE] at hy hR
        clear hcd hl HSL
        generalize Fr.row (zs.drop i) = x at *
        generalize Fr.size (zs.drop i) = k at *
        have HE2 := Lib.hid he; clear he
        gi_wp2
        refine hR.mono ?_
        rintro e W3 ⟨hk3, ⟨rfl, hJ3⟩ | ⟨rfl, hJx3⟩⟩
        · have HJ3 := Lib.hid hJ3; clear hJ3
          have HK3 := Lib.hid hk3; clear hk3
          gi_wp2
          go_roundw
          case rel => exact ⟨i + k, pre ++ [(v, x, 0)], by go_num, by omega, by rw [HE2.out]; simp, HJ3.out, HS.out.t HK3.out.same⟩
          case measure => simp [intOf]; omega
        · gi_wp2
          refine bodyPost_ret (results_none rfl _ _ _) rfl ?_
          exact ⟨⟨_, rfl⟩, .inr ⟨pre ++ [(v, x, 0)], by rw [HE2.out]; exact ⟨Fr.each (zs.drop (i + k)), by simp⟩, hJx3⟩⟩
      · have hl : (zs.drop i).length = m - i := by rw [List.length_drop, HBt.out.len]
        have he := HE.out
        rw [Fr.each_no (by intro e; rw [e] at hl; simp at hl; omega) hcd] at he
        have t1 : (Fr.code (zs.drop i) != 0) = true := by rw [bne_iff_ne]; exact hcd
        have HSL2 := Lib.hid HSL.out
        rw [Fr.row_no hcd] at HSL2
        rw [Fr.size_no hcd]
        obtain ⟨fn, tmps, assign, body, hy, hR⟩ := HY.out pre (v, [], Fr.code (zs.drop i)) wr HJ.out ⟨HSL2.out, by rw [he]; exact ⟨[], by simp⟩⟩
        dsimp only [encE] at hy hR
        clear hcd hl HSL HSL2
        generalize Fr.code (zs.drop i) = cd at *
        have HE2 := Lib.hid he; clear he
        gi_wp2
        refine hR.mono ?_
        rintro e W3 ⟨hk3, ⟨rfl, hJ3⟩ | ⟨rfl, hJx3⟩⟩
        · have HJ3 := Lib.hid hJ3; clear hJ3
          gi_wp2
          refine bodyPost_ret (results_none rfl _ _ _) rfl ?_
          exact ⟨⟨_, rfl⟩, .inl ⟨pre ++ [(v, [], cd)], by rw [HE2.out]; simp, HJ3.out⟩⟩
        · gi_wp2
          refine bodyPost_ret (results_none rfl _ _ _) rfl ?_
          exact ⟨⟨_, rfl⟩, .inr ⟨pre ++ [(v, [], cd)], by rw [HE2.out]; exact ⟨[], by simp⟩, hJx3⟩⟩
    · gi_wp2
      go_end0
      exact ⟨⟨_, rfl⟩, .inl ⟨pre, by rw [HE.out, List.drop_of_length_le (by have := HBt.out.len; omega), Fr.each_nil, List.append_nil], HJ.out⟩⟩

/-- the iterator of frame.each, over the box Bn that holds the slice -/
theorem each_tells (n : Nat) (hn : 1 ≤ n) (Bn : Nat) (gs : List Nat) (A : Option Addr) (m c : Nat) (zs : List Int) (w : World) (hlt : ∀ g ∈ gs, g < w.heap.size)
    (hbox : w.cell? ⟨Bn, 0, none⟩ = some (.slice A m c)) (hBn : Bn ∈ gs) (hA : 0 < m → ∀ ad, A = some ad → ad.block ∈ gs) (hb : Bts w A m zs) (hmc : m ≤ c) (hc : c ≤ maxLen) :
    Tells Fence.wide n Try.prog 29 #[.pointer (some ⟨Bn, 0, none⟩)] encE (OkE zs gs) gs false (fun ys => ys.map (·.2) = Fr.each zs) (fun pre => pre.map (·.2) <+: Fr.each zs) w := fun l J Jx W hW _ h0 hY =>
  each1_in n hn l Bn W.heap.size gs A m c zs J Jx hY W ((hW.cell (p := ⟨Bn, 0, none⟩) (hlt Bn hBn)).trans hbox) hBn hA (hb.below hW) hmc hc h0

set_option maxHeartbeats 400000 in
/-- frame.each hands back a closure over a box that holds the slice itself -/
theorem each_any (A : Option Addr) (n c : Nat) (w : World) :
    Calls Try.prog 25 #[.slice A n c] w fun e w' => e = .returned (.func (.func 29) #[] #[.pointer (some ⟨w.heap.size, 0, none⟩)]) ∧ w' = w.alloc (.cells #[.slice A n c] 22) := by
  go_enter Try.func25, Try.ntmps25
  go_wp2
  go_ret
  exact ⟨rfl, rfl⟩

end Go.Proofs.Ytadbidgikgffhaa
