/-
  The contract of the iterator that embrasure/uvar.Each hands back: it tells the numbers of which the kept bytes are made, with the places where they begin, in order, or a beginning of them where a round has said that it wants no more. Conditions: the rounds keep the blocks in which the bytes lie.
-/
import Derived.RangeFuncNested
import Derived.RangeFuncBound
import Derived.RangeFuncCalls
import Derived.RangeFuncLeaves
import Derived.Shelf.Abstract
import Derived.Shelf.RegionOpen
import Derived.WalkKit
import Derived.OwnWalkIn
import Derived.TacticsInMore
import Derived.LoopNIn
import Derived.LoopIn
import Derived.Test.YthdbakeafmfmpaaWords
import Derived.Test.YthdbakeafmfmpaaParts
namespace Go.Proofs.Ythdbakeafmfmpaa
open Go.RowKit Go.Shelf
attribute [local go_sem] Oper.semAt_some
set_option linter.unusedVariables false

/-- these blocks are as they were -/
def SameAt (gs : List Nat) (W W' : World) : Prop := ∀ g ∈ gs, W'.heap[g]? = W.heap[g]?
theorem SameAt.refl (gs : List Nat) (W : World) : SameAt gs W W := fun _ _ => rfl
theorem SameAt.t {gs : List Nat} {A B C : World} (h : SameAt gs A B) (k : SameAt gs B C) : SameAt gs A C := fun g hg => (k g hg).trans (h g hg)
theorem SameAt.b {gs : List Nat} {w : World} (hlt : ∀ g ∈ gs, g < w.heap.size) (W : World) (l : Nat) (o o' : Obj) (hl : w.heap.size ≤ l) (h : W.heap[l]? = some o) (_ : o.isCells = false) (_ : o.isWalk = false) : SameAt gs W (W.putObj l o') :=
  fun g hg => (grownBy_putObj' W l o').block g (by have := (Array.getElem?_eq_some_iff.1 h).1; have := hlt g hg; omega) (fun e => by have := hlt g hg; cases e; omega)
theorem SameAt.cell {gs : List Nat} {W W' : World} (h : SameAt gs W W') {a : Addr} (ha : a.block ∈ gs) : W'.cell? a = W.cell? a := World.cell?_of_block (w := W) (h a.block ha)
theorem Bts.same {gs : List Nat} {W W' : World} {A : Option Addr} {n : Nat} {zs : List Int} (h : Bts W A n zs) (hA : ∀ ad, A = some ad → ad.block ∈ gs) (k : SameAt gs W W') : Bts W' A n zs := by
  obtain ⟨h1, h2, h3⟩ := h
  refine ⟨h1, h2, fun hn => ?_⟩
  obtain ⟨b, off, rfl, hlt, hc⟩ := h3 hn
  have hb : b ∈ gs := hA _ rfl
  have hc' : ∀ j, j < n → W'.cell? ⟨b, off + j, none⟩ = some (.int .u8 (zs.getD j 0)) := fun j hj => (k.cell (a := ⟨b, off + j, none⟩) hb).trans (hc j hj)
  exact ⟨b, off, rfl, lt_of_cell (hc' 0 hn), hc'⟩
theorem Bts.from {w : World} {A : Option Addr} {n c k : Nat} {zs : List Int} (h : Bts w A n zs) (hk : k ≤ n) (hc : n ≤ c) : Bts w (if c = k then A else A.map (·.add k)) (n - k) (zs.drop k) := by
  obtain ⟨h1, h2, h3⟩ := h
  refine ⟨by simp; omega, fun z hz => h2 z (List.mem_of_mem_drop hz), fun hn => ?_⟩
  obtain ⟨b, off, rfl, hb, hcell⟩ := h3 (by omega)
  rw [if_neg (by omega)]
  refine ⟨b, off + k, ?_, hb, fun j hj => ?_⟩
  · simp only [Option.map_some]
    unfold Addr.add
    split <;> simp_all
  · rw [Nat.add_assoc, hcell (k + j) (by omega)]
    simp [List.getD]

theorem Bts.tail {w : World} {A : Option Addr} {n k : Nat} {zs : List Int} (h : Bts w A n zs) (hk : k < n) : Bts w (Option.map (fun x => x.add k) A) (n - k) (zs.drop k) := by
  have := h.from (c := n) (k := k) (by omega) (Nat.le_refl _)
  rwa [if_neg (by omega)] at this

set_option maxRecDepth 100000 in
set_option maxHeartbeats 2000000 in
theorem each1_in (n : Nat) (hn : 1 ≤ n) (l Bn : Nat) (gs : List Nat) (A : Option Addr) (m c : Nat) (zs : List Int) (J Jx : List (Nat × Int) → World → Prop)
    (hY : ∀ pre x W, J pre W → pre.length < (Uv.each 0 zs).length → YieldAt Fence.wide (n - 1) Try.prog l #[.int .i64 (x.1 : Int), .int .u64 x.2] W fun e W' =>
      (e = .returned (.bool true) ∧ J (pre ++ [x]) W' ∧ SameAt gs W W') ∨ (e = .returned (.bool false) ∧ Jx (pre ++ [x]) W'))
    (W : World) (hbox : W.cell? ⟨Bn, 0, none⟩ = some (.slice A m c)) (hBn : Bn ∈ gs) (hA : ∀ ad, A = some ad → ad.block ∈ gs) (hb : Bts W A m zs) (hmc : m ≤ c) (hc : c ≤ maxLen) (h0 : J [] W) :
    CallsIn Fence.wide n Try.prog 20 #[.func (.yield l) #[] #[], .pointer (some ⟨Bn, 0, none⟩)] W fun e W' => (∃ v, e = .returned v) ∧
      ((∃ ys, ys = Uv.each 0 zs ∧ J ys W') ∨ (∃ pre, pre <+: Uv.each 0 zs ∧ Jx pre W')) := by
  unfold maxLen at hc
  refine callsIn_of_wp Try.func20 rfl trivial ?_ rfl
  simp only [Try.ntmps20, List.size_toArray, List.length_cons, List.length_nil, Nat.reduceAdd, Nat.reduceSub, Array.replicate_succ, Array.replicate_zero, List.push_toArray, List.append_toArray, List.nil_append, List.cons_append]
  have HY := Lib.hid hY; clear hY
  have HA := Lib.hid hA; clear hA
  have HBT := Lib.hid hb; clear hb
  have HBX := Lib.hid hbox; clear hbox
  gi_wp2
  gi_loopw [3] (fun p wr => ∃ (i : Nat) (pre : List (Nat × Int)), p = .int .i64 (i : Int) ∧ i ≤ m ∧ Uv.each 0 zs = pre ++ Uv.each i (zs.drop i) ∧ J pre wr ∧ SameAt gs W wr) (fun p _ => m - (intOf p).toNat)
  case atStart => exact ⟨0, [], rfl, by omega, by simp, h0, SameAt.refl _ _⟩
  case round =>
    obtain ⟨i, pre, rfl, hi, he, hJ, hS⟩ := hrel
    have hbx := (hS.cell (a := ⟨Bn, 0, none⟩) hBn).trans HBX.out
    have HBt := Lib.hid (HBT.out.same HA.out hS)
    have HE := Lib.hid he; clear he
    have HS := Lib.hid hS; clear hS
    have HJ := Lib.hid hJ; clear hJ
    by_cases him : i < m
    · have hc2 : c - i ≤ maxLen := by unfold maxLen; omega
      have HC2 := Lib.hid hc2; clear hc2
      gi_wp2_with fail
      rcases Uv.got_cases (zs.drop i) with ⟨h1, h2, h3, h4⟩ | ⟨h1, h2⟩
      · have hl : (zs.drop i).length = m - i := by rw [List.length_drop, HBt.out.len]
        have hstep := Uv.drop_step h1
        have he := HE.out
        rw [hstep] at he
        rw [hl] at h3
        refine ⟨trivial, ?_⟩
        refine (callsIn_wide.2 (get_at _ _ _ (zs.drop i) wr _ _ _ h4 (by omega) HC2.out (HBt.out.tail him))).mono ?_
        rintro e w' ⟨rfl, rfl⟩
        obtain ⟨fn, tmps, assign, body, hy, hR⟩ := HY.out pre (i, Uv.val (zs.drop i)) wr HJ.out (by rw [he]; simp)
        dsimp only at hy hR
        clear h4 h1 hstep hl
        generalize Uv.val (zs.drop i) = x at *
        generalize Uv.size (zs.drop i) = k at *
        have HE2 := Lib.hid he; clear he
        gi_wp2
        refine hR.mono ?_
        rintro e W3 (⟨rfl, hJ3, hk3⟩ | ⟨rfl, hJx3⟩)
        · have HJ3 := Lib.hid hJ3; clear hJ3
          have HK3 := Lib.hid hk3; clear hk3
          gi_wp2
          go_roundw
          case rel => exact ⟨i + k, pre ++ [(i, x)], by go_num, by omega, by rw [HE2.out]; simp, HJ3.out, HS.out.t HK3.out⟩
          case measure => simp [intOf]; omega
        · gi_wp2
          refine bodyPost_ret (results_none rfl _ _ _) rfl ?_
          exact ⟨⟨_, rfl⟩, .inr ⟨pre ++ [(i, x)], by rw [HE2.out]; exact ⟨Uv.each (i + k) (zs.drop (i + k)), by simp⟩, hJx3⟩⟩
      · obtain ⟨⟨x, k, cd⟩, hg⟩ : ∃ t, Uv.got (zs.drop i) = t := ⟨_, rfl⟩
        have hcd : Uv.code (zs.drop i) = cd := by simp [Uv.code, hg]
        have hno : Uv.each i (zs.drop i) = [] := Uv.each_no (by omega)
        have he := HE.out
        rw [hno, List.append_nil] at he
        have HE2 := Lib.hid he; clear he hno
        have t1 : (cd != 0) = true := by rw [bne_iff_ne]; omega
        clear hcd h1 h2
        refine ⟨trivial, ?_⟩
        refine (callsIn_wide.2 (get_at _ _ _ (zs.drop i) wr _ _ _ hg (by omega) HC2.out (HBt.out.tail him))).mono ?_
        rintro e w' ⟨rfl, rfl⟩
        clear hg
        gi_wp2
        refine ⟨fun _ h => (by cases h), ?_⟩
        gi_wp2
        refine bodyPost_ret (results_none rfl _ _ _) rfl ?_
        exact ⟨⟨_, rfl⟩, .inl ⟨pre, HE2.out.symm, HJ.out⟩⟩
    · gi_wp2
      go_end0
      exact ⟨⟨_, rfl⟩, .inl ⟨pre, by rw [HE.out, List.drop_of_length_le (by have := HBt.out.len; omega), Uv.each_nil, List.append_nil], HJ.out⟩⟩

/-- how a number with its place is handed to a round -/
def encs (x : Nat × Int) : Array Value := #[.int .i64 (x.1 : Int), .int .u64 x.2]
theorem each_stops (n : Nat) (hn : 1 ≤ n) (Bn : Nat) (gs : List Nat) (A : Option Addr) (m c : Nat) (zs : List Int) (w : World) (hlt : ∀ g ∈ gs, g < w.heap.size)
    (hbox : w.cell? ⟨Bn, 0, none⟩ = some (.slice A m c)) (hBn : Bn ∈ gs) (hA : ∀ ad, A = some ad → ad.block ∈ gs) (hb : Bts w A m zs) (hmc : m ≤ c) (hc : c ≤ maxLen) :
    SeqStopsK Fence.wide n Try.prog 20 #[.pointer (some ⟨Bn, 0, none⟩)] encs (SameAt gs) (fun ys => ys = Uv.each 0 zs) (fun pre => pre <+: Uv.each 0 zs) (Uv.each 0 zs).length w := fun l J Jx W hW _ _ hY h0 =>
  each1_in n hn l Bn gs A m c zs J Jx hY W ((hW.cell (p := ⟨Bn, 0, none⟩) (hlt Bn hBn)).trans hbox) hBn hA (hb.below hW) hmc hc h0

set_option maxHeartbeats 400000 in
theorem clone_any (A : Option Addr) (n c : Nat) (zs : List Int) (w : World) (h : Bts w A n zs) (hnil : A = none → n = 0 ∧ c = 0) (hn : n ≤ 140737488355328) :
    Calls Try.prog 19 #[.slice A n c] w fun e w' => ∃ r, e = .returned r ∧ w'.ownsRow w.heap.size 5 1 r n (B zs) ∧ Below w.heap.size w w' := by
  have q22 : ∀ (w : World) (a : Option Addr) (n c n' c' : Nat), (binOp .eql 23 (.slice a n c) (.slice none n' c')).run Try.prog w = .ok (.bool a.isNone) w := fun w a n c n' c' => Lib.run_eql_slice_nil w _ _ a n c n' c' Try.underlying23
  cases A with
  | none =>
    obtain ⟨rfl, rfl⟩ := hnil rfl
    have hz : zs = [] := List.eq_nil_of_length_eq_zero h.len
    subst hz
    clear hnil h
    go_enter Try.func19, Try.ntmps19
    go_wp2
    go_ret
    exact ⟨_, rfl, World.ownsRow_nil _ _ _ _, Below.refl _ _⟩
  | some ad =>
    clear hnil
    have H := Lib.hid h; clear h
    go_enter Try.func19, Try.ntmps19
    go_wp2_with (at_builtin; refine wpList_append_bts rfl (.tmp 5) (.tmp 6) rfl w.heap.size _ 0 [] rfl (lit_own w) (some ad) n c zs rfl (H.out.alloc _) (by intro h; cases h) (by omega) (by simp) ?_; intro v5 w5 ho5 hg5; rw [List.nil_append, Nat.zero_add] at ho5; have HB5 := Lib.hid (own_grown_below (lit_own w) ((Below.refl w.heap.size w).alloc (Nat.le_refl _) _) (Nat.le_refl _) hg5); clear hg5)
    go_ret
    exact ⟨_, rfl, ho5, HB5.out⟩
/-- the blocks of an owned row -/
theorem own_block {w : World} {base n c : Nat} {A : Option Addr} {xs : List Value} (h : w.ownsRow base 5 1 (.slice A n c) n xs) : ∀ ad, A = some ad → base ≤ ad.block ∧ ad.block < w.heap.size := by
  intro ad e
  subst e
  rcases h.2 with ⟨e, _⟩ | ⟨g, cap, cur, e, hb, hg, _⟩
  · simp at e
  · simp only [Value.slice.injEq, Option.some.injEq] at e
    obtain ⟨rfl, _, _⟩ := e
    exact ⟨hb, (Array.getElem?_eq_some_iff.1 hg).1⟩

set_option maxHeartbeats 400000 in
/-- uvar.Each hands back a closure over a box that holds a copy of the bytes -/
theorem each_any (A : Option Addr) (n c : Nat) (zs : List Int) (w : World) (h : Bts w A n zs) (hnil : A = none → n = 0 ∧ c = 0) (hn : n ≤ 140737488355328) :
    Calls Try.prog 17 #[.slice A n c] w fun e w' => ∃ g A' c', e = .returned (.func (.func 20) #[] #[.pointer (some ⟨g, 0, none⟩)]) ∧ w'.cell? ⟨g, 0, none⟩ = some (.slice A' n c') ∧ Bts w' A' n zs ∧ n ≤ c' ∧ c' ≤ maxLen ∧
      (w.heap.size ≤ g ∧ g < w'.heap.size) ∧ (∀ ad, A' = some ad → w.heap.size ≤ ad.block ∧ ad.block < w'.heap.size) ∧ Below w.heap.size w w' := by
  have hbd := h.bd
  have HBD := Lib.hid hbd; clear hbd
  have H := Lib.hid h; clear h
  have HN := Lib.hid hnil; clear hnil
  go_enter Try.func17, Try.ntmps17
  go_wp2_with fail
  refine (clone_any A n c zs _ H.out HN.out hn).mono ?_
  rintro e w1 ⟨r, rfl, ho, hb⟩
  obtain ⟨A', c', rfl, hnc, hc, ht⟩ := own_form ho HBD.out
  have HBL := Lib.hid (own_block ho)
  clear ho
  have HT := Lib.hid ht; clear ht
  have HB := Lib.hid hb; clear hb
  have HC := Lib.hid hc; clear hc
  go_wp2
  go_ret
  exact ⟨w1.heap.size, A', c', rfl, (Boxed.new w1 23 _).cell, HT.out.alloc _, hnc, HC.out, ⟨HB.out.size, by simp⟩, fun ad e => ⟨(HBL.out ad e).1, by have := (HBL.out ad e).2; simp; omega⟩, HB.out.alloc HB.out.size _⟩

end Go.Proofs.Ythdbakeafmfmpaa
