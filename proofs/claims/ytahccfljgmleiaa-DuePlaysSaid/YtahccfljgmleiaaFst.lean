/-
  The contract of the iterator of firsts: the first in order, again and again, while there is one. Conditions: the table stands for a list of timers between the rounds; the rounds keep the iterator's own block.
-/
import Derived.Test.YtahccfljgmleiaaRng
import Derived.Test.YtahccfljgmleiaaNxt
import Derived.Shelf.Abstract
import Derived.Shelf.RegionOpen
import Derived.OwnWalkIn
import Derived.TacticsInMore
import Derived.LoopNIn
import Derived.LoopIn
import Derived.Sort.LoopGhostIn
namespace Go.Proofs.Ytahccfljgmleiaa
open Go.RowKit Go.Shelf
attribute [local go_sem] Oper.semAt_some
set_option linter.unusedVariables false

/-- what a round is handed -/
def encE (e : En) : Array Value := #[.string (str e.1), .int .i64 e.2]
/-- between the rounds the table stands for some timers; at a yield it does, too, and the first of them is handed over -/
def Adm1 (tb bm : Nat) (_ : Nat) (J : Stand) (M : Nat → En → World → Prop) : Prop := ∀ k V, J k V → ∃ L, Du V tb bm L ∧ ∀ e L' V', L = e :: L' → V.grownBy V' none → M k e V'
def Fin1 (tb bm : Nat) (V : World) : Prop := Du V tb bm []

set_option maxRecDepth 100000 in
set_option maxHeartbeats 2000000 in
theorem firsts1_in (n : Nat) (hn : 1 ≤ n) (l tb bm Bn : Nat) (J : Stand) (M : Nat → En → World → Prop) (Jx : World → Prop) (W : World) (k0 : Nat) (hJ : OwnFrom W.heap.size J) (hA : Adm1 tb bm W.heap.size J M) (hBn : Bn < W.heap.size)
    (hY : ∀ k z V1, M k z V1 → YieldAt Fence.wide (n - 1) Try.prog l (encE z) V1 (SaidN [Bn] W.heap.size V1 J Jx k))
    (hbox : W.cell? ⟨Bn, 0, none⟩ = some (.pointer (some ⟨tb, 0, none⟩))) (h0 : J k0 W) :
    CallsIn Fence.wide n Try.prog 28 #[.func (.yield l) #[] #[], .pointer (some ⟨Bn, 0, none⟩)] W (CameN (Fin1 tb bm) J Jx) := by
  refine callsIn_of_wp Try.func28 rfl trivial ?_ rfl
  simp only [Try.ntmps28, List.size_toArray, List.length_cons, List.length_nil, Nat.reduceAdd, Nat.reduceSub, Array.replicate_succ, Array.replicate_zero, List.push_toArray, List.append_toArray, List.nil_append, List.cons_append]
  have HJ := Lib.hid hJ; have HA := Lib.hid hA; have HY := Lib.hid hY; have H0 := Lib.hid h0; have HBX := Lib.hid hbox; have HBN := Lib.hid hBn
  clear hJ hA hY h0 hbox hBn
  gi_wp2
  gi_loopg [3] k0 (fun g _ wr => ∃ k : Nat, k ≤ g ∧ Hid (J k wr) ∧ Hid (wr.heap[Bn]? = W.heap[Bn]?) ∧ Hid (W.heap.size ≤ wr.heap.size))
  case atStart => exact ⟨k0, Nat.le_refl _, H0, Lib.hid rfl, Lib.hid (Nat.le_refl _)⟩
  case round =>
    clear H0
    obtain ⟨k, hk, HJk, HB, HSZ⟩ := hrel
    obtain ⟨L, hD, hM⟩ := HA.out k wr HJk.out
    have HD := Lib.hid hD; have HM := Lib.hid hM
    clear hD hM
    have hbx : wr.cell? ⟨Bn, 0, none⟩ = some (.pointer (some ⟨tb, 0, none⟩)) := (World.cell?_of_block (w := W) HB.out).trans HBX.out
    gi_wp2_with fail
    refine ⟨trivial, ?_⟩
    refine (callsIn_wide.2 (next_any' tb bm L wr HD.out)).mono ?_
    rintro e w1 ⟨rfl, hb1⟩
    have hg1 : wr.grownBy w1 none := below_grown' hb1 (Nat.le_refl _)
    have HG := Lib.hid hg1
    have HB1 := Lib.hid hb1
    clear hb1 hg1 hbx
    cases L with
    | nil =>
      have hJ1 : J k w1 := HJ.out _ _ _ _ HJk.out HG.out (fun r e => by cases e)
      have HJ1 := Lib.hid hJ1
      have HD1 : Hid (Du w1 tb bm []) := Lib.hid (HD.out.after HB1.out)
      clear hJ1
      unfold firstOf
      gi_wp2
      refine ⟨fun _ h => (by cases h), ?_⟩
      gi_wp2
      refine bodyPost_ret (results_none rfl _ _ _) rfl ?_
      exact ⟨⟨_, rfl⟩, .inl ⟨k, HJ1.out, HD1.out⟩⟩
    | cons z L =>
      obtain ⟨fn, tmps, assign, body, hy, hR⟩ := HY.out k z w1 (HM.out z L w1 rfl HG.out)
      dsimp only [encE] at hy hR
      unfold firstOf
      gi_wp2
      refine hR.mono ?_
      rintro e W3 ⟨hk3, ⟨rfl, k', hk', hJ3⟩ | ⟨rfl, hx⟩⟩
      · have HJ3 := Lib.hid hJ3
        have HB3 : Hid (W3.heap[Bn]? = W.heap[Bn]?) := Lib.hid ((hk3.same Bn (by simp)).trans ((HB1.out.block Bn (Nat.lt_of_lt_of_le HBN.out HSZ.out)).trans HB.out))
        have HS3 : Hid (W.heap.size ≤ W3.heap.size) := Lib.hid (Nat.le_trans HSZ.out (Nat.le_trans HB1.out.size hk3.size))
        clear hJ3 hk3
        gi_wp2
        gi_roundg k'
        case measure => omega
        case rel => exact ⟨k', Nat.le_refl _, HJ3, HB3, HS3⟩
      · have HX := Lib.hid hx
        clear hx hk3
        gi_wp2
        refine bodyPost_ret (results_none rfl _ _ _) rfl ?_
        exact ⟨⟨_, rfl⟩, .inr HX.out⟩

/-- the iterator of firsts, over the box Bn that holds the table -/
theorem firsts_tells (n : Nat) (hn : 1 ≤ n) (tb bm Bn : Nat) (w : World) (hBn : Bn < w.heap.size) (hbox : w.cell? ⟨Bn, 0, none⟩ = some (.pointer (some ⟨tb, 0, none⟩))) :
    TellsN Fence.wide n Try.prog 28 #[.pointer (some ⟨Bn, 0, none⟩)] encE (Adm1 tb bm) (Fin1 tb bm) [Bn] w := fun l J M Jx W k hW hJ _ hA h0 hY =>
  firsts1_in n hn l tb bm Bn J M Jx W k hJ hA (Nat.lt_of_lt_of_le hBn hW.size) hY ((hW.cell (p := ⟨Bn, 0, none⟩) hBn).trans hbox) h0

set_option maxHeartbeats 400000 in
/-- firsts hands back a closure over a box that holds the table -/
theorem firsts_any (a : Option Addr) (w : World) : Calls Try.prog 24 #[.pointer a] w fun e w' => e = .returned (.func (.func 28) #[] #[.pointer (some ⟨w.heap.size, 0, none⟩)]) ∧ w' = w.alloc (.cells #[.pointer a] 25) := by
  go_enter Try.func24, Try.ntmps24
  go_wp2
  go_ret
  exact ⟨rfl, rfl⟩

end Go.Proofs.Ytahccfljgmleiaa
