/-
  The contract of the iterator that nat's of hands back: it tells the bindings of one, in their row's order. Conditions: the rounds keep the box, its row and its bindings' own blocks.
-/
import Derived.Test.YtidhdgcmagpkgaaTold
import Derived.Test.YtidhdgcmagpkgaaLet
import Derived.Shelf.RegionOpen
import Derived.OwnWalkIn
import Derived.TacticsInMore
import Derived.LoopNIn
import Derived.LoopIn
import Derived.BigQuiet
import Derived.BigRegionIn
namespace Go.Proofs.Ytidhdgcmagpkgaa
open Go.RowKit Go.Shelf
attribute [local go_sem] Oper.semAt_some
set_option linter.unusedVariables false

/-- these blocks are as they were -/
def SameAt (gs : List Nat) (W W' : World) : Prop := ∀ g ∈ gs, W'.heap[g]? = W.heap[g]?
theorem SameAt.refl (gs : List Nat) (W : World) : SameAt gs W W := fun _ _ => rfl
theorem SameAt.t {gs : List Nat} {A B C : World} (h : SameAt gs A B) (k : SameAt gs B C) : SameAt gs A C := fun g hg => (k g hg).trans (h g hg)
theorem SameAt.cell {gs : List Nat} {W W' : World} (h : SameAt gs W W') {a : Addr} (ha : a.block ∈ gs) : W'.cell? a = W.cell? a := World.cell?_of_block (w := W) (h a.block ha)
theorem grown_drw (W : World) (q : Nat) : W.grownBy (W.drewN q) none := ⟨rfl, rfl, rfl, Nat.le_refl _, fun _ _ _ => rfl⟩

def inF (a : A2) (d : Nd) : Bool := decide (d.b.inn = a)
def encN (z : Nd) : Array Value := #[.pointer (some ⟨z.p, 0, none⟩)]
def OkN (L : List Nd) (a : A2) (pre : List Nd) (z : Nd) (_ : World) : Prop := ∃ rest, L.filter (inF a) = pre ++ z :: rest
theorem ok_at {L : List Nd} {a : A2} {k : Nat} {d : Nd} (h : L[k]? = some d) (hf : inF a d = true) (W : World) : OkN L a ((L.take k).filter (inF a)) d W := by
  have hk := (List.getElem?_eq_some_iff.1 h).1
  have e : L = L.take k ++ d :: L.drop (k + 1) := by
    have h1 := List.take_append_drop k L
    rw [List.drop_eq_getElem_cons hk, (List.getElem?_eq_some_iff.1 h).2] at h1
    exact h1.symm
  refine ⟨(L.drop (k + 1)).filter (inF a), ?_⟩
  conv => lhs; rw [e]
  rw [List.filter_append, List.filter_cons_of_pos hf]
theorem take_snoc {L : List Nd} {a : A2} {k : Nat} {d : Nd} (h : L[k]? = some d) (hf : inF a d = true) : (L.take (k + 1)).filter (inF a) = (L.take k).filter (inF a) ++ [d] := by
  rw [List.take_add_one, h, List.filter_append]; simp [hf]
theorem take_skip {L : List Nd} {a : A2} {k : Nat} {d : Nd} (h : L[k]? = some d) (hf : inF a d = false) : (L.take (k + 1)).filter (inF a) = (L.take k).filter (inF a) := by
  rw [List.take_add_one, h, List.filter_append]; simp [hf]

theorem said_one {gs : List Nat} {B : Nat} {V : World} {J Jx : List Nd → World → Prop} {zs : List Nd} {e : Ending} {W : World} (h : Kept gs false B V W ∧ ((e = .returned (.bool true) ∧ J zs W) ∨ (e = .returned (.bool false) ∧ Jx zs W))) :
    ∃ r : Bool, e = .returned (.bool r) ∧ Kept gs false B V W ∧ (if r = true then J zs W else Jx zs W) := by
  obtain ⟨hk, ⟨rfl, h⟩ | ⟨rfl, h⟩⟩ := h
  · exact ⟨true, rfl, hk, h⟩
  · exact ⟨false, rfl, hk, h⟩
set_option maxRecDepth 100000 in
set_option maxHeartbeats 4000000 in
theorem of1_in (n : Nat) (hn : 1 ≤ n) (l b2 b3 B0 nb : Nat) (gs : List Nat) (x : Bx) (now : Int) (kv : Value) (L : List Nd) (a : A2) (J Jx : List Nd → World → Prop)
    (hY : ∀ pre z W, J pre W → OkN L a pre z W → YieldAt Fence.wide (n - 1) Try.prog l (encN z) W fun e W' => Kept gs false B0 W W' ∧
      ((e = .returned (.bool true) ∧ J (pre ++ [z]) W') ∨ (e = .returned (.bool false) ∧ Jx (pre ++ [z]) W')))
    (hJ : ∀ pre W q, J pre W → J pre (W.drewN q))
    (W : World) (hN : Na W nb x now kv L) (hbig : L.length ≤ 1000) (hc2 : W.cell? ⟨b2, 0, none⟩ = some (.pointer (some ⟨nb, 0, none⟩))) (hc3 : W.cell? ⟨b3, 0, none⟩ = some (.int .u32 a.1)) (hc4 : W.cell? ⟨b3, 1, none⟩ = some (.int .i64 a.2))
    (hB2 : b2 ∈ gs) (hB3 : b3 ∈ gs) (hBn : nb ∈ gs) (hBk : ∀ g, kv.ownBlock = some g → g ∈ gs) (hBd : ∀ d ∈ L, d.p ∈ gs) (h0 : J [] W) :
    CallsIn Fence.wide n Try.prog 70 #[.func (.yield l) #[] #[], .pointer (some ⟨b2, 0, none⟩), .pointer (some ⟨b3, 0, none⟩)] W fun e W' => (∃ v, e = .returned v) ∧
      ((∃ ys, ys = L.filter (inF a) ∧ J ys W') ∨ (∃ pre, (∃ rest, L.filter (inF a) = pre ++ rest) ∧ Jx pre W')) := by
  refine callsIn_of_wp Try.func70 rfl trivial ?_ rfl
  simp only [Try.ntmps70, List.size_toArray, List.length_cons, List.length_nil, Nat.reduceAdd, Nat.reduceSub, Array.replicate_succ, Array.replicate_zero, List.push_toArray, List.append_toArray, List.nil_append, List.cons_append]
  have c7 := hN.cells.2.1
  have HY := Lib.hid hY; have HJ := Lib.hid hJ; have HN := Lib.hid hN; have HBD := Lib.hid hBd; have HBK := Lib.hid hBk
  have H3 := Lib.hid hc3; have H4 := Lib.hid hc4
  have hm := noGuard38
  clear hY hJ hN hBd hBk hc3 hc4
  rcases HN.out.rowAt with ⟨rfl, rfl⟩ | ⟨g, cap, cur, rfl, hg, hnc, hm2, hcs, hcell⟩
  · gi_wp2
    gi_loopw [5, 11] (fun _ i wr => i = .int .i64 0 ∧ wr = W) (fun _ _ _ => 0)
    case atStart => exact ⟨rfl, rfl⟩
    case round =>
      obtain ⟨rfl, rfl⟩ := hrel
      gi_wp2
      refine bodyPost_end (results_none rfl _ _ _) rfl ?_
      exact ⟨⟨_, rfl⟩, .inl ⟨_, rfl, h0⟩⟩
  · have HCELL : Hid (∀ (j : Nat) (d : Nd), L[j]? = some d → W.cell? ⟨g, j, none⟩ = some (.pointer (some ⟨d.p, 0, none⟩))) := Lib.hid (fun j d hj => by rw [(cells_of hg j).1]; exact hcell j d hj)
    have hgs : g ∈ gs := HBK.out g rfl
    clear hcell
    gi_wp2
    gi_loopw [5, 11] (fun _ i wr => ∃ k : Nat, k ≤ L.length ∧ i = .int .i64 (k : Int) ∧ J ((L.take k).filter (inF a)) wr ∧ SameAt gs W wr) (fun _ i _ => L.length - (intOf i).toNat)
    case atStart => exact ⟨0, Nat.zero_le _, rfl, h0, SameAt.refl _ _⟩
    case round =>
      obtain ⟨k, hk, rfl, hJk, hS⟩ := hrel
      by_cases hlt : k < L.length
      · have hltz : (k : Int) < (L.length : Int) := by omega
        obtain ⟨d, hd⟩ : ∃ d, L[k]? = some d := ⟨_, List.getElem?_eq_getElem hlt⟩
        have hdm := List.mem_of_getElem? hd
        have k0 := (hS.cell (a := ⟨g, k, none⟩) hgs).trans (HCELL.out k d hd)
        have n0 := (hS.cell (a := ⟨d.p, 0, none⟩) (HBD.out d hdm)).trans (HN.out.nds d hdm).cells.1.1
        have n1 := (hS.cell (a := ⟨d.p, 1, none⟩) (HBD.out d hdm)).trans (HN.out.nds d hdm).cells.1.2.1
        have a0 := (hS.cell (a := ⟨b3, 0, none⟩) hB3).trans H3.out
        have a1 := (hS.cell (a := ⟨b3, 1, none⟩) hB3).trans H4.out
        have HJK := Lib.hid hJk; have HS := Lib.hid hS; have HD := Lib.hid hd
        clear hJk hS hd hdm
        have hE := fun W => run_eqA d.b.inn a W
        cases hf : inF a d with
        | false =>
          have hff : decide (d.b.inn = a) = false := hf
          have HF := Lib.hid hf
          rw [hff] at hE
          clear hf hff
          gi_wp2
          refine (wpIn_wide (n := n)).2 ?_
          go_quiet (fail)
          gi_wp2
          go_roundw
          case rel => exact ⟨k + 1, by omega, by go_num, by rw [take_skip HD.out HF.out]; exact HJ.out _ _ _ HJK.out, HS.out⟩
          case measure => simp [intOf]; omega
        | true =>
          have hff : decide (d.b.inn = a) = true := hf
          have HF := Lib.hid hf
          rw [hff] at hE
          clear hf hff
          obtain ⟨fn, tmps, assign, body, hy, hR⟩ := HY.out ((L.take k).filter (inF a)) d wr.drew (HJ.out _ _ 1 HJK.out) (ok_at HD.out HF.out _)
          dsimp only [encN] at hy hR
          gi_wp2
          first | (gi_region_with (refine hR.mono ?_; rintro e W3 hr3; obtain ⟨r, rfl, hr⟩ := said_one hr3; have HR3 := Lib.hid hr; clear hr hr3)) | fail
          all_goals
            cases r with
            | true =>
              gi_wp2
              go_roundw
              case rel => exact ⟨k + 1, by omega, by go_num, by rw [take_snoc HD.out HF.out]; exact HR3.out.2, HS.out.t (fun g hg => (HR3.out.1.same g hg))⟩
              case measure => simp [intOf]; omega
            | false =>
              gi_wp2
              refine bodyPost_ret (results_none rfl _ _ _) rfl ?_
              refine ⟨⟨_, rfl⟩, .inr ⟨_, ?_, HR3.out.2⟩⟩
              obtain ⟨rest, hr⟩ := ok_at HD.out HF.out W
              exact ⟨rest, by rw [hr]; simp⟩
      · obtain rfl : k = L.length := by omega
        have hltz : ¬ (L.length : Int) < (L.length : Int) := by omega
        rw [List.take_length] at hJk
        gi_wp2
        refine bodyPost_end (results_none rfl _ _ _) rfl ?_
        first | exact ⟨⟨_, rfl⟩, .inl ⟨_, rfl, hJk⟩⟩ | exact ⟨⟨_, rfl⟩, .inl hJk⟩

/-- the iterator of nat's of, over its boxes -/
theorem of1_tells (n : Nat) (hn : 1 ≤ n) (b2 b3 nb : Nat) (gs : List Nat) (x : Bx) (now : Int) (kv : Value) (L : List Nd) (a : A2) (w : World) (hlt : ∀ g ∈ gs, g < w.heap.size) (hN : Na w nb x now kv L) (hbig : L.length ≤ 1000)
    (hc2 : w.cell? ⟨b2, 0, none⟩ = some (.pointer (some ⟨nb, 0, none⟩))) (hc3 : w.cell? ⟨b3, 0, none⟩ = some (.int .u32 a.1)) (hc4 : w.cell? ⟨b3, 1, none⟩ = some (.int .i64 a.2))
    (hB2 : b2 ∈ gs) (hB3 : b3 ∈ gs) (hBn : nb ∈ gs) (hBk : ∀ g, kv.ownBlock = some g → g ∈ gs) (hBd : ∀ d ∈ L, d.p ∈ gs) :
    Tells Fence.wide n Try.prog 70 #[.pointer (some ⟨b2, 0, none⟩), .pointer (some ⟨b3, 0, none⟩)] encN (OkN L a) gs false (fun ys => ys = L.filter (inF a)) (fun pre => ∃ rest, L.filter (inF a) = pre ++ rest) w := fun l J Jx W hW hown h0 hY =>
  of1_in n hn l b2 b3 W.heap.size nb gs x now kv L a J Jx hY (fun pre X q hj => hown.1 pre X _ none hj (grown_drw X q) (fun r e => by cases e)) W (hN.below (hW.mono (Nat.le_refl _))) hbig
    ((hW.cell (p := ⟨b2, 0, none⟩) (hlt b2 hB2)).trans hc2) ((hW.cell (p := ⟨b3, 0, none⟩) (hlt b3 hB3)).trans hc3) ((hW.cell (p := ⟨b3, 1, none⟩) (hlt b3 hB3)).trans hc4) hB2 hB3 hBn hBk hBd h0
set_option maxHeartbeats 400000 in
/-- of hands back a closure over two boxes: the box, and whose bindings -/
theorem of_any (nb : Nat) (a : A2) (w : World) : Calls Try.prog 58 #[.pointer (some ⟨nb, 0, none⟩), adr a] w fun e w' => e = .returned (.func (.func 70) #[] #[.pointer (some ⟨w.heap.size, 0, none⟩), .pointer (some ⟨w.heap.size + 1, 0, none⟩)]) ∧ w' = (w.alloc (.cells #[.pointer (some ⟨nb, 0, none⟩)] 50)).alloc (.cells #[.int .u32 a.1, .int .i64 a.2] 36) := by
  unfold adr
  go_enter Try.func58, Try.ntmps58
  go_wp2
  go_ret
  exact ⟨rfl, rfl⟩
end Go.Proofs.Ytidhdgcmagpkgaa
