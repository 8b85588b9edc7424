/-
  Contracts of nat's isBox, New, Box and Reboot. Conditions: as each lemma states.
-/
import Derived.Test.YtidhdgcmagpkgaaPrt
import Derived.Deep.RegionHeld
namespace Go.Proofs.Ytidhdgcmagpkgaa
open Go.RowKit
attribute [local go_sem] Oper.semAt_some
set_option linter.unusedVariables false
set_option linter.unusedSimpArgs false

def W64 (n : Int) : Prop := -9223372036854775808 ≤ n ∧ n ≤ 9223372036854775807
def isBx (x : Bx) : Prop := (0 ≤ x.host ∧ x.host < 4294967296) ∧ W64 x.lo ∧ W64 x.hi ∧ W64 x.map ∧ W64 x.filter ∧ W64 x.life ∧ W64 x.most
def box2 (x : Bx) : Bool := mayA (x.host, x.lo) && (mayA (x.host, x.hi) && (decide (x.lo ≤ x.hi) && (isWayB x.map && (isWayB x.filter && (decide (1 ≤ x.life) && (decide (x.life ≤ 1099511627776) && (decide (1 ≤ x.most) && (decide (x.most ≤ 100)))))))))

set_option maxRecDepth 100000 in
set_option maxHeartbeats 4000000 in
theorem isBox_any (x : Bx) (w : World) (hx : isBx x) : Calls Try.prog 26 #[.agg (boxCells x)] w fun e w' => e = .returned (.bool (box2 x)) ∧ Below w.heap.size w w' := by
  obtain ⟨hh, hlo, hhi, _⟩ := hx
  have HA := Lib.hid (fun W => may_any (x.host, x.lo) W ⟨hh, hlo⟩)
  have HB := Lib.hid (fun W => may_any (x.host, x.hi) W ⟨hh, hhi⟩)
  have HC := Lib.hid (fun W => isWay_any x.map W)
  have HD := Lib.hid (fun W => isWay_any x.filter W)
  clear hh hlo hhi
  unfold box2
  obtain ⟨host, lo, hi, map, filter, life, most⟩ := x
  unfold boxCells
  unfold adr at HA HB
  dsimp only at *
  have HBE : Hid (∀ (C C' C'' : Obj) (u v : Value) (a b : Nat) , Below w.heap.size w ((w.alloc C).alloc C')) := Lib.hid (fun C C' C'' u v a b => ((Below.refl _ w).alloc (Nat.le_refl _) _).alloc (by simp) _)

  go_enter Try.func26, Try.ntmps26
  go_wp2
  go_region
  all_goals
    go_wp2_with fail
    refine (HA.out _).mono ?_
    rintro e w1 ⟨rfl, hb⟩
    have HW1 : Hid (Below w.heap.size w w1) := Lib.hid ((((((Below.refl w.heap.size w).alloc (Nat.le_refl _) _).alloc (by simp) _).alloc (by simp; omega) _)).trans ⟨hb.os, hb.tape, hb.output, hb.size, fun k hk => hb.block k (by simp; omega)⟩)
    have HF : Hid (∀ W, Below (w.heap.size + 3) w1 W → (W.cell? ⟨w.heap.size, 1, none⟩ = some (.int .i64 lo) ∧ W.cell? ⟨w.heap.size, 2, none⟩ = some (.int .i64 hi) ∧ W.cell? ⟨w.heap.size, 3, none⟩ = some (.int .i64 map) ∧ W.cell? ⟨w.heap.size, 4, none⟩ = some (.int .i64 filter) ∧ W.cell? ⟨w.heap.size, 5, none⟩ = some (.int .i64 life) ∧ W.cell? ⟨w.heap.size, 6, none⟩ = some (.int .i64 most))) := Lib.hid (fun W hW => by
      have hs : w.heap.size + 3 ≤ w1.heap.size := by have := hb.size; simpa using this
      have hc := fun k => (hW.cell (p := ⟨w.heap.size, k, none⟩) (by show w.heap.size < _; omega)).trans (hb.cell (p := ⟨w.heap.size, k, none⟩) (by simp; omega))
      exact ⟨(hc 1).trans (by go_simp), (hc 2).trans (by go_simp), (hc 3).trans (by go_simp), (hc 4).trans (by go_simp), (hc 5).trans (by go_simp), (hc 6).trans (by go_simp)⟩)
    have d0 := hb.cell (p := ⟨w.heap.size + 1, 0, none⟩) (by simp)
    have d1 := hb.cell (p := ⟨w.heap.size + 1, 1, none⟩) (by simp)
    have d2 := hb.cell (p := ⟨w.heap.size + 2, 0, none⟩) (by simp)
    have d3 := hb.cell (p := ⟨w.heap.size + 2, 1, none⟩) (by simp)
    have HS1 : Hid (w.heap.size + 3 ≤ w1.heap.size) := Lib.hid (by have := hb.size; simpa using this)
    clear hb
    cases ha : mayA (host, lo) with
    | false =>
      have GA := Lib.hid ha; clear ha
      go_wp2
      go_ret
      exact ⟨ret_b (by simp [GA.out] <;> (intros; omega)), HW1.out⟩
    | true =>
      have GA := Lib.hid ha; clear ha
      go_wp2_with fail
      refine (HB.out _).mono ?_
      rintro e w2 ⟨rfl, hb⟩
      obtain ⟨c1, c2, c3, c4, c5, c6⟩ := HF.out w2 (hb.mono HS1.out)
      have HW2 : Hid (Below w.heap.size w w2) := Lib.hid (HW1.out.trans (hb.mono (by have := HS1.out; omega)))
      clear hb d0 d1 d2 d3
      cases hb : mayA (host, hi) with
      | false =>
        have GB := Lib.hid hb; clear hb
        go_wp2
        go_ret
        exact ⟨ret_b (by simp [GA.out, GB.out] <;> (intros; omega)), HW2.out⟩
      | true =>
        have GB := Lib.hid hb; clear hb
        by_cases k1 : lo ≤ hi
        case neg =>
          go_wp2
          go_ret
          exact ⟨ret_b (by simp [k1, GA.out, GB.out] <;> (intros; omega)), HW2.out⟩
        case pos =>
          go_wp2_with fail
          refine (HC.out _).mono ?_
          rintro e w3 ⟨rfl, rfl⟩
          cases hb : isWayB map with
          | false =>
            have GC := Lib.hid hb; clear hb
            go_wp2
            go_ret
            exact ⟨ret_b (by simp [k1, GA.out, GB.out, GC.out] <;> (intros; omega)), HW2.out⟩
          | true =>
            have GC := Lib.hid hb; clear hb
            go_wp2_with fail
            refine (HD.out _).mono ?_
            rintro e w3 ⟨rfl, rfl⟩
            cases hb : isWayB filter with
            | false =>
              have GD := Lib.hid hb; clear hb
              go_wp2
              go_ret
              exact ⟨ret_b (by simp [k1, GA.out, GB.out, GC.out, GD.out] <;> (intros; omega)), HW2.out⟩
            | true =>
              have GD := Lib.hid hb; clear hb
              by_cases k2 : 1 ≤ life
              case neg =>
                go_wp2
                go_ret
                exact ⟨ret_b (by simp [k1, GA.out, GB.out, GC.out, GD.out, k2] <;> (intros; omega)), HW2.out⟩
              case pos =>
                by_cases k3 : life ≤ 1099511627776
                case neg =>
                  go_wp2
                  go_ret
                  exact ⟨ret_b (by simp [k1, GA.out, GB.out, GC.out, GD.out, k2, k3] <;> (intros; omega)), HW2.out⟩
                case pos =>
                  by_cases k4 : 1 ≤ most
                  case neg =>
                    go_wp2
                    go_ret
                    exact ⟨ret_b (by simp [k1, GA.out, GB.out, GC.out, GD.out, k2, k3, k4] <;> (intros; omega)), HW2.out⟩
                  case pos =>
                    by_cases k5 : most ≤ 100
                    case neg =>
                      go_wp2
                      go_ret
                      exact ⟨ret_b (by simp [k1, GA.out, GB.out, GC.out, GD.out, k2, k3, k4, k5] <;> (intros; omega)), HW2.out⟩
                    case pos =>
                      go_wp2
                      go_ret
                      exact ⟨ret_b (by simp [k1, k2, k3, k4, k5, GA.out, GB.out, GC.out, GD.out] <;> (intros; omega)), HW2.out⟩
end Go.Proofs.Ytidhdgcmagpkgaa
