/-
  Contract of slices.Concat of two rows of sites. Conditions: as each lemma states.
-/
import Derived.Test.YtidhdgcmagpkgaaWc
namespace Go.Proofs.Ytidhdgcmagpkgaa
open Go.RowKit
attribute [local go_sem] Oper.semAt_some
set_option linter.unusedVariables false
set_option linter.unusedSimpArgs false

set_option maxRecDepth 100000 in
set_option maxHeartbeats 4000000 in
theorem concat_s (p : Nat) (A0 A1 : Option Addr) (c0 c1 : Nat) (l0 l1 : List St) (w : World) (h0 : w.cell? ⟨p, 0, none⟩ = some (.slice A0 l0.length c0)) (h1 : w.cell? ⟨p, 1, none⟩ = some (.slice A1 l1.length c1))
    (s0 : SAt w A0 l0) (s1 : SAt w A1 l1) (e0 : A0 = none → l0 = [] ∧ c0 = 0) (e1 : A1 = none → l1 = [] ∧ c1 = 0) (k0 : l0.length ≤ 16) (k1 : l1.length ≤ 16) :
    Calls Try.prog 28 #[.slice (some ⟨p, 0, none⟩) 2 2] w fun e w' => ∃ v, e = .returned v ∧ w'.ownsRow w.heap.size 42 2 v (l0 ++ l1).length (cellsS (l0 ++ l1)) ∧ Below w.heap.size w w' := by
  obtain ⟨n0, hn0⟩ : ∃ n, l0.length = n := ⟨_, rfl⟩
  obtain ⟨n1, hn1⟩ : ∃ n, l1.length = n := ⟨_, rfl⟩
  have HG := Lib.hid (grow_s (n0 + n1) w (by omega))
  have hpl := World.block_lt_of_cell? w _ h0
  have H0 : Hid (∀ W, Below w.heap.size w W → W.cell? ⟨p, 0, none⟩ = some (.slice A0 n0 c0) ∧ W.cell? ⟨p, 1, none⟩ = some (.slice A1 n1 c1)) := Lib.hid (fun W hb => ⟨(hb.cell (p := ⟨p, 0, none⟩) hpl).trans (hn0 ▸ h0), (hb.cell (p := ⟨p, 1, none⟩) hpl).trans (hn1 ▸ h1)⟩)
  have HN : Hid (l0.length = n0 ∧ l1.length = n1) := Lib.hid ⟨hn0, hn1⟩
  have HA : Hid (∀ W v, Below w.heap.size w W → W.ownsRow w.heap.size 42 2 v ([] : List St).length (cellsS []) → ∃ v' w', (∀ ty, (Builtin.append_ #[24, 24] ty #[v, .slice A0 n0 c0]).run Try.prog W = .ok v' w') ∧ w'.ownsRow w.heap.size 42 2 v' l0.length (cellsS l0) ∧ Below w.heap.size w w') := Lib.hid (fun W v hb hr => by
    obtain ⟨v', w', r1, r2, r3, r4⟩ := run_app_s (c := c0) hr (s0.below hb) e0 (by simp; omega) hb.size
    exact ⟨v', w', by rw [← hn0]; exact r1, by simpa using r2, hb.trans r4⟩)
  have HB : Hid (∀ W v, Below w.heap.size w W → W.ownsRow w.heap.size 42 2 v l0.length (cellsS l0) → ∃ v' w', (∀ ty, (Builtin.append_ #[24, 24] ty #[v, .slice A1 n1 c1]).run Try.prog W = .ok v' w') ∧ w'.ownsRow w.heap.size 42 2 v' (l0 ++ l1).length (cellsS (l0 ++ l1)) ∧ Below w.heap.size w w') := Lib.hid (fun W v hb hr => by
    obtain ⟨v', w', r1, r2, r3, r4⟩ := run_app_s (c := c1) hr (s1.below hb) e1 (by omega) hb.size
    exact ⟨v', w', by rw [← hn1]; exact r1, r2, hb.trans r4⟩)
  rw [hn0] at h0
  rw [hn1] at h1
  have b0 : n0 ≤ 16 := by omega
  have b1 : n1 ≤ 16 := by omega
  clear s0 s1 e0 e1 k0 k1 hn0 hn1
  go_enter Try.func28, Try.ntmps28
  go_wp2
  go_loopw [11, 3] (fun i v wr => ((i = .int .i64 0 ∧ v = .int .i64 0) ∨ (i = .int .i64 1 ∧ v = .int .i64 (n0 : Int)) ∨ (i = .int .i64 2 ∧ v = .int .i64 ((n0 + n1 : Nat) : Int))) ∧ w = wr) (fun i _ _ => 2 - (intOf i).toNat)
  case atStart => exact ⟨.inl ⟨rfl, rfl⟩, rfl⟩
  case round =>
    obtain ⟨hi, rfl⟩ := hrel
    rcases hi with ⟨rfl, rfl⟩ | ⟨rfl, rfl⟩ | ⟨rfl, rfl⟩
    · go_wp2
      go_roundw
      case rel => exact ⟨.inr (.inl ⟨by go_num, by go_num⟩), trivial⟩
      case measure => simp [intOf]
    · go_wp2
      go_roundw
      case rel => exact ⟨.inr (.inr ⟨by go_num, by go_num⟩), trivial⟩
      case measure => simp [intOf]
    · go_wp2_with (go_at_call 38; refine HG.out.mono ?_; rintro e w1 ⟨A, c, rfl, ho, hb⟩; have HO1 := Lib.hid ho; have HB1 := Lib.hid hb; clear ho hb)
      go_loopw [27, 6] (fun i v wr => ((i = .int .i64 0 ∧ Hid (wr.ownsRow w.heap.size 42 2 v ([] : List St).length (cellsS []))) ∨ (i = .int .i64 1 ∧ Hid (wr.ownsRow w.heap.size 42 2 v l0.length (cellsS l0))) ∨ (i = .int .i64 2 ∧ Hid (wr.ownsRow w.heap.size 42 2 v (l0 ++ l1).length (cellsS (l0 ++ l1))))) ∧ Hid (Below w.heap.size w wr)) (fun i _ _ => 2 - (intOf i).toNat)
      case atStart => exact ⟨.inl ⟨rfl, HO1⟩, HB1⟩
      case round =>
        obtain ⟨hi, HBW⟩ := hrel
        obtain ⟨y0, y1⟩ := H0.out _ HBW.out
        clear h0 h1
        rcases hi with ⟨rfl, HR⟩ | ⟨rfl, HR⟩ | ⟨rfl, HR⟩
        · obtain ⟨A6, c6, e6, -, -⟩ := own_form HR.out
          obtain ⟨v9, W9, r1, r2, r3⟩ := HA.out _ _ HBW.out HR.out
          have R1 := Lib.hid r1; have R2 := Lib.hid r2; have R3 := Lib.hid r3
          clear r1 r2 r3 e6
          go_wp2_with (at_builtin; refine wpList_run rfl (.tmp 31) (.tmp 32) 24 rfl rfl rfl R1.out ?_)
          go_roundw
          case rel => exact ⟨.inr (.inl ⟨by go_num, R2⟩), R3⟩
          case measure => simp [intOf]
        · obtain ⟨v9, W9, r1, r2, r3⟩ := HB.out _ _ HBW.out HR.out
          have R1 := Lib.hid r1; have R2 := Lib.hid r2; have R3 := Lib.hid r3
          clear r1 r2 r3
          go_wp2_with (at_builtin; refine wpList_run rfl (.tmp 31) (.tmp 32) 24 rfl rfl rfl R1.out ?_)
          go_roundw
          case rel => exact ⟨.inr (.inr ⟨by go_num, R2⟩), R3⟩
          case measure => simp [intOf]
        · go_wp2
          go_ret
          exact ⟨_, rfl, HR.out, HBW.out⟩
end Go.Proofs.Ytidhdgcmagpkgaa
