/-
  hearAnswer. Conditions: as each states.
-/
import Derived.Test.YtdiilgedicfekaaDoorMh12
namespace Go.Proofs.YtdiilgedicfekaaDoor
open Go.RowKit Go.Maps
set_option linter.unusedVariables false
set_option maxRecDepth 100000

section
variable {w0 : World} {nb : Nat} {L : List Item} {R : Option (Nat × List Item)} {os : List (Nat × Obj)} {w : World}
set_option maxHeartbeats 8000000 in
theorem hearAnswer_s (s : Sk) (m : Wi.Msg) (x1 x2 x3 : Value) (h : Sd w0 nb L R os w) (hs : s.Ok) (hL : L.length ≤ 1000000) (hv : MsgV w x1 x2 x3 m) (hm : Wi.may m = true) (hn : 5 ≤ m.nums.length) :
    Calls Tryd.prog 51 #[skv s, .pointer (some ⟨nb, 0, none⟩), .agg #[.int .i64 m.kind, x1, x2, x3]] w (ShAns w0 nb R os w.heap.size (answerO s L m)) := by
  have HOS : Hid (∀ p ∈ os, p.1 < w.heap.size) := Lib.hid (fun p hp => h.lt hp)
  have hw0 := h.low.size
  obtain ⟨mbk, mof, mc, rfl, mbl, mr1, mr2, mcc⟩ := ns_at hv.1 (by omega)
  obtain ⟨A2, d2, A3, d3, l2, l3, rfl, rfl, hl3⟩ : ∃ A2 d2 A3 d3 l2 l3, x2 = .slice A2 l2 d2 ∧ x3 = .slice A3 l3 d3 ∧ m.body.length = l3 := by
    obtain ⟨_, ⟨A2, d2, rfl, _⟩, ⟨A3, d3, rfl, _⟩, _⟩ := hv
    exact ⟨_, _, _, _, _, _, rfl, rfl, rfl⟩
  obtain ⟨n, hn'⟩ : ∃ n, m.nums.length = n := ⟨_, rfl⟩
  obtain ⟨kd, hkd⟩ : ∃ k, m.kind = k := ⟨_, rfl⟩
  have c2 := mcc 2 (by omega)
  have c3 := mcc 3 (by omega)
  obtain ⟨v2, e2⟩ : ∃ v, m.nums.getD 2 0 = v := ⟨_, rfl⟩
  rw [e2] at c2
  obtain ⟨v3, e3⟩ : ∃ v, m.nums.getD 3 0 = v := ⟨_, rfl⟩
  rw [e3] at c3
  have hv2 : v2 ≤ 9223372036854775807 := by rw [← e2]; have := getD_lt hm 2; omega
  rw [hn'] at mr1 hn ⊢
  rw [hkd]
  have t2 : (2 : Int) < (n : Int) := by omega
  have t3 : (3 : Int) < (n : Int) := by omega
  have t2n : 2 < n := by omega
  have t3n : 3 < n := by omega
  clear hv mcc hn' hkd
  obtain ⟨st, own, oth, non, ech⟩ := s
  have HA : Hid (∃ W, ((w.alloc (.cells #[.int .i64 st, .int .i64 own, .int .i64 oth, .int .u64 (non : Int), .int .u64 (ech : Int)] 29)).alloc (.cells #[.int .i64 kd, .slice (some ⟨mbk, mof, none⟩) n mc, .slice A2 l2 d2, .slice A3 l3 d3] 46)).alloc (.cells #[.int .i64 0, .int .i64 0, .int .i64 0, .int .u64 (0 : Int), .int .u64 (0 : Int)] 29) = W ∧ Below w.heap.size w W ∧ Sd w0 nb L R (((w.heap.size + 2), Obj.cells #[.int .i64 0, .int .i64 0, .int .i64 0, .int .u64 (0 : Int), .int .u64 (0 : Int)] 29 (0, 0)) :: ((w.heap.size + 1), Obj.cells #[.int .i64 kd, .slice (some ⟨mbk, mof, none⟩) n mc, .slice A2 l2 d2, .slice A3 l3 d3] 46 (0, 0)) :: (w.heap.size, Obj.cells #[.int .i64 st, .int .i64 own, .int .i64 oth, .int .u64 (non : Int), .int .u64 (ech : Int)] 29 (0, 0)) :: os) W ∧ w.heap.size + 3 ≤ W.heap.size) := Lib.hid ⟨_, rfl, (((Below.refl _ _).alloc (Nat.le_refl _) _).alloc (by simp) _).alloc (by simp; omega) _, (((h.box _ _ rfl).box _ _ (by simp)).box _ _ (by simp)), by simp⟩
  have x2c : (((w.alloc (.cells #[.int .i64 st, .int .i64 own, .int .i64 oth, .int .u64 (non : Int), .int .u64 (ech : Int)] 29)).alloc (.cells #[.int .i64 kd, .slice (some ⟨mbk, mof, none⟩) n mc, .slice A2 l2 d2, .slice A3 l3 d3] 46)).alloc (.cells #[.int .i64 0, .int .i64 0, .int .i64 0, .int .u64 (0 : Int), .int .u64 (0 : Int)] 29)).cell? ⟨mbk, mof + 2, none⟩ = some (.int .u64 (v2 : Int)) := (((((Below.refl _ _).alloc (Nat.le_refl _) _).alloc (by simp) _).alloc (by simp; omega) _ : Below w.heap.size w _).cell (p := ⟨mbk, mof + 2, none⟩) mbl).trans c2
  have x3c : (((w.alloc (.cells #[.int .i64 st, .int .i64 own, .int .i64 oth, .int .u64 (non : Int), .int .u64 (ech : Int)] 29)).alloc (.cells #[.int .i64 kd, .slice (some ⟨mbk, mof, none⟩) n mc, .slice A2 l2 d2, .slice A3 l3 d3] 46)).alloc (.cells #[.int .i64 0, .int .i64 0, .int .i64 0, .int .u64 (0 : Int), .int .u64 (0 : Int)] 29)).cell? ⟨mbk, mof + 3, none⟩ = some (.int .u64 (v3 : Int)) := (((((Below.refl _ _).alloc (Nat.le_refl _) _).alloc (by simp) _).alloc (by simp; omega) _ : Below w.heap.size w _).cell (p := ⟨mbk, mof + 3, none⟩) mbl).trans c3
  by_cases hq : v3 = non
  · subst hq
    have tq : ((v3 : Int) != (v3 : Int)) = false := by simp
    by_cases hs1 : st = 1
    · subst hs1
      have hgo : ¬ (m.nums.getD 3 0 ≠ v3 ∨ ((1 : Int) ≠ 1 ∧ (Sk.mk 1 own oth v3 ech).holds (m.nums.getD 2 0) = false)) := by rw [e3]; simp
      by_cases hbd : 0 < l3
      · have HE : Hid (answerO ⟨1, own, oth, v3, ech⟩ L m = ⟨⟨3, own, oth, v3, v2⟩, [], L⟩) := Lib.hid (by unfold answerO; rw [if_neg hgo, if_pos (by omega), e2])
        have tb : decide ((l3 : Int) > 0) = true := by simp; omega
        have tb2 : (0 : Int) < (l3 : Int) := by omega
        clear h hs hm e2 e3 hgo hl3 hL
        go_enter Tryd.func51, Tryd.ntmps51
        go_wp2
        obtain ⟨W, hW, hB, hA, hz⟩ := HA.out
        rw [hW]
        clear hW
        obtain ⟨⟨a0, af0⟩, ⟨a1, af1⟩, ⟨a2, af2⟩, ⟨a3, af3⟩, ⟨a4, af4⟩, al⟩ := five (hA.held (w.heap.size, Obj.cells #[.int .i64 1, .int .i64 own, .int .i64 oth, .int .u64 (v3 : Int), .int .u64 (ech : Int)] 29 (0, 0)) (by simp))
        obtain ⟨⟨b0, _⟩, ⟨b1, _⟩, ⟨b2, _⟩, ⟨b3, _⟩, bl⟩ := four (hA.held ((w.heap.size + 1), Obj.cells #[.int .i64 kd, .slice (some ⟨mbk, mof, none⟩) n mc, .slice A2 l2 d2, .slice A3 l3 d3] 46 (0, 0)) (by simp))
        have d2' := (hB.cell (p := ⟨mbk, mof + 2, none⟩) mbl).trans c2
        have dl : mbk < W.heap.size := by have := hB.size; omega
        have d3' := (hB.cell (p := ⟨mbk, mof + 3, none⟩) mbl).trans c3
        go_wp2
        refine wp_region_held_drew (S := fun W => W.heap[w.heap.size]? = some (.cells #[.int .i64 1, .int .i64 own, .int .i64 oth, .int .u64 (v3 : Int), .int .u64 (ech : Int)] 29 (0, 0)) ∧ W.heap[(w.heap.size + 1)]? = some (.cells #[.int .i64 kd, .slice (some ⟨mbk, mof, none⟩) n mc, .slice A2 l2 d2, .slice A3 l3 d3] 46 (0, 0)) ∧ W.cell? ⟨mbk, mof + 3, none⟩ = some (.int .u64 (v3 : Int)) ∧ mbk < W.heap.size) (by kernel_rfl) ⟨hA.drew.held (w.heap.size, Obj.cells #[.int .i64 1, .int .i64 own, .int .i64 oth, .int .u64 (v3 : Int), .int .u64 (ech : Int)] 29 (0, 0)) (by simp), hA.drew.held ((w.heap.size + 1), Obj.cells #[.int .i64 kd, .slice (some ⟨mbk, mof, none⟩) n mc, .slice A2 l2 d2, .slice A3 l3 d3] 46 (0, 0)) (by simp), d3', dl⟩ (fun hHeld => ?_)
        refine wpAnyH_take (i := 0) (oi := _) (v := ?_) rfl (by kernel_rfl) (by kernel_rfl) (by kernel_rfl) (fun _ _ _ h => h) (Or.inl ⟨by rfl, ?_⟩) (by assumption) ?_
        case refine_2 => intro w hSw; (try dsimp only at hSw); obtain ⟨⟨z0, _⟩, ⟨z1, _⟩, ⟨z2, _⟩, ⟨z3, _⟩, ⟨z4, _⟩, zl⟩ := five hSw.1; obtain ⟨⟨y0, _⟩, ⟨y1, _⟩, ⟨y2, _⟩, ⟨y3, _⟩, yl⟩ := four hSw.2.1; obtain ⟨-, -, y5, y6⟩ := hSw; go_simp; first | done | (with_reducible rfl)
        try simp only [Act.put, List.getElem_toArray, List.getElem_cons_zero, List.setIfInBounds_toArray, List.set_cons_zero, List.set_cons_succ]
        refine wpAnyH_take (i := 1) (oi := _) (v := ?_) rfl (by kernel_rfl) (by kernel_rfl) (by kernel_rfl) (fun _ _ _ h => h) (Or.inl ⟨by rfl, ?_⟩) (by assumption) ?_
        case refine_2 => intro w hSw; (try dsimp only at hSw); obtain ⟨⟨z0, _⟩, ⟨z1, _⟩, ⟨z2, _⟩, ⟨z3, _⟩, ⟨z4, _⟩, zl⟩ := five hSw.1; obtain ⟨⟨y0, _⟩, ⟨y1, _⟩, ⟨y2, _⟩, ⟨y3, _⟩, yl⟩ := four hSw.2.1; obtain ⟨-, -, y5, y6⟩ := hSw; go_simp; first | done | (with_reducible rfl)
        try simp only [Act.put, List.getElem_toArray, List.getElem_cons_zero, List.getElem_cons_succ, List.setIfInBounds_toArray, List.set_cons_zero, List.set_cons_succ]
        refine wpAnyH_take (i := 2) (oi := _) (v := ?_) rfl (by kernel_rfl) (by kernel_rfl) (by kernel_rfl) (fun _ _ _ h => h) (Or.inl ⟨by rfl, ?_⟩) (by assumption) ?_
        case refine_2 => intro w hSw; (try dsimp only at hSw); obtain ⟨⟨z0, _⟩, ⟨z1, _⟩, ⟨z2, _⟩, ⟨z3, _⟩, ⟨z4, _⟩, zl⟩ := five hSw.1; obtain ⟨⟨y0, _⟩, ⟨y1, _⟩, ⟨y2, _⟩, ⟨y3, _⟩, yl⟩ := four hSw.2.1; obtain ⟨-, -, y5, y6⟩ := hSw; go_simp; first | done | (with_reducible rfl)
        try simp only [Act.put, List.getElem_toArray, List.getElem_cons_zero, List.getElem_cons_succ, List.setIfInBounds_toArray, List.set_cons_zero, List.set_cons_succ]
        refine wpAnyH_take (i := 3) (oi := _) (v := ?_) rfl (by kernel_rfl) (by kernel_rfl) (by kernel_rfl) (fun _ _ _ h => h) (Or.inl ⟨by rfl, ?_⟩) (by assumption) ?_
        case refine_2 => intro w hSw; (try dsimp only at hSw); obtain ⟨⟨z0, _⟩, ⟨z1, _⟩, ⟨z2, _⟩, ⟨z3, _⟩, ⟨z4, _⟩, zl⟩ := five hSw.1; obtain ⟨⟨y0, _⟩, ⟨y1, _⟩, ⟨y2, _⟩, ⟨y3, _⟩, yl⟩ := four hSw.2.1; obtain ⟨-, -, y5, y6⟩ := hSw; go_simp; first | done | (with_reducible rfl)
        try simp only [Act.put, List.getElem_toArray, List.getElem_cons_zero, List.getElem_cons_succ, List.setIfInBounds_toArray, List.set_cons_zero, List.set_cons_succ]
        refine wpAnyH_take (i := 4) (oi := _) (v := ?_) rfl (by kernel_rfl) (by kernel_rfl) (by kernel_rfl) (fun _ _ _ h => h) (Or.inl ⟨by rfl, ?_⟩) (by assumption) ?_
        case refine_2 => intro w hSw; (try dsimp only at hSw); obtain ⟨⟨z0, _⟩, ⟨z1, _⟩, ⟨z2, _⟩, ⟨z3, _⟩, ⟨z4, _⟩, zl⟩ := five hSw.1; obtain ⟨⟨y0, _⟩, ⟨y1, _⟩, ⟨y2, _⟩, ⟨y3, _⟩, yl⟩ := four hSw.2.1; obtain ⟨-, -, y5, y6⟩ := hSw; go_simp; first | done | (with_reducible rfl)
        try simp only [Act.put, List.getElem_toArray, List.getElem_cons_zero, List.getElem_cons_succ, List.setIfInBounds_toArray, List.set_cons_zero, List.set_cons_succ]
        refine wpAnyH_take (i := 5) (oi := _) (v := ?_) rfl (by kernel_rfl) (by kernel_rfl) (by kernel_rfl) (fun _ _ _ h => h) (Or.inl ⟨by rfl, ?_⟩) (by assumption) ?_
        case refine_2 => intro w hSw; (try dsimp only at hSw); obtain ⟨⟨z0, _⟩, ⟨z1, _⟩, ⟨z2, _⟩, ⟨z3, _⟩, ⟨z4, _⟩, zl⟩ := five hSw.1; obtain ⟨⟨y0, _⟩, ⟨y1, _⟩, ⟨y2, _⟩, ⟨y3, _⟩, yl⟩ := four hSw.2.1; obtain ⟨-, -, y5, y6⟩ := hSw; go_simp; first | done | (with_reducible rfl)
        try simp only [Act.put, List.getElem_toArray, List.getElem_cons_zero, List.getElem_cons_succ, List.setIfInBounds_toArray, List.set_cons_zero, List.set_cons_succ]
        refine wpAnyH_take (i := 6) (oi := _) (v := ?_) rfl (by kernel_rfl) (by kernel_rfl) (by kernel_rfl) (fun _ _ _ h => h) (Or.inl ⟨by rfl, ?_⟩) (by assumption) ?_
        case refine_2 => intro w hSw; (try dsimp only at hSw); obtain ⟨⟨z0, _⟩, ⟨z1, _⟩, ⟨z2, _⟩, ⟨z3, _⟩, ⟨z4, _⟩, zl⟩ := five hSw.1; obtain ⟨⟨y0, _⟩, ⟨y1, _⟩, ⟨y2, _⟩, ⟨y3, _⟩, yl⟩ := four hSw.2.1; obtain ⟨-, -, y5, y6⟩ := hSw; go_simp; first | done | (with_reducible rfl)
        try simp only [Act.put, List.getElem_toArray, List.getElem_cons_zero, List.getElem_cons_succ, List.setIfInBounds_toArray, List.set_cons_zero, List.set_cons_succ]
        refine wpAnyH_take (i := 7) (oi := _) (v := ?_) rfl (by kernel_rfl) (by kernel_rfl) (by kernel_rfl) (fun _ _ _ h => h) (Or.inl ⟨by rfl, ?_⟩) (by assumption) ?_
        case refine_2 => intro w hSw; (try dsimp only at hSw); obtain ⟨⟨z0, _⟩, ⟨z1, _⟩, ⟨z2, _⟩, ⟨z3, _⟩, ⟨z4, _⟩, zl⟩ := five hSw.1; obtain ⟨⟨y0, _⟩, ⟨y1, _⟩, ⟨y2, _⟩, ⟨y3, _⟩, yl⟩ := four hSw.2.1; obtain ⟨-, -, y5, y6⟩ := hSw; go_simp; first | done | (with_reducible rfl)
        try simp only [Act.put, List.getElem_toArray, List.getElem_cons_zero, List.getElem_cons_succ, List.setIfInBounds_toArray, List.set_cons_zero, List.set_cons_succ]
        refine wpAnyH_take (i := 8) (oi := _) (v := ?_) rfl (by kernel_rfl) (by kernel_rfl) (by kernel_rfl) (fun _ _ _ h => h) (Or.inl ⟨by rfl, ?_⟩) (by assumption) ?_
        case refine_2 => intro w hSw; (try dsimp only at hSw); obtain ⟨⟨z0, _⟩, ⟨z1, _⟩, ⟨z2, _⟩, ⟨z3, _⟩, ⟨z4, _⟩, zl⟩ := five hSw.1; obtain ⟨⟨y0, _⟩, ⟨y1, _⟩, ⟨y2, _⟩, ⟨y3, _⟩, yl⟩ := four hSw.2.1; obtain ⟨-, -, y5, y6⟩ := hSw; go_simp; first | done | (with_reducible rfl)
        try simp only [Act.put, List.getElem_toArray, List.getElem_cons_zero, List.getElem_cons_succ, List.setIfInBounds_toArray, List.set_cons_zero, List.set_cons_succ]
        refine wpAnyH_take (i := 9) (oi := _) (v := ?_) rfl (by kernel_rfl) (by kernel_rfl) (by kernel_rfl) (fun _ _ _ h => h) (Or.inl ⟨by rfl, ?_⟩) (by assumption) ?_
        case refine_2 => intro w hSw; (try dsimp only at hSw); obtain ⟨⟨z0, _⟩, ⟨z1, _⟩, ⟨z2, _⟩, ⟨z3, _⟩, ⟨z4, _⟩, zl⟩ := five hSw.1; obtain ⟨⟨y0, _⟩, ⟨y1, _⟩, ⟨y2, _⟩, ⟨y3, _⟩, yl⟩ := four hSw.2.1; obtain ⟨-, -, y5, y6⟩ := hSw; go_simp; first | done | (with_reducible rfl)
        try simp only [Act.put, List.getElem_toArray, List.getElem_cons_zero, List.getElem_cons_succ, List.setIfInBounds_toArray, List.set_cons_zero, List.set_cons_succ]
        refine wpAnyH_take (i := 10) (oi := _) (v := ?_) rfl (by kernel_rfl) (by kernel_rfl) (by kernel_rfl) (fun _ _ _ h => h) (Or.inl ⟨by rfl, ?_⟩) (by assumption) ?_
        case refine_2 => intro w hSw; (try dsimp only at hSw); obtain ⟨⟨z0, _⟩, ⟨z1, _⟩, ⟨z2, _⟩, ⟨z3, _⟩, ⟨z4, _⟩, zl⟩ := five hSw.1; obtain ⟨⟨y0, _⟩, ⟨y1, _⟩, ⟨y2, _⟩, ⟨y3, _⟩, yl⟩ := four hSw.2.1; obtain ⟨-, -, y5, y6⟩ := hSw; go_simp; first | done | (with_reducible rfl)
        try simp only [Act.put, List.getElem_toArray, List.getElem_cons_zero, List.getElem_cons_succ, List.setIfInBounds_toArray, List.set_cons_zero, List.set_cons_succ]
        refine wpAnyH_take (i := 11) (oi := _) (v := ?_) rfl (by kernel_rfl) (by kernel_rfl) (by kernel_rfl) (fun _ _ _ h => h) (Or.inl ⟨by rfl, ?_⟩) (by assumption) ?_
        case refine_2 => intro w hSw; (try dsimp only at hSw); obtain ⟨⟨z0, _⟩, ⟨z1, _⟩, ⟨z2, _⟩, ⟨z3, _⟩, ⟨z4, _⟩, zl⟩ := five hSw.1; obtain ⟨⟨y0, _⟩, ⟨y1, _⟩, ⟨y2, _⟩, ⟨y3, _⟩, yl⟩ := four hSw.2.1; obtain ⟨-, -, y5, y6⟩ := hSw; go_simp; first | done | (with_reducible rfl)
        try simp only [Act.put, List.getElem_toArray, List.getElem_cons_zero, List.getElem_cons_succ, List.setIfInBounds_toArray, List.set_cons_zero, List.set_cons_succ]
        refine wpAnyH_take (i := 12) (oi := _) (v := undef) rfl (by kernel_rfl) (by kernel_rfl) (by kernel_rfl) (fun _ _ _ h => h) (Or.inr ⟨by rfl, rfl⟩) (by assumption) ?_
        try simp only [Act.put, List.getElem_toArray, List.getElem_cons_zero, List.getElem_cons_succ, List.setIfInBounds_toArray, List.set_cons_zero, List.set_cons_succ]
        refine wpAnyH_take (i := 13) (oi := _) (v := undef) rfl (by kernel_rfl) (by kernel_rfl) (by kernel_rfl) (fun _ _ _ h => h) (Or.inr ⟨by rfl, rfl⟩) (by assumption) ?_
        try simp only [Act.put, List.getElem_toArray, List.getElem_cons_zero, List.getElem_cons_succ, List.setIfInBounds_toArray, List.set_cons_zero, List.set_cons_succ]
        refine wpAnyH_take (i := 14) (oi := _) (v := undef) rfl (by kernel_rfl) (by kernel_rfl) (by kernel_rfl) (fun _ _ _ h => h) (Or.inr ⟨by rfl, rfl⟩) (by assumption) ?_
        try simp only [Act.put, List.getElem_toArray, List.getElem_cons_zero, List.getElem_cons_succ, List.setIfInBounds_toArray, List.set_cons_zero, List.set_cons_succ]
        refine wpAnyH_take (i := 15) (oi := _) (v := undef) rfl (by kernel_rfl) (by kernel_rfl) (by kernel_rfl) (fun _ _ _ h => h) (Or.inr ⟨by rfl, rfl⟩) (by assumption) ?_
        try simp only [Act.put, List.getElem_toArray, List.getElem_cons_zero, List.getElem_cons_succ, List.setIfInBounds_toArray, List.set_cons_zero, List.set_cons_succ]
        refine wpAnyH_take (i := 16) (oi := _) (v := ?_) rfl (by kernel_rfl) (by kernel_rfl) (by kernel_rfl) (fun _ _ _ h => h) (Or.inl ⟨by rfl, ?_⟩) (by assumption) ?_
        case refine_2 => intro w hSw; (try dsimp only at hSw); obtain ⟨⟨z0, _⟩, ⟨z1, _⟩, ⟨z2, _⟩, ⟨z3, _⟩, ⟨z4, _⟩, zl⟩ := five hSw.1; obtain ⟨⟨y0, _⟩, ⟨y1, _⟩, ⟨y2, _⟩, ⟨y3, _⟩, yl⟩ := four hSw.2.1; obtain ⟨-, -, y5, y6⟩ := hSw; go_simp; first | done | (with_reducible rfl)
        try simp only [Act.put, List.getElem_toArray, List.getElem_cons_zero, List.getElem_cons_succ, List.setIfInBounds_toArray, List.set_cons_zero, List.set_cons_succ]
        refine wpAnyH_take (i := 17) (oi := _) (v := ?_) rfl (by kernel_rfl) (by kernel_rfl) (by kernel_rfl) (fun _ _ _ h => h) (Or.inl ⟨by rfl, ?_⟩) (by assumption) ?_
        case refine_2 => intro w hSw; (try dsimp only at hSw); obtain ⟨⟨z0, _⟩, ⟨z1, _⟩, ⟨z2, _⟩, ⟨z3, _⟩, ⟨z4, _⟩, zl⟩ := five hSw.1; obtain ⟨⟨y0, _⟩, ⟨y1, _⟩, ⟨y2, _⟩, ⟨y3, _⟩, yl⟩ := four hSw.2.1; obtain ⟨-, -, y5, y6⟩ := hSw; go_simp; first | done | (with_reducible rfl)
        try simp only [Act.put, List.getElem_toArray, List.getElem_cons_zero, List.getElem_cons_succ, List.setIfInBounds_toArray, List.set_cons_zero, List.set_cons_succ]
        refine wpAnyH_done (by kernel_rfl) ?_ _
        have hA := hA.drew
        have hz9 : w.heap.size + 3 ≤ W.drew.heap.size := hz
        obtain ⟨W9, hW9⟩ : ∃ W9, W.drew = W9 := ⟨_, rfl⟩
        rw [hW9] at hA hz9 ⊢
        clear hHeld hW9 hB a0 a1 a2 a3 a4 af0 af1 af2 af3 af4 b0 b1 b2 b3
        obtain ⟨⟨a0, af0⟩, ⟨a1, af1⟩, ⟨a2, af2⟩, ⟨a3, af3⟩, ⟨a4, af4⟩, al⟩ := five (hA.held (w.heap.size, Obj.cells #[.int .i64 1, .int .i64 own, .int .i64 oth, .int .u64 (v3 : Int), .int .u64 (ech : Int)] 29 (0, 0)) (by simp))
        obtain ⟨⟨b0, _⟩, ⟨b1, _⟩, ⟨b2, _⟩, ⟨b3, _⟩, bl⟩ := four (hA.held ((w.heap.size + 1), Obj.cells #[.int .i64 kd, .slice (some ⟨mbk, mof, none⟩) n mc, .slice A2 l2 d2, .slice A3 l3 d3] 46 (0, 0)) (by simp))
        have HS4 : Hid (Sd w0 nb L R ((w.heap.size, Obj.cells #[.int .i64 3, .int .i64 own, .int .i64 oth, .int .u64 (v3 : Int), .int .u64 (v2 : Int)] 29 (0, 0)) :: ((w.heap.size + 2), Obj.cells #[.int .i64 0, .int .i64 0, .int .i64 0, .int .u64 (0 : Int), .int .u64 (0 : Int)] 29 (0, 0)) :: os) ((W9.setCell ⟨w.heap.size, 0, none⟩ (.int .i64 3)).setCell ⟨w.heap.size, 4, none⟩ (.int .u64 (v2 : Int)))) := Lib.hid (by
          have q1 := (hA.sub (os' := (w.heap.size, Obj.cells #[.int .i64 1, .int .i64 own, .int .i64 oth, .int .u64 (v3 : Int), .int .u64 (ech : Int)] 29 (0, 0)) :: ((w.heap.size + 2), Obj.cells #[.int .i64 0, .int .i64 0, .int .i64 0, .int .u64 (0 : Int), .int .u64 (0 : Int)] 29 (0, 0)) :: os) (fun p hp => by simp only [List.mem_cons] at hp ⊢; rcases hp with h | h | h <;> simp [h])).store (j := 0) (v := .int .i64 3) (fun p hp => by
            rcases List.mem_cons.1 hp with rfl | hp
            · simp only; omega
            · have := HOS.out p hp; omega) hw0
          have q2 := q1.store (j := 4) (v := .int .u64 (v2 : Int)) (fun p hp => by
            rcases List.mem_cons.1 hp with rfl | hp
            · simp only; omega
            · have := HOS.out p hp; omega) hw0
          simpa using q2)
        obtain ⟨⟨q0, qf0⟩, ⟨q1, qf1⟩, ⟨q2, qf2⟩, ⟨q3, qf3⟩, ⟨q4, qf4⟩, ql⟩ := five (hA.held ((w.heap.size + 2), Obj.cells #[.int .i64 0, .int .i64 0, .int .i64 0, .int .u64 (0 : Int), .int .u64 (0 : Int)] 29 (0, 0)) (by simp))
        go_wp2
        obtain ⟨W6, hW6⟩ : ∃ W6, (((((((W9.setCell ⟨w.heap.size, 0, none⟩ (.int .i64 3)).setCell ⟨w.heap.size, 4, none⟩ (.int .u64 (v2 : Int)))).setCell ⟨(w.heap.size + 2), 0, none⟩ (.int .i64 3)).setCell ⟨(w.heap.size + 2), 1, none⟩ (.int .i64 own)).setCell ⟨(w.heap.size + 2), 2, none⟩ (.int .i64 oth)).setCell ⟨(w.heap.size + 2), 3, none⟩ (.int .u64 (v3 : Int))).setCell ⟨(w.heap.size + 2), 4, none⟩ (.int .u64 (v2 : Int)) = W6 := ⟨_, rfl⟩
        have hk6 : W6.heap[(w.heap.size + 2)]? = some (.cells #[.int .i64 3, .int .i64 own, .int .i64 oth, .int .u64 (v3 : Int), .int .u64 (v2 : Int)] 29 (0, 0)) := by rw [← hW6]; exact set5_heap (HS4.out.held ((w.heap.size + 2), Obj.cells #[.int .i64 0, .int .i64 0, .int .i64 0, .int .u64 (0 : Int), .int .u64 (0 : Int)] 29 (0, 0)) (by simp))
        have HS6 : Hid (Sd w0 nb L R os W6) := Lib.hid (by rw [← hW6]; exact HS4.out.drop ((w.heap.size + 2), Obj.cells #[.int .i64 0, .int .i64 0, .int .i64 0, .int .u64 (0 : Int), .int .u64 (0 : Int)] 29 (0, 0)) (by simp) (by simp only; omega) (keeps5 _ _ _ _ _ _ _) _ (fun p hp => ⟨by simp [hp], by have := HOS.out p hp; simp only; omega⟩))
        clear q0 q1 q2 q3 q4 qf0 qf1 qf2 qf3 qf4
        rw [hW6]
        clear hW6
        obtain ⟨⟨q0, qf0⟩, ⟨q1, qf1⟩, ⟨q2, qf2⟩, ⟨q3, qf3⟩, ⟨q4, qf4⟩, ql⟩ := five hk6
        clear hk6
        refine ⟨rfl, .tuple #[.agg #[.int .i64 3, .int .i64 own, .int .i64 oth, .int .u64 (v3 : Int), .int .u64 (v2 : Int)], .slice none 0 0], by simp [results, Tryd.f51, go_sem, q0, q1, q2, q3, q4], ?_⟩
        unfold ShAns
        rw [HE.out]
        exact ⟨_, rfl, sent_nil HS6.out⟩
      · have HE : Hid (∀ v w', Sent w0 nb (answerL L ⟨3, own, oth, v3, v2⟩ [1]) R os w.heap.size (answerB L ⟨3, own, oth, v3, v2⟩ [1]) v w' → ShAns w0 nb R os w.heap.size (answerO ⟨1, own, oth, v3, ech⟩ L m) (.returned (.tuple #[skv ⟨3, own, oth, v3, v2⟩, v])) w') := Lib.hid (fun v w' h => by
          have e : answerO ⟨1, own, oth, v3, ech⟩ L m = ⟨⟨3, own, oth, v3, v2⟩, answerB L ⟨3, own, oth, v3, v2⟩ [1], answerL L ⟨3, own, oth, v3, v2⟩ [1]⟩ := by unfold answerO; rw [if_neg hgo, if_neg (by omega), e2]
          rw [e]
          exact ⟨v, rfl, h⟩)
        have hok : Sk.Ok ⟨3, own, oth, v3, v2⟩ := ⟨by simp, by simp, hs.o1, hs.o2, hs.t1, hs.t2, hs.ne, hs.n1, hs.n2, hv2⟩
        have HC := Lib.hid (fun (V : World) (hV : Sd w0 nb L R ((V.heap.size - 1, Obj.cells #[.int .u8 1] 5 (0, 0)) :: (w.heap.size, Obj.cells #[.int .i64 3, .int .i64 own, .int .i64 oth, .int .u64 (v3 : Int), .int .u64 (v2 : Int)] 29 (0, 0)) :: ((w.heap.size + 2), Obj.cells #[.int .i64 0, .int .i64 0, .int .i64 0, .int .u64 (0 : Int), .int .u64 (0 : Int)] 29 (0, 0)) :: os) V) => answer_s ⟨3, own, oth, v3, v2⟩ [1] (.slice (some ⟨V.heap.size - 1, 0, none⟩) 1 1) (.inr ⟨_, rfl, rfl, by simp⟩) hV hok hL)
        have tb : decide ((l3 : Int) > 0) = false := by simp; omega
        have tb2 : ¬ (0 : Int) < (l3 : Int) := by omega
        clear h hs hm e2 e3 hgo hl3 hL hok
        go_enter Tryd.func51, Tryd.ntmps51
        go_wp2
        obtain ⟨W, hW, hB, hA, hz⟩ := HA.out
        rw [hW]
        clear hW
        obtain ⟨⟨a0, af0⟩, ⟨a1, af1⟩, ⟨a2, af2⟩, ⟨a3, af3⟩, ⟨a4, af4⟩, al⟩ := five (hA.held (w.heap.size, Obj.cells #[.int .i64 1, .int .i64 own, .int .i64 oth, .int .u64 (v3 : Int), .int .u64 (ech : Int)] 29 (0, 0)) (by simp))
        obtain ⟨⟨b0, _⟩, ⟨b1, _⟩, ⟨b2, _⟩, ⟨b3, _⟩, bl⟩ := four (hA.held ((w.heap.size + 1), Obj.cells #[.int .i64 kd, .slice (some ⟨mbk, mof, none⟩) n mc, .slice A2 l2 d2, .slice A3 l3 d3] 46 (0, 0)) (by simp))
        have d2' := (hB.cell (p := ⟨mbk, mof + 2, none⟩) mbl).trans c2
        have dl : mbk < W.heap.size := by have := hB.size; omega
        have d3' := (hB.cell (p := ⟨mbk, mof + 3, none⟩) mbl).trans c3
        go_wp2
        refine wp_region_held_drew (S := fun W => W.heap[w.heap.size]? = some (.cells #[.int .i64 1, .int .i64 own, .int .i64 oth, .int .u64 (v3 : Int), .int .u64 (ech : Int)] 29 (0, 0)) ∧ W.heap[(w.heap.size + 1)]? = some (.cells #[.int .i64 kd, .slice (some ⟨mbk, mof, none⟩) n mc, .slice A2 l2 d2, .slice A3 l3 d3] 46 (0, 0)) ∧ W.cell? ⟨mbk, mof + 3, none⟩ = some (.int .u64 (v3 : Int)) ∧ mbk < W.heap.size) (by kernel_rfl) ⟨hA.drew.held (w.heap.size, Obj.cells #[.int .i64 1, .int .i64 own, .int .i64 oth, .int .u64 (v3 : Int), .int .u64 (ech : Int)] 29 (0, 0)) (by simp), hA.drew.held ((w.heap.size + 1), Obj.cells #[.int .i64 kd, .slice (some ⟨mbk, mof, none⟩) n mc, .slice A2 l2 d2, .slice A3 l3 d3] 46 (0, 0)) (by simp), d3', dl⟩ (fun hHeld => ?_)
        refine wpAnyH_take (i := 0) (oi := _) (v := ?_) rfl (by kernel_rfl) (by kernel_rfl) (by kernel_rfl) (fun _ _ _ h => h) (Or.inl ⟨by rfl, ?_⟩) (by assumption) ?_
        case refine_2 => intro w hSw; (try dsimp only at hSw); obtain ⟨⟨z0, _⟩, ⟨z1, _⟩, ⟨z2, _⟩, ⟨z3, _⟩, ⟨z4, _⟩, zl⟩ := five hSw.1; obtain ⟨⟨y0, _⟩, ⟨y1, _⟩, ⟨y2, _⟩, ⟨y3, _⟩, yl⟩ := four hSw.2.1; obtain ⟨-, -, y5, y6⟩ := hSw; go_simp; first | done | (with_reducible rfl)
        try simp only [Act.put, List.getElem_toArray, List.getElem_cons_zero, List.setIfInBounds_toArray, List.set_cons_zero, List.set_cons_succ]
        refine wpAnyH_take (i := 1) (oi := _) (v := ?_) rfl (by kernel_rfl) (by kernel_rfl) (by kernel_rfl) (fun _ _ _ h => h) (Or.inl ⟨by rfl, ?_⟩) (by assumption) ?_
        case refine_2 => intro w hSw; (try dsimp only at hSw); obtain ⟨⟨z0, _⟩, ⟨z1, _⟩, ⟨z2, _⟩, ⟨z3, _⟩, ⟨z4, _⟩, zl⟩ := five hSw.1; obtain ⟨⟨y0, _⟩, ⟨y1, _⟩, ⟨y2, _⟩, ⟨y3, _⟩, yl⟩ := four hSw.2.1; obtain ⟨-, -, y5, y6⟩ := hSw; go_simp; first | done | (with_reducible rfl)
        try simp only [Act.put, List.getElem_toArray, List.getElem_cons_zero, List.getElem_cons_succ, List.setIfInBounds_toArray, List.set_cons_zero, List.set_cons_succ]
        refine wpAnyH_take (i := 2) (oi := _) (v := ?_) rfl (by kernel_rfl) (by kernel_rfl) (by kernel_rfl) (fun _ _ _ h => h) (Or.inl ⟨by rfl, ?_⟩) (by assumption) ?_
        case refine_2 => intro w hSw; (try dsimp only at hSw); obtain ⟨⟨z0, _⟩, ⟨z1, _⟩, ⟨z2, _⟩, ⟨z3, _⟩, ⟨z4, _⟩, zl⟩ := five hSw.1; obtain ⟨⟨y0, _⟩, ⟨y1, _⟩, ⟨y2, _⟩, ⟨y3, _⟩, yl⟩ := four hSw.2.1; obtain ⟨-, -, y5, y6⟩ := hSw; go_simp; first | done | (with_reducible rfl)
        try simp only [Act.put, List.getElem_toArray, List.getElem_cons_zero, List.getElem_cons_succ, List.setIfInBounds_toArray, List.set_cons_zero, List.set_cons_succ]
        refine wpAnyH_take (i := 3) (oi := _) (v := ?_) rfl (by kernel_rfl) (by kernel_rfl) (by kernel_rfl) (fun _ _ _ h => h) (Or.inl ⟨by rfl, ?_⟩) (by assumption) ?_
        case refine_2 => intro w hSw; (try dsimp only at hSw); obtain ⟨⟨z0, _⟩, ⟨z1, _⟩, ⟨z2, _⟩, ⟨z3, _⟩, ⟨z4, _⟩, zl⟩ := five hSw.1; obtain ⟨⟨y0, _⟩, ⟨y1, _⟩, ⟨y2, _⟩, ⟨y3, _⟩, yl⟩ := four hSw.2.1; obtain ⟨-, -, y5, y6⟩ := hSw; go_simp; first | done | (with_reducible rfl)
        try simp only [Act.put, List.getElem_toArray, List.getElem_cons_zero, List.getElem_cons_succ, List.setIfInBounds_toArray, List.set_cons_zero, List.set_cons_succ]
        refine wpAnyH_take (i := 4) (oi := _) (v := ?_) rfl (by kernel_rfl) (by kernel_rfl) (by kernel_rfl) (fun _ _ _ h => h) (Or.inl ⟨by rfl, ?_⟩) (by assumption) ?_
        case refine_2 => intro w hSw; (try dsimp only at hSw); obtain ⟨⟨z0, _⟩, ⟨z1, _⟩, ⟨z2, _⟩, ⟨z3, _⟩, ⟨z4, _⟩, zl⟩ := five hSw.1; obtain ⟨⟨y0, _⟩, ⟨y1, _⟩, ⟨y2, _⟩, ⟨y3, _⟩, yl⟩ := four hSw.2.1; obtain ⟨-, -, y5, y6⟩ := hSw; go_simp; first | done | (with_reducible rfl)
        try simp only [Act.put, List.getElem_toArray, List.getElem_cons_zero, List.getElem_cons_succ, List.setIfInBounds_toArray, List.set_cons_zero, List.set_cons_succ]
        refine wpAnyH_take (i := 5) (oi := _) (v := ?_) rfl (by kernel_rfl) (by kernel_rfl) (by kernel_rfl) (fun _ _ _ h => h) (Or.inl ⟨by rfl, ?_⟩) (by assumption) ?_
        case refine_2 => intro w hSw; (try dsimp only at hSw); obtain ⟨⟨z0, _⟩, ⟨z1, _⟩, ⟨z2, _⟩, ⟨z3, _⟩, ⟨z4, _⟩, zl⟩ := five hSw.1; obtain ⟨⟨y0, _⟩, ⟨y1, _⟩, ⟨y2, _⟩, ⟨y3, _⟩, yl⟩ := four hSw.2.1; obtain ⟨-, -, y5, y6⟩ := hSw; go_simp; first | done | (with_reducible rfl)
        try simp only [Act.put, List.getElem_toArray, List.getElem_cons_zero, List.getElem_cons_succ, List.setIfInBounds_toArray, List.set_cons_zero, List.set_cons_succ]
        refine wpAnyH_take (i := 6) (oi := _) (v := ?_) rfl (by kernel_rfl) (by kernel_rfl) (by kernel_rfl) (fun _ _ _ h => h) (Or.inl ⟨by rfl, ?_⟩) (by assumption) ?_
        case refine_2 => intro w hSw; (try dsimp only at hSw); obtain ⟨⟨z0, _⟩, ⟨z1, _⟩, ⟨z2, _⟩, ⟨z3, _⟩, ⟨z4, _⟩, zl⟩ := five hSw.1; obtain ⟨⟨y0, _⟩, ⟨y1, _⟩, ⟨y2, _⟩, ⟨y3, _⟩, yl⟩ := four hSw.2.1; obtain ⟨-, -, y5, y6⟩ := hSw; go_simp; first | done | (with_reducible rfl)
        try simp only [Act.put, List.getElem_toArray, List.getElem_cons_zero, List.getElem_cons_succ, List.setIfInBounds_toArray, List.set_cons_zero, List.set_cons_succ]
        refine wpAnyH_take (i := 7) (oi := _) (v := ?_) rfl (by kernel_rfl) (by kernel_rfl) (by kernel_rfl) (fun _ _ _ h => h) (Or.inl ⟨by rfl, ?_⟩) (by assumption) ?_
        case refine_2 => intro w hSw; (try dsimp only at hSw); obtain ⟨⟨z0, _⟩, ⟨z1, _⟩, ⟨z2, _⟩, ⟨z3, _⟩, ⟨z4, _⟩, zl⟩ := five hSw.1; obtain ⟨⟨y0, _⟩, ⟨y1, _⟩, ⟨y2, _⟩, ⟨y3, _⟩, yl⟩ := four hSw.2.1; obtain ⟨-, -, y5, y6⟩ := hSw; go_simp; first | done | (with_reducible rfl)
        try simp only [Act.put, List.getElem_toArray, List.getElem_cons_zero, List.getElem_cons_succ, List.setIfInBounds_toArray, List.set_cons_zero, List.set_cons_succ]
        refine wpAnyH_take (i := 8) (oi := _) (v := ?_) rfl (by kernel_rfl) (by kernel_rfl) (by kernel_rfl) (fun _ _ _ h => h) (Or.inl ⟨by rfl, ?_⟩) (by assumption) ?_
        case refine_2 => intro w hSw; (try dsimp only at hSw); obtain ⟨⟨z0, _⟩, ⟨z1, _⟩, ⟨z2, _⟩, ⟨z3, _⟩, ⟨z4, _⟩, zl⟩ := five hSw.1; obtain ⟨⟨y0, _⟩, ⟨y1, _⟩, ⟨y2, _⟩, ⟨y3, _⟩, yl⟩ := four hSw.2.1; obtain ⟨-, -, y5, y6⟩ := hSw; go_simp; first | done | (with_reducible rfl)
        try simp only [Act.put, List.getElem_toArray, List.getElem_cons_zero, List.getElem_cons_succ, List.setIfInBounds_toArray, List.set_cons_zero, List.set_cons_succ]
        refine wpAnyH_take (i := 9) (oi := _) (v := ?_) rfl (by kernel_rfl) (by kernel_rfl) (by kernel_rfl) (fun _ _ _ h => h) (Or.inl ⟨by rfl, ?_⟩) (by assumption) ?_
        case refine_2 => intro w hSw; (try dsimp only at hSw); obtain ⟨⟨z0, _⟩, ⟨z1, _⟩, ⟨z2, _⟩, ⟨z3, _⟩, ⟨z4, _⟩, zl⟩ := five hSw.1; obtain ⟨⟨y0, _⟩, ⟨y1, _⟩, ⟨y2, _⟩, ⟨y3, _⟩, yl⟩ := four hSw.2.1; obtain ⟨-, -, y5, y6⟩ := hSw; go_simp; first | done | (with_reducible rfl)
        try simp only [Act.put, List.getElem_toArray, List.getElem_cons_zero, List.getElem_cons_succ, List.setIfInBounds_toArray, List.set_cons_zero, List.set_cons_succ]
        refine wpAnyH_take (i := 10) (oi := _) (v := ?_) rfl (by kernel_rfl) (by kernel_rfl) (by kernel_rfl) (fun _ _ _ h => h) (Or.inl ⟨by rfl, ?_⟩) (by assumption) ?_
        case refine_2 => intro w hSw; (try dsimp only at hSw); obtain ⟨⟨z0, _⟩, ⟨z1, _⟩, ⟨z2, _⟩, ⟨z3, _⟩, ⟨z4, _⟩, zl⟩ := five hSw.1; obtain ⟨⟨y0, _⟩, ⟨y1, _⟩, ⟨y2, _⟩, ⟨y3, _⟩, yl⟩ := four hSw.2.1; obtain ⟨-, -, y5, y6⟩ := hSw; go_simp; first | done | (with_reducible rfl)
        try simp only [Act.put, List.getElem_toArray, List.getElem_cons_zero, List.getElem_cons_succ, List.setIfInBounds_toArray, List.set_cons_zero, List.set_cons_succ]
        refine wpAnyH_take (i := 11) (oi := _) (v := ?_) rfl (by kernel_rfl) (by kernel_rfl) (by kernel_rfl) (fun _ _ _ h => h) (Or.inl ⟨by rfl, ?_⟩) (by assumption) ?_
        case refine_2 => intro w hSw; (try dsimp only at hSw); obtain ⟨⟨z0, _⟩, ⟨z1, _⟩, ⟨z2, _⟩, ⟨z3, _⟩, ⟨z4, _⟩, zl⟩ := five hSw.1; obtain ⟨⟨y0, _⟩, ⟨y1, _⟩, ⟨y2, _⟩, ⟨y3, _⟩, yl⟩ := four hSw.2.1; obtain ⟨-, -, y5, y6⟩ := hSw; go_simp; first | done | (with_reducible rfl)
        try simp only [Act.put, List.getElem_toArray, List.getElem_cons_zero, List.getElem_cons_succ, List.setIfInBounds_toArray, List.set_cons_zero, List.set_cons_succ]
        refine wpAnyH_take (i := 12) (oi := _) (v := undef) rfl (by kernel_rfl) (by kernel_rfl) (by kernel_rfl) (fun _ _ _ h => h) (Or.inr ⟨by rfl, rfl⟩) (by assumption) ?_
        try simp only [Act.put, List.getElem_toArray, List.getElem_cons_zero, List.getElem_cons_succ, List.setIfInBounds_toArray, List.set_cons_zero, List.set_cons_succ]
        refine wpAnyH_take (i := 13) (oi := _) (v := undef) rfl (by kernel_rfl) (by kernel_rfl) (by kernel_rfl) (fun _ _ _ h => h) (Or.inr ⟨by rfl, rfl⟩) (by assumption) ?_
        try simp only [Act.put, List.getElem_toArray, List.getElem_cons_zero, List.getElem_cons_succ, List.setIfInBounds_toArray, List.set_cons_zero, List.set_cons_succ]
        refine wpAnyH_take (i := 14) (oi := _) (v := undef) rfl (by kernel_rfl) (by kernel_rfl) (by kernel_rfl) (fun _ _ _ h => h) (Or.inr ⟨by rfl, rfl⟩) (by assumption) ?_
        try simp only [Act.put, List.getElem_toArray, List.getElem_cons_zero, List.getElem_cons_succ, List.setIfInBounds_toArray, List.set_cons_zero, List.set_cons_succ]
        refine wpAnyH_take (i := 15) (oi := _) (v := undef) rfl (by kernel_rfl) (by kernel_rfl) (by kernel_rfl) (fun _ _ _ h => h) (Or.inr ⟨by rfl, rfl⟩) (by assumption) ?_
        try simp only [Act.put, List.getElem_toArray, List.getElem_cons_zero, List.getElem_cons_succ, List.setIfInBounds_toArray, List.set_cons_zero, List.set_cons_succ]
        refine wpAnyH_take (i := 16) (oi := _) (v := ?_) rfl (by kernel_rfl) (by kernel_rfl) (by kernel_rfl) (fun _ _ _ h => h) (Or.inl ⟨by rfl, ?_⟩) (by assumption) ?_
        case refine_2 => intro w hSw; (try dsimp only at hSw); obtain ⟨⟨z0, _⟩, ⟨z1, _⟩, ⟨z2, _⟩, ⟨z3, _⟩, ⟨z4, _⟩, zl⟩ := five hSw.1; obtain ⟨⟨y0, _⟩, ⟨y1, _⟩, ⟨y2, _⟩, ⟨y3, _⟩, yl⟩ := four hSw.2.1; obtain ⟨-, -, y5, y6⟩ := hSw; go_simp; first | done | (with_reducible rfl)
        try simp only [Act.put, List.getElem_toArray, List.getElem_cons_zero, List.getElem_cons_succ, List.setIfInBounds_toArray, List.set_cons_zero, List.set_cons_succ]
        refine wpAnyH_take (i := 17) (oi := _) (v := ?_) rfl (by kernel_rfl) (by kernel_rfl) (by kernel_rfl) (fun _ _ _ h => h) (Or.inl ⟨by rfl, ?_⟩) (by assumption) ?_
        case refine_2 => intro w hSw; (try dsimp only at hSw); obtain ⟨⟨z0, _⟩, ⟨z1, _⟩, ⟨z2, _⟩, ⟨z3, _⟩, ⟨z4, _⟩, zl⟩ := five hSw.1; obtain ⟨⟨y0, _⟩, ⟨y1, _⟩, ⟨y2, _⟩, ⟨y3, _⟩, yl⟩ := four hSw.2.1; obtain ⟨-, -, y5, y6⟩ := hSw; go_simp; first | done | (with_reducible rfl)
        try simp only [Act.put, List.getElem_toArray, List.getElem_cons_zero, List.getElem_cons_succ, List.setIfInBounds_toArray, List.set_cons_zero, List.set_cons_succ]
        refine wpAnyH_done (by kernel_rfl) ?_ _
        have hA := hA.drew
        have hz9 : w.heap.size + 3 ≤ W.drew.heap.size := hz
        obtain ⟨W9, hW9⟩ : ∃ W9, W.drew = W9 := ⟨_, rfl⟩
        rw [hW9] at hA hz9 ⊢
        clear hHeld hW9 hB a0 a1 a2 a3 a4 af0 af1 af2 af3 af4 b0 b1 b2 b3
        obtain ⟨⟨a0, af0⟩, ⟨a1, af1⟩, ⟨a2, af2⟩, ⟨a3, af3⟩, ⟨a4, af4⟩, al⟩ := five (hA.held (w.heap.size, Obj.cells #[.int .i64 1, .int .i64 own, .int .i64 oth, .int .u64 (v3 : Int), .int .u64 (ech : Int)] 29 (0, 0)) (by simp))
        obtain ⟨⟨b0, _⟩, ⟨b1, _⟩, ⟨b2, _⟩, ⟨b3, _⟩, bl⟩ := four (hA.held ((w.heap.size + 1), Obj.cells #[.int .i64 kd, .slice (some ⟨mbk, mof, none⟩) n mc, .slice A2 l2 d2, .slice A3 l3 d3] 46 (0, 0)) (by simp))
        have HS4 : Hid (Sd w0 nb L R ((w.heap.size, Obj.cells #[.int .i64 3, .int .i64 own, .int .i64 oth, .int .u64 (v3 : Int), .int .u64 (v2 : Int)] 29 (0, 0)) :: ((w.heap.size + 2), Obj.cells #[.int .i64 0, .int .i64 0, .int .i64 0, .int .u64 (0 : Int), .int .u64 (0 : Int)] 29 (0, 0)) :: os) ((W9.setCell ⟨w.heap.size, 0, none⟩ (.int .i64 3)).setCell ⟨w.heap.size, 4, none⟩ (.int .u64 (v2 : Int)))) := Lib.hid (by
          have q1 := (hA.sub (os' := (w.heap.size, Obj.cells #[.int .i64 1, .int .i64 own, .int .i64 oth, .int .u64 (v3 : Int), .int .u64 (ech : Int)] 29 (0, 0)) :: ((w.heap.size + 2), Obj.cells #[.int .i64 0, .int .i64 0, .int .i64 0, .int .u64 (0 : Int), .int .u64 (0 : Int)] 29 (0, 0)) :: os) (fun p hp => by simp only [List.mem_cons] at hp ⊢; rcases hp with h | h | h <;> simp [h])).store (j := 0) (v := .int .i64 3) (fun p hp => by
            rcases List.mem_cons.1 hp with rfl | hp
            · simp only; omega
            · have := HOS.out p hp; omega) hw0
          have q2 := q1.store (j := 4) (v := .int .u64 (v2 : Int)) (fun p hp => by
            rcases List.mem_cons.1 hp with rfl | hp
            · simp only; omega
            · have := HOS.out p hp; omega) hw0
          simpa using q2)
        have HSZ5 : Hid (w.heap.size + 3 ≤ ((W9.setCell ⟨w.heap.size, 0, none⟩ (.int .i64 3)).setCell ⟨w.heap.size, 4, none⟩ (.int .u64 (v2 : Int))).heap.size) := Lib.hid (by simp; exact hz9)
        go_wp2
        obtain ⟨W4, hW4⟩ : ∃ W4, ((W9.setCell ⟨w.heap.size, 0, none⟩ (.int .i64 3)).setCell ⟨w.heap.size, 4, none⟩ (.int .u64 (v2 : Int))) = W4 := ⟨_, rfl⟩
        rw [hW4] at HS4 HSZ5 ⊢
        have HSZ4 := HSZ5
        clear hW4 a0 a1 a2 a3 a4 af0 af1 af2 af3 af4 b0 b1 b2 b3 hz9 hA
        have HCA : Hid _ := Lib.hid (HC.out (W4.drew.alloc (.cells #[.int .u8 1] 5)) (by have := HS4.out.drew.box #[.int .u8 1] 5 rfl; simpa using this))
        simp only [World.size_alloc, Nat.add_sub_cancel] at HCA
        refine wp_region_held_drew (S := fun W => W.heap[w.heap.size]? = some (.cells #[.int .i64 3, .int .i64 own, .int .i64 oth, .int .u64 (v3 : Int), .int .u64 (v2 : Int)] 29 (0, 0))) (by kernel_rfl) (HS4.out.drew.held (w.heap.size, Obj.cells #[.int .i64 3, .int .i64 own, .int .i64 oth, .int .u64 (v3 : Int), .int .u64 (v2 : Int)] 29 (0, 0)) (by simp)) (fun hHeld => ?_)
        refine wpAnyH_take (i := 0) (oi := _) (v := ?_) rfl (by kernel_rfl) (by kernel_rfl) (by kernel_rfl) (fun _ _ _ h => h) (Or.inl ⟨by rfl, ?_⟩) (by assumption) ?_
        case refine_2 => intro w hSw; (try dsimp only at hSw); obtain ⟨⟨z0, _⟩, ⟨z1, _⟩, ⟨z2, _⟩, ⟨z3, _⟩, ⟨z4, _⟩, zl⟩ := five hSw; go_simp; first | done | (with_reducible rfl)
        try simp only [Act.put, List.getElem_toArray, List.getElem_cons_zero, List.setIfInBounds_toArray, List.set_cons_zero, List.set_cons_succ]
        refine wpAnyH_take (i := 1) (oi := _) (v := ?_) rfl (by kernel_rfl) (by kernel_rfl) (by kernel_rfl) (fun _ _ _ h => h) (Or.inl ⟨by rfl, ?_⟩) (by assumption) ?_
        case refine_2 => intro w hSw; (try dsimp only at hSw); obtain ⟨⟨z0, _⟩, ⟨z1, _⟩, ⟨z2, _⟩, ⟨z3, _⟩, ⟨z4, _⟩, zl⟩ := five hSw; go_simp; first | done | (with_reducible rfl)
        try simp only [Act.put, List.getElem_toArray, List.getElem_cons_zero, List.getElem_cons_succ, List.setIfInBounds_toArray, List.set_cons_zero, List.set_cons_succ]
        refine wpAnyH_take (i := 2) (oi := _) (v := ?_) rfl (by kernel_rfl) (by kernel_rfl) (by kernel_rfl) (fun _ _ _ h => h) (Or.inl ⟨by rfl, ?_⟩) (by assumption) ?_
        case refine_2 => intro w hSw; (try dsimp only at hSw); obtain ⟨⟨z0, _⟩, ⟨z1, _⟩, ⟨z2, _⟩, ⟨z3, _⟩, ⟨z4, _⟩, zl⟩ := five hSw; go_simp; first | done | (with_reducible rfl)
        try simp only [Act.put, List.getElem_toArray, List.getElem_cons_zero, List.getElem_cons_succ, List.setIfInBounds_toArray, List.set_cons_zero, List.set_cons_succ]
        refine wpAnyH_ready (rs := [3]) (by kernel_rfl) (by simp) ?_
        refine AllReadyH.cons rfl (fun K hK => ?_) AllReadyH.nil
        go_simp
        refine hK.out _ _ ((HS4.out.drew.alloc (.cells #[.int .u8 1] 5)).held (w.heap.size, Obj.cells #[.int .i64 3, .int .i64 own, .int .i64 oth, .int .u64 (v3 : Int), .int .u64 (v2 : Int)] 29 (0, 0)) (by simp)) (fun hHeld => ?_)
        clear hK K
        try simp only [Act.put, List.getElem_toArray, List.getElem_cons_zero, List.getElem_cons_succ, List.setIfInBounds_toArray, List.set_cons_zero, List.set_cons_succ]
        refine wpAnyH_ready (rs := [4]) (by kernel_rfl) (by simp) ?_
        refine AllReadyH.cons rfl (fun K hK => ?_) AllReadyH.nil
        go_simp
        go_at_call 35
        refine HCA.out.mono ?_
        rintro e W5 ⟨v5, rfl, ⟨A5, c5, ho, rfl, a52, a53, a54, a55, a56, a57⟩, a58⟩
        have H53 := Lib.hid a54
        have H54 := Lib.hid a55
        have HO5 : Hid (∀ p ∈ ho, w.heap.size + 3 ≤ p.1) := Lib.hid (fun p hp => Nat.le_trans HSZ4.out (Nat.le_trans (Nat.le_succ _) (a56 p hp)))
        have HS5 := Lib.hid a57
        obtain ⟨zl5, hzl⟩ : ∃ z, (answerB L ⟨3, own, oth, v3, v2⟩ [1]).length = z := ⟨_, rfl⟩
        rw [hzl] at H53 H54 a52 ⊢
        have HZ5 := Lib.hid hzl
        clear a54 a55 a56 a57 a58 hzl
        refine hK.out _ _ (HS5.out.held (w.heap.size, Obj.cells #[.int .i64 3, .int .i64 own, .int .i64 oth, .int .u64 (v3 : Int), .int .u64 (v2 : Int)] 29 (0, 0)) (by simp)) (fun hHeld => ?_)
        clear hK K
        try simp only [Act.put, List.getElem_toArray, List.getElem_cons_zero, List.getElem_cons_succ, List.setIfInBounds_toArray, List.set_cons_zero, List.set_cons_succ]
        refine wpAnyH_ready (rs := [5]) (by kernel_rfl) (by simp) ?_
        refine AllReadyH.cons rfl (fun K hK => ?_) AllReadyH.nil
        obtain ⟨⟨q0, qf0⟩, ⟨q1, qf1⟩, ⟨q2, qf2⟩, ⟨q3, qf3⟩, ⟨q4, qf4⟩, ql⟩ := five (HS5.out.held ((w.heap.size + 2), Obj.cells #[.int .i64 0, .int .i64 0, .int .i64 0, .int .u64 (0 : Int), .int .u64 (0 : Int)] 29 (0, 0)) (by simp))
        clear HCA
        go_simp
        refine hK.out _ _ (set5_other (by omega) (HS5.out.held (w.heap.size, Obj.cells #[.int .i64 3, .int .i64 own, .int .i64 oth, .int .u64 (v3 : Int), .int .u64 (v2 : Int)] 29 (0, 0)) (by simp))) (fun hHeld => ?_)
        clear hK K
        try simp only [Act.put, List.getElem_toArray, List.getElem_cons_zero, List.getElem_cons_succ, List.setIfInBounds_toArray, List.set_cons_zero, List.set_cons_succ]
        refine wpAnyH_take (i := 6) (oi := _) (v := ?_) rfl (by kernel_rfl) (by kernel_rfl) (by kernel_rfl) (fun _ _ _ h => h) (Or.inl ⟨by rfl, ?_⟩) (by assumption) ?_
        case refine_2 => intro w hSw; (try dsimp only at hSw); obtain ⟨⟨z0, _⟩, ⟨z1, _⟩, ⟨z2, _⟩, ⟨z3, _⟩, ⟨z4, _⟩, zl⟩ := five hSw; go_simp; first | done | (with_reducible rfl)
        try simp only [Act.put, List.getElem_toArray, List.getElem_cons_zero, List.getElem_cons_succ, List.setIfInBounds_toArray, List.set_cons_zero, List.set_cons_succ]
        refine wpAnyH_done (by kernel_rfl) ?_ _
        obtain ⟨W6, hW6⟩ : ∃ W6, (((((W5).setCell ⟨(w.heap.size + 2), 0, none⟩ (.int .i64 3)).setCell ⟨(w.heap.size + 2), 1, none⟩ (.int .i64 own)).setCell ⟨(w.heap.size + 2), 2, none⟩ (.int .i64 oth)).setCell ⟨(w.heap.size + 2), 3, none⟩ (.int .u64 (v3 : Int))).setCell ⟨(w.heap.size + 2), 4, none⟩ (.int .u64 (v2 : Int)) = W6 := ⟨_, rfl⟩
        have hk6 : W6.heap[(w.heap.size + 2)]? = some (.cells #[.int .i64 3, .int .i64 own, .int .i64 oth, .int .u64 (v3 : Int), .int .u64 (v2 : Int)] 29 (0, 0)) := by rw [← hW6]; exact set5_heap (HS5.out.held ((w.heap.size + 2), Obj.cells #[.int .i64 0, .int .i64 0, .int .i64 0, .int .u64 (0 : Int), .int .u64 (0 : Int)] 29 (0, 0)) (by simp))
        have HS6 : Hid (Sd w0 nb (answerL L ⟨3, own, oth, v3, v2⟩ [1]) R (ho ++ os) W6) := Lib.hid (by rw [← hW6]; exact HS5.out.drop ((w.heap.size + 2), Obj.cells #[.int .i64 0, .int .i64 0, .int .i64 0, .int .u64 (0 : Int), .int .u64 (0 : Int)] 29 (0, 0)) (by simp) (by omega) (keeps5 _ _ _ _ _ _ _) _ (fun p hp => by
          rcases List.mem_append.1 hp with h | h
          · exact ⟨by simp [h], by have := HO5.out p h; simp only; omega⟩
          · exact ⟨by simp [h], by have := HOS.out p h; simp only; omega⟩))
        rw [hW6]
        clear hW6 hHeld
        obtain ⟨⟨q0, qf0⟩, ⟨q1, qf1⟩, ⟨q2, qf2⟩, ⟨q3, qf3⟩, ⟨q4, qf4⟩, ql⟩ := five hk6
        clear hk6
        go_wp2
        refine ⟨rfl, .tuple #[.agg #[.int .i64 3, .int .i64 own, .int .i64 oth, .int .u64 (v3 : Int), .int .u64 (v2 : Int)], .slice A5 zl5 c5], by simp [results, Tryd.f51, go_sem, q0, q1, q2, q3, q4], ?_⟩
        exact HE.out _ _ ⟨A5, c5, ho, by rw [HZ5.out], by rw [HZ5.out]; exact a52, a53, by rw [HZ5.out]; exact H53.out, by rw [HZ5.out]; exact H54.out, fun p hp => by have := HO5.out p hp; omega, HS6.out⟩
    · have ts1 : (st != 1) = true := by simp [hs1]
      cases hh : (Sk.mk st own oth v3 ech).holds v2 with
      | true =>
        have hgo : ¬ (m.nums.getD 3 0 ≠ v3 ∨ (st ≠ 1 ∧ (Sk.mk st own oth v3 ech).holds (m.nums.getD 2 0) = false)) := by rw [e3, e2, hh]; simp
        by_cases hbd : 0 < l3
        · have HE : Hid (answerO ⟨st, own, oth, v3, ech⟩ L m = ⟨⟨3, own, oth, v3, v2⟩, [], L⟩) := Lib.hid (by unfold answerO; rw [if_neg hgo, if_pos (by omega), e2])
          have CM : Hid (∀ V, Calls Tryd.prog 66 #[.agg #[.int .i64 st, .int .i64 own, .int .i64 oth, .int .u64 (v3 : Int), .int .u64 (ech : Int)], .int .u64 (v2 : Int)] V fun e w' => e = .returned (.bool true) ∧ Below V.heap.size V w') := Lib.hid (fun V => by have := sholds_any ⟨st, own, oth, v3, ech⟩ v2 V; rw [hh] at this; exact this)
          have tb : decide ((l3 : Int) > 0) = true := by simp; omega
          have tb2 : (0 : Int) < (l3 : Int) := by omega
          clear h hs hm e2 e3 hgo hl3 hL
          go_enter Tryd.func51, Tryd.ntmps51
          go_wp2
          obtain ⟨W, hW, hB, hA, hz⟩ := HA.out
          rw [hW]
          clear hW
          obtain ⟨⟨a0, af0⟩, ⟨a1, af1⟩, ⟨a2, af2⟩, ⟨a3, af3⟩, ⟨a4, af4⟩, al⟩ := five (hA.held (w.heap.size, Obj.cells #[.int .i64 st, .int .i64 own, .int .i64 oth, .int .u64 (v3 : Int), .int .u64 (ech : Int)] 29 (0, 0)) (by simp))
          obtain ⟨⟨b0, _⟩, ⟨b1, _⟩, ⟨b2, _⟩, ⟨b3, _⟩, bl⟩ := four (hA.held ((w.heap.size + 1), Obj.cells #[.int .i64 kd, .slice (some ⟨mbk, mof, none⟩) n mc, .slice A2 l2 d2, .slice A3 l3 d3] 46 (0, 0)) (by simp))
          have d2' := (hB.cell (p := ⟨mbk, mof + 2, none⟩) mbl).trans c2
          have dl : mbk < W.heap.size := by have := hB.size; omega
          have d3' := (hB.cell (p := ⟨mbk, mof + 3, none⟩) mbl).trans c3
          go_wp2
          refine wp_region_held_drew (S := fun W => W.heap[w.heap.size]? = some (.cells #[.int .i64 st, .int .i64 own, .int .i64 oth, .int .u64 (v3 : Int), .int .u64 (ech : Int)] 29 (0, 0)) ∧ W.heap[(w.heap.size + 1)]? = some (.cells #[.int .i64 kd, .slice (some ⟨mbk, mof, none⟩) n mc, .slice A2 l2 d2, .slice A3 l3 d3] 46 (0, 0)) ∧ W.cell? ⟨mbk, mof + 3, none⟩ = some (.int .u64 (v3 : Int)) ∧ mbk < W.heap.size) (by kernel_rfl) ⟨hA.drew.held (w.heap.size, Obj.cells #[.int .i64 st, .int .i64 own, .int .i64 oth, .int .u64 (v3 : Int), .int .u64 (ech : Int)] 29 (0, 0)) (by simp), hA.drew.held ((w.heap.size + 1), Obj.cells #[.int .i64 kd, .slice (some ⟨mbk, mof, none⟩) n mc, .slice A2 l2 d2, .slice A3 l3 d3] 46 (0, 0)) (by simp), d3', dl⟩ (fun hHeld => ?_)
          refine wpAnyH_take (i := 0) (oi := _) (v := ?_) rfl (by kernel_rfl) (by kernel_rfl) (by kernel_rfl) (fun _ _ _ h => h) (Or.inl ⟨by rfl, ?_⟩) (by assumption) ?_
          case refine_2 => intro w hSw; (try dsimp only at hSw); obtain ⟨⟨z0, _⟩, ⟨z1, _⟩, ⟨z2, _⟩, ⟨z3, _⟩, ⟨z4, _⟩, zl⟩ := five hSw.1; obtain ⟨⟨y0, _⟩, ⟨y1, _⟩, ⟨y2, _⟩, ⟨y3, _⟩, yl⟩ := four hSw.2.1; obtain ⟨-, -, y5, y6⟩ := hSw; go_simp; first | done | (with_reducible rfl)
          try simp only [Act.put, List.getElem_toArray, List.getElem_cons_zero, List.setIfInBounds_toArray, List.set_cons_zero, List.set_cons_succ]
          refine wpAnyH_take (i := 1) (oi := _) (v := ?_) rfl (by kernel_rfl) (by kernel_rfl) (by kernel_rfl) (fun _ _ _ h => h) (Or.inl ⟨by rfl, ?_⟩) (by assumption) ?_
          case refine_2 => intro w hSw; (try dsimp only at hSw); obtain ⟨⟨z0, _⟩, ⟨z1, _⟩, ⟨z2, _⟩, ⟨z3, _⟩, ⟨z4, _⟩, zl⟩ := five hSw.1; obtain ⟨⟨y0, _⟩, ⟨y1, _⟩, ⟨y2, _⟩, ⟨y3, _⟩, yl⟩ := four hSw.2.1; obtain ⟨-, -, y5, y6⟩ := hSw; go_simp; first | done | (with_reducible rfl)
          try simp only [Act.put, List.getElem_toArray, List.getElem_cons_zero, List.getElem_cons_succ, List.setIfInBounds_toArray, List.set_cons_zero, List.set_cons_succ]
          refine wpAnyH_take (i := 2) (oi := _) (v := ?_) rfl (by kernel_rfl) (by kernel_rfl) (by kernel_rfl) (fun _ _ _ h => h) (Or.inl ⟨by rfl, ?_⟩) (by assumption) ?_
          case refine_2 => intro w hSw; (try dsimp only at hSw); obtain ⟨⟨z0, _⟩, ⟨z1, _⟩, ⟨z2, _⟩, ⟨z3, _⟩, ⟨z4, _⟩, zl⟩ := five hSw.1; obtain ⟨⟨y0, _⟩, ⟨y1, _⟩, ⟨y2, _⟩, ⟨y3, _⟩, yl⟩ := four hSw.2.1; obtain ⟨-, -, y5, y6⟩ := hSw; go_simp; first | done | (with_reducible rfl)
          try simp only [Act.put, List.getElem_toArray, List.getElem_cons_zero, List.getElem_cons_succ, List.setIfInBounds_toArray, List.set_cons_zero, List.set_cons_succ]
          refine wpAnyH_take (i := 3) (oi := _) (v := ?_) rfl (by kernel_rfl) (by kernel_rfl) (by kernel_rfl) (fun _ _ _ h => h) (Or.inl ⟨by rfl, ?_⟩) (by assumption) ?_
          case refine_2 => intro w hSw; (try dsimp only at hSw); obtain ⟨⟨z0, _⟩, ⟨z1, _⟩, ⟨z2, _⟩, ⟨z3, _⟩, ⟨z4, _⟩, zl⟩ := five hSw.1; obtain ⟨⟨y0, _⟩, ⟨y1, _⟩, ⟨y2, _⟩, ⟨y3, _⟩, yl⟩ := four hSw.2.1; obtain ⟨-, -, y5, y6⟩ := hSw; go_simp; first | done | (with_reducible rfl)
          try simp only [Act.put, List.getElem_toArray, List.getElem_cons_zero, List.getElem_cons_succ, List.setIfInBounds_toArray, List.set_cons_zero, List.set_cons_succ]
          refine wpAnyH_take (i := 4) (oi := _) (v := ?_) rfl (by kernel_rfl) (by kernel_rfl) (by kernel_rfl) (fun _ _ _ h => h) (Or.inl ⟨by rfl, ?_⟩) (by assumption) ?_
          case refine_2 => intro w hSw; (try dsimp only at hSw); obtain ⟨⟨z0, _⟩, ⟨z1, _⟩, ⟨z2, _⟩, ⟨z3, _⟩, ⟨z4, _⟩, zl⟩ := five hSw.1; obtain ⟨⟨y0, _⟩, ⟨y1, _⟩, ⟨y2, _⟩, ⟨y3, _⟩, yl⟩ := four hSw.2.1; obtain ⟨-, -, y5, y6⟩ := hSw; go_simp; first | done | (with_reducible rfl)
          try simp only [Act.put, List.getElem_toArray, List.getElem_cons_zero, List.getElem_cons_succ, List.setIfInBounds_toArray, List.set_cons_zero, List.set_cons_succ]
          refine wpAnyH_take (i := 5) (oi := _) (v := ?_) rfl (by kernel_rfl) (by kernel_rfl) (by kernel_rfl) (fun _ _ _ h => h) (Or.inl ⟨by rfl, ?_⟩) (by assumption) ?_
          case refine_2 => intro w hSw; (try dsimp only at hSw); obtain ⟨⟨z0, _⟩, ⟨z1, _⟩, ⟨z2, _⟩, ⟨z3, _⟩, ⟨z4, _⟩, zl⟩ := five hSw.1; obtain ⟨⟨y0, _⟩, ⟨y1, _⟩, ⟨y2, _⟩, ⟨y3, _⟩, yl⟩ := four hSw.2.1; obtain ⟨-, -, y5, y6⟩ := hSw; go_simp; first | done | (with_reducible rfl)
          try simp only [Act.put, List.getElem_toArray, List.getElem_cons_zero, List.getElem_cons_succ, List.setIfInBounds_toArray, List.set_cons_zero, List.set_cons_succ]
          refine wpAnyH_take (i := 6) (oi := _) (v := ?_) rfl (by kernel_rfl) (by kernel_rfl) (by kernel_rfl) (fun _ _ _ h => h) (Or.inl ⟨by rfl, ?_⟩) (by assumption) ?_
          case refine_2 => intro w hSw; (try dsimp only at hSw); obtain ⟨⟨z0, _⟩, ⟨z1, _⟩, ⟨z2, _⟩, ⟨z3, _⟩, ⟨z4, _⟩, zl⟩ := five hSw.1; obtain ⟨⟨y0, _⟩, ⟨y1, _⟩, ⟨y2, _⟩, ⟨y3, _⟩, yl⟩ := four hSw.2.1; obtain ⟨-, -, y5, y6⟩ := hSw; go_simp; first | done | (with_reducible rfl)
          try simp only [Act.put, List.getElem_toArray, List.getElem_cons_zero, List.getElem_cons_succ, List.setIfInBounds_toArray, List.set_cons_zero, List.set_cons_succ]
          refine wpAnyH_take (i := 7) (oi := _) (v := ?_) rfl (by kernel_rfl) (by kernel_rfl) (by kernel_rfl) (fun _ _ _ h => h) (Or.inl ⟨by rfl, ?_⟩) (by assumption) ?_
          case refine_2 => intro w hSw; (try dsimp only at hSw); obtain ⟨⟨z0, _⟩, ⟨z1, _⟩, ⟨z2, _⟩, ⟨z3, _⟩, ⟨z4, _⟩, zl⟩ := five hSw.1; obtain ⟨⟨y0, _⟩, ⟨y1, _⟩, ⟨y2, _⟩, ⟨y3, _⟩, yl⟩ := four hSw.2.1; obtain ⟨-, -, y5, y6⟩ := hSw; go_simp; first | done | (with_reducible rfl)
          try simp only [Act.put, List.getElem_toArray, List.getElem_cons_zero, List.getElem_cons_succ, List.setIfInBounds_toArray, List.set_cons_zero, List.set_cons_succ]
          refine wpAnyH_take (i := 8) (oi := _) (v := ?_) rfl (by kernel_rfl) (by kernel_rfl) (by kernel_rfl) (fun _ _ _ h => h) (Or.inl ⟨by rfl, ?_⟩) (by assumption) ?_
          case refine_2 => intro w hSw; (try dsimp only at hSw); obtain ⟨⟨z0, _⟩, ⟨z1, _⟩, ⟨z2, _⟩, ⟨z3, _⟩, ⟨z4, _⟩, zl⟩ := five hSw.1; obtain ⟨⟨y0, _⟩, ⟨y1, _⟩, ⟨y2, _⟩, ⟨y3, _⟩, yl⟩ := four hSw.2.1; obtain ⟨-, -, y5, y6⟩ := hSw; go_simp; first | done | (with_reducible rfl)
          try simp only [Act.put, List.getElem_toArray, List.getElem_cons_zero, List.getElem_cons_succ, List.setIfInBounds_toArray, List.set_cons_zero, List.set_cons_succ]
          refine wpAnyH_take (i := 9) (oi := _) (v := ?_) rfl (by kernel_rfl) (by kernel_rfl) (by kernel_rfl) (fun _ _ _ h => h) (Or.inl ⟨by rfl, ?_⟩) (by assumption) ?_
          case refine_2 => intro w hSw; (try dsimp only at hSw); obtain ⟨⟨z0, _⟩, ⟨z1, _⟩, ⟨z2, _⟩, ⟨z3, _⟩, ⟨z4, _⟩, zl⟩ := five hSw.1; obtain ⟨⟨y0, _⟩, ⟨y1, _⟩, ⟨y2, _⟩, ⟨y3, _⟩, yl⟩ := four hSw.2.1; obtain ⟨-, -, y5, y6⟩ := hSw; go_simp; first | done | (with_reducible rfl)
          try simp only [Act.put, List.getElem_toArray, List.getElem_cons_zero, List.getElem_cons_succ, List.setIfInBounds_toArray, List.set_cons_zero, List.set_cons_succ]
          refine wpAnyH_take (i := 10) (oi := _) (v := ?_) rfl (by kernel_rfl) (by kernel_rfl) (by kernel_rfl) (fun _ _ _ h => h) (Or.inl ⟨by rfl, ?_⟩) (by assumption) ?_
          case refine_2 => intro w hSw; (try dsimp only at hSw); obtain ⟨⟨z0, _⟩, ⟨z1, _⟩, ⟨z2, _⟩, ⟨z3, _⟩, ⟨z4, _⟩, zl⟩ := five hSw.1; obtain ⟨⟨y0, _⟩, ⟨y1, _⟩, ⟨y2, _⟩, ⟨y3, _⟩, yl⟩ := four hSw.2.1; obtain ⟨-, -, y5, y6⟩ := hSw; go_simp; first | done | (with_reducible rfl)
          try simp only [Act.put, List.getElem_toArray, List.getElem_cons_zero, List.getElem_cons_succ, List.setIfInBounds_toArray, List.set_cons_zero, List.set_cons_succ]
          refine wpAnyH_take (i := 11) (oi := _) (v := ?_) rfl (by kernel_rfl) (by kernel_rfl) (by kernel_rfl) (fun _ _ _ h => h) (Or.inl ⟨by rfl, ?_⟩) (by assumption) ?_
          case refine_2 => intro w hSw; (try dsimp only at hSw); obtain ⟨⟨z0, _⟩, ⟨z1, _⟩, ⟨z2, _⟩, ⟨z3, _⟩, ⟨z4, _⟩, zl⟩ := five hSw.1; obtain ⟨⟨y0, _⟩, ⟨y1, _⟩, ⟨y2, _⟩, ⟨y3, _⟩, yl⟩ := four hSw.2.1; obtain ⟨-, -, y5, y6⟩ := hSw; go_simp; first | done | (with_reducible rfl)
          try simp only [Act.put, List.getElem_toArray, List.getElem_cons_zero, List.getElem_cons_succ, List.setIfInBounds_toArray, List.set_cons_zero, List.set_cons_succ]
          refine wpAnyH_take (i := 12) (oi := _) (v := ?_) rfl (by kernel_rfl) (by kernel_rfl) (by kernel_rfl) (fun _ _ _ h => h) (Or.inl ⟨by rfl, ?_⟩) (by assumption) ?_
          case refine_2 => intro w hSw; (try dsimp only at hSw); obtain ⟨⟨z0, _⟩, ⟨z1, _⟩, ⟨z2, _⟩, ⟨z3, _⟩, ⟨z4, _⟩, zl⟩ := five hSw.1; obtain ⟨⟨y0, _⟩, ⟨y1, _⟩, ⟨y2, _⟩, ⟨y3, _⟩, yl⟩ := four hSw.2.1; obtain ⟨-, -, y5, y6⟩ := hSw; go_simp; first | done | (with_reducible rfl)
          try simp only [Act.put, List.getElem_toArray, List.getElem_cons_zero, List.getElem_cons_succ, List.setIfInBounds_toArray, List.set_cons_zero, List.set_cons_succ]
          refine wpAnyH_take (i := 13) (oi := _) (v := ?_) rfl (by kernel_rfl) (by kernel_rfl) (by kernel_rfl) (fun _ _ _ h => h) (Or.inl ⟨by rfl, ?_⟩) (by assumption) ?_
          case refine_2 => intro w hSw; (try dsimp only at hSw); obtain ⟨⟨z0, _⟩, ⟨z1, _⟩, ⟨z2, _⟩, ⟨z3, _⟩, ⟨z4, _⟩, zl⟩ := five hSw.1; obtain ⟨⟨y0, _⟩, ⟨y1, _⟩, ⟨y2, _⟩, ⟨y3, _⟩, yl⟩ := four hSw.2.1; obtain ⟨-, -, y5, y6⟩ := hSw; go_simp; first | done | (with_reducible rfl)
          try simp only [Act.put, List.getElem_toArray, List.getElem_cons_zero, List.getElem_cons_succ, List.setIfInBounds_toArray, List.set_cons_zero, List.set_cons_succ]
          refine wpAnyH_ready (rs := [14]) (by kernel_rfl) (by simp) ?_
          refine AllReadyH.cons rfl (fun K hK => ?_) AllReadyH.nil
          go_simp
          go_at_call 66
          refine (CM.out _).mono ?_
          rintro e W3 ⟨rfl, hb4⟩
          have HA4 := Lib.hid (hA.drew.below hb4)
          have HD4 := Lib.hid ((hb4.cell (p := ⟨mbk, mof + 3, none⟩) dl).trans d3')
          have HL4 := Lib.hid (Nat.lt_of_lt_of_le dl hb4.size)
          have HSZ3 : Hid (w.heap.size + 3 ≤ W3.heap.size) := Lib.hid (Nat.le_trans hz hb4.size)
          clear hb4
          refine hK.out _ _ ⟨HA4.out.held (w.heap.size, Obj.cells #[.int .i64 st, .int .i64 own, .int .i64 oth, .int .u64 (v3 : Int), .int .u64 (ech : Int)] 29 (0, 0)) (by simp), HA4.out.held ((w.heap.size + 1), Obj.cells #[.int .i64 kd, .slice (some ⟨mbk, mof, none⟩) n mc, .slice A2 l2 d2, .slice A3 l3 d3] 46 (0, 0)) (by simp), HD4.out, HL4.out⟩ (fun hHeld => ?_)
          clear hK K
          try simp only [Act.put, List.getElem_toArray, List.getElem_cons_zero, List.getElem_cons_succ, List.setIfInBounds_toArray, List.set_cons_zero, List.set_cons_succ]
          refine wpAnyH_take (i := 15) (oi := _) (v := ?_) rfl (by kernel_rfl) (by kernel_rfl) (by kernel_rfl) (fun _ _ _ h => h) (Or.inl ⟨by rfl, ?_⟩) (by assumption) ?_
          case refine_2 => intro w hSw; (try dsimp only at hSw); obtain ⟨⟨z0, _⟩, ⟨z1, _⟩, ⟨z2, _⟩, ⟨z3, _⟩, ⟨z4, _⟩, zl⟩ := five hSw.1; obtain ⟨⟨y0, _⟩, ⟨y1, _⟩, ⟨y2, _⟩, ⟨y3, _⟩, yl⟩ := four hSw.2.1; obtain ⟨-, -, y5, y6⟩ := hSw; go_simp; first | done | (with_reducible rfl)
          try simp only [Act.put, List.getElem_toArray, List.getElem_cons_zero, List.getElem_cons_succ, List.setIfInBounds_toArray, List.set_cons_zero, List.set_cons_succ]
          refine wpAnyH_take (i := 16) (oi := _) (v := ?_) rfl (by kernel_rfl) (by kernel_rfl) (by kernel_rfl) (fun _ _ _ h => h) (Or.inl ⟨by rfl, ?_⟩) (by assumption) ?_
          case refine_2 => intro w hSw; (try dsimp only at hSw); obtain ⟨⟨z0, _⟩, ⟨z1, _⟩, ⟨z2, _⟩, ⟨z3, _⟩, ⟨z4, _⟩, zl⟩ := five hSw.1; obtain ⟨⟨y0, _⟩, ⟨y1, _⟩, ⟨y2, _⟩, ⟨y3, _⟩, yl⟩ := four hSw.2.1; obtain ⟨-, -, y5, y6⟩ := hSw; go_simp; first | done | (with_reducible rfl)
          try simp only [Act.put, List.getElem_toArray, List.getElem_cons_zero, List.getElem_cons_succ, List.setIfInBounds_toArray, List.set_cons_zero, List.set_cons_succ]
          refine wpAnyH_take (i := 17) (oi := _) (v := ?_) rfl (by kernel_rfl) (by kernel_rfl) (by kernel_rfl) (fun _ _ _ h => h) (Or.inl ⟨by rfl, ?_⟩) (by assumption) ?_
          case refine_2 => intro w hSw; (try dsimp only at hSw); obtain ⟨⟨z0, _⟩, ⟨z1, _⟩, ⟨z2, _⟩, ⟨z3, _⟩, ⟨z4, _⟩, zl⟩ := five hSw.1; obtain ⟨⟨y0, _⟩, ⟨y1, _⟩, ⟨y2, _⟩, ⟨y3, _⟩, yl⟩ := four hSw.2.1; obtain ⟨-, -, y5, y6⟩ := hSw; go_simp; first | done | (with_reducible rfl)
          try simp only [Act.put, List.getElem_toArray, List.getElem_cons_zero, List.getElem_cons_succ, List.setIfInBounds_toArray, List.set_cons_zero, List.set_cons_succ]
          refine wpAnyH_done (by kernel_rfl) ?_ _
          have hA := HA4.out
          have hz9 := HSZ3.out
          clear hHeld a0 a1 a2 a3 a4 af0 af1 af2 af3 af4 b0 b1 b2 b3
          obtain ⟨⟨a0, af0⟩, ⟨a1, af1⟩, ⟨a2, af2⟩, ⟨a3, af3⟩, ⟨a4, af4⟩, al⟩ := five (hA.held (w.heap.size, Obj.cells #[.int .i64 st, .int .i64 own, .int .i64 oth, .int .u64 (v3 : Int), .int .u64 (ech : Int)] 29 (0, 0)) (by simp))
          obtain ⟨⟨b0, _⟩, ⟨b1, _⟩, ⟨b2, _⟩, ⟨b3, _⟩, bl⟩ := four (hA.held ((w.heap.size + 1), Obj.cells #[.int .i64 kd, .slice (some ⟨mbk, mof, none⟩) n mc, .slice A2 l2 d2, .slice A3 l3 d3] 46 (0, 0)) (by simp))
          have HS4 : Hid (Sd w0 nb L R ((w.heap.size, Obj.cells #[.int .i64 3, .int .i64 own, .int .i64 oth, .int .u64 (v3 : Int), .int .u64 (v2 : Int)] 29 (0, 0)) :: ((w.heap.size + 2), Obj.cells #[.int .i64 0, .int .i64 0, .int .i64 0, .int .u64 (0 : Int), .int .u64 (0 : Int)] 29 (0, 0)) :: os) ((W3.setCell ⟨w.heap.size, 0, none⟩ (.int .i64 3)).setCell ⟨w.heap.size, 4, none⟩ (.int .u64 (v2 : Int)))) := Lib.hid (by
            have q1 := (hA.sub (os' := (w.heap.size, Obj.cells #[.int .i64 st, .int .i64 own, .int .i64 oth, .int .u64 (v3 : Int), .int .u64 (ech : Int)] 29 (0, 0)) :: ((w.heap.size + 2), Obj.cells #[.int .i64 0, .int .i64 0, .int .i64 0, .int .u64 (0 : Int), .int .u64 (0 : Int)] 29 (0, 0)) :: os) (fun p hp => by simp only [List.mem_cons] at hp ⊢; rcases hp with h | h | h <;> simp [h])).store (j := 0) (v := .int .i64 3) (fun p hp => by
              rcases List.mem_cons.1 hp with rfl | hp
              · simp only; omega
              · have := HOS.out p hp; omega) hw0
            have q2 := q1.store (j := 4) (v := .int .u64 (v2 : Int)) (fun p hp => by
              rcases List.mem_cons.1 hp with rfl | hp
              · simp only; omega
              · have := HOS.out p hp; omega) hw0
            simpa using q2)
          obtain ⟨⟨q0, qf0⟩, ⟨q1, qf1⟩, ⟨q2, qf2⟩, ⟨q3, qf3⟩, ⟨q4, qf4⟩, ql⟩ := five (hA.held ((w.heap.size + 2), Obj.cells #[.int .i64 0, .int .i64 0, .int .i64 0, .int .u64 (0 : Int), .int .u64 (0 : Int)] 29 (0, 0)) (by simp))
          go_wp2
          obtain ⟨W6, hW6⟩ : ∃ W6, (((((((W3.setCell ⟨w.heap.size, 0, none⟩ (.int .i64 3)).setCell ⟨w.heap.size, 4, none⟩ (.int .u64 (v2 : Int)))).setCell ⟨(w.heap.size + 2), 0, none⟩ (.int .i64 3)).setCell ⟨(w.heap.size + 2), 1, none⟩ (.int .i64 own)).setCell ⟨(w.heap.size + 2), 2, none⟩ (.int .i64 oth)).setCell ⟨(w.heap.size + 2), 3, none⟩ (.int .u64 (v3 : Int))).setCell ⟨(w.heap.size + 2), 4, none⟩ (.int .u64 (v2 : Int)) = W6 := ⟨_, rfl⟩
          have hk6 : W6.heap[(w.heap.size + 2)]? = some (.cells #[.int .i64 3, .int .i64 own, .int .i64 oth, .int .u64 (v3 : Int), .int .u64 (v2 : Int)] 29 (0, 0)) := by rw [← hW6]; exact set5_heap (HS4.out.held ((w.heap.size + 2), Obj.cells #[.int .i64 0, .int .i64 0, .int .i64 0, .int .u64 (0 : Int), .int .u64 (0 : Int)] 29 (0, 0)) (by simp))
          have HS6 : Hid (Sd w0 nb L R os W6) := Lib.hid (by rw [← hW6]; exact HS4.out.drop ((w.heap.size + 2), Obj.cells #[.int .i64 0, .int .i64 0, .int .i64 0, .int .u64 (0 : Int), .int .u64 (0 : Int)] 29 (0, 0)) (by simp) (by simp only; omega) (keeps5 _ _ _ _ _ _ _) _ (fun p hp => ⟨by simp [hp], by have := HOS.out p hp; simp only; omega⟩))
          clear q0 q1 q2 q3 q4 qf0 qf1 qf2 qf3 qf4
          rw [hW6]
          clear hW6
          obtain ⟨⟨q0, qf0⟩, ⟨q1, qf1⟩, ⟨q2, qf2⟩, ⟨q3, qf3⟩, ⟨q4, qf4⟩, ql⟩ := five hk6
          clear hk6
          refine ⟨rfl, .tuple #[.agg #[.int .i64 3, .int .i64 own, .int .i64 oth, .int .u64 (v3 : Int), .int .u64 (v2 : Int)], .slice none 0 0], by simp [results, Tryd.f51, go_sem, q0, q1, q2, q3, q4], ?_⟩
          unfold ShAns
          rw [HE.out]
          exact ⟨_, rfl, sent_nil HS6.out⟩
        · have HE : Hid (∀ v w', Sent w0 nb (answerL L ⟨3, own, oth, v3, v2⟩ [1]) R os w.heap.size (answerB L ⟨3, own, oth, v3, v2⟩ [1]) v w' → ShAns w0 nb R os w.heap.size (answerO ⟨st, own, oth, v3, ech⟩ L m) (.returned (.tuple #[skv ⟨3, own, oth, v3, v2⟩, v])) w') := Lib.hid (fun v w' h => by
            have e : answerO ⟨st, own, oth, v3, ech⟩ L m = ⟨⟨3, own, oth, v3, v2⟩, answerB L ⟨3, own, oth, v3, v2⟩ [1], answerL L ⟨3, own, oth, v3, v2⟩ [1]⟩ := by unfold answerO; rw [if_neg hgo, if_neg (by omega), e2]
            rw [e]
            exact ⟨v, rfl, h⟩)
          have hok : Sk.Ok ⟨3, own, oth, v3, v2⟩ := ⟨by simp, by simp, hs.o1, hs.o2, hs.t1, hs.t2, hs.ne, hs.n1, hs.n2, hv2⟩
          have HC := Lib.hid (fun (V : World) (hV : Sd w0 nb L R ((V.heap.size - 1, Obj.cells #[.int .u8 1] 5 (0, 0)) :: (w.heap.size, Obj.cells #[.int .i64 3, .int .i64 own, .int .i64 oth, .int .u64 (v3 : Int), .int .u64 (v2 : Int)] 29 (0, 0)) :: ((w.heap.size + 2), Obj.cells #[.int .i64 0, .int .i64 0, .int .i64 0, .int .u64 (0 : Int), .int .u64 (0 : Int)] 29 (0, 0)) :: os) V) => answer_s ⟨3, own, oth, v3, v2⟩ [1] (.slice (some ⟨V.heap.size - 1, 0, none⟩) 1 1) (.inr ⟨_, rfl, rfl, by simp⟩) hV hok hL)
          have CM : Hid (∀ V, Calls Tryd.prog 66 #[.agg #[.int .i64 st, .int .i64 own, .int .i64 oth, .int .u64 (v3 : Int), .int .u64 (ech : Int)], .int .u64 (v2 : Int)] V fun e w' => e = .returned (.bool true) ∧ Below V.heap.size V w') := Lib.hid (fun V => by have := sholds_any ⟨st, own, oth, v3, ech⟩ v2 V; rw [hh] at this; exact this)
          have tb : decide ((l3 : Int) > 0) = false := by simp; omega
          have tb2 : ¬ (0 : Int) < (l3 : Int) := by omega
          clear h hs hm e2 e3 hgo hl3 hL hok
          go_enter Tryd.func51, Tryd.ntmps51
          go_wp2
          obtain ⟨W, hW, hB, hA, hz⟩ := HA.out
          rw [hW]
          clear hW
          obtain ⟨⟨a0, af0⟩, ⟨a1, af1⟩, ⟨a2, af2⟩, ⟨a3, af3⟩, ⟨a4, af4⟩, al⟩ := five (hA.held (w.heap.size, Obj.cells #[.int .i64 st, .int .i64 own, .int .i64 oth, .int .u64 (v3 : Int), .int .u64 (ech : Int)] 29 (0, 0)) (by simp))
          obtain ⟨⟨b0, _⟩, ⟨b1, _⟩, ⟨b2, _⟩, ⟨b3, _⟩, bl⟩ := four (hA.held ((w.heap.size + 1), Obj.cells #[.int .i64 kd, .slice (some ⟨mbk, mof, none⟩) n mc, .slice A2 l2 d2, .slice A3 l3 d3] 46 (0, 0)) (by simp))
          have d2' := (hB.cell (p := ⟨mbk, mof + 2, none⟩) mbl).trans c2
          have dl : mbk < W.heap.size := by have := hB.size; omega
          have d3' := (hB.cell (p := ⟨mbk, mof + 3, none⟩) mbl).trans c3
          go_wp2
          refine wp_region_held_drew (S := fun W => W.heap[w.heap.size]? = some (.cells #[.int .i64 st, .int .i64 own, .int .i64 oth, .int .u64 (v3 : Int), .int .u64 (ech : Int)] 29 (0, 0)) ∧ W.heap[(w.heap.size + 1)]? = some (.cells #[.int .i64 kd, .slice (some ⟨mbk, mof, none⟩) n mc, .slice A2 l2 d2, .slice A3 l3 d3] 46 (0, 0)) ∧ W.cell? ⟨mbk, mof + 3, none⟩ = some (.int .u64 (v3 : Int)) ∧ mbk < W.heap.size) (by kernel_rfl) ⟨hA.drew.held (w.heap.size, Obj.cells #[.int .i64 st, .int .i64 own, .int .i64 oth, .int .u64 (v3 : Int), .int .u64 (ech : Int)] 29 (0, 0)) (by simp), hA.drew.held ((w.heap.size + 1), Obj.cells #[.int .i64 kd, .slice (some ⟨mbk, mof, none⟩) n mc, .slice A2 l2 d2, .slice A3 l3 d3] 46 (0, 0)) (by simp), d3', dl⟩ (fun hHeld => ?_)
          refine wpAnyH_take (i := 0) (oi := _) (v := ?_) rfl (by kernel_rfl) (by kernel_rfl) (by kernel_rfl) (fun _ _ _ h => h) (Or.inl ⟨by rfl, ?_⟩) (by assumption) ?_
          case refine_2 => intro w hSw; (try dsimp only at hSw); obtain ⟨⟨z0, _⟩, ⟨z1, _⟩, ⟨z2, _⟩, ⟨z3, _⟩, ⟨z4, _⟩, zl⟩ := five hSw.1; obtain ⟨⟨y0, _⟩, ⟨y1, _⟩, ⟨y2, _⟩, ⟨y3, _⟩, yl⟩ := four hSw.2.1; obtain ⟨-, -, y5, y6⟩ := hSw; go_simp; first | done | (with_reducible rfl)
          try simp only [Act.put, List.getElem_toArray, List.getElem_cons_zero, List.setIfInBounds_toArray, List.set_cons_zero, List.set_cons_succ]
          refine wpAnyH_take (i := 1) (oi := _) (v := ?_) rfl (by kernel_rfl) (by kernel_rfl) (by kernel_rfl) (fun _ _ _ h => h) (Or.inl ⟨by rfl, ?_⟩) (by assumption) ?_
          case refine_2 => intro w hSw; (try dsimp only at hSw); obtain ⟨⟨z0, _⟩, ⟨z1, _⟩, ⟨z2, _⟩, ⟨z3, _⟩, ⟨z4, _⟩, zl⟩ := five hSw.1; obtain ⟨⟨y0, _⟩, ⟨y1, _⟩, ⟨y2, _⟩, ⟨y3, _⟩, yl⟩ := four hSw.2.1; obtain ⟨-, -, y5, y6⟩ := hSw; go_simp; first | done | (with_reducible rfl)
          try simp only [Act.put, List.getElem_toArray, List.getElem_cons_zero, List.getElem_cons_succ, List.setIfInBounds_toArray, List.set_cons_zero, List.set_cons_succ]
          refine wpAnyH_take (i := 2) (oi := _) (v := ?_) rfl (by kernel_rfl) (by kernel_rfl) (by kernel_rfl) (fun _ _ _ h => h) (Or.inl ⟨by rfl, ?_⟩) (by assumption) ?_
          case refine_2 => intro w hSw; (try dsimp only at hSw); obtain ⟨⟨z0, _⟩, ⟨z1, _⟩, ⟨z2, _⟩, ⟨z3, _⟩, ⟨z4, _⟩, zl⟩ := five hSw.1; obtain ⟨⟨y0, _⟩, ⟨y1, _⟩, ⟨y2, _⟩, ⟨y3, _⟩, yl⟩ := four hSw.2.1; obtain ⟨-, -, y5, y6⟩ := hSw; go_simp; first | done | (with_reducible rfl)
          try simp only [Act.put, List.getElem_toArray, List.getElem_cons_zero, List.getElem_cons_succ, List.setIfInBounds_toArray, List.set_cons_zero, List.set_cons_succ]
          refine wpAnyH_take (i := 3) (oi := _) (v := ?_) rfl (by kernel_rfl) (by kernel_rfl) (by kernel_rfl) (fun _ _ _ h => h) (Or.inl ⟨by rfl, ?_⟩) (by assumption) ?_
          case refine_2 => intro w hSw; (try dsimp only at hSw); obtain ⟨⟨z0, _⟩, ⟨z1, _⟩, ⟨z2, _⟩, ⟨z3, _⟩, ⟨z4, _⟩, zl⟩ := five hSw.1; obtain ⟨⟨y0, _⟩, ⟨y1, _⟩, ⟨y2, _⟩, ⟨y3, _⟩, yl⟩ := four hSw.2.1; obtain ⟨-, -, y5, y6⟩ := hSw; go_simp; first | done | (with_reducible rfl)
          try simp only [Act.put, List.getElem_toArray, List.getElem_cons_zero, List.getElem_cons_succ, List.setIfInBounds_toArray, List.set_cons_zero, List.set_cons_succ]
          refine wpAnyH_take (i := 4) (oi := _) (v := ?_) rfl (by kernel_rfl) (by kernel_rfl) (by kernel_rfl) (fun _ _ _ h => h) (Or.inl ⟨by rfl, ?_⟩) (by assumption) ?_
          case refine_2 => intro w hSw; (try dsimp only at hSw); obtain ⟨⟨z0, _⟩, ⟨z1, _⟩, ⟨z2, _⟩, ⟨z3, _⟩, ⟨z4, _⟩, zl⟩ := five hSw.1; obtain ⟨⟨y0, _⟩, ⟨y1, _⟩, ⟨y2, _⟩, ⟨y3, _⟩, yl⟩ := four hSw.2.1; obtain ⟨-, -, y5, y6⟩ := hSw; go_simp; first | done | (with_reducible rfl)
          try simp only [Act.put, List.getElem_toArray, List.getElem_cons_zero, List.getElem_cons_succ, List.setIfInBounds_toArray, List.set_cons_zero, List.set_cons_succ]
          refine wpAnyH_take (i := 5) (oi := _) (v := ?_) rfl (by kernel_rfl) (by kernel_rfl) (by kernel_rfl) (fun _ _ _ h => h) (Or.inl ⟨by rfl, ?_⟩) (by assumption) ?_
          case refine_2 => intro w hSw; (try dsimp only at hSw); obtain ⟨⟨z0, _⟩, ⟨z1, _⟩, ⟨z2, _⟩, ⟨z3, _⟩, ⟨z4, _⟩, zl⟩ := five hSw.1; obtain ⟨⟨y0, _⟩, ⟨y1, _⟩, ⟨y2, _⟩, ⟨y3, _⟩, yl⟩ := four hSw.2.1; obtain ⟨-, -, y5, y6⟩ := hSw; go_simp; first | done | (with_reducible rfl)
          try simp only [Act.put, List.getElem_toArray, List.getElem_cons_zero, List.getElem_cons_succ, List.setIfInBounds_toArray, List.set_cons_zero, List.set_cons_succ]
          refine wpAnyH_take (i := 6) (oi := _) (v := ?_) rfl (by kernel_rfl) (by kernel_rfl) (by kernel_rfl) (fun _ _ _ h => h) (Or.inl ⟨by rfl, ?_⟩) (by assumption) ?_
          case refine_2 => intro w hSw; (try dsimp only at hSw); obtain ⟨⟨z0, _⟩, ⟨z1, _⟩, ⟨z2, _⟩, ⟨z3, _⟩, ⟨z4, _⟩, zl⟩ := five hSw.1; obtain ⟨⟨y0, _⟩, ⟨y1, _⟩, ⟨y2, _⟩, ⟨y3, _⟩, yl⟩ := four hSw.2.1; obtain ⟨-, -, y5, y6⟩ := hSw; go_simp; first | done | (with_reducible rfl)
          try simp only [Act.put, List.getElem_toArray, List.getElem_cons_zero, List.getElem_cons_succ, List.setIfInBounds_toArray, List.set_cons_zero, List.set_cons_succ]
          refine wpAnyH_take (i := 7) (oi := _) (v := ?_) rfl (by kernel_rfl) (by kernel_rfl) (by kernel_rfl) (fun _ _ _ h => h) (Or.inl ⟨by rfl, ?_⟩) (by assumption) ?_
          case refine_2 => intro w hSw; (try dsimp only at hSw); obtain ⟨⟨z0, _⟩, ⟨z1, _⟩, ⟨z2, _⟩, ⟨z3, _⟩, ⟨z4, _⟩, zl⟩ := five hSw.1; obtain ⟨⟨y0, _⟩, ⟨y1, _⟩, ⟨y2, _⟩, ⟨y3, _⟩, yl⟩ := four hSw.2.1; obtain ⟨-, -, y5, y6⟩ := hSw; go_simp; first | done | (with_reducible rfl)
          try simp only [Act.put, List.getElem_toArray, List.getElem_cons_zero, List.getElem_cons_succ, List.setIfInBounds_toArray, List.set_cons_zero, List.set_cons_succ]
          refine wpAnyH_take (i := 8) (oi := _) (v := ?_) rfl (by kernel_rfl) (by kernel_rfl) (by kernel_rfl) (fun _ _ _ h => h) (Or.inl ⟨by rfl, ?_⟩) (by assumption) ?_
          case refine_2 => intro w hSw; (try dsimp only at hSw); obtain ⟨⟨z0, _⟩, ⟨z1, _⟩, ⟨z2, _⟩, ⟨z3, _⟩, ⟨z4, _⟩, zl⟩ := five hSw.1; obtain ⟨⟨y0, _⟩, ⟨y1, _⟩, ⟨y2, _⟩, ⟨y3, _⟩, yl⟩ := four hSw.2.1; obtain ⟨-, -, y5, y6⟩ := hSw; go_simp; first | done | (with_reducible rfl)
          try simp only [Act.put, List.getElem_toArray, List.getElem_cons_zero, List.getElem_cons_succ, List.setIfInBounds_toArray, List.set_cons_zero, List.set_cons_succ]
          refine wpAnyH_take (i := 9) (oi := _) (v := ?_) rfl (by kernel_rfl) (by kernel_rfl) (by kernel_rfl) (fun _ _ _ h => h) (Or.inl ⟨by rfl, ?_⟩) (by assumption) ?_
          case refine_2 => intro w hSw; (try dsimp only at hSw); obtain ⟨⟨z0, _⟩, ⟨z1, _⟩, ⟨z2, _⟩, ⟨z3, _⟩, ⟨z4, _⟩, zl⟩ := five hSw.1; obtain ⟨⟨y0, _⟩, ⟨y1, _⟩, ⟨y2, _⟩, ⟨y3, _⟩, yl⟩ := four hSw.2.1; obtain ⟨-, -, y5, y6⟩ := hSw; go_simp; first | done | (with_reducible rfl)
          try simp only [Act.put, List.getElem_toArray, List.getElem_cons_zero, List.getElem_cons_succ, List.setIfInBounds_toArray, List.set_cons_zero, List.set_cons_succ]
          refine wpAnyH_take (i := 10) (oi := _) (v := ?_) rfl (by kernel_rfl) (by kernel_rfl) (by kernel_rfl) (fun _ _ _ h => h) (Or.inl ⟨by rfl, ?_⟩) (by assumption) ?_
          case refine_2 => intro w hSw; (try dsimp only at hSw); obtain ⟨⟨z0, _⟩, ⟨z1, _⟩, ⟨z2, _⟩, ⟨z3, _⟩, ⟨z4, _⟩, zl⟩ := five hSw.1; obtain ⟨⟨y0, _⟩, ⟨y1, _⟩, ⟨y2, _⟩, ⟨y3, _⟩, yl⟩ := four hSw.2.1; obtain ⟨-, -, y5, y6⟩ := hSw; go_simp; first | done | (with_reducible rfl)
          try simp only [Act.put, List.getElem_toArray, List.getElem_cons_zero, List.getElem_cons_succ, List.setIfInBounds_toArray, List.set_cons_zero, List.set_cons_succ]
          refine wpAnyH_take (i := 11) (oi := _) (v := ?_) rfl (by kernel_rfl) (by kernel_rfl) (by kernel_rfl) (fun _ _ _ h => h) (Or.inl ⟨by rfl, ?_⟩) (by assumption) ?_
          case refine_2 => intro w hSw; (try dsimp only at hSw); obtain ⟨⟨z0, _⟩, ⟨z1, _⟩, ⟨z2, _⟩, ⟨z3, _⟩, ⟨z4, _⟩, zl⟩ := five hSw.1; obtain ⟨⟨y0, _⟩, ⟨y1, _⟩, ⟨y2, _⟩, ⟨y3, _⟩, yl⟩ := four hSw.2.1; obtain ⟨-, -, y5, y6⟩ := hSw; go_simp; first | done | (with_reducible rfl)
          try simp only [Act.put, List.getElem_toArray, List.getElem_cons_zero, List.getElem_cons_succ, List.setIfInBounds_toArray, List.set_cons_zero, List.set_cons_succ]
          refine wpAnyH_take (i := 12) (oi := _) (v := ?_) rfl (by kernel_rfl) (by kernel_rfl) (by kernel_rfl) (fun _ _ _ h => h) (Or.inl ⟨by rfl, ?_⟩) (by assumption) ?_
          case refine_2 => intro w hSw; (try dsimp only at hSw); obtain ⟨⟨z0, _⟩, ⟨z1, _⟩, ⟨z2, _⟩, ⟨z3, _⟩, ⟨z4, _⟩, zl⟩ := five hSw.1; obtain ⟨⟨y0, _⟩, ⟨y1, _⟩, ⟨y2, _⟩, ⟨y3, _⟩, yl⟩ := four hSw.2.1; obtain ⟨-, -, y5, y6⟩ := hSw; go_simp; first | done | (with_reducible rfl)
          try simp only [Act.put, List.getElem_toArray, List.getElem_cons_zero, List.getElem_cons_succ, List.setIfInBounds_toArray, List.set_cons_zero, List.set_cons_succ]
          refine wpAnyH_take (i := 13) (oi := _) (v := ?_) rfl (by kernel_rfl) (by kernel_rfl) (by kernel_rfl) (fun _ _ _ h => h) (Or.inl ⟨by rfl, ?_⟩) (by assumption) ?_
          case refine_2 => intro w hSw; (try dsimp only at hSw); obtain ⟨⟨z0, _⟩, ⟨z1, _⟩, ⟨z2, _⟩, ⟨z3, _⟩, ⟨z4, _⟩, zl⟩ := five hSw.1; obtain ⟨⟨y0, _⟩, ⟨y1, _⟩, ⟨y2, _⟩, ⟨y3, _⟩, yl⟩ := four hSw.2.1; obtain ⟨-, -, y5, y6⟩ := hSw; go_simp; first | done | (with_reducible rfl)
          try simp only [Act.put, List.getElem_toArray, List.getElem_cons_zero, List.getElem_cons_succ, List.setIfInBounds_toArray, List.set_cons_zero, List.set_cons_succ]
          refine wpAnyH_ready (rs := [14]) (by kernel_rfl) (by simp) ?_
          refine AllReadyH.cons rfl (fun K hK => ?_) AllReadyH.nil
          go_simp
          go_at_call 66
          refine (CM.out _).mono ?_
          rintro e W3 ⟨rfl, hb4⟩
          have HA4 := Lib.hid (hA.drew.below hb4)
          have HD4 := Lib.hid ((hb4.cell (p := ⟨mbk, mof + 3, none⟩) dl).trans d3')
          have HL4 := Lib.hid (Nat.lt_of_lt_of_le dl hb4.size)
          have HSZ3 : Hid (w.heap.size + 3 ≤ W3.heap.size) := Lib.hid (Nat.le_trans hz hb4.size)
          clear hb4
          refine hK.out _ _ ⟨HA4.out.held (w.heap.size, Obj.cells #[.int .i64 st, .int .i64 own, .int .i64 oth, .int .u64 (v3 : Int), .int .u64 (ech : Int)] 29 (0, 0)) (by simp), HA4.out.held ((w.heap.size + 1), Obj.cells #[.int .i64 kd, .slice (some ⟨mbk, mof, none⟩) n mc, .slice A2 l2 d2, .slice A3 l3 d3] 46 (0, 0)) (by simp), HD4.out, HL4.out⟩ (fun hHeld => ?_)
          clear hK K
          try simp only [Act.put, List.getElem_toArray, List.getElem_cons_zero, List.getElem_cons_succ, List.setIfInBounds_toArray, List.set_cons_zero, List.set_cons_succ]
          refine wpAnyH_take (i := 15) (oi := _) (v := ?_) rfl (by kernel_rfl) (by kernel_rfl) (by kernel_rfl) (fun _ _ _ h => h) (Or.inl ⟨by rfl, ?_⟩) (by assumption) ?_
          case refine_2 => intro w hSw; (try dsimp only at hSw); obtain ⟨⟨z0, _⟩, ⟨z1, _⟩, ⟨z2, _⟩, ⟨z3, _⟩, ⟨z4, _⟩, zl⟩ := five hSw.1; obtain ⟨⟨y0, _⟩, ⟨y1, _⟩, ⟨y2, _⟩, ⟨y3, _⟩, yl⟩ := four hSw.2.1; obtain ⟨-, -, y5, y6⟩ := hSw; go_simp; first | done | (with_reducible rfl)
          try simp only [Act.put, List.getElem_toArray, List.getElem_cons_zero, List.getElem_cons_succ, List.setIfInBounds_toArray, List.set_cons_zero, List.set_cons_succ]
          refine wpAnyH_take (i := 16) (oi := _) (v := ?_) rfl (by kernel_rfl) (by kernel_rfl) (by kernel_rfl) (fun _ _ _ h => h) (Or.inl ⟨by rfl, ?_⟩) (by assumption) ?_
          case refine_2 => intro w hSw; (try dsimp only at hSw); obtain ⟨⟨z0, _⟩, ⟨z1, _⟩, ⟨z2, _⟩, ⟨z3, _⟩, ⟨z4, _⟩, zl⟩ := five hSw.1; obtain ⟨⟨y0, _⟩, ⟨y1, _⟩, ⟨y2, _⟩, ⟨y3, _⟩, yl⟩ := four hSw.2.1; obtain ⟨-, -, y5, y6⟩ := hSw; go_simp; first | done | (with_reducible rfl)
          try simp only [Act.put, List.getElem_toArray, List.getElem_cons_zero, List.getElem_cons_succ, List.setIfInBounds_toArray, List.set_cons_zero, List.set_cons_succ]
          refine wpAnyH_take (i := 17) (oi := _) (v := ?_) rfl (by kernel_rfl) (by kernel_rfl) (by kernel_rfl) (fun _ _ _ h => h) (Or.inl ⟨by rfl, ?_⟩) (by assumption) ?_
          case refine_2 => intro w hSw; (try dsimp only at hSw); obtain ⟨⟨z0, _⟩, ⟨z1, _⟩, ⟨z2, _⟩, ⟨z3, _⟩, ⟨z4, _⟩, zl⟩ := five hSw.1; obtain ⟨⟨y0, _⟩, ⟨y1, _⟩, ⟨y2, _⟩, ⟨y3, _⟩, yl⟩ := four hSw.2.1; obtain ⟨-, -, y5, y6⟩ := hSw; go_simp; first | done | (with_reducible rfl)
          try simp only [Act.put, List.getElem_toArray, List.getElem_cons_zero, List.getElem_cons_succ, List.setIfInBounds_toArray, List.set_cons_zero, List.set_cons_succ]
          refine wpAnyH_done (by kernel_rfl) ?_ _
          have hA := HA4.out
          have hz9 := HSZ3.out
          clear hHeld a0 a1 a2 a3 a4 af0 af1 af2 af3 af4 b0 b1 b2 b3
          obtain ⟨⟨a0, af0⟩, ⟨a1, af1⟩, ⟨a2, af2⟩, ⟨a3, af3⟩, ⟨a4, af4⟩, al⟩ := five (hA.held (w.heap.size, Obj.cells #[.int .i64 st, .int .i64 own, .int .i64 oth, .int .u64 (v3 : Int), .int .u64 (ech : Int)] 29 (0, 0)) (by simp))
          obtain ⟨⟨b0, _⟩, ⟨b1, _⟩, ⟨b2, _⟩, ⟨b3, _⟩, bl⟩ := four (hA.held ((w.heap.size + 1), Obj.cells #[.int .i64 kd, .slice (some ⟨mbk, mof, none⟩) n mc, .slice A2 l2 d2, .slice A3 l3 d3] 46 (0, 0)) (by simp))
          have HS4 : Hid (Sd w0 nb L R ((w.heap.size, Obj.cells #[.int .i64 3, .int .i64 own, .int .i64 oth, .int .u64 (v3 : Int), .int .u64 (v2 : Int)] 29 (0, 0)) :: ((w.heap.size + 2), Obj.cells #[.int .i64 0, .int .i64 0, .int .i64 0, .int .u64 (0 : Int), .int .u64 (0 : Int)] 29 (0, 0)) :: os) ((W3.setCell ⟨w.heap.size, 0, none⟩ (.int .i64 3)).setCell ⟨w.heap.size, 4, none⟩ (.int .u64 (v2 : Int)))) := Lib.hid (by
            have q1 := (hA.sub (os' := (w.heap.size, Obj.cells #[.int .i64 st, .int .i64 own, .int .i64 oth, .int .u64 (v3 : Int), .int .u64 (ech : Int)] 29 (0, 0)) :: ((w.heap.size + 2), Obj.cells #[.int .i64 0, .int .i64 0, .int .i64 0, .int .u64 (0 : Int), .int .u64 (0 : Int)] 29 (0, 0)) :: os) (fun p hp => by simp only [List.mem_cons] at hp ⊢; rcases hp with h | h | h <;> simp [h])).store (j := 0) (v := .int .i64 3) (fun p hp => by
              rcases List.mem_cons.1 hp with rfl | hp
              · simp only; omega
              · have := HOS.out p hp; omega) hw0
            have q2 := q1.store (j := 4) (v := .int .u64 (v2 : Int)) (fun p hp => by
              rcases List.mem_cons.1 hp with rfl | hp
              · simp only; omega
              · have := HOS.out p hp; omega) hw0
            simpa using q2)
          have HSZ5 : Hid (w.heap.size + 3 ≤ ((W3.setCell ⟨w.heap.size, 0, none⟩ (.int .i64 3)).setCell ⟨w.heap.size, 4, none⟩ (.int .u64 (v2 : Int))).heap.size) := Lib.hid (by simp; exact hz9)
          go_wp2
          obtain ⟨W4, hW4⟩ : ∃ W4, ((W3.setCell ⟨w.heap.size, 0, none⟩ (.int .i64 3)).setCell ⟨w.heap.size, 4, none⟩ (.int .u64 (v2 : Int))) = W4 := ⟨_, rfl⟩
          rw [hW4] at HS4 HSZ5 ⊢
          have HSZ4 := HSZ5
          clear hW4 a0 a1 a2 a3 a4 af0 af1 af2 af3 af4 b0 b1 b2 b3 hz9 hA
          have HCA : Hid _ := Lib.hid (HC.out (W4.drew.alloc (.cells #[.int .u8 1] 5)) (by have := HS4.out.drew.box #[.int .u8 1] 5 rfl; simpa using this))
          simp only [World.size_alloc, Nat.add_sub_cancel] at HCA
          refine wp_region_held_drew (S := fun W => W.heap[w.heap.size]? = some (.cells #[.int .i64 3, .int .i64 own, .int .i64 oth, .int .u64 (v3 : Int), .int .u64 (v2 : Int)] 29 (0, 0))) (by kernel_rfl) (HS4.out.drew.held (w.heap.size, Obj.cells #[.int .i64 3, .int .i64 own, .int .i64 oth, .int .u64 (v3 : Int), .int .u64 (v2 : Int)] 29 (0, 0)) (by simp)) (fun hHeld => ?_)
          refine wpAnyH_take (i := 0) (oi := _) (v := ?_) rfl (by kernel_rfl) (by kernel_rfl) (by kernel_rfl) (fun _ _ _ h => h) (Or.inl ⟨by rfl, ?_⟩) (by assumption) ?_
          case refine_2 => intro w hSw; (try dsimp only at hSw); obtain ⟨⟨z0, _⟩, ⟨z1, _⟩, ⟨z2, _⟩, ⟨z3, _⟩, ⟨z4, _⟩, zl⟩ := five hSw; go_simp; first | done | (with_reducible rfl)
          try simp only [Act.put, List.getElem_toArray, List.getElem_cons_zero, List.setIfInBounds_toArray, List.set_cons_zero, List.set_cons_succ]
          refine wpAnyH_take (i := 1) (oi := _) (v := ?_) rfl (by kernel_rfl) (by kernel_rfl) (by kernel_rfl) (fun _ _ _ h => h) (Or.inl ⟨by rfl, ?_⟩) (by assumption) ?_
          case refine_2 => intro w hSw; (try dsimp only at hSw); obtain ⟨⟨z0, _⟩, ⟨z1, _⟩, ⟨z2, _⟩, ⟨z3, _⟩, ⟨z4, _⟩, zl⟩ := five hSw; go_simp; first | done | (with_reducible rfl)
          try simp only [Act.put, List.getElem_toArray, List.getElem_cons_zero, List.getElem_cons_succ, List.setIfInBounds_toArray, List.set_cons_zero, List.set_cons_succ]
          refine wpAnyH_take (i := 2) (oi := _) (v := ?_) rfl (by kernel_rfl) (by kernel_rfl) (by kernel_rfl) (fun _ _ _ h => h) (Or.inl ⟨by rfl, ?_⟩) (by assumption) ?_
          case refine_2 => intro w hSw; (try dsimp only at hSw); obtain ⟨⟨z0, _⟩, ⟨z1, _⟩, ⟨z2, _⟩, ⟨z3, _⟩, ⟨z4, _⟩, zl⟩ := five hSw; go_simp; first | done | (with_reducible rfl)
          try simp only [Act.put, List.getElem_toArray, List.getElem_cons_zero, List.getElem_cons_succ, List.setIfInBounds_toArray, List.set_cons_zero, List.set_cons_succ]
          refine wpAnyH_ready (rs := [3]) (by kernel_rfl) (by simp) ?_
          refine AllReadyH.cons rfl (fun K hK => ?_) AllReadyH.nil
          go_simp
          refine hK.out _ _ ((HS4.out.drew.alloc (.cells #[.int .u8 1] 5)).held (w.heap.size, Obj.cells #[.int .i64 3, .int .i64 own, .int .i64 oth, .int .u64 (v3 : Int), .int .u64 (v2 : Int)] 29 (0, 0)) (by simp)) (fun hHeld => ?_)
          clear hK K
          try simp only [Act.put, List.getElem_toArray, List.getElem_cons_zero, List.getElem_cons_succ, List.setIfInBounds_toArray, List.set_cons_zero, List.set_cons_succ]
          refine wpAnyH_ready (rs := [4]) (by kernel_rfl) (by simp) ?_
          refine AllReadyH.cons rfl (fun K hK => ?_) AllReadyH.nil
          go_simp
          go_at_call 35
          refine HCA.out.mono ?_
          rintro e W5 ⟨v5, rfl, ⟨A5, c5, ho, rfl, a52, a53, a54, a55, a56, a57⟩, a58⟩
          have H53 := Lib.hid a54
          have H54 := Lib.hid a55
          have HO5 : Hid (∀ p ∈ ho, w.heap.size + 3 ≤ p.1) := Lib.hid (fun p hp => Nat.le_trans HSZ4.out (Nat.le_trans (Nat.le_succ _) (a56 p hp)))
          have HS5 := Lib.hid a57
          obtain ⟨zl5, hzl⟩ : ∃ z, (answerB L ⟨3, own, oth, v3, v2⟩ [1]).length = z := ⟨_, rfl⟩
          rw [hzl] at H53 H54 a52 ⊢
          have HZ5 := Lib.hid hzl
          clear a54 a55 a56 a57 a58 hzl
          refine hK.out _ _ (HS5.out.held (w.heap.size, Obj.cells #[.int .i64 3, .int .i64 own, .int .i64 oth, .int .u64 (v3 : Int), .int .u64 (v2 : Int)] 29 (0, 0)) (by simp)) (fun hHeld => ?_)
          clear hK K
          try simp only [Act.put, List.getElem_toArray, List.getElem_cons_zero, List.getElem_cons_succ, List.setIfInBounds_toArray, List.set_cons_zero, List.set_cons_succ]
          refine wpAnyH_ready (rs := [5]) (by kernel_rfl) (by simp) ?_
          refine AllReadyH.cons rfl (fun K hK => ?_) AllReadyH.nil
          obtain ⟨⟨q0, qf0⟩, ⟨q1, qf1⟩, ⟨q2, qf2⟩, ⟨q3, qf3⟩, ⟨q4, qf4⟩, ql⟩ := five (HS5.out.held ((w.heap.size + 2), Obj.cells #[.int .i64 0, .int .i64 0, .int .i64 0, .int .u64 (0 : Int), .int .u64 (0 : Int)] 29 (0, 0)) (by simp))
          clear HCA
          go_simp
          refine hK.out _ _ (set5_other (by omega) (HS5.out.held (w.heap.size, Obj.cells #[.int .i64 3, .int .i64 own, .int .i64 oth, .int .u64 (v3 : Int), .int .u64 (v2 : Int)] 29 (0, 0)) (by simp))) (fun hHeld => ?_)
          clear hK K
          try simp only [Act.put, List.getElem_toArray, List.getElem_cons_zero, List.getElem_cons_succ, List.setIfInBounds_toArray, List.set_cons_zero, List.set_cons_succ]
          refine wpAnyH_take (i := 6) (oi := _) (v := ?_) rfl (by kernel_rfl) (by kernel_rfl) (by kernel_rfl) (fun _ _ _ h => h) (Or.inl ⟨by rfl, ?_⟩) (by assumption) ?_
          case refine_2 => intro w hSw; (try dsimp only at hSw); obtain ⟨⟨z0, _⟩, ⟨z1, _⟩, ⟨z2, _⟩, ⟨z3, _⟩, ⟨z4, _⟩, zl⟩ := five hSw; go_simp; first | done | (with_reducible rfl)
          try simp only [Act.put, List.getElem_toArray, List.getElem_cons_zero, List.getElem_cons_succ, List.setIfInBounds_toArray, List.set_cons_zero, List.set_cons_succ]
          refine wpAnyH_done (by kernel_rfl) ?_ _
          obtain ⟨W6, hW6⟩ : ∃ W6, (((((W5).setCell ⟨(w.heap.size + 2), 0, none⟩ (.int .i64 3)).setCell ⟨(w.heap.size + 2), 1, none⟩ (.int .i64 own)).setCell ⟨(w.heap.size + 2), 2, none⟩ (.int .i64 oth)).setCell ⟨(w.heap.size + 2), 3, none⟩ (.int .u64 (v3 : Int))).setCell ⟨(w.heap.size + 2), 4, none⟩ (.int .u64 (v2 : Int)) = W6 := ⟨_, rfl⟩
          have hk6 : W6.heap[(w.heap.size + 2)]? = some (.cells #[.int .i64 3, .int .i64 own, .int .i64 oth, .int .u64 (v3 : Int), .int .u64 (v2 : Int)] 29 (0, 0)) := by rw [← hW6]; exact set5_heap (HS5.out.held ((w.heap.size + 2), Obj.cells #[.int .i64 0, .int .i64 0, .int .i64 0, .int .u64 (0 : Int), .int .u64 (0 : Int)] 29 (0, 0)) (by simp))
          have HS6 : Hid (Sd w0 nb (answerL L ⟨3, own, oth, v3, v2⟩ [1]) R (ho ++ os) W6) := Lib.hid (by rw [← hW6]; exact HS5.out.drop ((w.heap.size + 2), Obj.cells #[.int .i64 0, .int .i64 0, .int .i64 0, .int .u64 (0 : Int), .int .u64 (0 : Int)] 29 (0, 0)) (by simp) (by omega) (keeps5 _ _ _ _ _ _ _) _ (fun p hp => by
            rcases List.mem_append.1 hp with h | h
            · exact ⟨by simp [h], by have := HO5.out p h; simp only; omega⟩
            · exact ⟨by simp [h], by have := HOS.out p h; simp only; omega⟩))
          rw [hW6]
          clear hW6 hHeld
          obtain ⟨⟨q0, qf0⟩, ⟨q1, qf1⟩, ⟨q2, qf2⟩, ⟨q3, qf3⟩, ⟨q4, qf4⟩, ql⟩ := five hk6
          clear hk6
          go_wp2
          refine ⟨rfl, .tuple #[.agg #[.int .i64 3, .int .i64 own, .int .i64 oth, .int .u64 (v3 : Int), .int .u64 (v2 : Int)], .slice A5 zl5 c5], by simp [results, Tryd.f51, go_sem, q0, q1, q2, q3, q4], ?_⟩
          exact HE.out _ _ ⟨A5, c5, ho, by rw [HZ5.out], by rw [HZ5.out]; exact a52, a53, by rw [HZ5.out]; exact H53.out, by rw [HZ5.out]; exact H54.out, fun p hp => by have := HO5.out p hp; omega, HS6.out⟩
      | false =>
        have HE : Hid (answerO ⟨st, own, oth, v3, ech⟩ L m = ⟨⟨st, own, oth, v3, ech⟩, [], L⟩) := Lib.hid (by unfold answerO; rw [if_pos (.inr ⟨hs1, by rw [e2]; exact hh⟩)])
        have CM : Hid (∀ V, Calls Tryd.prog 66 #[.agg #[.int .i64 st, .int .i64 own, .int .i64 oth, .int .u64 (v3 : Int), .int .u64 (ech : Int)], .int .u64 (v2 : Int)] V fun e w' => e = .returned (.bool false) ∧ Below V.heap.size V w') := Lib.hid (fun V => by have := sholds_any ⟨st, own, oth, v3, ech⟩ v2 V; rw [hh] at this; exact this)
        clear h hs hm e2 e3 hl3 hL
        go_enter Tryd.func51, Tryd.ntmps51
        go_wp2
        obtain ⟨W, hW, hB, hA, hz⟩ := HA.out
        rw [hW]
        clear hW
        obtain ⟨⟨a0, af0⟩, ⟨a1, af1⟩, ⟨a2, af2⟩, ⟨a3, af3⟩, ⟨a4, af4⟩, al⟩ := five (hA.held (w.heap.size, Obj.cells #[.int .i64 st, .int .i64 own, .int .i64 oth, .int .u64 (v3 : Int), .int .u64 (ech : Int)] 29 (0, 0)) (by simp))
        obtain ⟨⟨b0, _⟩, ⟨b1, _⟩, ⟨b2, _⟩, ⟨b3, _⟩, bl⟩ := four (hA.held ((w.heap.size + 1), Obj.cells #[.int .i64 kd, .slice (some ⟨mbk, mof, none⟩) n mc, .slice A2 l2 d2, .slice A3 l3 d3] 46 (0, 0)) (by simp))
        have d2' := (hB.cell (p := ⟨mbk, mof + 2, none⟩) mbl).trans c2
        have dl : mbk < W.heap.size := by have := hB.size; omega
        have d3' := (hB.cell (p := ⟨mbk, mof + 3, none⟩) mbl).trans c3
        go_wp2
        refine wp_region_held_drew (S := fun W => W.heap[w.heap.size]? = some (.cells #[.int .i64 st, .int .i64 own, .int .i64 oth, .int .u64 (v3 : Int), .int .u64 (ech : Int)] 29 (0, 0)) ∧ W.heap[(w.heap.size + 1)]? = some (.cells #[.int .i64 kd, .slice (some ⟨mbk, mof, none⟩) n mc, .slice A2 l2 d2, .slice A3 l3 d3] 46 (0, 0)) ∧ W.cell? ⟨mbk, mof + 3, none⟩ = some (.int .u64 (v3 : Int)) ∧ mbk < W.heap.size) (by kernel_rfl) ⟨hA.drew.held (w.heap.size, Obj.cells #[.int .i64 st, .int .i64 own, .int .i64 oth, .int .u64 (v3 : Int), .int .u64 (ech : Int)] 29 (0, 0)) (by simp), hA.drew.held ((w.heap.size + 1), Obj.cells #[.int .i64 kd, .slice (some ⟨mbk, mof, none⟩) n mc, .slice A2 l2 d2, .slice A3 l3 d3] 46 (0, 0)) (by simp), d3', dl⟩ (fun hHeld => ?_)
        refine wpAnyH_take (i := 0) (oi := _) (v := ?_) rfl (by kernel_rfl) (by kernel_rfl) (by kernel_rfl) (fun _ _ _ h => h) (Or.inl ⟨by rfl, ?_⟩) (by assumption) ?_
        case refine_2 => intro w hSw; (try dsimp only at hSw); obtain ⟨⟨z0, _⟩, ⟨z1, _⟩, ⟨z2, _⟩, ⟨z3, _⟩, ⟨z4, _⟩, zl⟩ := five hSw.1; obtain ⟨⟨y0, _⟩, ⟨y1, _⟩, ⟨y2, _⟩, ⟨y3, _⟩, yl⟩ := four hSw.2.1; obtain ⟨-, -, y5, y6⟩ := hSw; go_simp; first | done | (with_reducible rfl)
        try simp only [Act.put, List.getElem_toArray, List.getElem_cons_zero, List.setIfInBounds_toArray, List.set_cons_zero, List.set_cons_succ]
        refine wpAnyH_take (i := 1) (oi := _) (v := ?_) rfl (by kernel_rfl) (by kernel_rfl) (by kernel_rfl) (fun _ _ _ h => h) (Or.inl ⟨by rfl, ?_⟩) (by assumption) ?_
        case refine_2 => intro w hSw; (try dsimp only at hSw); obtain ⟨⟨z0, _⟩, ⟨z1, _⟩, ⟨z2, _⟩, ⟨z3, _⟩, ⟨z4, _⟩, zl⟩ := five hSw.1; obtain ⟨⟨y0, _⟩, ⟨y1, _⟩, ⟨y2, _⟩, ⟨y3, _⟩, yl⟩ := four hSw.2.1; obtain ⟨-, -, y5, y6⟩ := hSw; go_simp; first | done | (with_reducible rfl)
        try simp only [Act.put, List.getElem_toArray, List.getElem_cons_zero, List.getElem_cons_succ, List.setIfInBounds_toArray, List.set_cons_zero, List.set_cons_succ]
        refine wpAnyH_take (i := 2) (oi := _) (v := ?_) rfl (by kernel_rfl) (by kernel_rfl) (by kernel_rfl) (fun _ _ _ h => h) (Or.inl ⟨by rfl, ?_⟩) (by assumption) ?_
        case refine_2 => intro w hSw; (try dsimp only at hSw); obtain ⟨⟨z0, _⟩, ⟨z1, _⟩, ⟨z2, _⟩, ⟨z3, _⟩, ⟨z4, _⟩, zl⟩ := five hSw.1; obtain ⟨⟨y0, _⟩, ⟨y1, _⟩, ⟨y2, _⟩, ⟨y3, _⟩, yl⟩ := four hSw.2.1; obtain ⟨-, -, y5, y6⟩ := hSw; go_simp; first | done | (with_reducible rfl)
        try simp only [Act.put, List.getElem_toArray, List.getElem_cons_zero, List.getElem_cons_succ, List.setIfInBounds_toArray, List.set_cons_zero, List.set_cons_succ]
        refine wpAnyH_take (i := 3) (oi := _) (v := ?_) rfl (by kernel_rfl) (by kernel_rfl) (by kernel_rfl) (fun _ _ _ h => h) (Or.inl ⟨by rfl, ?_⟩) (by assumption) ?_
        case refine_2 => intro w hSw; (try dsimp only at hSw); obtain ⟨⟨z0, _⟩, ⟨z1, _⟩, ⟨z2, _⟩, ⟨z3, _⟩, ⟨z4, _⟩, zl⟩ := five hSw.1; obtain ⟨⟨y0, _⟩, ⟨y1, _⟩, ⟨y2, _⟩, ⟨y3, _⟩, yl⟩ := four hSw.2.1; obtain ⟨-, -, y5, y6⟩ := hSw; go_simp; first | done | (with_reducible rfl)
        try simp only [Act.put, List.getElem_toArray, List.getElem_cons_zero, List.getElem_cons_succ, List.setIfInBounds_toArray, List.set_cons_zero, List.set_cons_succ]
        refine wpAnyH_take (i := 4) (oi := _) (v := ?_) rfl (by kernel_rfl) (by kernel_rfl) (by kernel_rfl) (fun _ _ _ h => h) (Or.inl ⟨by rfl, ?_⟩) (by assumption) ?_
        case refine_2 => intro w hSw; (try dsimp only at hSw); obtain ⟨⟨z0, _⟩, ⟨z1, _⟩, ⟨z2, _⟩, ⟨z3, _⟩, ⟨z4, _⟩, zl⟩ := five hSw.1; obtain ⟨⟨y0, _⟩, ⟨y1, _⟩, ⟨y2, _⟩, ⟨y3, _⟩, yl⟩ := four hSw.2.1; obtain ⟨-, -, y5, y6⟩ := hSw; go_simp; first | done | (with_reducible rfl)
        try simp only [Act.put, List.getElem_toArray, List.getElem_cons_zero, List.getElem_cons_succ, List.setIfInBounds_toArray, List.set_cons_zero, List.set_cons_succ]
        refine wpAnyH_take (i := 5) (oi := _) (v := ?_) rfl (by kernel_rfl) (by kernel_rfl) (by kernel_rfl) (fun _ _ _ h => h) (Or.inl ⟨by rfl, ?_⟩) (by assumption) ?_
        case refine_2 => intro w hSw; (try dsimp only at hSw); obtain ⟨⟨z0, _⟩, ⟨z1, _⟩, ⟨z2, _⟩, ⟨z3, _⟩, ⟨z4, _⟩, zl⟩ := five hSw.1; obtain ⟨⟨y0, _⟩, ⟨y1, _⟩, ⟨y2, _⟩, ⟨y3, _⟩, yl⟩ := four hSw.2.1; obtain ⟨-, -, y5, y6⟩ := hSw; go_simp; first | done | (with_reducible rfl)
        try simp only [Act.put, List.getElem_toArray, List.getElem_cons_zero, List.getElem_cons_succ, List.setIfInBounds_toArray, List.set_cons_zero, List.set_cons_succ]
        refine wpAnyH_take (i := 6) (oi := _) (v := ?_) rfl (by kernel_rfl) (by kernel_rfl) (by kernel_rfl) (fun _ _ _ h => h) (Or.inl ⟨by rfl, ?_⟩) (by assumption) ?_
        case refine_2 => intro w hSw; (try dsimp only at hSw); obtain ⟨⟨z0, _⟩, ⟨z1, _⟩, ⟨z2, _⟩, ⟨z3, _⟩, ⟨z4, _⟩, zl⟩ := five hSw.1; obtain ⟨⟨y0, _⟩, ⟨y1, _⟩, ⟨y2, _⟩, ⟨y3, _⟩, yl⟩ := four hSw.2.1; obtain ⟨-, -, y5, y6⟩ := hSw; go_simp; first | done | (with_reducible rfl)
        try simp only [Act.put, List.getElem_toArray, List.getElem_cons_zero, List.getElem_cons_succ, List.setIfInBounds_toArray, List.set_cons_zero, List.set_cons_succ]
        refine wpAnyH_take (i := 7) (oi := _) (v := ?_) rfl (by kernel_rfl) (by kernel_rfl) (by kernel_rfl) (fun _ _ _ h => h) (Or.inl ⟨by rfl, ?_⟩) (by assumption) ?_
        case refine_2 => intro w hSw; (try dsimp only at hSw); obtain ⟨⟨z0, _⟩, ⟨z1, _⟩, ⟨z2, _⟩, ⟨z3, _⟩, ⟨z4, _⟩, zl⟩ := five hSw.1; obtain ⟨⟨y0, _⟩, ⟨y1, _⟩, ⟨y2, _⟩, ⟨y3, _⟩, yl⟩ := four hSw.2.1; obtain ⟨-, -, y5, y6⟩ := hSw; go_simp; first | done | (with_reducible rfl)
        try simp only [Act.put, List.getElem_toArray, List.getElem_cons_zero, List.getElem_cons_succ, List.setIfInBounds_toArray, List.set_cons_zero, List.set_cons_succ]
        refine wpAnyH_take (i := 8) (oi := _) (v := ?_) rfl (by kernel_rfl) (by kernel_rfl) (by kernel_rfl) (fun _ _ _ h => h) (Or.inl ⟨by rfl, ?_⟩) (by assumption) ?_
        case refine_2 => intro w hSw; (try dsimp only at hSw); obtain ⟨⟨z0, _⟩, ⟨z1, _⟩, ⟨z2, _⟩, ⟨z3, _⟩, ⟨z4, _⟩, zl⟩ := five hSw.1; obtain ⟨⟨y0, _⟩, ⟨y1, _⟩, ⟨y2, _⟩, ⟨y3, _⟩, yl⟩ := four hSw.2.1; obtain ⟨-, -, y5, y6⟩ := hSw; go_simp; first | done | (with_reducible rfl)
        try simp only [Act.put, List.getElem_toArray, List.getElem_cons_zero, List.getElem_cons_succ, List.setIfInBounds_toArray, List.set_cons_zero, List.set_cons_succ]
        refine wpAnyH_take (i := 9) (oi := _) (v := ?_) rfl (by kernel_rfl) (by kernel_rfl) (by kernel_rfl) (fun _ _ _ h => h) (Or.inl ⟨by rfl, ?_⟩) (by assumption) ?_
        case refine_2 => intro w hSw; (try dsimp only at hSw); obtain ⟨⟨z0, _⟩, ⟨z1, _⟩, ⟨z2, _⟩, ⟨z3, _⟩, ⟨z4, _⟩, zl⟩ := five hSw.1; obtain ⟨⟨y0, _⟩, ⟨y1, _⟩, ⟨y2, _⟩, ⟨y3, _⟩, yl⟩ := four hSw.2.1; obtain ⟨-, -, y5, y6⟩ := hSw; go_simp; first | done | (with_reducible rfl)
        try simp only [Act.put, List.getElem_toArray, List.getElem_cons_zero, List.getElem_cons_succ, List.setIfInBounds_toArray, List.set_cons_zero, List.set_cons_succ]
        refine wpAnyH_take (i := 10) (oi := _) (v := ?_) rfl (by kernel_rfl) (by kernel_rfl) (by kernel_rfl) (fun _ _ _ h => h) (Or.inl ⟨by rfl, ?_⟩) (by assumption) ?_
        case refine_2 => intro w hSw; (try dsimp only at hSw); obtain ⟨⟨z0, _⟩, ⟨z1, _⟩, ⟨z2, _⟩, ⟨z3, _⟩, ⟨z4, _⟩, zl⟩ := five hSw.1; obtain ⟨⟨y0, _⟩, ⟨y1, _⟩, ⟨y2, _⟩, ⟨y3, _⟩, yl⟩ := four hSw.2.1; obtain ⟨-, -, y5, y6⟩ := hSw; go_simp; first | done | (with_reducible rfl)
        try simp only [Act.put, List.getElem_toArray, List.getElem_cons_zero, List.getElem_cons_succ, List.setIfInBounds_toArray, List.set_cons_zero, List.set_cons_succ]
        refine wpAnyH_take (i := 11) (oi := _) (v := ?_) rfl (by kernel_rfl) (by kernel_rfl) (by kernel_rfl) (fun _ _ _ h => h) (Or.inl ⟨by rfl, ?_⟩) (by assumption) ?_
        case refine_2 => intro w hSw; (try dsimp only at hSw); obtain ⟨⟨z0, _⟩, ⟨z1, _⟩, ⟨z2, _⟩, ⟨z3, _⟩, ⟨z4, _⟩, zl⟩ := five hSw.1; obtain ⟨⟨y0, _⟩, ⟨y1, _⟩, ⟨y2, _⟩, ⟨y3, _⟩, yl⟩ := four hSw.2.1; obtain ⟨-, -, y5, y6⟩ := hSw; go_simp; first | done | (with_reducible rfl)
        try simp only [Act.put, List.getElem_toArray, List.getElem_cons_zero, List.getElem_cons_succ, List.setIfInBounds_toArray, List.set_cons_zero, List.set_cons_succ]
        refine wpAnyH_take (i := 12) (oi := _) (v := ?_) rfl (by kernel_rfl) (by kernel_rfl) (by kernel_rfl) (fun _ _ _ h => h) (Or.inl ⟨by rfl, ?_⟩) (by assumption) ?_
        case refine_2 => intro w hSw; (try dsimp only at hSw); obtain ⟨⟨z0, _⟩, ⟨z1, _⟩, ⟨z2, _⟩, ⟨z3, _⟩, ⟨z4, _⟩, zl⟩ := five hSw.1; obtain ⟨⟨y0, _⟩, ⟨y1, _⟩, ⟨y2, _⟩, ⟨y3, _⟩, yl⟩ := four hSw.2.1; obtain ⟨-, -, y5, y6⟩ := hSw; go_simp; first | done | (with_reducible rfl)
        try simp only [Act.put, List.getElem_toArray, List.getElem_cons_zero, List.getElem_cons_succ, List.setIfInBounds_toArray, List.set_cons_zero, List.set_cons_succ]
        refine wpAnyH_take (i := 13) (oi := _) (v := ?_) rfl (by kernel_rfl) (by kernel_rfl) (by kernel_rfl) (fun _ _ _ h => h) (Or.inl ⟨by rfl, ?_⟩) (by assumption) ?_
        case refine_2 => intro w hSw; (try dsimp only at hSw); obtain ⟨⟨z0, _⟩, ⟨z1, _⟩, ⟨z2, _⟩, ⟨z3, _⟩, ⟨z4, _⟩, zl⟩ := five hSw.1; obtain ⟨⟨y0, _⟩, ⟨y1, _⟩, ⟨y2, _⟩, ⟨y3, _⟩, yl⟩ := four hSw.2.1; obtain ⟨-, -, y5, y6⟩ := hSw; go_simp; first | done | (with_reducible rfl)
        try simp only [Act.put, List.getElem_toArray, List.getElem_cons_zero, List.getElem_cons_succ, List.setIfInBounds_toArray, List.set_cons_zero, List.set_cons_succ]
        refine wpAnyH_ready (rs := [14]) (by kernel_rfl) (by simp) ?_
        refine AllReadyH.cons rfl (fun K hK => ?_) AllReadyH.nil
        go_simp
        go_at_call 66
        refine (CM.out _).mono ?_
        rintro e W3 ⟨rfl, hb4⟩
        have HA4 := Lib.hid (hA.drew.below hb4)
        have HD4 := Lib.hid ((hb4.cell (p := ⟨mbk, mof + 3, none⟩) dl).trans d3')
        have HL4 := Lib.hid (Nat.lt_of_lt_of_le dl hb4.size)
        have HSZ3 : Hid (w.heap.size + 3 ≤ W3.heap.size) := Lib.hid (Nat.le_trans hz hb4.size)
        clear hb4
        refine hK.out _ _ ⟨HA4.out.held (w.heap.size, Obj.cells #[.int .i64 st, .int .i64 own, .int .i64 oth, .int .u64 (v3 : Int), .int .u64 (ech : Int)] 29 (0, 0)) (by simp), HA4.out.held ((w.heap.size + 1), Obj.cells #[.int .i64 kd, .slice (some ⟨mbk, mof, none⟩) n mc, .slice A2 l2 d2, .slice A3 l3 d3] 46 (0, 0)) (by simp), HD4.out, HL4.out⟩ (fun hHeld => ?_)
        clear hK K
        try simp only [Act.put, List.getElem_toArray, List.getElem_cons_zero, List.getElem_cons_succ, List.setIfInBounds_toArray, List.set_cons_zero, List.set_cons_succ]
        refine wpAnyH_take (i := 15) (oi := _) (v := ?_) rfl (by kernel_rfl) (by kernel_rfl) (by kernel_rfl) (fun _ _ _ h => h) (Or.inl ⟨by rfl, ?_⟩) (by assumption) ?_
        case refine_2 => intro w hSw; (try dsimp only at hSw); obtain ⟨⟨z0, _⟩, ⟨z1, _⟩, ⟨z2, _⟩, ⟨z3, _⟩, ⟨z4, _⟩, zl⟩ := five hSw.1; obtain ⟨⟨y0, _⟩, ⟨y1, _⟩, ⟨y2, _⟩, ⟨y3, _⟩, yl⟩ := four hSw.2.1; obtain ⟨-, -, y5, y6⟩ := hSw; go_simp; first | done | (with_reducible rfl)
        try simp only [Act.put, List.getElem_toArray, List.getElem_cons_zero, List.getElem_cons_succ, List.setIfInBounds_toArray, List.set_cons_zero, List.set_cons_succ]
        refine wpAnyH_take (i := 16) (oi := _) (v := ?_) rfl (by kernel_rfl) (by kernel_rfl) (by kernel_rfl) (fun _ _ _ h => h) (Or.inl ⟨by rfl, ?_⟩) (by assumption) ?_
        case refine_2 => intro w hSw; (try dsimp only at hSw); obtain ⟨⟨z0, _⟩, ⟨z1, _⟩, ⟨z2, _⟩, ⟨z3, _⟩, ⟨z4, _⟩, zl⟩ := five hSw.1; obtain ⟨⟨y0, _⟩, ⟨y1, _⟩, ⟨y2, _⟩, ⟨y3, _⟩, yl⟩ := four hSw.2.1; obtain ⟨-, -, y5, y6⟩ := hSw; go_simp; first | done | (with_reducible rfl)
        try simp only [Act.put, List.getElem_toArray, List.getElem_cons_zero, List.getElem_cons_succ, List.setIfInBounds_toArray, List.set_cons_zero, List.set_cons_succ]
        refine wpAnyH_take (i := 17) (oi := _) (v := ?_) rfl (by kernel_rfl) (by kernel_rfl) (by kernel_rfl) (fun _ _ _ h => h) (Or.inl ⟨by rfl, ?_⟩) (by assumption) ?_
        case refine_2 => intro w hSw; (try dsimp only at hSw); obtain ⟨⟨z0, _⟩, ⟨z1, _⟩, ⟨z2, _⟩, ⟨z3, _⟩, ⟨z4, _⟩, zl⟩ := five hSw.1; obtain ⟨⟨y0, _⟩, ⟨y1, _⟩, ⟨y2, _⟩, ⟨y3, _⟩, yl⟩ := four hSw.2.1; obtain ⟨-, -, y5, y6⟩ := hSw; go_simp; first | done | (with_reducible rfl)
        try simp only [Act.put, List.getElem_toArray, List.getElem_cons_zero, List.getElem_cons_succ, List.setIfInBounds_toArray, List.set_cons_zero, List.set_cons_succ]
        refine wpAnyH_done (by kernel_rfl) ?_ _
        have HS4 := Lib.hid (HA4.out.sub (os' := (w.heap.size, Obj.cells #[.int .i64 st, .int .i64 own, .int .i64 oth, .int .u64 (v3 : Int), .int .u64 (ech : Int)] 29 (0, 0)) :: ((w.heap.size + 2), Obj.cells #[.int .i64 0, .int .i64 0, .int .i64 0, .int .u64 (0 : Int), .int .u64 (0 : Int)] 29 (0, 0)) :: os) (fun p hp => by simp only [List.mem_cons] at hp ⊢; rcases hp with h | h | h <;> simp [h]))
        clear hHeld hA hB a0 a1 a2 a3 a4 af0 af1 af2 af3 af4 b0 b1 b2 b3
        have zz := HSZ3.out
        obtain ⟨W4, rfl⟩ : ∃ W4, W4 = W3 := ⟨W3, rfl⟩
        obtain ⟨⟨z0, zf0⟩, ⟨z1, zf1⟩, ⟨z2, zf2⟩, ⟨z3, zf3⟩, ⟨z4, zf4⟩, zl⟩ := five (HS4.out.held (w.heap.size, Obj.cells #[.int .i64 st, .int .i64 own, .int .i64 oth, .int .u64 (v3 : Int), .int .u64 (ech : Int)] 29 (0, 0)) (by simp))
        obtain ⟨⟨q0, qf0⟩, ⟨q1, qf1⟩, ⟨q2, qf2⟩, ⟨q3, qf3⟩, ⟨q4, qf4⟩, ql⟩ := five (HS4.out.held ((w.heap.size + 2), Obj.cells #[.int .i64 0, .int .i64 0, .int .i64 0, .int .u64 (0 : Int), .int .u64 (0 : Int)] 29 (0, 0)) (by simp))
        go_wp2
        obtain ⟨W6, hW6⟩ : ∃ W6, (((((W4).setCell ⟨(w.heap.size + 2), 0, none⟩ (.int .i64 st)).setCell ⟨(w.heap.size + 2), 1, none⟩ (.int .i64 own)).setCell ⟨(w.heap.size + 2), 2, none⟩ (.int .i64 oth)).setCell ⟨(w.heap.size + 2), 3, none⟩ (.int .u64 (v3 : Int))).setCell ⟨(w.heap.size + 2), 4, none⟩ (.int .u64 (ech : Int)) = W6 := ⟨_, rfl⟩
        have hk6 : W6.heap[(w.heap.size + 2)]? = some (.cells #[.int .i64 st, .int .i64 own, .int .i64 oth, .int .u64 (v3 : Int), .int .u64 (ech : Int)] 29 (0, 0)) := by rw [← hW6]; exact set5_heap (HS4.out.held ((w.heap.size + 2), Obj.cells #[.int .i64 0, .int .i64 0, .int .i64 0, .int .u64 (0 : Int), .int .u64 (0 : Int)] 29 (0, 0)) (by simp))
        have HS6 : Hid (Sd w0 nb L R os W6) := Lib.hid (by rw [← hW6]; exact HS4.out.drop ((w.heap.size + 2), Obj.cells #[.int .i64 0, .int .i64 0, .int .i64 0, .int .u64 (0 : Int), .int .u64 (0 : Int)] 29 (0, 0)) (by simp) (by simp only; omega) (keeps5 _ _ _ _ _ _ _) _ (fun p hp => ⟨by simp [hp], by have := HOS.out p hp; simp only; omega⟩))
        clear q0 q1 q2 q3 q4 qf0 qf1 qf2 qf3 qf4
        rw [hW6]
        clear hW6
        obtain ⟨⟨q0, qf0⟩, ⟨q1, qf1⟩, ⟨q2, qf2⟩, ⟨q3, qf3⟩, ⟨q4, qf4⟩, ql⟩ := five hk6
        clear hk6
        refine ⟨rfl, .tuple #[.agg #[.int .i64 st, .int .i64 own, .int .i64 oth, .int .u64 (v3 : Int), .int .u64 (ech : Int)], .slice none 0 0], by simp [results, Tryd.f51, go_sem, q0, q1, q2, q3, q4], ?_⟩
        unfold ShAns
        rw [HE.out]
        exact ⟨_, rfl, sent_nil HS6.out⟩
  · have tq : ((v3 : Int) != (non : Int)) = true := by simp; omega
    have HE : Hid (answerO ⟨st, own, oth, non, ech⟩ L m = ⟨⟨st, own, oth, non, ech⟩, [], L⟩) := Lib.hid (by unfold answerO; rw [if_pos (.inl (by rw [e3]; exact hq))])
    clear h hs hm e2 e3 hl3 hL hq
    go_enter Tryd.func51, Tryd.ntmps51
    go_wp2
    obtain ⟨W, hW, hB, hA, hz⟩ := HA.out
    rw [hW]
    clear hW
    obtain ⟨⟨a0, af0⟩, ⟨a1, af1⟩, ⟨a2, af2⟩, ⟨a3, af3⟩, ⟨a4, af4⟩, al⟩ := five (hA.held (w.heap.size, Obj.cells #[.int .i64 st, .int .i64 own, .int .i64 oth, .int .u64 (non : Int), .int .u64 (ech : Int)] 29 (0, 0)) (by simp))
    obtain ⟨⟨b0, _⟩, ⟨b1, _⟩, ⟨b2, _⟩, ⟨b3, _⟩, bl⟩ := four (hA.held ((w.heap.size + 1), Obj.cells #[.int .i64 kd, .slice (some ⟨mbk, mof, none⟩) n mc, .slice A2 l2 d2, .slice A3 l3 d3] 46 (0, 0)) (by simp))
    have d2' := (hB.cell (p := ⟨mbk, mof + 2, none⟩) mbl).trans c2
    have dl : mbk < W.heap.size := by have := hB.size; omega
    have d3' := (hB.cell (p := ⟨mbk, mof + 3, none⟩) mbl).trans c3
    go_wp2
    refine wp_region_held_drew (S := fun W => W.heap[w.heap.size]? = some (.cells #[.int .i64 st, .int .i64 own, .int .i64 oth, .int .u64 (non : Int), .int .u64 (ech : Int)] 29 (0, 0)) ∧ W.heap[(w.heap.size + 1)]? = some (.cells #[.int .i64 kd, .slice (some ⟨mbk, mof, none⟩) n mc, .slice A2 l2 d2, .slice A3 l3 d3] 46 (0, 0)) ∧ W.cell? ⟨mbk, mof + 3, none⟩ = some (.int .u64 (v3 : Int)) ∧ mbk < W.heap.size) (by kernel_rfl) ⟨hA.drew.held (w.heap.size, Obj.cells #[.int .i64 st, .int .i64 own, .int .i64 oth, .int .u64 (non : Int), .int .u64 (ech : Int)] 29 (0, 0)) (by simp), hA.drew.held ((w.heap.size + 1), Obj.cells #[.int .i64 kd, .slice (some ⟨mbk, mof, none⟩) n mc, .slice A2 l2 d2, .slice A3 l3 d3] 46 (0, 0)) (by simp), d3', dl⟩ (fun hHeld => ?_)
    refine wpAnyH_take (i := 0) (oi := _) (v := ?_) rfl (by kernel_rfl) (by kernel_rfl) (by kernel_rfl) (fun _ _ _ h => h) (Or.inl ⟨by rfl, ?_⟩) (by assumption) ?_
    case refine_2 => intro w hSw; (try dsimp only at hSw); obtain ⟨⟨z0, _⟩, ⟨z1, _⟩, ⟨z2, _⟩, ⟨z3, _⟩, ⟨z4, _⟩, zl⟩ := five hSw.1; obtain ⟨⟨y0, _⟩, ⟨y1, _⟩, ⟨y2, _⟩, ⟨y3, _⟩, yl⟩ := four hSw.2.1; obtain ⟨-, -, y5, y6⟩ := hSw; go_simp; first | done | (with_reducible rfl)
    try simp only [Act.put, List.getElem_toArray, List.getElem_cons_zero, List.setIfInBounds_toArray, List.set_cons_zero, List.set_cons_succ]
    refine wpAnyH_take (i := 1) (oi := _) (v := ?_) rfl (by kernel_rfl) (by kernel_rfl) (by kernel_rfl) (fun _ _ _ h => h) (Or.inl ⟨by rfl, ?_⟩) (by assumption) ?_
    case refine_2 => intro w hSw; (try dsimp only at hSw); obtain ⟨⟨z0, _⟩, ⟨z1, _⟩, ⟨z2, _⟩, ⟨z3, _⟩, ⟨z4, _⟩, zl⟩ := five hSw.1; obtain ⟨⟨y0, _⟩, ⟨y1, _⟩, ⟨y2, _⟩, ⟨y3, _⟩, yl⟩ := four hSw.2.1; obtain ⟨-, -, y5, y6⟩ := hSw; go_simp; first | done | (with_reducible rfl)
    try simp only [Act.put, List.getElem_toArray, List.getElem_cons_zero, List.getElem_cons_succ, List.setIfInBounds_toArray, List.set_cons_zero, List.set_cons_succ]
    refine wpAnyH_take (i := 2) (oi := _) (v := ?_) rfl (by kernel_rfl) (by kernel_rfl) (by kernel_rfl) (fun _ _ _ h => h) (Or.inl ⟨by rfl, ?_⟩) (by assumption) ?_
    case refine_2 => intro w hSw; (try dsimp only at hSw); obtain ⟨⟨z0, _⟩, ⟨z1, _⟩, ⟨z2, _⟩, ⟨z3, _⟩, ⟨z4, _⟩, zl⟩ := five hSw.1; obtain ⟨⟨y0, _⟩, ⟨y1, _⟩, ⟨y2, _⟩, ⟨y3, _⟩, yl⟩ := four hSw.2.1; obtain ⟨-, -, y5, y6⟩ := hSw; go_simp; first | done | (with_reducible rfl)
    try simp only [Act.put, List.getElem_toArray, List.getElem_cons_zero, List.getElem_cons_succ, List.setIfInBounds_toArray, List.set_cons_zero, List.set_cons_succ]
    refine wpAnyH_take (i := 3) (oi := _) (v := ?_) rfl (by kernel_rfl) (by kernel_rfl) (by kernel_rfl) (fun _ _ _ h => h) (Or.inl ⟨by rfl, ?_⟩) (by assumption) ?_
    case refine_2 => intro w hSw; (try dsimp only at hSw); obtain ⟨⟨z0, _⟩, ⟨z1, _⟩, ⟨z2, _⟩, ⟨z3, _⟩, ⟨z4, _⟩, zl⟩ := five hSw.1; obtain ⟨⟨y0, _⟩, ⟨y1, _⟩, ⟨y2, _⟩, ⟨y3, _⟩, yl⟩ := four hSw.2.1; obtain ⟨-, -, y5, y6⟩ := hSw; go_simp; first | done | (with_reducible rfl)
    try simp only [Act.put, List.getElem_toArray, List.getElem_cons_zero, List.getElem_cons_succ, List.setIfInBounds_toArray, List.set_cons_zero, List.set_cons_succ]
    refine wpAnyH_take (i := 4) (oi := _) (v := ?_) rfl (by kernel_rfl) (by kernel_rfl) (by kernel_rfl) (fun _ _ _ h => h) (Or.inl ⟨by rfl, ?_⟩) (by assumption) ?_
    case refine_2 => intro w hSw; (try dsimp only at hSw); obtain ⟨⟨z0, _⟩, ⟨z1, _⟩, ⟨z2, _⟩, ⟨z3, _⟩, ⟨z4, _⟩, zl⟩ := five hSw.1; obtain ⟨⟨y0, _⟩, ⟨y1, _⟩, ⟨y2, _⟩, ⟨y3, _⟩, yl⟩ := four hSw.2.1; obtain ⟨-, -, y5, y6⟩ := hSw; go_simp; first | done | (with_reducible rfl)
    try simp only [Act.put, List.getElem_toArray, List.getElem_cons_zero, List.getElem_cons_succ, List.setIfInBounds_toArray, List.set_cons_zero, List.set_cons_succ]
    refine wpAnyH_take (i := 5) (oi := _) (v := ?_) rfl (by kernel_rfl) (by kernel_rfl) (by kernel_rfl) (fun _ _ _ h => h) (Or.inl ⟨by rfl, ?_⟩) (by assumption) ?_
    case refine_2 => intro w hSw; (try dsimp only at hSw); obtain ⟨⟨z0, _⟩, ⟨z1, _⟩, ⟨z2, _⟩, ⟨z3, _⟩, ⟨z4, _⟩, zl⟩ := five hSw.1; obtain ⟨⟨y0, _⟩, ⟨y1, _⟩, ⟨y2, _⟩, ⟨y3, _⟩, yl⟩ := four hSw.2.1; obtain ⟨-, -, y5, y6⟩ := hSw; go_simp; first | done | (with_reducible rfl)
    try simp only [Act.put, List.getElem_toArray, List.getElem_cons_zero, List.getElem_cons_succ, List.setIfInBounds_toArray, List.set_cons_zero, List.set_cons_succ]
    refine wpAnyH_take (i := 6) (oi := _) (v := ?_) rfl (by kernel_rfl) (by kernel_rfl) (by kernel_rfl) (fun _ _ _ h => h) (Or.inl ⟨by rfl, ?_⟩) (by assumption) ?_
    case refine_2 => intro w hSw; (try dsimp only at hSw); obtain ⟨⟨z0, _⟩, ⟨z1, _⟩, ⟨z2, _⟩, ⟨z3, _⟩, ⟨z4, _⟩, zl⟩ := five hSw.1; obtain ⟨⟨y0, _⟩, ⟨y1, _⟩, ⟨y2, _⟩, ⟨y3, _⟩, yl⟩ := four hSw.2.1; obtain ⟨-, -, y5, y6⟩ := hSw; go_simp; first | done | (with_reducible rfl)
    try simp only [Act.put, List.getElem_toArray, List.getElem_cons_zero, List.getElem_cons_succ, List.setIfInBounds_toArray, List.set_cons_zero, List.set_cons_succ]
    refine wpAnyH_take (i := 7) (oi := _) (v := ?_) rfl (by kernel_rfl) (by kernel_rfl) (by kernel_rfl) (fun _ _ _ h => h) (Or.inl ⟨by rfl, ?_⟩) (by assumption) ?_
    case refine_2 => intro w hSw; (try dsimp only at hSw); obtain ⟨⟨z0, _⟩, ⟨z1, _⟩, ⟨z2, _⟩, ⟨z3, _⟩, ⟨z4, _⟩, zl⟩ := five hSw.1; obtain ⟨⟨y0, _⟩, ⟨y1, _⟩, ⟨y2, _⟩, ⟨y3, _⟩, yl⟩ := four hSw.2.1; obtain ⟨-, -, y5, y6⟩ := hSw; go_simp; first | done | (with_reducible rfl)
    try simp only [Act.put, List.getElem_toArray, List.getElem_cons_zero, List.getElem_cons_succ, List.setIfInBounds_toArray, List.set_cons_zero, List.set_cons_succ]
    refine wpAnyH_take (i := 8) (oi := _) (v := undef) rfl (by kernel_rfl) (by kernel_rfl) (by kernel_rfl) (fun _ _ _ h => h) (Or.inr ⟨by rfl, rfl⟩) (by assumption) ?_
    try simp only [Act.put, List.getElem_toArray, List.getElem_cons_zero, List.getElem_cons_succ, List.setIfInBounds_toArray, List.set_cons_zero, List.set_cons_succ]
    refine wpAnyH_take (i := 9) (oi := _) (v := undef) rfl (by kernel_rfl) (by kernel_rfl) (by kernel_rfl) (fun _ _ _ h => h) (Or.inr ⟨by rfl, rfl⟩) (by assumption) ?_
    try simp only [Act.put, List.getElem_toArray, List.getElem_cons_zero, List.getElem_cons_succ, List.setIfInBounds_toArray, List.set_cons_zero, List.set_cons_succ]
    refine wpAnyH_take (i := 10) (oi := _) (v := undef) rfl (by kernel_rfl) (by kernel_rfl) (by kernel_rfl) (fun _ _ _ h => h) (Or.inr ⟨by rfl, rfl⟩) (by assumption) ?_
    try simp only [Act.put, List.getElem_toArray, List.getElem_cons_zero, List.getElem_cons_succ, List.setIfInBounds_toArray, List.set_cons_zero, List.set_cons_succ]
    refine wpAnyH_take (i := 11) (oi := _) (v := undef) rfl (by kernel_rfl) (by kernel_rfl) (by kernel_rfl) (fun _ _ _ h => h) (Or.inr ⟨by rfl, rfl⟩) (by assumption) ?_
    try simp only [Act.put, List.getElem_toArray, List.getElem_cons_zero, List.getElem_cons_succ, List.setIfInBounds_toArray, List.set_cons_zero, List.set_cons_succ]
    refine wpAnyH_take (i := 12) (oi := _) (v := undef) rfl (by kernel_rfl) (by kernel_rfl) (by kernel_rfl) (fun _ _ _ h => h) (Or.inr ⟨by rfl, rfl⟩) (by assumption) ?_
    try simp only [Act.put, List.getElem_toArray, List.getElem_cons_zero, List.getElem_cons_succ, List.setIfInBounds_toArray, List.set_cons_zero, List.set_cons_succ]
    refine wpAnyH_take (i := 13) (oi := _) (v := undef) rfl (by kernel_rfl) (by kernel_rfl) (by kernel_rfl) (fun _ _ _ h => h) (Or.inr ⟨by rfl, rfl⟩) (by assumption) ?_
    try simp only [Act.put, List.getElem_toArray, List.getElem_cons_zero, List.getElem_cons_succ, List.setIfInBounds_toArray, List.set_cons_zero, List.set_cons_succ]
    refine wpAnyH_take (i := 14) (oi := _) (v := undef) rfl (by kernel_rfl) (by kernel_rfl) (by kernel_rfl) (fun _ _ _ h => h) (Or.inr ⟨by rfl, rfl⟩) (by assumption) ?_
    try simp only [Act.put, List.getElem_toArray, List.getElem_cons_zero, List.getElem_cons_succ, List.setIfInBounds_toArray, List.set_cons_zero, List.set_cons_succ]
    refine wpAnyH_take (i := 15) (oi := _) (v := undef) rfl (by kernel_rfl) (by kernel_rfl) (by kernel_rfl) (fun _ _ _ h => h) (Or.inr ⟨by rfl, rfl⟩) (by assumption) ?_
    try simp only [Act.put, List.getElem_toArray, List.getElem_cons_zero, List.getElem_cons_succ, List.setIfInBounds_toArray, List.set_cons_zero, List.set_cons_succ]
    refine wpAnyH_take (i := 16) (oi := _) (v := undef) rfl (by kernel_rfl) (by kernel_rfl) (by kernel_rfl) (fun _ _ _ h => h) (Or.inr ⟨by rfl, rfl⟩) (by assumption) ?_
    try simp only [Act.put, List.getElem_toArray, List.getElem_cons_zero, List.getElem_cons_succ, List.setIfInBounds_toArray, List.set_cons_zero, List.set_cons_succ]
    refine wpAnyH_take (i := 17) (oi := _) (v := ?_) rfl (by kernel_rfl) (by kernel_rfl) (by kernel_rfl) (fun _ _ _ h => h) (Or.inl ⟨by rfl, ?_⟩) (by assumption) ?_
    case refine_2 => intro w hSw; (try dsimp only at hSw); obtain ⟨⟨z0, _⟩, ⟨z1, _⟩, ⟨z2, _⟩, ⟨z3, _⟩, ⟨z4, _⟩, zl⟩ := five hSw.1; obtain ⟨⟨y0, _⟩, ⟨y1, _⟩, ⟨y2, _⟩, ⟨y3, _⟩, yl⟩ := four hSw.2.1; obtain ⟨-, -, y5, y6⟩ := hSw; go_simp; first | done | (with_reducible rfl)
    try simp only [Act.put, List.getElem_toArray, List.getElem_cons_zero, List.getElem_cons_succ, List.setIfInBounds_toArray, List.set_cons_zero, List.set_cons_succ]
    refine wpAnyH_done (by kernel_rfl) ?_ _
    have HS4 := Lib.hid (hA.drew.sub (os' := (w.heap.size, Obj.cells #[.int .i64 st, .int .i64 own, .int .i64 oth, .int .u64 (non : Int), .int .u64 (ech : Int)] 29 (0, 0)) :: ((w.heap.size + 2), Obj.cells #[.int .i64 0, .int .i64 0, .int .i64 0, .int .u64 (0 : Int), .int .u64 (0 : Int)] 29 (0, 0)) :: os) (fun p hp => by simp only [List.mem_cons] at hp ⊢; rcases hp with h | h | h <;> simp [h]))
    have hz4 : w.heap.size + 3 ≤ W.drew.heap.size := hz
    obtain ⟨W4, hW4⟩ : ∃ W4, W.drew = W4 := ⟨_, rfl⟩
    rw [hW4] at HS4 hz4 ⊢
    clear hHeld hA hB hW4 a0 a1 a2 a3 a4 af0 af1 af2 af3 af4 b0 b1 b2 b3
    obtain ⟨⟨z0, zf0⟩, ⟨z1, zf1⟩, ⟨z2, zf2⟩, ⟨z3, zf3⟩, ⟨z4, zf4⟩, zl⟩ := five (HS4.out.held (w.heap.size, Obj.cells #[.int .i64 st, .int .i64 own, .int .i64 oth, .int .u64 (non : Int), .int .u64 (ech : Int)] 29 (0, 0)) (by simp))
    obtain ⟨⟨q0, qf0⟩, ⟨q1, qf1⟩, ⟨q2, qf2⟩, ⟨q3, qf3⟩, ⟨q4, qf4⟩, ql⟩ := five (HS4.out.held ((w.heap.size + 2), Obj.cells #[.int .i64 0, .int .i64 0, .int .i64 0, .int .u64 (0 : Int), .int .u64 (0 : Int)] 29 (0, 0)) (by simp))
    go_wp2
    obtain ⟨W6, hW6⟩ : ∃ W6, (((((W4).setCell ⟨(w.heap.size + 2), 0, none⟩ (.int .i64 st)).setCell ⟨(w.heap.size + 2), 1, none⟩ (.int .i64 own)).setCell ⟨(w.heap.size + 2), 2, none⟩ (.int .i64 oth)).setCell ⟨(w.heap.size + 2), 3, none⟩ (.int .u64 (non : Int))).setCell ⟨(w.heap.size + 2), 4, none⟩ (.int .u64 (ech : Int)) = W6 := ⟨_, rfl⟩
    have hk6 : W6.heap[(w.heap.size + 2)]? = some (.cells #[.int .i64 st, .int .i64 own, .int .i64 oth, .int .u64 (non : Int), .int .u64 (ech : Int)] 29 (0, 0)) := by rw [← hW6]; exact set5_heap (HS4.out.held ((w.heap.size + 2), Obj.cells #[.int .i64 0, .int .i64 0, .int .i64 0, .int .u64 (0 : Int), .int .u64 (0 : Int)] 29 (0, 0)) (by simp))
    have HS6 : Hid (Sd w0 nb L R os W6) := Lib.hid (by rw [← hW6]; exact HS4.out.drop ((w.heap.size + 2), Obj.cells #[.int .i64 0, .int .i64 0, .int .i64 0, .int .u64 (0 : Int), .int .u64 (0 : Int)] 29 (0, 0)) (by simp) (by simp only; omega) (keeps5 _ _ _ _ _ _ _) _ (fun p hp => ⟨by simp [hp], by have := HOS.out p hp; simp only; omega⟩))
    clear q0 q1 q2 q3 q4 qf0 qf1 qf2 qf3 qf4
    rw [hW6]
    clear hW6
    obtain ⟨⟨q0, qf0⟩, ⟨q1, qf1⟩, ⟨q2, qf2⟩, ⟨q3, qf3⟩, ⟨q4, qf4⟩, ql⟩ := five hk6
    clear hk6
    refine ⟨rfl, .tuple #[.agg #[.int .i64 st, .int .i64 own, .int .i64 oth, .int .u64 (non : Int), .int .u64 (ech : Int)], .slice none 0 0], by simp [results, Tryd.f51, go_sem, q0, q1, q2, q3, q4], ?_⟩
    unfold ShAns
    rw [HE.out]
    exact ⟨_, rfl, sent_nil HS6.out⟩
end
end Go.Proofs.YtdiilgedicfekaaDoor
