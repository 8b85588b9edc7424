/-
  Contracts of shake's small functions: isPeer, isNonce, may, New, Close, holds, isToIt. Conditions: as each states.
  deeds: the map of functions, by kinds; what is looked up in it. Conditions: as each states.
  slices.Clone of numbers; Check. Conditions: as each states.
  tagged, hello, answer: a message with its tag. Conditions: as each states.
-/
import Derived.Test.YtdiilgedicfekaaDoorMh10
import Derived.Deep.RegionWith
import Derived.Lib.Slices
import Derived.Deep.RegionHeld
namespace Go.Proofs.YtdiilgedicfekaaDoor
open Go.RowKit Go.Maps
set_option linter.unusedVariables false
set_option maxRecDepth 100000

theorem isPeer_any (p : Int) (w : World) : Calls Tryd.prog 47 #[.int .i64 p] w fun e w' => e = .returned (.bool (isPeerB p)) ∧ w = w' := by
  by_cases h1 : 1 ≤ p
  · by_cases h2 : p ≤ 2147483647
    · go_enter Tryd.func47, Tryd.ntmps47
      go_wp2
      go_ret
      exact ⟨ret_bool (by simp [isPeerB, h1, h2]), rfl⟩
    · go_enter Tryd.func47, Tryd.ntmps47
      go_wp2
      go_ret
      exact ⟨ret_bool (by simp [isPeerB]; omega), rfl⟩
  · go_enter Tryd.func47, Tryd.ntmps47
    go_wp2
    go_ret
    exact ⟨ret_bool (by simp [isPeerB]; omega), rfl⟩
theorem isNonce_any (v : Nat) (w : World) : Calls Tryd.prog 48 #[.int .u64 (v : Int)] w fun e w' => e = .returned (.bool (isNonB v)) ∧ w = w' := by
  by_cases h1 : (1 : Int) ≤ (v : Int)
  · by_cases h2 : (v : Int) ≤ 9223372036854775807
    · go_enter Tryd.func48, Tryd.ntmps48
      go_wp2
      go_ret
      exact ⟨ret_bool (by simp [isNonB]; omega), rfl⟩
    · go_enter Tryd.func48, Tryd.ntmps48
      go_wp2
      go_ret
      exact ⟨ret_bool (by simp [isNonB]; omega), rfl⟩
  · go_enter Tryd.func48, Tryd.ntmps48
    go_wp2
    go_ret
    exact ⟨ret_bool (by simp [isNonB]; omega), rfl⟩

set_option maxHeartbeats 2000000 in
theorem smay_any (s : Sk) (w : World) : Calls Tryd.prog 29 #[skv s] w fun e w' => e = .returned (.bool s.may) ∧ Below w.heap.size w w' := by
  obtain ⟨st, own, oth, non, ech⟩ := s
  have HB : Hid (∀ o, Below w.heap.size w (w.alloc o)) := Lib.hid (fun o => (Below.refl _ _).alloc (Nat.le_refl _) o)
  have C1 := Lib.hid (isPeer_any own); have C2 := Lib.hid (isPeer_any oth); have C3 := Lib.hid (isNonce_any non)
  cases h1 : isPeerB own with
  | false =>
    rw [h1] at C1
    go_enter Tryd.func29, Tryd.ntmps29
    go_wp2_with fail
    refine (C1.out _).mono ?_
    rintro e w' ⟨rfl, rfl⟩
    go_wp2
    go_ret
    exact ⟨ret_bool (by simp [Sk.may, h1]), HB.out _⟩
  | true =>
    rw [h1] at C1
    cases h2 : isPeerB oth with
    | false =>
      rw [h2] at C2
      go_enter Tryd.func29, Tryd.ntmps29
      go_wp2_with fail
      refine (C1.out _).mono ?_
      rintro e w' ⟨rfl, rfl⟩
      go_wp2_with fail
      refine (C2.out _).mono ?_
      rintro e w' ⟨rfl, rfl⟩
      go_wp2
      go_ret
      exact ⟨ret_bool (by simp [Sk.may, h1, h2]), HB.out _⟩
    | true =>
      rw [h2] at C2
      by_cases h3 : own = oth
      · have t3 : (own != oth) = false := by simp [h3]
        have H3 := Lib.hid h3; clear h3
        go_enter Tryd.func29, Tryd.ntmps29
        go_wp2_with fail
        refine (C1.out _).mono ?_
        rintro e w' ⟨rfl, rfl⟩
        go_wp2_with fail
        refine (C2.out _).mono ?_
        rintro e w' ⟨rfl, rfl⟩
        go_wp2
        go_ret
        exact ⟨ret_bool (by simp [Sk.may, h2, H3.out]), HB.out _⟩
      · have t3 : (own != oth) = true := by simp [h3]
        have H3 := Lib.hid h3; clear h3
        cases h4 : isNonB non with
        | false =>
          rw [h4] at C3
          go_enter Tryd.func29, Tryd.ntmps29
          go_wp2_with fail
          refine (C1.out _).mono ?_
          rintro e w' ⟨rfl, rfl⟩
          go_wp2_with fail
          refine (C2.out _).mono ?_
          rintro e w' ⟨rfl, rfl⟩
          go_wp2_with fail
          refine (C3.out _).mono ?_
          rintro e w' ⟨rfl, rfl⟩
          go_wp2
          go_ret
          exact ⟨ret_bool (by simp [Sk.may, h1, h2, H3.out, h4]), HB.out _⟩
        | true =>
          rw [h4] at C3
          by_cases h5 : (ech : Int) ≤ 9223372036854775807
          · go_enter Tryd.func29, Tryd.ntmps29
            go_wp2_with fail
            refine (C1.out _).mono ?_
            rintro e w' ⟨rfl, rfl⟩
            go_wp2_with fail
            refine (C2.out _).mono ?_
            rintro e w' ⟨rfl, rfl⟩
            go_wp2_with fail
            refine (C3.out _).mono ?_
            rintro e w' ⟨rfl, rfl⟩
            go_wp2
            go_ret
            exact ⟨ret_bool (by simp [Sk.may, h1, h2, H3.out, h4]; omega), HB.out _⟩
          · go_enter Tryd.func29, Tryd.ntmps29
            go_wp2_with fail
            refine (C1.out _).mono ?_
            rintro e w' ⟨rfl, rfl⟩
            go_wp2_with fail
            refine (C2.out _).mono ?_
            rintro e w' ⟨rfl, rfl⟩
            go_wp2_with fail
            refine (C3.out _).mono ?_
            rintro e w' ⟨rfl, rfl⟩
            go_wp2
            go_ret
            exact ⟨ret_bool (by simp [Sk.may, h1, h2, H3.out, h4]; omega), HB.out _⟩

theorem five {W : World} {g : Nat} {a b c d e : Value} {t : TypeId} (h : W.heap[g]? = some (.cells #[a, b, c, d, e] t (0, 0))) :
    (W.cell? ⟨g, 0, none⟩ = some a ∧ W.frozen? ⟨g, 0, none⟩ = false) ∧ (W.cell? ⟨g, 1, none⟩ = some b ∧ W.frozen? ⟨g, 1, none⟩ = false) ∧ (W.cell? ⟨g, 2, none⟩ = some c ∧ W.frozen? ⟨g, 2, none⟩ = false) ∧
    (W.cell? ⟨g, 3, none⟩ = some d ∧ W.frozen? ⟨g, 3, none⟩ = false) ∧ (W.cell? ⟨g, 4, none⟩ = some e ∧ W.frozen? ⟨g, 4, none⟩ = false) ∧ g < W.heap.size :=
  ⟨cells_of h 0, cells_of h 1, cells_of h 2, cells_of h 3, cells_of h 4, (Array.getElem?_eq_some_iff.1 h).1⟩
theorem four {W : World} {g : Nat} {a b c d : Value} {t : TypeId} (h : W.heap[g]? = some (.cells #[a, b, c, d] t (0, 0))) :
    (W.cell? ⟨g, 0, none⟩ = some a ∧ W.frozen? ⟨g, 0, none⟩ = false) ∧ (W.cell? ⟨g, 1, none⟩ = some b ∧ W.frozen? ⟨g, 1, none⟩ = false) ∧ (W.cell? ⟨g, 2, none⟩ = some c ∧ W.frozen? ⟨g, 2, none⟩ = false) ∧
    (W.cell? ⟨g, 3, none⟩ = some d ∧ W.frozen? ⟨g, 3, none⟩ = false) ∧ g < W.heap.size :=
  ⟨cells_of h 0, cells_of h 1, cells_of h 2, cells_of h 3, (Array.getElem?_eq_some_iff.1 h).1⟩
theorem set_below {n b j : Nat} (w W : World) (v : Value) (h : Below n w W) (hb : n ≤ b) : Below n w (W.setCell ⟨b, j, none⟩ v) :=
  h.trans ⟨rfl, rfl, rfl, by simp [World.setCell], fun k hk => Below.heap_setCell _ _ _ _ (fun e => by have : k = b := e; omega)⟩
theorem set5_below {n b : Nat} {w W : World} {v0 v1 v2 v3 v4 : Value} (h : Below n w W) (hb : n ≤ b) : Below n w (((((W.setCell ⟨b, 0, none⟩ v0).setCell ⟨b, 1, none⟩ v1).setCell ⟨b, 2, none⟩ v2).setCell ⟨b, 3, none⟩ v3).setCell ⟨b, 4, none⟩ v4) :=
  set_below _ _ _ (set_below _ _ _ (set_below _ _ _ (set_below _ _ _ (set_below _ _ _ h hb) hb) hb) hb) hb
theorem set5_heap {W : World} {g : Nat} {a b c d e v0 v1 v2 v3 v4 : Value} {t : TypeId} (h : W.heap[g]? = some (.cells #[a, b, c, d, e] t (0, 0))) :
    (((((W.setCell ⟨g, 0, none⟩ v0).setCell ⟨g, 1, none⟩ v1).setCell ⟨g, 2, none⟩ v2).setCell ⟨g, 3, none⟩ v3).setCell ⟨g, 4, none⟩ v4).heap[g]? = some (.cells #[v0, v1, v2, v3, v4] t (0, 0)) := by
  have h1 := heap_set_same W g 0 _ t v0 h
  have h2 := heap_set_same _ g 1 _ t v1 h1
  have h3 := heap_set_same _ g 2 _ t v2 h2
  have h4 := heap_set_same _ g 3 _ t v3 h3
  have h5 := heap_set_same _ g 4 _ t v4 h4
  simpa using h5
/-- what New gives -/
def newS (own oth : Int) (non : Nat) : Sk := ⟨0, own, oth, non, 0⟩
def noS : Sk := ⟨0, 0, 0, 0, 0⟩
set_option maxHeartbeats 4000000 in
theorem snew_any (own oth : Int) (non : Nat) (w : World) : Calls Tryd.prog 11 #[.int .i64 own, .int .i64 oth, .int .u64 (non : Int)] w fun e w' => e = .returned (.tuple #[skv (bif (newS own oth non).may then newS own oth non else noS), .int .i64 (bif (newS own oth non).may then 0 else 1)]) ∧ Below w.heap.size w w' := by
  have C1 := Lib.hid (smay_any (newS own oth non))
  obtain ⟨b, hb⟩ : ∃ b, (newS own oth non).may = b := ⟨_, rfl⟩
  rw [hb] at C1 ⊢
  clear hb
  unfold newS at C1 ⊢
  have HB : Hid (∀ o1 o2 W, Below ((w.alloc o1).alloc o2).heap.size ((w.alloc o1).alloc o2) W → Below w.heap.size w W) := Lib.hid (fun o1 o2 W h => ((((Below.refl _ w).alloc (Nat.le_refl _) o1)).alloc (by simp) o2).trans (h.mono (by simp; omega)))
  have HC : Hid (∀ W, Below ((w.alloc (.cells #[.int .i64 0, .int .i64 0, .int .i64 0, .int .u64 0, .int .u64 0] 29)).alloc (.cells #[.int .i64 0, .int .i64 own, .int .i64 oth, .int .u64 (non : Int), .int .u64 0] 29)).heap.size ((w.alloc (.cells #[.int .i64 0, .int .i64 0, .int .i64 0, .int .u64 0, .int .u64 0] 29)).alloc (.cells #[.int .i64 0, .int .i64 own, .int .i64 oth, .int .u64 (non : Int), .int .u64 0] 29)) W →
      W.heap[w.heap.size]? = some (.cells #[.int .i64 0, .int .i64 0, .int .i64 0, .int .u64 0, .int .u64 0] 29 (0, 0)) ∧ W.heap[w.heap.size + 1]? = some (.cells #[.int .i64 0, .int .i64 own, .int .i64 oth, .int .u64 (non : Int), .int .u64 0] 29 (0, 0))) := Lib.hid (fun W h => ⟨(h.block _ (by simp; omega)).trans ((Below.heap_alloc _ _ _ (by simp)).trans (World.alloc_heap_new _ _)), (h.block _ (by simp)).trans (by have := World.alloc_heap_new (w.alloc (.cells #[.int .i64 0, .int .i64 0, .int .i64 0, .int .u64 0, .int .u64 0] 29)) (.cells #[.int .i64 0, .int .i64 own, .int .i64 oth, .int .u64 (non : Int), .int .u64 0] 29); rwa [World.size_alloc] at this)⟩)
  cases b with
  | true =>
    go_enter Tryd.func11, Tryd.ntmps11
    go_wp2_with fail
    refine (C1.out _).mono ?_
    rintro e w' ⟨rfl, hb⟩
    have HW := Lib.hid (HB.out _ _ _ hb)
    obtain ⟨k0, k1⟩ := HC.out _ hb
    obtain ⟨⟨a0, f0⟩, ⟨a1, f1⟩, ⟨a2, f2⟩, ⟨a3, f3⟩, ⟨a4, f4⟩, al⟩ := five k0
    obtain ⟨⟨b0, g0⟩, ⟨b1, g1⟩, ⟨b2, g2⟩, ⟨b3, g3⟩, ⟨b4, g4⟩, bl⟩ := five k1
    have HE : Hid (∃ W', (((((w').setCell ⟨w.heap.size, 0, none⟩ (.int .i64 0)).setCell ⟨w.heap.size, 1, none⟩ (.int .i64 own)).setCell ⟨w.heap.size, 2, none⟩ (.int .i64 oth)).setCell ⟨w.heap.size, 3, none⟩ (.int .u64 (non : Int))).setCell ⟨w.heap.size, 4, none⟩ (.int .u64 0) = W' ∧ Below w.heap.size w W' ∧ W'.heap[w.heap.size]? = some (.cells #[.int .i64 0, .int .i64 own, .int .i64 oth, .int .u64 (non : Int), .int .u64 0] 29 (0, 0))) := Lib.hid ⟨_, rfl, set5_below HW.out (Nat.le_refl _), set5_heap k0⟩
    clear hb k0 k1
    go_wp2
    obtain ⟨W', hW', hB', hk'⟩ := HE.out
    rw [hW']
    obtain ⟨⟨d0, _⟩, ⟨d1, _⟩, ⟨d2, _⟩, ⟨d3, _⟩, ⟨d4, _⟩, _⟩ := five hk'
    exact ⟨rfl, .tuple #[skv (newS own oth non), .int .i64 0], by simp [results, Tryd.f11, go_sem, newS, d0, d1, d2, d3, d4], rfl, hB'⟩
  | false =>
    go_enter Tryd.func11, Tryd.ntmps11
    go_wp2_with fail
    refine (C1.out _).mono ?_
    rintro e w' ⟨rfl, hb⟩
    have HW := Lib.hid (HB.out _ _ _ hb)
    obtain ⟨k0, k1⟩ := HC.out _ hb
    obtain ⟨⟨a0, f0⟩, ⟨a1, f1⟩, ⟨a2, f2⟩, ⟨a3, f3⟩, ⟨a4, f4⟩, al⟩ := five k0
    obtain ⟨⟨b0, g0⟩, ⟨b1, g1⟩, ⟨b2, g2⟩, ⟨b3, g3⟩, ⟨b4, g4⟩, bl⟩ := five k1
    have HE : Hid (∃ W', (((((w').setCell ⟨w.heap.size, 0, none⟩ (.int .i64 0)).setCell ⟨w.heap.size, 1, none⟩ (.int .i64 0)).setCell ⟨w.heap.size, 2, none⟩ (.int .i64 0)).setCell ⟨w.heap.size, 3, none⟩ (.int .u64 0)).setCell ⟨w.heap.size, 4, none⟩ (.int .u64 0) = W' ∧ Below w.heap.size w W' ∧ W'.heap[w.heap.size]? = some (.cells #[.int .i64 0, .int .i64 0, .int .i64 0, .int .u64 0, .int .u64 0] 29 (0, 0))) := Lib.hid ⟨_, rfl, set5_below HW.out (Nat.le_refl _), set5_heap k0⟩
    clear hb k0 k1
    go_wp2
    obtain ⟨W', hW', hB', hk'⟩ := HE.out
    rw [hW']
    obtain ⟨⟨d0, _⟩, ⟨d1, _⟩, ⟨d2, _⟩, ⟨d3, _⟩, ⟨d4, _⟩, _⟩ := five hk'
    exact ⟨rfl, .tuple #[skv noS, .int .i64 1], by simp [results, Tryd.f11, go_sem, noS, d0, d1, d2, d3, d4], rfl, hB'⟩

set_option maxHeartbeats 2000000 in
theorem sclose_any (s : Sk) (w : World) : Calls Tryd.prog 20 #[skv s] w fun e w' => e = .returned (skv { s with st := 4 }) ∧ Below w.heap.size w w' := by
  obtain ⟨st, own, oth, non, ech⟩ := s
  have HB : Hid (∀ o1 o2, Below w.heap.size w ((w.alloc o1).alloc o2)) := Lib.hid (fun o1 o2 => (((Below.refl _ w).alloc (Nat.le_refl _) o1)).alloc (by simp) o2)
  go_enter Tryd.func20, Tryd.ntmps20
  go_wp2
  refine ⟨rfl, skv ⟨4, own, oth, non, ech⟩, by simp [results, Tryd.f20, go_sem], rfl, ?_⟩
  exact HB.out _ _
set_option maxHeartbeats 2000000 in
theorem sholds_any (s : Sk) (v : Nat) (w : World) : Calls Tryd.prog 66 #[skv s, .int .u64 (v : Int)] w fun e w' => e = .returned (.bool (s.holds v)) ∧ Below w.heap.size w w' := by
  obtain ⟨st, own, oth, non, ech⟩ := s
  have HB : Hid (∀ o1, Below w.heap.size w (w.alloc o1)) := Lib.hid (fun o1 => (((Below.refl _ w).alloc (Nat.le_refl _) o1)))
  have ends : ∀ r, r = (Sk.mk st own oth non ech).holds v → Ending.returned (.bool r) = Ending.returned (.bool ((Sk.mk st own oth non ech).holds v)) := fun r h => by rw [h]
  have HE := Lib.hid ends; clear ends
  by_cases h2 : st = 2
  · subst h2
    by_cases h3 : ech = v
    · subst h3
      go_enter Tryd.func66, Tryd.ntmps66
      go_wp2
      go_ret
      exact ⟨HE.out _ (by simp [Sk.holds]), HB.out _⟩
    · have t : ((ech : Int) == (v : Int)) = false := by rw [beq_eq_false_iff_ne]; omega
      have H3 := Lib.hid h3; clear h3
      go_enter Tryd.func66, Tryd.ntmps66
      go_wp2
      go_ret
      exact ⟨HE.out _ (by simp [Sk.holds, H3.out]), HB.out _⟩
  · have t2 : (st == 2) = false := by rw [beq_eq_false_iff_ne]; exact h2
    have H2 := Lib.hid h2; clear h2
    by_cases h4 : st = 3
    · subst h4
      clear t2
      by_cases h3 : ech = v
      · subst h3
        go_enter Tryd.func66, Tryd.ntmps66
        go_wp2
        go_ret
        exact ⟨HE.out _ (by simp [Sk.holds]), HB.out _⟩
      · have t : ((ech : Int) == (v : Int)) = false := by rw [beq_eq_false_iff_ne]; omega
        have H3 := Lib.hid h3; clear h3
        go_enter Tryd.func66, Tryd.ntmps66
        go_wp2
        go_ret
        exact ⟨HE.out _ (by simp [Sk.holds, H3.out]), HB.out _⟩
    · have t3 : (st == 3) = false := by rw [beq_eq_false_iff_ne]; exact h4
      have H4 := Lib.hid h4; clear h4
      go_enter Tryd.func66, Tryd.ntmps66
      go_wp2
      go_ret
      exact ⟨HE.out _ (by simp [Sk.holds, H2.out, H4.out]), HB.out _⟩

/-- the numbers of a message, as the walk reads them -/
theorem ns_at {w : World} {x : Value} {vs : List Nat} (h : Ns w x vs) (h0 : 0 < vs.length) : ∃ b off c, x = .slice (some ⟨b, off, none⟩) vs.length c ∧ b < w.heap.size ∧ vs.length ≤ c ∧ c ≤ maxLen ∧ ∀ j, j < vs.length → w.cell? ⟨b, off + j, none⟩ = some (.int .u64 (vs.getD j 0 : Nat)) := by
  obtain ⟨A, c, rfl, h1, h2, _, _, h3⟩ := h
  obtain ⟨b, off, rfl, hc⟩ := h3 h0
  exact ⟨b, off, c, rfl, lt_of_cell (hc 0 h0), h1, h2, hc⟩
theorem toIt_3 (s : Sk) (m : Wi.Msg) {a b c : Nat} (ha : m.nums.getD 0 0 = a) (hb : m.nums.getD 1 0 = b) (hc : m.nums.getD 2 0 = c) : toIt s m = (decide ((a : Int) = s.oth) && (decide ((b : Int) = s.own) && isNonB c)) := by
  unfold toIt
  rw [ha, hb, hc]
set_option maxHeartbeats 2000000 in
theorem isToIt_any (s : Sk) (m : Wi.Msg) (x1 x2 x3 : Value) (w : World) (hs : s.Ok) (hv : MsgV w x1 x2 x3 m) (hn : 3 ≤ m.nums.length) :
    Calls Tryd.prog 32 #[skv s, .agg #[.int .i64 m.kind, x1, x2, x3]] w fun e w' => e = .returned (.bool (toIt s m)) ∧ Below w.heap.size w w' := by
  obtain ⟨b, off, c, rfl, hbl, r1, r2, hcc⟩ := ns_at hv.1 (by omega)
  obtain ⟨n, hn'⟩ : ∃ n, m.nums.length = n := ⟨_, rfl⟩
  obtain ⟨v0, e0⟩ : ∃ v, m.nums.getD 0 0 = v := ⟨_, rfl⟩
  obtain ⟨v1, e1⟩ : ∃ v, m.nums.getD 1 0 = v := ⟨_, rfl⟩
  obtain ⟨v2, e2⟩ : ∃ v, m.nums.getD 2 0 = v := ⟨_, rfl⟩
  have c0 := hcc 0 (by omega); have c1 := hcc 1 (by omega); have c2 := hcc 2 (by omega)
  rw [e0] at c0; rw [e1] at c1; rw [e2] at c2
  rw [Nat.add_zero] at c0
  rw [hn'] at r1 ⊢
  have hq : (2 : Int) < (n : Int) := by omega
  have hq1 : (1 : Int) < (n : Int) := by omega
  have hq0 : (0 : Int) < (n : Int) := by omega
  have HT := Lib.hid (toIt_3 s m e0 e1 e2)
  obtain ⟨mk, hmk⟩ : ∃ k, m.kind = k := ⟨_, rfl⟩
  rw [hmk]
  obtain ⟨A2, d2, A3, d3, l2, l3, rfl, rfl⟩ : ∃ A2 d2 A3 d3 l2 l3, x2 = .slice A2 l2 d2 ∧ x3 = .slice A3 l3 d3 := by
    obtain ⟨_, ⟨A2, d2, rfl, _⟩, ⟨A3, d3, rfl, _⟩, _⟩ := hv
    exact ⟨_, _, _, _, _, _, rfl, rfl⟩
  obtain ⟨st, own, oth, non, ech⟩ := s
  have k1 := hs.o1; have k2 := hs.o2; have k3 := hs.t1; have k4 := hs.t2
  simp only at k1 k2 k3 k4 HT
  have u1 : IntKind.u64.wrap own = own := u64_in (by omega) (by omega)
  have u2 : IntKind.u64.wrap oth = oth := u64_in (by omega) (by omega)
  have HB : Hid (∃ W, ((w.alloc (.cells #[.int .i64 st, .int .i64 own, .int .i64 oth, .int .u64 (non : Int), .int .u64 (ech : Int)] 29)).alloc (.cells #[.int .i64 mk, .slice (some ⟨b, off, none⟩) n c, .slice A2 l2 d2, .slice A3 l3 d3] 46)) = W ∧ Below w.heap.size w W ∧ W.heap[w.heap.size]? = some (.cells #[.int .i64 st, .int .i64 own, .int .i64 oth, .int .u64 (non : Int), .int .u64 (ech : Int)] 29 (0, 0)) ∧ W.heap[w.heap.size + 1]? = some (.cells #[.int .i64 mk, .slice (some ⟨b, off, none⟩) n c, .slice A2 l2 d2, .slice A3 l3 d3] 46 (0, 0))) := Lib.hid ⟨_, rfl, (((Below.refl _ w).alloc (Nat.le_refl _) _)).alloc (by simp) _, (Below.heap_alloc _ _ _ (by simp)).trans (World.alloc_heap_new _ _), by have := World.alloc_heap_new (w.alloc (.cells #[.int .i64 st, .int .i64 own, .int .i64 oth, .int .u64 (non : Int), .int .u64 (ech : Int)] 29)) (.cells #[.int .i64 mk, .slice (some ⟨b, off, none⟩) n c, .slice A2 l2 d2, .slice A3 l3 d3] 46); rwa [World.size_alloc] at this⟩
  have C3 := Lib.hid (isNonce_any v2)
  obtain ⟨bn, hbn⟩ : ∃ bn, isNonB v2 = bn := ⟨_, rfl⟩
  rw [hbn] at C3 HT
  clear hbn hv hcc e0 e1 e2 hn' hmk hs hn k1 k2 k3 k4
  have HE : Hid (∀ r, r = (decide ((v0 : Int) = oth) && (decide ((v1 : Int) = own) && bn)) → Ending.returned (.bool r) = Ending.returned (.bool (toIt ⟨st, own, oth, non, ech⟩ m))) := Lib.hid (fun r h => by rw [h, HT.out])
  by_cases h1 : (v0 : Int) = oth
  · have t1 : ((v0 : Int) == oth) = true := by simp [h1]
    have H1 := Lib.hid h1; clear h1
    by_cases h2 : (v1 : Int) = own
    · have t2 : ((v1 : Int) == own) = true := by simp [h2]
      have H2 := Lib.hid h2; clear h2
      go_enter Tryd.func32, Tryd.ntmps32
      go_wp2
      obtain ⟨W, hW, hB, k0, k1⟩ := HB.out
      rw [hW]
      clear hW
      obtain ⟨⟨a0, _⟩, ⟨a1, _⟩, ⟨a2, _⟩, ⟨a3, _⟩, ⟨a4, _⟩, al⟩ := five k0
      obtain ⟨⟨b0, _⟩, ⟨b1, _⟩, ⟨b2, _⟩, ⟨b3, _⟩, bl⟩ := four k1
      have d0 := (hB.cell (p := ⟨b, off, none⟩) hbl).trans c0
      have d1 := (hB.cell (p := ⟨b, off + 1, none⟩) hbl).trans c1
      have d2 := (hB.cell (p := ⟨b, off + 2, none⟩) hbl).trans c2
      have dl : b < W.heap.size := by have := hB.size; omega
      have HBW := Lib.hid hB
      clear hB k0 k1
      go_quiet ((go_at_call 48; refine Calls.quiet_of_same ((C3.out _).mono fun e w2 h => ⟨h.1, h.2.symm⟩)))
      go_wp2
      go_ret
      exact ⟨HE.out _ (by simp [H1.out, H2.out]), below_drewN' HBW.out _⟩
    · have t2 : ((v1 : Int) == own) = false := by simp [h2]
      have H2 := Lib.hid h2; clear h2
      go_enter Tryd.func32, Tryd.ntmps32
      go_wp2
      obtain ⟨W, hW, hB, k0, k1⟩ := HB.out
      rw [hW]
      clear hW
      obtain ⟨⟨a0, _⟩, ⟨a1, _⟩, ⟨a2, _⟩, ⟨a3, _⟩, ⟨a4, _⟩, al⟩ := five k0
      obtain ⟨⟨b0, _⟩, ⟨b1, _⟩, ⟨b2, _⟩, ⟨b3, _⟩, bl⟩ := four k1
      have d0 := (hB.cell (p := ⟨b, off, none⟩) hbl).trans c0
      have d1 := (hB.cell (p := ⟨b, off + 1, none⟩) hbl).trans c1
      have d2 := (hB.cell (p := ⟨b, off + 2, none⟩) hbl).trans c2
      have dl : b < W.heap.size := by have := hB.size; omega
      have HBW := Lib.hid hB
      clear hB k0 k1
      go_quiet (fail)
      go_wp2
      go_ret
      exact ⟨HE.out _ (by simp [H1.out, H2.out]), below_drewN' HBW.out _⟩
  · have t1 : ((v0 : Int) == oth) = false := by simp [h1]
    have H1 := Lib.hid h1; clear h1
    go_enter Tryd.func32, Tryd.ntmps32
    go_wp2
    obtain ⟨W, hW, hB, k0, k1⟩ := HB.out
    rw [hW]
    clear hW
    obtain ⟨⟨a0, _⟩, ⟨a1, _⟩, ⟨a2, _⟩, ⟨a3, _⟩, ⟨a4, _⟩, al⟩ := five k0
    obtain ⟨⟨b0, _⟩, ⟨b1, _⟩, ⟨b2, _⟩, ⟨b3, _⟩, bl⟩ := four k1
    have d0 := (hB.cell (p := ⟨b, off, none⟩) hbl).trans c0
    have d1 := (hB.cell (p := ⟨b, off + 1, none⟩) hbl).trans c1
    have d2 := (hB.cell (p := ⟨b, off + 2, none⟩) hbl).trans c2
    have dl : b < W.heap.size := by have := hB.size; omega
    have HBW := Lib.hid hB
    clear hB k0 k1
    go_quiet (fail)
    go_wp2
    go_ret
    exact ⟨HE.out _ (by simp [H1.out]), below_drewN' HBW.out _⟩
end Go.Proofs.YtdiilgedicfekaaDoor
namespace Go.Proofs.YtdiilgedicfekaaDoor
open Go.RowKit Go.Maps
set_option linter.unusedVariables false
set_option maxRecDepth 100000

abbrev fH : Value := .func (.func 50) #[] #[]
abbrev fA : Value := .func (.func 51) #[] #[]
def deedsE : Array MapEntry := #[{ key := .int .i64 1, val := fH, born := 0 }, { key := .int .i64 2, val := fA, born := 1 }]
theorem deedT : Tryd.prog.underlying 80 = some (.map 3 79) := by kernel_rfl
theorem run_putD (W : World) (b : Nat) (es : Array MapEntry) (clock : Nat) (k : Int) (v : Value) (hb : W.heap[b]? = some (.map es clock)) (hf : Instr.findNow (.int .i64) (.int .i64 k) es.toList 0 = some none) :
    (Instr.mapUpdate 80 (.map (some b)) (.int .i64 k) v).run Tryd.prog W = .ok () { W with heap := W.heap.setIfInBounds b (.map (es.push { key := .int .i64 k, val := v, born := clock }) (clock + 1)) } := by
  have hc : (Instr.checkKey false 10000 3 (.int .i64 k)).run Tryd.prog W = .ok () W := MapKept.run_checkKey (k := .int .i64 k) Tryd.underlying3 (by simp [MapKept.IsKey]) false 9999
  simp [Instr.mapUpdate, run_underlying deedT, MapKept.run_getObj_map hb, hc, MapKept.run_findKey Tryd.underlying3 hf, MapKept.run_setObj_map _ hb, Result.andThen]
def deedOf (k : Int) : Value := if k = 1 then fH else if k = 2 then fA else .nilFunc
theorem run_lookD (W : World) (b : Nat) (k : Int) (hb : W.heap[b]? = some (.map deedsE 2)) : (Instr.lookup 80 (.map (some b)) (.int .i64 k) false).run Tryd.prog W = .ok (deedOf k) W := by
  have hc : (Instr.checkKey false 10000 3 (.int .i64 k)).run Tryd.prog W = .ok () W := MapKept.run_checkKey (k := .int .i64 k) Tryd.underlying3 (by simp [MapKept.IsKey]) false 9999
  have hz : (zeroValue 79).run Tryd.prog W = .ok .nilFunc W := by kernel_rfl
  unfold deedOf
  by_cases h1 : k = 1
  · subst h1
    have hf : Instr.findNow (.int .i64) (.int .i64 1) deedsE.toList 0 = some (some (0, fH)) := by simp [deedsE, Instr.findNow, Instr.sameNow]
    simp [Instr.lookup, run_underlying deedT, MapKept.run_getObj_map hb, show deedsE.isEmpty = false from rfl, hc, MapKept.run_findKey Tryd.underlying3 hf, Result.andThen]
  · by_cases h2 : k = 2
    · subst h2
      have hf : Instr.findNow (.int .i64) (.int .i64 2) deedsE.toList 0 = some (some (1, fA)) := by simp [deedsE, Instr.findNow, Instr.sameNow]
      simp [Instr.lookup, run_underlying deedT, MapKept.run_getObj_map hb, show deedsE.isEmpty = false from rfl, hc, MapKept.run_findKey Tryd.underlying3 hf, Result.andThen]
    · have hf : Instr.findNow (.int .i64) (.int .i64 k) deedsE.toList 0 = some none := by
        have e1 : (k == 1) = false := by rw [beq_eq_false_iff_ne]; exact h1
        have e2 : (k == 2) = false := by rw [beq_eq_false_iff_ne]; exact h2
        simp [deedsE, Instr.findNow, Instr.sameNow, e1, e2]
      simp [Instr.lookup, run_underlying deedT, MapKept.run_getObj_map hb, show deedsE.isEmpty = false from rfl, hc, MapKept.run_findKey Tryd.underlying3 hf, hz, h1, h2, Result.andThen]

/-- what deeds gives -/
def DeedsAns (w : World) (e : Ending) (w' : World) : Prop := ∃ b, e = .returned (.map (some b)) ∧ Below w.heap.size w w' ∧ w'.heap[b]? = some (.map deedsE 2) ∧ w.heap.size ≤ b
theorem deeds_any (w : World) : Calls Tryd.prog 33 #[] w (DeedsAns w) := by
  have hmm := @run_makeMap Tryd.prog
  have k0 : (w.alloc (.map #[] 0)).heap[w.heap.size]? = some (.map #[] 0) := World.alloc_heap_new w _
  have h1 := run_putD _ _ _ _ 1 fH k0 rfl
  obtain ⟨W1, e1⟩ : ∃ W, { (w.alloc (.map #[] 0)) with heap := (w.alloc (.map #[] 0)).heap.setIfInBounds w.heap.size (.map ((#[] : Array MapEntry).push { key := .int .i64 1, val := fH, born := 0 }) (0 + 1)) } = W := ⟨_, rfl⟩
  rw [e1] at h1
  have k1 : W1.heap[w.heap.size]? = some (.map #[{ key := .int .i64 1, val := fH, born := 0 }] 1) := by rw [← e1]; exact (MapKept.heap_set k0).1
  have h2 := run_putD _ _ _ _ 2 fA k1 (by simp [Instr.findNow, Instr.sameNow])
  obtain ⟨W2, e2⟩ : ∃ W, { W1 with heap := W1.heap.setIfInBounds w.heap.size (.map ((#[{ key := .int .i64 1, val := fH, born := 0 }] : Array MapEntry).push { key := .int .i64 2, val := fA, born := 1 }) (1 + 1)) } = W := ⟨_, rfl⟩
  rw [e2] at h2
  have k2 : W2.heap[w.heap.size]? = some (.map deedsE 2) := by rw [← e2]; exact (MapKept.heap_set k1).1
  have HB : Hid (Below w.heap.size w W2) := Lib.hid (by
    refine ⟨by rw [← e2, ← e1]; rfl, by rw [← e2, ← e1]; rfl, by rw [← e2, ← e1]; rfl, by rw [← e2, ← e1]; simp, fun k hk => ?_⟩
    rw [← e2]
    refine ((MapKept.heap_set k1).2 k (by omega)).trans ?_
    rw [← e1]
    exact ((MapKept.heap_set k0).2 k (by omega)).trans (Below.heap_alloc _ _ _ hk))
  have HK := Lib.hid k2
  clear k0 k1 k2 e1 e2
  go_enter Tryd.func33, Tryd.ntmps33
  go_wp2
  go_ret
  exact ⟨_, rfl, HB.out, HK.out, Nat.le_refl _⟩
end Go.Proofs.YtdiilgedicfekaaDoor
namespace Go.Proofs.YtdiilgedicfekaaDoor
open Go.RowKit Go.Maps
set_option linter.unusedVariables false
set_option maxRecDepth 100000

theorem u64_info : (Tryd.prog.info? 22).map (fun i => (i.zero, i.size, i.bytes)) = some (some (.int .u64 0), 1, 8) := by kernel_rfl
/-- a block of numbers of one's own -/
def NumO (o : Obj) (vs : List Nat) (c : Nat) : Prop := ∃ C, o = .cells C 22 (0, 0) ∧ vs.length ≤ c ∧ c ≤ maxLen ∧ (∀ x ∈ vs, x < 18446744073709551616) ∧ ∀ j, j < vs.length → C[j]? = some (.int .u64 (vs.getD j 0 : Nat))
theorem NumO.ns {o : Obj} {vs : List Nat} {c g : Nat} {V : World} (h : NumO o vs c) (hg : V.heap[g]? = some o) : Ns V (.slice (some ⟨g, 0, none⟩) vs.length c) vs := by
  obtain ⟨C, rfl, h1, h2, h3, h4⟩ := h
  refine ⟨_, c, rfl, h1, h2, (fun h => by cases h), h3, fun _ => ⟨g, 0, rfl, fun j hj => ?_⟩⟩
  rw [(cells_of hg (0 + j)).1, Nat.zero_add]
  exact h4 j hj
theorem NumO.set {o : Obj} {vs : List Nat} {c : Nat} (h : NumO o vs c) (k x : Nat) (hk : k < vs.length) (hx : x < 18446744073709551616) : ∃ C, o = .cells C 22 (0, 0) ∧ NumO (.cells (C.setIfInBounds k (.int .u64 (x : Int))) 22 (0, 0)) (vs.set k x) c := by
  obtain ⟨C, rfl, h1, h2, h3, h4⟩ := h
  have hC : k < C.size := (Array.getElem?_eq_some_iff.1 (h4 k hk)).1
  refine ⟨C, rfl, _, rfl, by simpa using h1, h2, fun y hy => ?_, fun j hj => ?_⟩
  · rcases List.mem_or_eq_of_mem_set hy with h | rfl
    · exact h3 y h
    · exact hx
  · simp at hj
    by_cases e : j = k
    · subst e
      simp [hC, List.getD, hj]
    · have := h4 j hj
      simp [List.getD, hj, Ne.symm e]
      simpa [List.getD, hj] using this
theorem num_o {V : World} {base g c : Nat} {vs : List Nat} (h : V.ownsRow base 22 1 (.slice (some ⟨g, 0, none⟩) vs.length c) vs.length (U vs)) (hb : ∀ x ∈ vs, x < 18446744073709551616) : ∃ o, V.heap[g]? = some o ∧ NumO o vs c ∧ base ≤ g := by
  rcases h.2 with ⟨e, _⟩ | ⟨g', cap, cur, e, hbg, hg, hle, hm, hsz, hcur⟩
  · cases e
  · simp only [Value.slice.injEq, Option.some.injEq, Addr.mk.injEq, and_true, true_and] at e
    obtain ⟨rfl, rfl⟩ := e
    refine ⟨_, hg, ⟨cur, rfl, hle, hm, hb, fun j hj => ?_⟩, hbg⟩
    have h1 : (U vs)[j]? = some (.int .u64 ((vs.getD j 0 : Nat) : Int)) := by simp [U, List.getD, hj]
    rw [← hcur, List.getElem?_take_of_lt (by omega)] at h1
    simpa using h1

/-- what Clone gives -/
def CloneAns (w : World) (vs : List Nat) (e : Ending) (w' : World) : Prop := ∃ g c o, e = .returned (.slice (some ⟨g, 0, none⟩) vs.length c) ∧ w'.heap[g]? = some o ∧ NumO o vs c ∧ w.heap.size ≤ g ∧ Below w.heap.size w w'
theorem own_s1 {V : World} {base e n : Nat} {v : Value} {xs : List Value} (h : V.ownsRow base e 1 v n xs) (hn : 0 < n) : ∃ g c, v = .slice (some ⟨g, 0, none⟩) n c := by
  rcases h.2 with ⟨_, e⟩ | ⟨g, cap, cur, rfl, _⟩
  · omega
  · exact ⟨_, _, rfl⟩
theorem clone_n (v : Value) (vs : List Nat) (w : World) (h : Ns w v vs) (h0 : 0 < vs.length) (hm : vs.length ≤ 1000) : Calls Tryd.prog 40 #[v] w (CloneAns w vs) := by
  obtain ⟨i0, hi0, hz0, hz1, hz2⟩ := info_parts u64_info
  have HU : Hid (∀ x ∈ vs, x < 18446744073709551616) := Lib.hid (by obtain ⟨_, _, _, _, _, _, h, _⟩ := h; exact h)
  obtain ⟨b, off, c, rfl, hbl, r1, r2, hcc⟩ := ns_at h h0
  obtain ⟨n, hn⟩ : ∃ n, vs.length = n := ⟨_, rfl⟩
  have HC : Hid (∀ j u, (U vs)[j]? = some u → (w.alloc (.cells #[] 22)).cell? (Addr.add ⟨b, off, none⟩ j) = some u) := Lib.hid (fun j u hj => by
    have hl : j < vs.length := by
      have := (List.getElem?_eq_some_iff.1 hj).1
      simpa [U] using this
    have e : (U vs)[j]? = some (.int .u64 ((vs.getD j 0 : Nat) : Int)) := by simp [U, List.getD, hl]
    rw [e] at hj
    injection hj with hj
    subst hj
    rw [add_spot]
    exact (((Below.refl _ w).alloc (Nat.le_refl _) _).cell (p := ⟨b, off + j, none⟩) hbl).trans (hcc j hl))
  have HL : Hid ((U vs).length = n * 1) := Lib.hid (by simp [U, hn])
  have H1 : Hid (∀ u ∈ U vs, u.oneCell' = true) := Lib.hid (by intro u hu; simp [U] at hu; obtain ⟨a, _, rfl⟩ := hu; rfl)
  have HN := Lib.hid hn
  rw [hn] at r1 h0 hm ⊢
  clear hcc h hn
  have q22 : ∀ (w : World) (a : Option Addr) (n c n' c' : Nat), (binOp .eql 43 (.slice a n c) (.slice none n' c')).run Tryd.prog w = .ok (.bool a.isNone) w := fun w a n c n' c' => Lib.run_eql_slice_nil w _ _ a n c n' c' Tryd.underlying43
  go_enter Tryd.func40, Tryd.ntmps40
  go_wp2_with (at_builtin; refine wpList_append_grows _ rfl _ _ 43 rfl 22 i0 (.int .u64 0) 1 8 Tryd.underlying43 hi0 hz0 hz1 hz2 rfl (by decide) (some ⟨w.heap.size, 0, none⟩) 0 0 [] rfl (fun h => by cases h) rfl (fun _ _ j u hj => by simp at hj) ⟨b, off, none⟩ n c (U vs) rfl HL.out HC.out H1.out (by omega) (by unfold maxLen; omega) (by omega) ?_; intro v' w1 hown hgrow; have HG := Lib.hid hgrow; have HO := Lib.hid hown; clear hgrow hown)
  go_ret
  have ho := HO.out
  rw [List.nil_append, Nat.zero_add] at ho
  obtain ⟨g, c3, rfl⟩ := own_s1 ho h0
  rw [← HN.out] at ho
  obtain ⟨o, k1, k2, k3⟩ := num_o ho HU.out
  have hb : Below w.heap.size w w1 := ((Below.refl _ w).alloc (Nat.le_refl _) _).grown HG.out (by simp) (fun r e => by cases e)
  have hbs := HG.out.size
  exact ⟨g, c3, o, by rw [HN.out]; rfl, k1, k2, k3 |> fun h => by simp at h; omega, hb⟩

theorem setZ_len (ns : List Nat) : (setZ ns).length = ns.length := by simp [setZ]
theorem may_setZ {m : Wi.Msg} (h : Wi.may m = true) : Wi.may { m with nums := setZ m.nums } = true := by
  obtain ⟨h1, h2, h3, h4, h5⟩ := Wi.may_iff.1 h
  refine Wi.may_iff.2 ⟨by simpa [setZ_len] using h1, h2, h3, fun v hv => ?_, h5⟩
  rcases List.mem_or_eq_of_mem_set hv with h | rfl
  · exact h4 v h
  · omega
theorem nums_45 {m : Wi.Msg} (h : Wi.may m = true) (hk : m.kind = 1 ∨ m.kind = 2) : 4 ≤ m.nums.length ∧ m.nums.length ≤ 5 ∧ (m.kind = 2 → m.nums.length = 5) ∧ (m.kind = 1 → m.nums.length = 4) := by
  have h1 := (Wi.may_iff.1 h).1
  rcases hk with e | e
  · rw [e, numsOf_1] at h1; rw [e]; omega
  · rw [e, numsOf_2] at h1; rw [e]; omega
theorem getD_lt {m : Wi.Msg} (h : Wi.may m = true) (j : Nat) : m.nums.getD j 0 < 9223372036854775808 := by
  by_cases hj : j < m.nums.length
  · have := (Wi.may_iff.1 h).2.2.2.1 (m.nums.getD j 0) (by simp [List.getD, hj])
    exact this
  · simp [List.getD, List.getElem?_eq_none (by omega : m.nums.length ≤ j)]
/-- the message in its box has numbers of its own, the last one 0 -/
structure Chk (w W6 : World) (g c n : Nat) (m : Wi.Msg) (x2 x3 : Value) : Prop where
  bel : Below w.heap.size w W6
  box : W6.heap[w.heap.size]? = some (.cells #[.int .i64 m.kind, .slice (some ⟨g, 0, none⟩) n c, x2, x3] 46 (0, 0))
  msg : MsgV W6 (.slice (some ⟨g, 0, none⟩) n c) x2 x3 { m with nums := setZ m.nums }
  lt : g < W6.heap.size
  fst : W6.cell? ⟨g, 0, none⟩ = some (.int .u64 ((m.nums.getD 0 0 : Nat) : Int))
theorem chk_mid {w W : World} {g c n : Nat} {o : Obj} {m : Wi.Msg} {x1 x2 x3 : Value} (hv : MsgV w x1 x2 x3 m) (hn : m.nums.length = n) (h0 : 2 ≤ n) (hb : Below w.heap.size w W) (hm : W.heap[w.heap.size]? = some (.cells #[.int .i64 m.kind, x1, x2, x3] 46 (0, 0))) (hg : W.heap[g]? = some o) (ho : NumO o m.nums c) (hgw : w.heap.size < g) (ln : Nat) (hln : ln + 1 = n) :
    Chk w ((W.setCell ⟨w.heap.size, 1, none⟩ (.slice (some ⟨g, 0, none⟩) n c)).setCell ⟨g, ln, none⟩ (.int .u64 0)) g c n m x2 x3 ∧ ∃ C, W.heap[g]? = some (.cells C 22 (0, 0)) ∧ C[ln]? = some (.int .u64 (lastN m.nums : Int)) := by
  obtain rfl : ln = m.nums.length - 1 := by omega
  clear hln
  subst hn
  have hC := ho
  obtain ⟨C, rfl, hns⟩ := ho.set (m.nums.length - 1) 0 (by omega) (by omega)
  have k1 := heap_set_same W w.heap.size 1 _ _ (.slice (some ⟨g, 0, none⟩) m.nums.length c) hm
  have k2 : (W.setCell ⟨w.heap.size, 1, none⟩ (.slice (some ⟨g, 0, none⟩) m.nums.length c)).heap[g]? = some (.cells C 22 (0, 0)) := (Below.heap_setCell _ _ _ _ (fun e => by have : g = w.heap.size := e; omega)).trans hg
  have k3 := heap_set_same _ g (m.nums.length - 1) _ _ (.int .u64 ((0 : Nat) : Int)) k2
  have k4 : ((W.setCell ⟨w.heap.size, 1, none⟩ (.slice (some ⟨g, 0, none⟩) m.nums.length c)).setCell ⟨g, m.nums.length - 1, none⟩ (.int .u64 0)).heap[w.heap.size]? = _ := (Below.heap_setCell _ _ _ _ (fun e => by have : w.heap.size = g := e; omega)).trans k1
  have hbw := set_below (j := m.nums.length - 1) _ _ (.int .u64 0) (set_below (j := 1) _ _ (.slice (some ⟨g, 0, none⟩) m.nums.length c) hb (Nat.le_refl _)) (by omega : w.heap.size ≤ g)
  have hns' := hns
  have hm6 := hns.ns k3
  refine ⟨⟨hbw, by simpa using k4, ⟨by have h := hm6; simp only [List.length_set] at h; exact h, hv.2.1.below hbw, hv.2.2.1.below hbw, hv.2.2.2⟩, (Array.getElem?_eq_some_iff.1 k3).1, ?_⟩, C, hg, ?_⟩
  · have h1 := (cells_of k3 0).1
    obtain ⟨C', e, _, _, _, h5⟩ := hC
    cases e
    have h6 := h5 0 (by omega)
    refine Eq.trans h1 ?_
    rw [Array.getElem?_setIfInBounds_ne (by omega)]
    exact h6
  · obtain ⟨C', e, _, _, _, h5⟩ := hC
    cases e
    exact h5 _ (by omega)
theorem below_drew {n : Nat} {w W : World} (h : Below n w W) : Below n w W.drew := below_drewN' h 1
theorem below_trd {w W : World} (h : Below w.drew.heap.size w.drew W) : Below w.heap.size w W := (below_drew (Below.refl _ _)).trans h
theorem heap_drew {W : World} {k : Nat} {o : Obj} (h : W.heap[k]? = some o) : W.drew.heap[k]? = some o := h
theorem eqlD_nil (W : World) : (binOp .eql 79 Value.nilFunc Value.nilFunc).run Tryd.prog W = .ok (.bool true) W := by kernel_rfl
theorem eqlD_fn (k : Nat) (W : World) : (binOp .eql 79 (.func (.func k) #[] #[]) Value.nilFunc).run Tryd.prog W = .ok (.bool false) W := by kernel_rfl
theorem alloc_at (w : World) (C : Array Value) (t : TypeId) : (w.alloc (.cells C t)).heap[w.heap.size]? = some (.cells C t (0, 0)) := World.alloc_heap_new w _
set_option maxHeartbeats 4000000 in
theorem scheck_no (nb : Nat) (m : Wi.Msg) (x1 x2 x3 : Value) (w : World) (hv : MsgV w x1 x2 x3 m) (hk : ¬ (m.kind = 1 ∨ m.kind = 2)) :
    Calls Tryd.prog 22 #[.pointer (some ⟨nb, 0, none⟩), .agg #[.int .i64 m.kind, x1, x2, x3]] w fun e w' => e = .returned (.bool false) ∧ Below w.heap.size w w' := by
  obtain ⟨A1, c1, A2, c2, A3, c3, rfl, rfl, rfl⟩ := hv.forms
  have HD : Hid (∀ W, Calls Tryd.prog 33 #[] W (DeedsAns W)) := Lib.hid deeds_any
  have HO : Hid (deedOf m.kind = Value.nilFunc) := Lib.hid (by unfold deedOf; rw [if_neg (fun e => hk (.inl e)), if_neg (fun e => hk (.inr e))])
  have HW : Hid (∃ W, w.alloc (.cells #[.int .i64 m.kind, .slice A1 m.nums.length c1, .slice A2 m.addrs.length c2, .slice A3 m.body.length c3] 46) = W ∧ Below w.heap.size w W ∧ W.heap[w.heap.size]? = some (.cells #[.int .i64 m.kind, .slice A1 m.nums.length c1, .slice A2 m.addrs.length c2, .slice A3 m.body.length c3] 46 (0, 0))) := Lib.hid ⟨_, rfl, (Below.refl _ w).alloc (Nat.le_refl _) _, alloc_at _ _ _⟩
  have hq := eqlD_nil
  clear hv hk
  go_enter Tryd.func22, Tryd.ntmps22
  go_wp2
  obtain ⟨W, hW, hB, k0⟩ := HW.out
  rw [hW]
  clear hW
  obtain ⟨⟨b0, _⟩, ⟨b1, _⟩, ⟨b2, _⟩, ⟨b3, _⟩, bl⟩ := four k0
  have HB := Lib.hid (below_drew hB); have HK := Lib.hid (heap_drew k0)
  clear hB k0
  go_region_with (go_at_call 33; (refine (HD.out _).mono ?_; rintro e W3 ⟨bm, rfl, hb3, hk3, _⟩; have q3 := run_lookD W3 bm m.kind hk3; rw [HO.out] at q3; have HB3 := Lib.hid (HB.out.trans (hb3.mono HB.out.size)); obtain ⟨⟨e0, _⟩, ⟨e1, _⟩, ⟨e2, _⟩, ⟨e3, _⟩, el⟩ := four ((hb3.block _ bl).trans HK.out); clear hb3 hk3))
  all_goals
    go_wp2
    go_ret
    exact ⟨rfl, HB3.out⟩
end Go.Proofs.YtdiilgedicfekaaDoor
namespace Go.Proofs.YtdiilgedicfekaaDoor
open Go.RowKit Go.Maps
set_option linter.unusedVariables false
set_option maxRecDepth 100000

/-- what is sent: nothing, or bytes in a block that is held -/
def Sent (w0 : World) (nb : Nat) (L : List Item) (R : Option (Nat × List Item)) (os : List (Nat × Obj)) (n0 : Nat) (z : List Int) (v : Value) (w' : World) : Prop :=
  ∃ A c ho, v = .slice A z.length c ∧ z.length ≤ c ∧ c ≤ maxLen ∧ (A = none → z.length = 0 ∧ c = 0) ∧ (∀ V : World, (∀ p ∈ ho, V.heap[p.1]? = some p.2) → Bts V A z.length z) ∧ (∀ p ∈ ho, n0 ≤ p.1) ∧ Sd w0 nb L R (ho ++ os) w'
theorem sent_nil {w0 : World} {nb : Nat} {L : List Item} {R : Option (Nat × List Item)} {os : List (Nat × Obj)} {n0 : Nat} {w' : World} (h : Sd w0 nb L R os w') : Sent w0 nb L R os n0 [] (.slice none 0 0) w' :=
  ⟨none, 0, [], rfl, Nat.le_refl _, Nat.zero_le _, fun _ => ⟨rfl, rfl⟩, fun _ _ => bts_nil _, by simp, h⟩
/-- a body: none, or the byte 1 in a block that is held -/
def BodyH (os : List (Nat × Obj)) (vb : Value) (b : List Int) : Prop := (vb = .slice none 0 0 ∧ b = []) ∨ ∃ gb, vb = .slice (some ⟨gb, 0, none⟩) 1 1 ∧ b = [1] ∧ (gb, Obj.cells #[.int .u8 1] 5 (0, 0)) ∈ os
theorem as_nil (w : World) : As w (.slice none 0 0) [] := ⟨none, 0, rfl, Nat.le_refl _, Nat.zero_le _, fun _ => ⟨rfl, rfl⟩, by simp, fun h => by simp at h⟩
theorem BodyH.tx {os : List (Nat × Obj)} {vb : Value} {b : List Int} {V : World} (h : BodyH os vb b) (hh : ∀ p ∈ os, V.heap[p.1]? = some p.2) : Tx V vb b := by
  rcases h with ⟨rfl, rfl⟩ | ⟨gb, rfl, rfl, hm⟩
  · exact ⟨none, 0, rfl, bts_nil _, Nat.le_refl _, Nat.zero_le _, fun _ => ⟨rfl, rfl⟩⟩
  · have hk := hh _ hm
    refine ⟨_, 1, rfl, ⟨rfl, by simp, fun _ => ⟨gb, 0, rfl, (Array.getElem?_eq_some_iff.1 hk).1, fun j hj => ?_⟩⟩, Nat.le_refl _, by decide, fun h => by cases h⟩
    have hj' : j = 0 := by simpa using hj
    subst hj'
    exact (cells_of hk 0).1
theorem BodyH.form {os : List (Nat × Obj)} {vb : Value} {b : List Int} (h : BodyH os vb b) : ∃ A c, vb = .slice A b.length c := by
  rcases h with ⟨rfl, rfl⟩ | ⟨gb, rfl, rfl, hm⟩
  · exact ⟨_, _, rfl⟩
  · exact ⟨_, _, rfl⟩
theorem BodyH.len {os : List (Nat × Obj)} {vb : Value} {b : List Int} (h : BodyH os vb b) : b.length ≤ 1 := by
  rcases h with ⟨rfl, rfl⟩ | ⟨gb, rfl, rfl, hm⟩ <;> simp
theorem U_len (ns : List Nat) : (U ns).length = ns.length := by simp [U]
theorem U_append (a b : List Nat) : U (a ++ b) = U a ++ U b := by simp [U]
theorem U_at (ns : List Nat) (j : Nat) (hj : j < ns.length) : (U ns)[j]? = some (.int .u64 ((ns.getD j 0 : Nat) : Int)) := by simp [U, List.getD, hj]
theorem snoc_at (ns : List Nat) (n : Nat) (hn : ns.length = n) : (ns ++ [0]).getD n 0 = 0 := by subst hn; simp [List.getD]
theorem snoc_set (ns : List Nat) (a t n : Nat) (hn : ns.length = n) : (ns ++ [a]).set n t = ns ++ [t] := by subst hn; simp
theorem mg_msg {V : World} {os : List (Nat × Obj)} {g c n : Nat} {o : Obj} {vs : List Nat} {k : Int} {vb : Value} {b : List Int} (ho : NumO o vs c) (hg : V.heap[g]? = some o) (hn : vs.length = n) (hb : BodyH os vb b) (hh : ∀ p ∈ os, V.heap[p.1]? = some p.2) (hk : k = 1 ∨ k = 2) :
    MsgV V (.slice (some ⟨g, 0, none⟩) n c) (.slice none 0 0) vb (mg k vs b) := by
  subst hn
  exact ⟨ho.ns hg, as_nil V, hb.tx hh, by rcases hk with rfl | rfl <;> simp [mg], by rcases hk with rfl | rfl <;> simp [mg]⟩

section
variable {w0 : World} {nb : Nat} {L : List Item} {R : Option (Nat × List Item)} {os : List (Nat × Obj)} {w : World}
set_option maxHeartbeats 8000000 in
theorem tagged_s (g : Nat) (ns : List Nat) (h : Sd w0 nb L R ((g, .cells (U ns).toArray 22 (0, 0)) :: os) w) (k : Int) (hk : k = 1 ∨ k = 2) (n : Nat) (hn : ns.length = n) (h1 : 1 ≤ n) (h5 : n ≤ 5) (p : Int) (hp0 : ((ns.getD 0 0 : Nat) : Int) = p) (hp : 1 ≤ p ∧ p ≤ 2147483647)
    (b : List Int) (vb : Value) (hb : BodyH os vb b) (hm : ∀ t, t < 9223372036854775808 → Wi.may (mg k (ns ++ [t]) b) = true) (hL : L.length ≤ 1000000) :
    Calls Tryd.prog 49 #[.pointer (some ⟨nb, 0, none⟩), .agg #[.int .i64 k, .slice none 0 0, .slice none 0 0, vb], .slice (some ⟨g, 0, none⟩) n n] w fun e w' => ∃ v, e = .returned v ∧ Sent w0 nb (tagL' L p k ns b) R os w.heap.size (tagB L p k ns b) v w' ∧ 0 < (tagB L p k ns b).length := by
  obtain ⟨i0, hi0, hz0, hz1, hz2⟩ := info_parts u64_info
  obtain ⟨Ab, cb, rfl⟩ := hb.form
  obtain ⟨lb, hlb⟩ : ∃ l, b.length = l := ⟨_, rfl⟩
  rw [hlb] at hb ⊢
  have hvs : ∀ t, t < 9223372036854775808 → ∀ x ∈ ns ++ [t], x < 18446744073709551616 := fun t ht x hx => by have := (Wi.may_iff.1 (hm t ht)).2.2.2.1 x hx; omega
  have hgl := h.lt (p := (g, .cells (U ns).toArray 22 (0, 0))) (by simp)
  have hgh := h.held (g, .cells (U ns).toArray 22 (0, 0)) (by simp)
  have HA := Lib.hid (h.box #[.int .i64 k, .slice none 0 0, .slice none 0 0, .slice Ab lb cb] 46 rfl)
  have HB := Lib.hid (HA.out.alloc (.cells #[.int .u64 0] 22))
  have HOL : Hid (∀ x : Addr, (some ⟨g, 0, none⟩ : Option Addr) = some x → ∀ j u, (U ns)[j]? = some u → ((w.alloc (.cells #[.int .i64 k, .slice none 0 0, .slice none 0 0, .slice Ab lb cb] 46)).alloc (.cells #[.int .u64 0] 22)).cell? (x.add j) = some u) := Lib.hid (fun x hx j u hu => by
    cases hx
    rw [add_spot, Nat.zero_add]
    refine (cells_of (HB.out.held (g, .cells (U ns).toArray 22 (0, 0)) (by simp)) j).1.trans ?_
    simpa using hu)
  have HUL : Hid ((U ns).length = n * 1) := Lib.hid (by rw [U_len, hn, Nat.mul_one])
  have HM := Lib.hid hm; have HBD := Lib.hid hb; have HVS := Lib.hid hvs; have HN := Lib.hid hn; have HP0 := Lib.hid hp0; have HKK := Lib.hid hk
  have hw0 := h.low.size
  have n00 : 0 < n := by omega
  have hl0 : lb ≤ 1 := by rw [← hlb]; exact hb.len
  obtain ⟨n0, hn0⟩ : ∃ v, ns.getD 0 0 = v := ⟨_, rfl⟩
  have HN0 := Lib.hid hn0
  have w3 : IntKind.i64.wrap (n0 : Int) = (n0 : Int) := by rw [IntKind.wrap_i64]; omega
  have HP : Hid ((n0 : Int) = p) := Lib.hid (by rw [← hn0]; exact hp0)
  have HTL : Hid (tagOf L p k ns b < 9223372036854775808) := Lib.hid (by unfold tagOf; have := tag_lt L (p, txt0 k ns b); omega)
  have HGH := Lib.hid hgh
  have HHP := Lib.hid hp
  have hgn : ¬ (g = w.heap.size) := by omega
  have HOS : Hid (∀ p ∈ os, p.1 < w.heap.size) := Lib.hid (fun p hp => h.lt (by simp [hp]))
  have HR : Hid (∀ v' w1, World.ownsRow w1 (((w.alloc (.cells #[.int .i64 k, .slice none 0 0, .slice none 0 0, .slice Ab lb cb] 46)).alloc (.cells #[.int .u64 0] 22))).heap.size 22 1 v' (n + 1) (U ns ++ [.int .u64 0]) → World.grownBy ((w.alloc (.cells #[.int .i64 k, .slice none 0 0, .slice none 0 0, .slice Ab lb cb] 46)).alloc (.cells #[.int .u64 0] 22)) w1 none → ∃ g2 c2 o2, v' = .slice (some ⟨g2, 0, none⟩) (n + 1) c2 ∧ NumO o2 (ns ++ [0]) c2 ∧ w.heap.size + 2 ≤ g2 ∧
      Sd w0 nb L R ((w.heap.size, Obj.cells #[.int .i64 k, .slice none 0 0, .slice none 0 0, .slice Ab lb cb] 46 (0, 0)) :: (g2, o2) :: (g, .cells (U ns).toArray 22 (0, 0)) :: os) w1) := Lib.hid (by
    intro v' w1 ho hg
    obtain ⟨g2, c2, rfl⟩ := own_s1 ho (by omega)
    have e : n + 1 = (ns ++ [0]).length := by simp [HN.out]
    have eU : U ns ++ [Value.int .u64 0] = U (ns ++ [0]) := by rw [U_append]; rfl
    rw [eU, e] at ho
    obtain ⟨o, k1, k2, k3⟩ := num_o ho (HVS.out 0 (by omega))
    have k4 : w.heap.size + 2 ≤ g2 := by simpa using k3
    refine ⟨g2, c2, o, by rw [e], k2, k4, ?_⟩
    have hb1 : Below (((w.alloc (.cells #[.int .i64 k, .slice none 0 0, .slice none 0 0, .slice Ab lb cb] 46)).alloc (.cells #[.int .u64 0] 22))).heap.size ((w.alloc (.cells #[.int .i64 k, .slice none 0 0, .slice none 0 0, .slice Ab lb cb] 46)).alloc (.cells #[.int .u64 0] 22)) w1 := (Below.refl _ _).grown hg (Nat.le_refl _) (fun r e => by cases e)
    exact (HB.out.fresh hb1 k1 (by simp; omega)).sub (fun p hp => by simp only [List.mem_cons] at hp ⊢; rcases hp with h | h | h | h <;> simp [h]))
  have HST : Hid (∀ g2 c2 o2 w1, w.heap.size + 2 ≤ g2 → Sd w0 nb L R ((w.heap.size, Obj.cells #[.int .i64 k, .slice none 0 0, .slice none 0 0, .slice Ab lb cb] 46 (0, 0)) :: (g2, o2) :: (g, .cells (U ns).toArray 22 (0, 0)) :: os) w1 → Sd w0 nb L R ((w.heap.size, Obj.cells #[.int .i64 k, .slice (some ⟨g2, 0, none⟩) (n + 1) c2, .slice none 0 0, .slice Ab lb cb] 46 (0, 0)) :: (g2, o2) :: (g, .cells (U ns).toArray 22 (0, 0)) :: os) (w1.setCell ⟨w.heap.size, 1, none⟩ (.slice (some ⟨g2, 0, none⟩) (n + 1) c2))) := Lib.hid (fun g2 c2 o2 w1 hge hs => by
    have := hs.store (j := 1) (v := .slice (some ⟨g2, 0, none⟩) (n + 1) c2) (fun p hp => by
      simp only [List.mem_cons] at hp
      rcases hp with rfl | rfl | hp
      · simp only; omega
      · simp only; omega
      · have := HOS.out p hp; omega) hw0
    simpa using this)
  have HBY : Hid (∀ g2 c2 o2 (V : World), NumO o2 (ns ++ [0]) c2 → Sd w0 nb L R ((w.heap.size, Obj.cells #[.int .i64 k, .slice (some ⟨g2, 0, none⟩) (n + 1) c2, .slice none 0 0, .slice Ab lb cb] 46 (0, 0)) :: (g2, o2) :: (g, .cells (U ns).toArray 22 (0, 0)) :: os) V → Calls Tryd.prog 21 #[.agg #[.int .i64 k, .slice (some ⟨g2, 0, none⟩) (n + 1) c2, .slice none 0 0, .slice Ab lb cb]] V fun e W' => ∃ gq cq, e = .returned (.slice (some ⟨gq, 0, none⟩) (txt0 k ns b).length cq) ∧ (txt0 k ns b).length ≤ cq ∧ cq ≤ maxLen ∧ Bts W' (some ⟨gq, 0, none⟩) (txt0 k ns b).length (txt0 k ns b) ∧ Sd w0 nb L R ((w.heap.size, Obj.cells #[.int .i64 k, .slice (some ⟨g2, 0, none⟩) (n + 1) c2, .slice none 0 0, .slice Ab lb cb] 46 (0, 0)) :: (g2, o2) :: (g, .cells (U ns).toArray 22 (0, 0)) :: os) W') := Lib.hid (fun g2 c2 o2 V ho hs => (law_bytes (mg k (ns ++ [0]) b) _ _ _ V (mg_msg ho (hs.held (g2, o2) (by simp)) (by simp [HN.out]) HBD.out (fun p hp => hs.held p (by simp [hp])) HKK.out) hs.tbv (HM.out 0 (by omega))).mono fun e W' h => by
    obtain ⟨gq, cq, h1, h2, h3, h4, h5, h6, h7, h8⟩ := h
    exact ⟨gq, cq, h1, h2, h3, h7, hs.below h8⟩)
  have HMI : Hid (∀ (OS : List (Nat × Obj)) (V : World) (gq cq : Nat), Sd w0 nb L R OS V → Bts V (some ⟨gq, 0, none⟩) (txt0 k ns b).length (txt0 k ns b) → (txt0 k ns b).length ≤ cq → cq ≤ maxLen → Calls Tryd.prog 24 #[.pointer (some ⟨nb, 0, none⟩), .int .i64 (n0 : Int), .slice (some ⟨gq, 0, none⟩) (txt0 k ns b).length cq] V fun e W' => e = .returned (.tuple #[.int .u64 (tagOf L p k ns b : Nat), .int .i64 0]) ∧ Sd w0 nb (tagL' L p k ns b) R OS W') := Lib.hid (fun OS V gq cq hs hb h1 h2 => by
    rw [HP.out]
    exact mint_s hs p _ _ cq _ HHP.out h1 h2 hb hL)
  have HU0 : Hid ((U ns).toArray[0]? = some (.int .u64 (n0 : Int))) := Lib.hid (by have := U_at ns 0 (by rw [HN.out]; omega); rw [HN0.out] at this; simpa using this)
  have HFI : Hid (∀ g2 c2 C (V : World), NumO (.cells C 22 (0, 0)) (ns ++ [tagOf L p k ns b]) c2 → Sd w0 nb (tagL' L p k ns b) R ((g2, Obj.cells C 22 (0, 0)) :: (w.heap.size, Obj.cells #[.int .i64 k, .slice (some ⟨g2, 0, none⟩) (n + 1) c2, .slice none 0 0, .slice Ab lb cb] 46 (0, 0)) :: (g, .cells (U ns).toArray 22 (0, 0)) :: os) V → w.heap.size ≤ V.heap.size → Calls Tryd.prog 21 #[.agg #[.int .i64 k, .slice (some ⟨g2, 0, none⟩) (n + 1) c2, .slice none 0 0, .slice Ab lb cb]] V fun e W' => ∃ v, e = .returned v ∧ Sent w0 nb (tagL' L p k ns b) R os w.heap.size (tagB L p k ns b) v W' ∧ 0 < (tagB L p k ns b).length) := Lib.hid (fun g2 c2 C V ho hs hsz => (law_bytes (mg k (ns ++ [tagOf L p k ns b]) b) _ _ _ V (mg_msg ho (hs.held (g2, .cells C 22 (0, 0)) (by simp)) (by simp [HN.out]) HBD.out (fun p hp => hs.held p (by simp [hp])) HKK.out) hs.tbv (HM.out _ HTL.out)).mono fun e W' h => by
    obtain ⟨gq, cq, h1, h2, h3, h4, h5, h6, h7, h8⟩ := h
    have hbd := Wi.bytes_bd (MsgV.wf (mg_msg (k := k) (n := n + 1) (vb := .slice Ab lb cb) ho (hs.held (g2, .cells C 22 (0, 0)) (by simp)) (by simp [HN.out]) HBD.out (fun p hp => hs.held p (by simp [hp])) HKK.out)) (HM.out _ HTL.out)
    obtain ⟨o, k1, k2⟩ := row_o h6 hbd
    exact ⟨_, h1, ⟨_, cq, [(gq, o)], rfl, h2, h3, (fun h => by cases h), fun V hV => k2.bts (hV (gq, o) (by simp)), fun p hp => by simp at hp; subst hp; simp only; omega, (hs.fresh h8 k1 h4).sub (fun p hp => by simp only [List.mem_cons, List.cons_append, List.nil_append] at hp ⊢; rcases hp with h | h <;> simp [h])⟩, (Wi.bytes_len (HM.out _ HTL.out)).1⟩)
  obtain ⟨lt0, hlt0⟩ : ∃ l, (txt0 k ns b).length = l := ⟨_, rfl⟩
  rw [hlt0] at HBY HMI
  clear hlt0
  obtain ⟨tg, htg⟩ : ∃ t, tagOf L p k ns b = t := ⟨_, rfl⟩
  rw [htg] at HMI HFI HTL
  clear htg
  clear hm hb hvs hn hp0 hn0 hk h hp hgh
  go_enter Tryd.func49, Tryd.ntmps49
  go_wp2_with (at_builtin; refine wpList_append_grows _ rfl _ _ 43 rfl 22 i0 (.int .u64 0) 1 8 Tryd.underlying43 hi0 hz0 hz1 hz2 rfl (by decide) (some ⟨g, 0, none⟩) n n (U ns) rfl (fun h => by cases h) HUL.out HOL.out ⟨w.heap.size + 1, 0, none⟩ 1 1 [.int .u64 0] rfl rfl (by have := cell_one_new (w.alloc (.cells #[.int .i64 k, .slice none 0 0, .slice none 0 0, .slice Ab lb cb] 46)) (.int .u64 0) 22; rwa [World.size_alloc] at this) (by simp [Value.oneCell']) (by omega) (by unfold maxLen; omega) (by omega) ?_; intro v' w1 hown hgrow; obtain ⟨g2, c2, o2, rfl, ho2, hge2, hs2⟩ := HR.out v' w1 hown hgrow; obtain ⟨⟨u0, _⟩, ⟨u1, uf⟩, ⟨u2, _⟩, ⟨u3, _⟩, ul⟩ := four (hs2.held (w.heap.size, Obj.cells #[.int .i64 k, .slice none 0 0, .slice none 0 0, .slice Ab lb cb] 46 (0, 0)) (by simp)); have HS2 := Lib.hid hs2; have HO2 := Lib.hid ho2; clear hgrow hown hs2 ho2)
  have hs3 := HST.out g2 c2 o2 w1 hge2 HS2.out
  obtain ⟨W3, hW3⟩ : ∃ W3, w1.setCell ⟨w.heap.size, 1, none⟩ (.slice (some ⟨g2, 0, none⟩) (n + 1) c2) = W3 := ⟨_, rfl⟩
  rw [hW3] at hs3 ⊢
  have HS3 := Lib.hid hs3
  clear hW3 hs3 u0 u1 u2 u3 uf ul
  have HBY := Lib.hid (fun V => HBY.out g2 c2 o2 V HO2.out)
  refine wp_region_held_drew (S := fun W => W.heap[w.heap.size]? = some (.cells #[.int .i64 k, .slice (some ⟨g2, 0, none⟩) (n + 1) c2, .slice none 0 0, .slice Ab lb cb] 46 (0, 0)) ∧ W.heap[g]? = some (.cells (U ns).toArray 22 (0, 0)) ∧ (U ns).toArray[0]? = some (.int .u64 (n0 : Int))) (by kernel_rfl) ⟨HS3.out.drew.held (w.heap.size, Obj.cells #[.int .i64 k, .slice (some ⟨g2, 0, none⟩) (n + 1) c2, .slice none 0 0, .slice Ab lb cb] 46 (0, 0)) (by simp), HS3.out.drew.held (g, Obj.cells (U ns).toArray 22 (0, 0)) (by simp), HU0.out⟩ (fun hHeld => ?_)
  refine wpAnyH_take (i := 0) (oi := _) (v := ?_) rfl (by kernel_rfl) (by kernel_rfl) (by kernel_rfl) (fun _ _ _ h => h) (Or.inl ⟨by rfl, ?_⟩) (by assumption) ?_
  case refine_2 => intro w hSw; (try dsimp only at hSw); obtain ⟨⟨z0, _⟩, ⟨z1, _⟩, ⟨z2, _⟩, ⟨z3, _⟩, zl⟩ := four hSw.1; have y0 := (cells_of hSw.2.1 0).1; rw [hSw.2.2] at y0; have y1 := (Array.getElem?_eq_some_iff.1 hSw.2.1).1; clear hSw; go_simp; first | done | (with_reducible rfl)
  try simp only [Act.put, List.getElem_toArray, List.getElem_cons_zero, List.setIfInBounds_toArray, List.set_cons_zero, List.set_cons_succ]
  refine wpAnyH_take (i := 1) (oi := _) (v := ?_) rfl (by kernel_rfl) (by kernel_rfl) (by kernel_rfl) (fun _ _ _ h => h) (Or.inl ⟨by rfl, ?_⟩) (by assumption) ?_
  case refine_2 => intro w hSw; (try dsimp only at hSw); obtain ⟨⟨z0, _⟩, ⟨z1, _⟩, ⟨z2, _⟩, ⟨z3, _⟩, zl⟩ := four hSw.1; have y0 := (cells_of hSw.2.1 0).1; rw [hSw.2.2] at y0; have y1 := (Array.getElem?_eq_some_iff.1 hSw.2.1).1; clear hSw; go_simp; first | done | (with_reducible rfl)
  try simp only [Act.put, List.getElem_toArray, List.getElem_cons_zero, List.getElem_cons_succ, List.setIfInBounds_toArray, List.set_cons_zero, List.set_cons_succ]
  refine wpAnyH_take (i := 2) (oi := _) (v := ?_) rfl (by kernel_rfl) (by kernel_rfl) (by kernel_rfl) (fun _ _ _ h => h) (Or.inl ⟨by rfl, ?_⟩) (by assumption) ?_
  case refine_2 => intro w hSw; (try dsimp only at hSw); obtain ⟨⟨z0, _⟩, ⟨z1, _⟩, ⟨z2, _⟩, ⟨z3, _⟩, zl⟩ := four hSw.1; have y0 := (cells_of hSw.2.1 0).1; rw [hSw.2.2] at y0; have y1 := (Array.getElem?_eq_some_iff.1 hSw.2.1).1; clear hSw; go_simp; first | done | (with_reducible rfl)
  try simp only [Act.put, List.getElem_toArray, List.getElem_cons_zero, List.getElem_cons_succ, List.setIfInBounds_toArray, List.set_cons_zero, List.set_cons_succ]
  refine wpAnyH_take (i := 3) (oi := _) (v := ?_) rfl (by kernel_rfl) (by kernel_rfl) (by kernel_rfl) (fun _ _ _ h => h) (Or.inl ⟨by rfl, ?_⟩) (by assumption) ?_
  case refine_2 => intro w hSw; (try dsimp only at hSw); obtain ⟨⟨z0, _⟩, ⟨z1, _⟩, ⟨z2, _⟩, ⟨z3, _⟩, zl⟩ := four hSw.1; have y0 := (cells_of hSw.2.1 0).1; rw [hSw.2.2] at y0; have y1 := (Array.getElem?_eq_some_iff.1 hSw.2.1).1; clear hSw; go_simp; first | done | (with_reducible rfl)
  try simp only [Act.put, List.getElem_toArray, List.getElem_cons_zero, List.getElem_cons_succ, List.setIfInBounds_toArray, List.set_cons_zero, List.set_cons_succ]
  refine wpAnyH_take (i := 4) (oi := _) (v := ?_) rfl (by kernel_rfl) (by kernel_rfl) (by kernel_rfl) (fun _ _ _ h => h) (Or.inl ⟨by rfl, ?_⟩) (by assumption) ?_
  case refine_2 => intro w hSw; (try dsimp only at hSw); obtain ⟨⟨z0, _⟩, ⟨z1, _⟩, ⟨z2, _⟩, ⟨z3, _⟩, zl⟩ := four hSw.1; have y0 := (cells_of hSw.2.1 0).1; rw [hSw.2.2] at y0; have y1 := (Array.getElem?_eq_some_iff.1 hSw.2.1).1; clear hSw; go_simp; first | done | (with_reducible rfl)
  try simp only [Act.put, List.getElem_toArray, List.getElem_cons_zero, List.getElem_cons_succ, List.setIfInBounds_toArray, List.set_cons_zero, List.set_cons_succ]
  refine wpAnyH_take (i := 5) (oi := _) (v := ?_) rfl (by kernel_rfl) (by kernel_rfl) (by kernel_rfl) (fun _ _ _ h => h) (Or.inl ⟨by rfl, ?_⟩) (by assumption) ?_
  case refine_2 => intro w hSw; (try dsimp only at hSw); obtain ⟨⟨z0, _⟩, ⟨z1, _⟩, ⟨z2, _⟩, ⟨z3, _⟩, zl⟩ := four hSw.1; have y0 := (cells_of hSw.2.1 0).1; rw [hSw.2.2] at y0; have y1 := (Array.getElem?_eq_some_iff.1 hSw.2.1).1; clear hSw; go_simp; first | done | (with_reducible rfl)
  try simp only [Act.put, List.getElem_toArray, List.getElem_cons_zero, List.getElem_cons_succ, List.setIfInBounds_toArray, List.set_cons_zero, List.set_cons_succ]
  refine wpAnyH_ready (rs := [6]) (by kernel_rfl) (by simp) ?_
  refine AllReadyH.cons rfl (fun K hK => ?_) AllReadyH.nil
  go_simp
  go_at_call 21
  refine (HBY.out _ HS3.out.drew).mono ?_
  rintro e W4 ⟨gq, cq, rfl, hq1, hq2, hq3, hs4⟩
  have HS4 := Lib.hid hs4
  have HQ3 := Lib.hid hq3
  clear hs4 hq3
  refine hK.out _ _ ⟨HS4.out.held (w.heap.size, Obj.cells #[.int .i64 k, .slice (some ⟨g2, 0, none⟩) (n + 1) c2, .slice none 0 0, .slice Ab lb cb] 46 (0, 0)) (by simp), HS4.out.held (g, Obj.cells (U ns).toArray 22 (0, 0)) (by simp), HU0.out⟩ (fun hHeld => ?_)
  clear hK K
  try simp only [Act.put, List.getElem_toArray, List.getElem_cons_zero, List.getElem_cons_succ, List.setIfInBounds_toArray, List.set_cons_zero, List.set_cons_succ]
  refine wpAnyH_ready (rs := [7]) (by kernel_rfl) (by simp) ?_
  refine AllReadyH.cons rfl (fun K hK => ?_) AllReadyH.nil
  go_simp
  go_at_call 24
  refine (HMI.out _ _ _ _ HS4.out HQ3.out hq1 hq2).mono ?_
  rintro e W5 ⟨rfl, hs5⟩
  have HS5 := Lib.hid hs5
  clear hs5
  refine hK.out _ _ ⟨HS5.out.held (w.heap.size, Obj.cells #[.int .i64 k, .slice (some ⟨g2, 0, none⟩) (n + 1) c2, .slice none 0 0, .slice Ab lb cb] 46 (0, 0)) (by simp), HS5.out.held (g, Obj.cells (U ns).toArray 22 (0, 0)) (by simp), HU0.out⟩ (fun hHeld => ?_)
  clear hK K
  try simp only [Act.put, List.getElem_toArray, List.getElem_cons_zero, List.getElem_cons_succ, List.setIfInBounds_toArray, List.set_cons_zero, List.set_cons_succ]
  refine wpAnyH_take (i := 8) (oi := _) (v := ?_) rfl (by kernel_rfl) (by kernel_rfl) (by kernel_rfl) (fun _ _ _ h => h) (Or.inl ⟨by rfl, ?_⟩) (by assumption) ?_
  case refine_2 => intro w hSw; (try dsimp only at hSw); obtain ⟨⟨z0, _⟩, ⟨z1, _⟩, ⟨z2, _⟩, ⟨z3, _⟩, zl⟩ := four hSw.1; have y0 := (cells_of hSw.2.1 0).1; rw [hSw.2.2] at y0; have y1 := (Array.getElem?_eq_some_iff.1 hSw.2.1).1; clear hSw; go_simp; first | done | (with_reducible rfl)
  try simp only [Act.put, List.getElem_toArray, List.getElem_cons_zero, List.getElem_cons_succ, List.setIfInBounds_toArray, List.set_cons_zero, List.set_cons_succ]
  refine wpAnyH_take (i := 9) (oi := _) (v := ?_) rfl (by kernel_rfl) (by kernel_rfl) (by kernel_rfl) (fun _ _ _ h => h) (Or.inl ⟨by rfl, ?_⟩) (by assumption) ?_
  case refine_2 => intro w hSw; (try dsimp only at hSw); obtain ⟨⟨z0, _⟩, ⟨z1, _⟩, ⟨z2, _⟩, ⟨z3, _⟩, zl⟩ := four hSw.1; have y0 := (cells_of hSw.2.1 0).1; rw [hSw.2.2] at y0; have y1 := (Array.getElem?_eq_some_iff.1 hSw.2.1).1; clear hSw; go_simp; first | done | (with_reducible rfl)
  try simp only [Act.put, List.getElem_toArray, List.getElem_cons_zero, List.getElem_cons_succ, List.setIfInBounds_toArray, List.set_cons_zero, List.set_cons_succ]
  refine wpAnyH_take (i := 10) (oi := _) (v := ?_) rfl (by kernel_rfl) (by kernel_rfl) (by kernel_rfl) (fun _ _ _ h => h) (Or.inl ⟨by rfl, ?_⟩) (by assumption) ?_
  case refine_2 => intro w hSw; (try dsimp only at hSw); obtain ⟨⟨z0, _⟩, ⟨z1, _⟩, ⟨z2, _⟩, ⟨z3, _⟩, zl⟩ := four hSw.1; have y0 := (cells_of hSw.2.1 0).1; rw [hSw.2.2] at y0; have y1 := (Array.getElem?_eq_some_iff.1 hSw.2.1).1; clear hSw; go_simp; first | done | (with_reducible rfl)
  try simp only [Act.put, List.getElem_toArray, List.getElem_cons_zero, List.getElem_cons_succ, List.setIfInBounds_toArray, List.set_cons_zero, List.set_cons_succ]
  refine wpAnyH_take (i := 11) (oi := _) (v := ?_) rfl (by kernel_rfl) (by kernel_rfl) (by kernel_rfl) (fun _ _ _ h => h) (Or.inl ⟨by rfl, ?_⟩) (by assumption) ?_
  case refine_2 => intro w hSw; (try dsimp only at hSw); obtain ⟨⟨z0, _⟩, ⟨z1, _⟩, ⟨z2, _⟩, ⟨z3, _⟩, zl⟩ := four hSw.1; have y0 := (cells_of hSw.2.1 0).1; rw [hSw.2.2] at y0; have y1 := (Array.getElem?_eq_some_iff.1 hSw.2.1).1; clear hSw; go_simp; first | done | (with_reducible rfl)
  try simp only [Act.put, List.getElem_toArray, List.getElem_cons_zero, List.getElem_cons_succ, List.setIfInBounds_toArray, List.set_cons_zero, List.set_cons_succ]
  refine wpAnyH_take (i := 12) (oi := _) (v := ?_) rfl (by kernel_rfl) (by kernel_rfl) (by kernel_rfl) (fun _ _ _ h => h) (Or.inl ⟨by rfl, ?_⟩) (by assumption) ?_
  case refine_2 => intro w hSw; (try dsimp only at hSw); obtain ⟨⟨z0, _⟩, ⟨z1, _⟩, ⟨z2, _⟩, ⟨z3, _⟩, zl⟩ := four hSw.1; have y0 := (cells_of hSw.2.1 0).1; rw [hSw.2.2] at y0; have y1 := (Array.getElem?_eq_some_iff.1 hSw.2.1).1; clear hSw; go_simp; first | done | (with_reducible rfl)
  try simp only [Act.put, List.getElem_toArray, List.getElem_cons_zero, List.getElem_cons_succ, List.setIfInBounds_toArray, List.set_cons_zero, List.set_cons_succ]
  refine wpAnyH_done (by kernel_rfl) ?_ _
  obtain ⟨C, hC, hNS⟩ := HO2.out.set n tg (by simp [HN.out]) (by have := HTL.out; omega)
  have hC2 : C[n]? = some (.int .u64 0) := by
    obtain ⟨C', e, _, _, _, h4⟩ := HO2.out
    rw [hC] at e
    cases e
    have := h4 n (by simp [HN.out])
    rw [this, snoc_at ns n HN.out]
    rfl
  rw [snoc_set ns 0 tg n HN.out] at hNS
  subst hC
  have hs5 := HS5.out
  obtain ⟨⟨u0, _⟩, ⟨u1, uf⟩, ⟨u2, _⟩, ⟨u3, _⟩, ul⟩ := four (hs5.held (w.heap.size, Obj.cells #[.int .i64 k, .slice (some ⟨g2, 0, none⟩) (n + 1) c2, .slice none 0 0, .slice Ab lb cb] 46 (0, 0)) (by simp))
  obtain ⟨v1, vf⟩ := hs5.cells (b := g2) (C := C) (t := 22) (by simp) n
  rw [hC2] at v1
  have gl2 : g2 < W5.heap.size := hs5.lt (p := (g2, Obj.cells C 22 (0, 0))) (by simp)
  have hgw : ¬ (g2 = w.heap.size) := by omega
  have hgw2 : ¬ (w.heap.size = g2) := by omega
  have t1 : (n : Int) < (n : Int) + 1 := by omega
  have hs6 := (hs5.sub (os' := (g2, Obj.cells C 22 (0, 0)) :: (w.heap.size, Obj.cells #[.int .i64 k, .slice (some ⟨g2, 0, none⟩) (n + 1) c2, .slice none 0 0, .slice Ab lb cb] 46 (0, 0)) :: (g, .cells (U ns).toArray 22 (0, 0)) :: os) (fun p hp => by simp only [List.mem_cons] at hp ⊢; rcases hp with h | h | h | h <;> simp [h])).store (j := n) (v := .int .u64 (tg : Int)) (fun p hp => by
    simp only [List.mem_cons] at hp
    rcases hp with rfl | rfl | hp
    · simp only; omega
    · simp only; omega
    · have := HOS.out p hp; omega) (by omega)
  have hs6z : w.heap.size ≤ (W5.setCell ⟨g2, n, none⟩ (.int .u64 (tg : Int))).heap.size := by simp; omega
  have HNS := Lib.hid hNS
  have HS6 := Lib.hid hs6
  have HC := Lib.hid (HFI.out g2 c2 _ _ hNS hs6 hs6z)
  obtain ⟨⟨r0, _⟩, ⟨r1, rf⟩, ⟨r2, _⟩, ⟨r3, _⟩, rl⟩ := four (hs6.held (w.heap.size, Obj.cells #[.int .i64 k, .slice (some ⟨g2, 0, none⟩) (n + 1) c2, .slice none 0 0, .slice Ab lb cb] 46 (0, 0)) (by simp))
  clear hs5 hs6 hNS hC2 hHeld
  go_wp2_with fail
  refine HC.out.mono ?_
  rintro e W7 ⟨v, rfl, h1, h2⟩
  have H1 := Lib.hid h1; have H2 := Lib.hid h2; clear h1 h2
  go_wp2
  go_ret
  exact ⟨_, rfl, H1.out, H2.out⟩
set_option maxHeartbeats 4000000 in
theorem hello_s (s : Sk) (h : Sd w0 nb L R os w) (hs : s.Ok) (hL : L.length ≤ 1000000) :
    Calls Tryd.prog 30 #[skv s, .pointer (some ⟨nb, 0, none⟩)] w fun e w' => ∃ v, e = .returned v ∧ Sent w0 nb (helloL L s) R os w.heap.size (helloB L s) v w' ∧ 0 < (helloB L s).length := by
  have hmay := fun t ht => may_hello hs t ht
  have C : Hid (∀ V g, Sd w0 nb L R ((g, .cells (U s.h3).toArray 22 (0, 0)) :: os) V → Calls Tryd.prog 49 #[.pointer (some ⟨nb, 0, none⟩), .agg #[.int .i64 1, .slice none 0 0, .slice none 0 0, .slice none 0 0], .slice (some ⟨g, 0, none⟩) 3 3] V fun e w' => ∃ v, e = .returned v ∧ Sent w0 nb (helloL L s) R os V.heap.size (helloB L s) v w' ∧ 0 < (helloB L s).length) := Lib.hid (fun V g hg =>
    tagged_s g s.h3 hg 1 (.inl rfl) 3 rfl (by omega) (by omega) s.own (by have := hs.o1; simp [Sk.h3, List.getD]; omega) ⟨hs.o1, hs.o2⟩ [] _ (.inl ⟨rfl, rfl⟩) hmay hL)
  have o1 := hs.o1; have o2 := hs.o2; have t1 := hs.t1; have t2 := hs.t2
  obtain ⟨st, own, oth, non, ech⟩ := s
  simp only at o1 o2 t1 t2
  have HA : Hid (Sd w0 nb L R ((w.heap.size + 1, .cells (U (Sk.mk st own oth non ech).h3).toArray 22 (0, 0)) :: os) ((w.alloc (.cells #[.int .i64 st, .int .i64 own, .int .i64 oth, .int .u64 (non : Int), .int .u64 (ech : Int)] 29)).alloc (.cells #[.int .u64 own, .int .u64 oth, .int .u64 (non : Int)] 22))) := Lib.hid (by
    have := (h.alloc (.cells #[.int .i64 st, .int .i64 own, .int .i64 oth, .int .u64 (non : Int), .int .u64 (ech : Int)] 29)).box #[.int .u64 own, .int .u64 oth, .int .u64 (non : Int)] 22 (k := w.heap.size + 1) (by simp)
    have e : (U (Sk.mk st own oth non ech).h3).toArray = #[.int .u64 own, .int .u64 oth, .int .u64 (non : Int)] := by
      simp [U, Sk.h3, Int.max_eq_left (by omega : (0 : Int) ≤ own), Int.max_eq_left (by omega : (0 : Int) ≤ oth)]
    rw [e]
    exact this)
  have HC := Lib.hid (C.out _ _ HA.out)
  have u1 : IntKind.u64.wrap own = own := u64_in (by omega) (by omega)
  have u2 : IntKind.u64.wrap oth = oth := u64_in (by omega) (by omega)
  clear hs C HA h hmay
  go_enter Tryd.func30, Tryd.ntmps30
  go_wp2_with fail
  refine HC.out.mono ?_
  rintro e W7 ⟨v, rfl, ⟨A, c, ho, rfl, a1, a2, a3, a4, a5, a6⟩, h2⟩
  have H1 := Lib.hid a1; have H2 := Lib.hid h2; have H3 := Lib.hid a3; have H4 := Lib.hid a4; have H6 := Lib.hid a6
  have H5 : Hid (∀ p ∈ ho, w.heap.size ≤ p.1) := Lib.hid (fun p hp => by have := a5 p hp; simp at this; omega)
  clear h2 a1 a3 a4 a5 a6
  go_wp2
  go_ret
  exact ⟨_, rfl, ⟨_, _, ho, rfl, H1.out, a2, H3.out, H4.out, H5.out, H6.out⟩, H2.out⟩
set_option maxHeartbeats 4000000 in
theorem answer_s (s : Sk) (b : List Int) (vb : Value) (hb : BodyH os vb b) (h : Sd w0 nb L R os w) (hs : s.Ok) (hL : L.length ≤ 1000000) :
    Calls Tryd.prog 35 #[skv s, .pointer (some ⟨nb, 0, none⟩), vb] w fun e w' => ∃ v, e = .returned v ∧ Sent w0 nb (answerL L s b) R os w.heap.size (answerB L s b) v w' ∧ 0 < (answerB L s b).length := by
  have hmay := fun t ht => may_answer hs t b ht (by have := hb.len; omega)
  have C : Hid (∀ V g, Sd w0 nb L R ((g, .cells (U s.h4).toArray 22 (0, 0)) :: os) V → Calls Tryd.prog 49 #[.pointer (some ⟨nb, 0, none⟩), .agg #[.int .i64 2, .slice none 0 0, .slice none 0 0, vb], .slice (some ⟨g, 0, none⟩) 4 4] V fun e w' => ∃ v, e = .returned v ∧ Sent w0 nb (answerL L s b) R os V.heap.size (answerB L s b) v w' ∧ 0 < (answerB L s b).length) := Lib.hid (fun V g hg =>
    tagged_s g s.h4 hg 2 (.inr rfl) 4 rfl (by omega) (by omega) s.own (by have := hs.o1; simp [Sk.h4, List.getD]; omega) ⟨hs.o1, hs.o2⟩ b _ hb hmay hL)
  have o1 := hs.o1; have o2 := hs.o2; have t1 := hs.t1; have t2 := hs.t2
  obtain ⟨Ab, cb, rfl⟩ := hb.form
  obtain ⟨lb, hlb⟩ : ∃ l, b.length = l := ⟨_, rfl⟩
  rw [hlb] at C ⊢
  obtain ⟨st, own, oth, non, ech⟩ := s
  simp only at o1 o2 t1 t2
  have HA : Hid (Sd w0 nb L R ((w.heap.size + 1, .cells (U (Sk.mk st own oth non ech).h4).toArray 22 (0, 0)) :: os) ((w.alloc (.cells #[.int .i64 st, .int .i64 own, .int .i64 oth, .int .u64 (non : Int), .int .u64 (ech : Int)] 29)).alloc (.cells #[.int .u64 own, .int .u64 oth, .int .u64 (non : Int), .int .u64 (ech : Int)] 22))) := Lib.hid (by
    have := (h.alloc (.cells #[.int .i64 st, .int .i64 own, .int .i64 oth, .int .u64 (non : Int), .int .u64 (ech : Int)] 29)).box #[.int .u64 own, .int .u64 oth, .int .u64 (non : Int), .int .u64 (ech : Int)] 22 (k := w.heap.size + 1) (by simp)
    have e : (U (Sk.mk st own oth non ech).h4).toArray = #[.int .u64 own, .int .u64 oth, .int .u64 (non : Int), .int .u64 (ech : Int)] := by
      simp [U, Sk.h4, Int.max_eq_left (by omega : (0 : Int) ≤ own), Int.max_eq_left (by omega : (0 : Int) ≤ oth)]
    rw [e]
    exact this)
  have HC := Lib.hid (C.out _ _ HA.out)
  have u1 : IntKind.u64.wrap own = own := u64_in (by omega) (by omega)
  have u2 : IntKind.u64.wrap oth = oth := u64_in (by omega) (by omega)
  clear hs C HA h hmay hb hlb
  go_enter Tryd.func35, Tryd.ntmps35
  go_wp2_with fail
  refine HC.out.mono ?_
  rintro e W7 ⟨v, rfl, ⟨A, c, ho, rfl, a1, a2, a3, a4, a5, a6⟩, h2⟩
  have H1 := Lib.hid a1; have H2 := Lib.hid h2; have H3 := Lib.hid a3; have H4 := Lib.hid a4; have H6 := Lib.hid a6
  have H5 : Hid (∀ p ∈ ho, w.heap.size ≤ p.1) := Lib.hid (fun p hp => by have := a5 p hp; simp at this; omega)
  clear h2 a1 a3 a4 a5 a6
  go_wp2
  go_ret
  exact ⟨_, rfl, ⟨_, _, ho, rfl, H1.out, a2, H3.out, H4.out, H5.out, H6.out⟩, H2.out⟩
end
end Go.Proofs.YtdiilgedicfekaaDoor
