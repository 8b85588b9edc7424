/-
  Contracts of net's New, Count, At and find, and of the document's own At and find. Conditions: the net lies in memory.
-/
import Derived.Test.YthfdnidcmkjmoaaNx
import Derived.Deep.LoopGhost
namespace Go.Proofs.Ythfdnidcmkjmoaa
open Go.RowKit
attribute [local go_sem] Oper.semAt_some
set_option linter.unusedVariables false

theorem ret_i {a b : Int} (h : a = b) : Ending.returned (.int .i64 a) = .returned (.int .i64 b) := by rw [h]
theorem new_n (w : World) : Calls Try.prog 9 #[] w fun e w' => e = .returned (.pointer (some ⟨w.heap.size, 0, none⟩)) ∧ Na w' 59 w.heap.size 0 (.slice none 0 0) [] ∧ Below w.heap.size w w' := by
  go_enter Try.func9, Try.ntmps9
  go_wp2
  go_ret
  exact ⟨rfl, ⟨.inl rfl, World.alloc_heap_new w _, World.ownsRow_nil _ _ _ _, fun m hm => by simp at hm⟩, (Below.refl _ w).alloc (Nat.le_refl _) _⟩
section
variable {w : World} {T nb : Nat} {last : Int} {kv : Value} {L : List Md}
theorem count_n (h : Na w T nb last kv L) : Calls Try.prog 20 #[.pointer (some ⟨nb, 0, none⟩)] w fun e w' => e = .returned (.int .i64 (L.length : Int)) ∧ w' = w := by
  obtain ⟨A, c, rfl, -⟩ := h.form
  obtain ⟨c0, c1, -, hl⟩ := h.cells
  clear h
  go_enter Try.func20, Try.ntmps20
  go_wp2
  go_ret
  exact ⟨rfl, rfl⟩
theorem findN_map (h1 : ∀ j, j < L.length → ∀ y, L[j]? = some y → ¬ y.d.no = last) : findN (L.map Md.d) last = none := findN_miss (fun j hj y hy => by
  rw [List.getElem?_map] at hy
  obtain ⟨m, hm, rfl⟩ := Option.map_eq_some_iff.1 hy
  exact h1 j (by simpa using hj) m hm)
theorem findN_map_hit {k : Nat} {m : Md} {no : Int} (h : L[k]? = some m) (hx : m.d.no = no) (hb : ∀ j, j < k → ∀ y, L[j]? = some y → ¬ y.d.no = no) : findN (L.map Md.d) no = some k :=
  findN_hit (d := m.d) (by rw [List.getElem?_map, h]; rfl) hx (fun j hj y hy => by
    rw [List.getElem?_map] at hy
    obtain ⟨m, hm, rfl⟩ := Option.map_eq_some_iff.1 hy
    exact hb j hj m hm)

set_option maxHeartbeats 1000000 in
theorem find1_n (cb : Nat) (no x : Int) (f t : A2) (v : Value) (W : World) (hc : W.cell? ⟨cb, 0, none⟩ = some (.int .i64 no)) :
    Calls Try.prog 34 #[.agg (sentC x f t v), .pointer (some ⟨cb, 0, none⟩)] W fun e w' => e = .returned (.bool (decide (x = no))) ∧ Below W.heap.size W w' := by
  have hlt := World.block_lt_of_cell? W _ hc
  dsimp only at hlt
  unfold sentC
  generalize f.1 = f1 at *; generalize f.2 = f2 at *; generalize t.1 = t1 at *; generalize t.2 = t2 at *
  have hb : (x == no) = decide (x = no) := by rw [Bool.eq_iff_iff]; simp
  go_enter Try.func34, Try.ntmps34
  go_wp2
  go_ret
  exact ⟨by simp, (Below.refl _ _).alloc (Nat.le_refl _) _⟩

set_option maxHeartbeats 2000000 in
theorem index_n (h : Na w T nb last kv L) (cb : Nat) (no : Int) (hc : w.cell? ⟨cb, 0, none⟩ = some (.int .i64 no)) :
    Calls Try.prog 33 #[kv, .func (.func 34) #[] #[.pointer (some ⟨cb, 0, none⟩)]] w fun e w' => e = .returned (.int .i64 (findI (L.map Md.d) no)) ∧ Below w.heap.size w w' := by
  obtain ⟨A, c, rfl, hlc, hcm, -, hat⟩ := h.form
  have HF := Lib.hid (fun (x : Int) (f t : A2) (v : Value) (W : World) (hb : Below w.heap.size w W) => find1_n cb no x f t v W ((hb.cell (p := ⟨cb, 0, none⟩) (World.block_lt_of_cell? w _ hc)).trans hc))
  have HC := Lib.hid hat
  clear h hat hc
  unfold maxLen at hcm
  go_enter Try.func33, Try.ntmps33
  go_wp2
  go_loopg [5, 8] L.length (fun gg _ s8 wr => ∃ kk : Nat, kk ≤ L.length ∧ L.length - kk ≤ gg ∧ s8 = .int .i64 kk ∧ Hid (Below w.heap.size w wr) ∧ Hid (∀ j, j < kk → ∀ y, L[j]? = some y → ¬ y.d.no = no))
  case atStart => exact ⟨0, Nat.zero_le _, by omega, rfl, Lib.hid (Below.refl _ _), Lib.hid (fun j hj => absurd hj (Nat.not_lt_zero _))⟩
  case round =>
    obtain ⟨kk, hkk, hg, rfl, HB, A'⟩ := hrel
    by_cases hlt : kk < L.length
    · have hltz : (kk : Int) < (L.length : Int) := by omega
      obtain ⟨m, hpk⟩ : ∃ m, L[kk]? = some m := ⟨_, List.getElem?_eq_getElem hlt⟩
      obtain ⟨g, rfl, gl, -, k0, k1, k2, k3, k4, k5⟩ := HC.out kk m hpk
      have d0 := (HB.out.cell (p := ⟨g, kk * 6, none⟩) gl).trans k0
      have d1 := (HB.out.cell (p := ⟨g, kk * 6 + 1, none⟩) gl).trans k1
      have d2 := (HB.out.cell (p := ⟨g, kk * 6 + 2, none⟩) gl).trans k2
      have d3 := (HB.out.cell (p := ⟨g, kk * 6 + 3, none⟩) gl).trans k3
      have d4 := (HB.out.cell (p := ⟨g, kk * 6 + 4, none⟩) gl).trans k4
      have d5 := (HB.out.cell (p := ⟨g, kk * 6 + 5, none⟩) gl).trans k5
      have hcall := HF.out m.d.no m.d.f m.d.t m.v wr HB.out
      have HPK := Lib.hid hpk
      clear hpk k0 k1 k2 k3 k4 k5
      unfold sentC at hcall
      unfold Md.v at *
      by_cases hq : m.d.no = no
      · rw [decide_eq_true hq] at hcall
        have HR : Hid (findI (L.map Md.d) no = (kk : Int)) := Lib.hid (by unfold findI; rw [findN_map_hit HPK.out hq A'.out])
        clear hq
        go_wp2_with (go_at_call 34; refine hcall.mono ?_; rintro e w' ⟨rfl, hb⟩; have HB2 := Lib.hid hb; clear hb)
        go_ret
        exact ⟨ret_i HR.out.symm, HB.out.trans (HB2.out.mono HB.out.size)⟩
      · rw [decide_eq_false hq] at hcall
        have HQ := Lib.hid hq; clear hq
        go_wp2_with (go_at_call 34; refine hcall.mono ?_; rintro e w' ⟨rfl, hb⟩; have HB2 := Lib.hid hb; clear hb)
        go_roundg (L.length - (kk + 1))
        case measure => omega
        case rel =>
          refine ⟨kk + 1, by omega, by omega, by go_num, Lib.hid (HB.out.trans (HB2.out.mono HB.out.size)), Lib.hid (fun j hj y hy => ?_)⟩
          by_cases e : j = kk
          · subst e
            rw [HPK.out] at hy; cases hy; exact HQ.out
          · exact A'.out j (by omega) y hy
    · have hltz : ¬ (kk : Int) < (L.length : Int) := by omega
      obtain rfl : kk = L.length := by omega
      have HR : Hid (findI (L.map Md.d) no = -1) := Lib.hid (by unfold findI; rw [findN_map A'.out])
      go_wp2
      go_ret
      exact ⟨ret_i HR.out.symm, HB.out⟩

set_option maxHeartbeats 1000000 in
theorem find_n (h : Na w T nb last kv L) (no : Int) : Calls Try.prog 27 #[.pointer (some ⟨nb, 0, none⟩), .int .i64 no] w fun e w' => e = .returned (.int .i64 (findI (L.map Md.d) no)) ∧ Below w.heap.size w w' := by
  have hb0 : Below w.heap.size w (w.alloc (.cells #[.int .i64 no] 3)) := (Below.refl _ w).alloc (Nat.le_refl _) _
  have HI := Lib.hid (index_n (h.below hb0) w.heap.size no (by go_simp))
  obtain ⟨A, c, rfl, -⟩ := h.form
  obtain ⟨c0, c1, -, hl⟩ := h.cells
  have HB0 := Lib.hid hb0
  clear h hb0
  go_enter Try.func27, Try.ntmps27
  go_wp2_with fail
  refine HI.out.mono ?_
  rintro e w1 ⟨rfl, hb1⟩
  have HB1 := Lib.hid (HB0.out.trans (hb1.mono HB0.out.size))
  clear hb1
  go_wp2
  go_ret
  exact ⟨rfl, HB1.out⟩

set_option maxHeartbeats 2000000 in
theorem rfind_n (h : Na w T nb last kv L) (no : Int) : Calls Try.prog 28 #[.pointer (some ⟨nb, 0, none⟩), .int .i64 no] w fun e w' => e = .returned (.int .i64 (findI (L.map Md.d) no)) ∧ w' = w := by
  obtain ⟨A, c, rfl, hlc, hcm, -, hat⟩ := h.form
  obtain ⟨c0, c1, -, hl⟩ := h.cells
  have HC := Lib.hid hat
  clear h hat
  unfold maxLen at hcm
  go_enter Try.func28, Try.ntmps28
  go_wp2
  go_loopw [5] (fun i wr => ∃ kk : Nat, kk ≤ L.length ∧ i = .int .i64 kk ∧ wr = w ∧ Hid (∀ j, j < kk → ∀ y, L[j]? = some y → ¬ y.d.no = no)) (fun i _ => L.length - (intOf i).toNat)
  case atStart => exact ⟨0, Nat.zero_le _, rfl, rfl, Lib.hid (fun j hj => absurd hj (Nat.not_lt_zero _))⟩
  case round =>
    obtain ⟨kk, hkk, rfl, rfl, A'⟩ := hrel
    by_cases hlt : kk < L.length
    · have hltz : (kk : Int) < (L.length : Int) := by omega
      obtain ⟨m, hpk⟩ : ∃ m, L[kk]? = some m := ⟨_, List.getElem?_eq_getElem hlt⟩
      obtain ⟨g, rfl, gl, -, d0, -⟩ := HC.out kk m hpk
      have HPK := Lib.hid hpk
      clear hpk
      obtain ⟨x, hx⟩ : ∃ x, m.d.no = x := ⟨_, rfl⟩
      rw [hx] at d0
      have HX := Lib.hid hx; clear hx
      by_cases hq : x = no
      · have t1 : (x == no) = true := by simpa using hq
        have HR : Hid (findI (L.map Md.d) no = (kk : Int)) := Lib.hid (by unfold findI; rw [findN_map_hit HPK.out (HX.out.trans hq) A'.out])
        clear hq
        go_wp2
        go_ret
        exact ⟨ret_i HR.out.symm, (by first | rfl | trivial)⟩
      · have t1 : (x == no) = false := by simpa using hq
        have HQ := Lib.hid hq; clear hq
        go_wp2
        go_roundw
        case rel =>
          refine ⟨kk + 1, by omega, by go_num, (by first | trivial | rfl), Lib.hid (fun j hj y hy => ?_)⟩
          by_cases e : j = kk
          · subst e
            rw [HPK.out] at hy; cases hy; rw [HX.out]; exact HQ.out
          · exact A'.out j (by omega) y hy
        case measure => simp [intOf]; omega
    · have hltz : ¬ (kk : Int) < (L.length : Int) := by omega
      obtain rfl : kk = L.length := by omega
      have HR : Hid (findI (L.map Md.d) no = -1) := Lib.hid (by unfold findI; rw [findN_map A'.out])
      go_wp2
      go_ret
      exact ⟨ret_i HR.out.symm, (by first | rfl | trivial)⟩
end
end Go.Proofs.Ythfdnidcmkjmoaa
