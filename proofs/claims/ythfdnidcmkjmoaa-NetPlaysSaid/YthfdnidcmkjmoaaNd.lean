/-
  The contract of slices.Delete at a row of datagrams, one going. Conditions: the row lies in memory; the one that goes is there.
-/
import Derived.Test.YthfdnidcmkjmoaaNc
import Derived.Deep.QuietTactic
import Derived.StillTailTactics
import Derived.Deep.RegionLaw
namespace Go.Proofs.Ythfdnidcmkjmoaa
open Go.RowKit
attribute [local go_sem] Oper.semAt_some
set_option linter.unusedVariables false

theorem zeroCells_len (z : Array Value) (n : Nat) : (Builtin.zeroCells z n).toList.length = n * z.size := by rw [Array.length_toList, size_zeroCells]
theorem zeroCells_one {z : Array Value} {n : Nat} (hz : ∀ v ∈ z.toList, v.oneCell' = true) : ∀ v ∈ (Builtin.zeroCells z n).toList, v.oneCell' = true := by
  intro v hv
  simp only [Builtin.zeroCells, Array.toList_map, List.mem_map, Array.toList_range, List.mem_range] at hv
  obtain ⟨i, hi, rfl⟩ := hv
  rcases Nat.eq_zero_or_pos z.size with h0 | h0
  · rw [h0, Nat.mul_zero] at hi; exact absurd hi (Nat.not_lt_zero _)
  · refine hz _ ?_
    have h1 : i % z.size < z.size := Nat.mod_lt _ h0
    simp [getElem!_pos, h1]
theorem setCells_obj {b : Nat} {t : TypeId} : ∀ (vs : List Value) (o : Nat) (w : World) (C : Array Value), w.heap[b]? = some (.cells C t (0, 0)) →
    ∃ C', (w.setCells b o vs).heap[b]? = some (.cells C' t (0, 0)) ∧ C'.size = C.size ∧ ∀ j, j < o → C'[j]? = C[j]?
  | [], o, w, C, h => ⟨C, h, rfl, fun _ _ => rfl⟩
  | v :: vs, o, w, C, h => by
    obtain ⟨C', h1, h2, h3⟩ := setCells_obj vs (o + 1) (w.setCell ⟨b, o, none⟩ v) (C.setIfInBounds o v) (heap_setCell_same w b o C t v h)
    refine ⟨C', h1, by rw [h2]; simp, fun j hj => ?_⟩
    rw [h3 j (by omega), Array.getElem?_setIfInBounds_ne (by omega)]
theorem setCells_keeps {b : Nat} : ∀ (vs : List Value) (o : Nat) (w : World), Keeps (fun k => k = b) w (w.setCells b o vs)
  | [], _, _ => Keeps.refl _ _
  | v :: vs, o, w => (Keeps.set (S := fun k => k = b) (Keeps.refl _ w) b o v rfl).trans (setCells_keeps vs (o + 1) _)
/-- 'clear(s)', s a slice of datagrams -/
theorem run_clearD (w : World) (ty : TypeId) (b o n c : Nat) (hn : 0 < n) (hc : ∀ j, j < n * 6 → (w.cell? ⟨b, o + j, none⟩).isSome = true) (hf : ∀ j, j < n * 6 → w.frozen? ⟨b, o + j, none⟩ = false) :
    (Builtin.clear_ #[28] ty #[.slice (some ⟨b, o, none⟩) n c]).run Try.prog w = .ok (.tuple #[]) (w.setCells b o (Builtin.zeroCells #[.int .i64 0, .int .u32 0, .int .i64 0, .int .u32 0, .int .i64 0, .slice none 0 0] n).toList) := by
  have hl := zeroCells_len #[.int .i64 0, .int .u32 0, .int .i64 0, .int .u32 0, .int .i64 0, .slice none 0 0] n
  have hst := run_storeCells_cells (P := Try.prog) b o (Builtin.zeroCells #[.int .i64 0, .int .u32 0, .int .i64 0, .int .u32 0, .int .i64 0, .slice none 0 0] n).toList 0 w (by rw [hl]; simpa using hc) (by rw [hl]; simpa using hf)
    (zeroCells_one (by intro v hv; simp at hv; rcases hv with rfl | rfl | rfl | rfl | rfl | rfl <;> rfl))
  simp only [Nat.add_zero] at hst
  have hv : (zeroValue 43).run Try.prog w = .ok (.agg #[.int .i64 0, .int .u32 0, .int .i64 0, .int .u32 0, .int .i64 0, .slice none 0 0]) w := by kernel_rfl
  obtain ⟨m, rfl⟩ : ∃ m, n = m + 1 := ⟨n - 1, by omega⟩
  simp [Builtin.clear_, run_underlying Try.underlying28, hv, Value.cells, hst]
/-- an append of which the run is known, at the head of a row of operations -/
theorem wpList_run {w w' : World} {ops : Array Oper} {rest : List Oper} {o : Oper} {a : Act} {Q : Exit → Act → World → Prop} (hgd : o.guard = none) (s x : Operand) (t : TypeId)
    (ho : o.op = .call { callee := .builtin .append, args := #[s, x], argTypes := #[t, t] }) {v1 v2 v : Value} (hs : a.eval s = v1) (hx : a.eval x = v2)
    (hr : ∀ ty, (Builtin.append_ #[t, t] ty #[v1, v2]).run Try.prog w = .ok v w') (h : wpList Try.prog ops Q rest (a.put o.dst v) w') : wpList Try.prog ops Q (o :: rest) a w := by
  refine wpList_plain hgd fun K hK => ?_
  unfold Oper.wp execOp
  simp only [ho, resolve, invoke, builtin, Sem.run_bind, Sem.run_pure, Result.andThen_ok, List.map_toArray, List.map_cons, List.map_nil, hs, hx, hr]
  exact hK _ _ h

/-- those behind it are moved down by one, and the last place is cleared -/
theorem movedD {w : World} {g cap n1 k : Nat} {cur : Array Value} {L : List Md} (ad : Addr) (hg : w.heap[g]? = some (.cells cur 43 (0, 0))) (hl : L.length = n1 + 1) (hk : k < n1 + 1) (hcap : n1 + 1 ≤ cap) (hm : cap ≤ maxLen) (hsz : cur.size = cap * 6) (ht : cur.toList.take ((n1 + 1) * 6) = cellsD L)
    (had : n1 = k ∨ ad = ⟨g, (k + 1) * 6, none⟩) :
    ∃ W1 W2, (∀ ty, (Builtin.append_ #[28, 28] ty #[.slice (some ⟨g, 0, none⟩) k cap, .slice (some ad) (n1 - k) (cap - (k + 1))]).run Try.prog (w.drewN 1) = .ok (.slice (some ⟨g, 0, none⟩) n1 cap) W1) ∧
      (∀ ty c, (Builtin.clear_ #[28] ty #[.slice (some ⟨g, n1 * 6, none⟩) 1 c]).run Try.prog W1 = .ok (.tuple #[]) W2) ∧ W2.ownsRow 0 43 6 (.slice (some ⟨g, 0, none⟩) n1 cap) n1 (cellsD (L.eraseIdx k)) ∧ Keeps (fun i => i = g) w W2 := by
  obtain ⟨i0, hi0, hz0, hz1, hz2⟩ := info_parts top_info
  have hl1 : (L.drop (k + 1)).length = n1 - k := by rw [List.length_drop, hl]; omega
  have hln : (cellsD (L.drop (k + 1))).length = (n1 - k) * 6 := by rw [cellsD_len, hl1]
  have hle : (L.eraseIdx k).length = n1 := by rw [List.length_eraseIdx]; simp [hl, hk]
  have hnews : ∀ (j : Nat) u, (cellsD (L.drop (k + 1)))[j]? = some u → (w.drewN 1).cell? (ad.add j) = some u := by
    intro j u hj
    have hj2 := (List.getElem?_eq_some_iff.1 hj).1
    rcases had with e | e
    · rw [hln] at hj2; omega
    · subst e
      have hx : cellsD L = cellsD (L.take (k + 1)) ++ cellsD (L.drop (k + 1)) := by rw [← cellsD_append, List.take_append_drop]
      have h1 : (cellsD (L.take (k + 1))).length = (k + 1) * 6 := by rw [cellsD_len, List.length_take]; omega
      have e0 : (⟨g, (k + 1) * 6, none⟩ : Addr).add j = ⟨g, (k + 1) * 6 + j, none⟩ := by unfold Addr.add; split <;> simp_all
      rw [e0, (cells_of (w := w.drewN 1) hg _).1]
      have h2 : (cellsD L)[(k + 1) * 6 + j]? = some u := by rw [hx, List.getElem?_append_right (by omega), h1]; simpa using hj
      rw [← ht, List.getElem?_take_of_lt (by omega)] at h2
      simpa using h2
  obtain ⟨C, hC⟩ : ∃ C, (cur.toList.take (k * i0.size) ++ cellsD (L.drop (k + 1)) ++ cur.toList.drop (k * i0.size + (cellsD (L.drop (k + 1))).length)).toArray = C := ⟨_, rfl⟩
  have hrun : ∀ ty, (Builtin.append_ #[28, 28] ty #[.slice (some ⟨g, 0, none⟩) k cap, .slice (some ad) (n1 - k) (cap - (k + 1))]).run Try.prog (w.drewN 1) = .ok (.slice (some ⟨g, 0, none⟩) n1 cap) ((w.drewN 1).setRow g C) := fun ty => by
    have := run_append_room (P := Try.prog) (w.drewN 1) 28 ty 43 i0 Try.underlying28 hi0 g k cap cur hg ad (n1 - k) (cap - (k + 1)) (cellsD (L.drop (k + 1))) (by rw [hz1]; exact hln) hnews (cellsD_one _) (by omega) (by rw [hz1, hln]; omega)
    rw [hC, show k + (n1 - k) = n1 by omega] at this
    exact this
  have hCs : C.size = cap * 6 := by
    rw [← hC]
    simp only [List.size_toArray, List.length_append, List.length_take, List.length_drop, Array.length_toList, hln, hsz, hz1]
    omega
  have hCt : C.toList.take (n1 * 6) = cellsD (L.eraseIdx k) := by
    rw [List.eraseIdx_eq_take_drop_succ, cellsD_append, ← hC]
    have e1 : (cellsD (L.take k)) = cur.toList.take (k * 6) := by
      have h2 : (cur.toList.take ((n1 + 1) * 6)).take (k * 6) = (cellsD L).take (k * 6) := by rw [ht]
      rw [List.take_take, Nat.min_eq_left (by omega)] at h2
      rw [h2]
      have hx : cellsD L = cellsD (L.take k) ++ cellsD (L.drop k) := by rw [← cellsD_append, List.take_append_drop]
      have h1 : (cellsD (L.take k)).length = k * 6 := by rw [cellsD_len, List.length_take]; omega
      rw [hx, ← h1, List.take_left]
    have e2 : (cur.toList.take (k * i0.size) ++ cellsD (L.drop (k + 1))).length = n1 * 6 := by
      rw [hz1, List.length_append, hln, List.length_take, Array.length_toList]; omega
    rw [List.toList_toArray, ← e2, List.take_left, e1, hz1]
  have hgC : ((w.drewN 1).setRow g C).heap[g]? = some (.cells C 43 (0, 0)) := setRow_heap (w.drewN 1) g cur C 43 (0, 0) hg
  have hK : Keeps (fun i => i = g) w ((w.drewN 1).setRow g C) := ⟨rfl, rfl, rfl, by simp, fun i _ hn => setRow_other (w.drewN 1) g i C hn⟩
  have hcl := fun ty c => run_clearD ((w.drewN 1).setRow g C) ty g (n1 * 6) 1 c (by omega) (fun t ht => by rw [(cells_of hgC _).1, Array.getElem?_eq_getElem (by omega)]; rfl) (fun t ht => (cells_of hgC _).2)
  obtain ⟨C', c1, c2, c3⟩ := setCells_obj (Builtin.zeroCells #[.int .i64 0, .int .u32 0, .int .i64 0, .int .u32 0, .int .i64 0, .slice none 0 0] 1).toList (n1 * 6) _ C hgC
  refine ⟨_, _, hrun, hcl, ⟨by rw [cellsD_len, hle], .inr ⟨g, cap, C', rfl, Nat.zero_le _, c1, by omega, hm, by omega, ?_⟩⟩, hK.trans (setCells_keeps _ _ _)⟩
  rw [← hCt]
  refine List.ext_getElem? fun t => ?_
  by_cases ht : t < n1 * 6
  · rw [List.getElem?_take_of_lt (by omega), List.getElem?_take_of_lt (by omega)]
    simpa using c3 t ht
  · rw [List.getElem?_take_eq_none (by omega), List.getElem?_take_eq_none (by omega)]

set_option maxRecDepth 100000 in
set_option maxHeartbeats 2000000 in
theorem deleteD_in (g cap n1 k : Nat) (cur : Array Value) (L : List Md) (w : World) (hg : w.heap[g]? = some (.cells cur 43 (0, 0))) (hl : L.length = n1 + 1) (hk : k < n1 + 1) (hcap : n1 + 1 ≤ cap) (hm : cap ≤ maxLen) (hsz : cur.size = cap * 6) (ht : cur.toList.take ((n1 + 1) * 6) = cellsD L) (hc1 : ¬ cap = k + 1) :
    Calls Try.prog 29 #[.slice (some ⟨g, 0, none⟩) (n1 + 1) cap, .int .i64 (k : Int), .int .i64 ((k : Int) + 1)] w fun e w' => e = .returned (.slice (some ⟨g, 0, none⟩) n1 cap) ∧ w'.ownsRow 0 43 6 (.slice (some ⟨g, 0, none⟩) n1 cap) n1 (cellsD (L.eraseIdx k)) ∧ Keeps (fun i => i = g) w w' := by
  obtain ⟨W1, W2, hA, hcl1, h1, h2⟩ := movedD (k := k) (⟨g, (k + 1) * 6, none⟩) hg hl hk hcap hm hsz ht (.inr rfl)
  have HA : Hid (∀ ty, (Builtin.append_ #[28, 28] ty #[.slice (some ⟨g, 0, none⟩) k cap, .slice (some ⟨g, (k + 1) * 6, none⟩) (n1 - k) (cap - (k + 1))]).run Try.prog w.drew = .ok (.slice (some ⟨g, 0, none⟩) n1 cap) W1) := Lib.hid hA
  have HE := Lib.hid (And.intro h1 h2)
  clear hg ht hA h1 h2 hl hsz
  unfold maxLen at hm
  have l1 : (k : Int) ≤ (n1 : Int) + 1 := by omega
  have l2 : (k : Int) + 1 ≤ (n1 : Int) + 1 := by omega
  have l3 : (n1 : Int) + 1 ≤ (cap : Int) := by omega
  have l4 : ((k : Int) == (k : Int) + 1) = false := by rw [beq_eq_false_iff_ne]; omega
  have l5 : (k : Int) + 1 ≤ (cap : Int) := by omega
  have l6 : (n1 : Int) ≤ (cap : Int) := by omega
  have l7 : ¬ cap = n1 := by omega
  have l9 : (k : Int) ≤ (cap : Int) := by omega
  have m1 : k ≤ n1 := by omega
  have m2 : (k : Int) ≤ (n1 : Int) := by omega
  have m3 : ((k : Int) + 1).toNat = k + 1 := by omega
  have m4 : (0 : Int) ≤ (k : Int) + 1 := by omega
  have l8 : ¬ cap - (k + 1) = 0 := by omega
  go_enter Try.func29, Try.ntmps29
  go_wp2
  refine wp_region_still_tail 6 (by kernel_rfl) (by kernel_rfl) ?_
  change wpStill _ _ w.drew (fun a => wpList _ _ _ _ a w.drew) _ _
  generalize w.drew = V at *
  simp only [List.take_succ_cons, List.take_zero, List.drop_succ_cons, List.drop_zero]
  repeat still_step
  refine wpStill_nil ?_
  refine wpList_run rfl (.tmp 22) (.tmp 25) 28 rfl (v1 := .slice (some ⟨g, 0, none⟩) k cap) (v2 := .slice (some ⟨g, (k + 1) * 6, none⟩) (n1 - k) (cap - (k + 1))) rfl rfl HA.out ?_
  go_wp2
  go_ret
  exact ⟨rfl, HE.out⟩

set_option maxRecDepth 100000 in
set_option maxHeartbeats 2000000 in
theorem deleteD_end (g n1 : Nat) (cur : Array Value) (L : List Md) (w : World) (hg : w.heap[g]? = some (.cells cur 43 (0, 0))) (hl : L.length = n1 + 1) (hm : n1 + 1 ≤ maxLen) (hsz : cur.size = (n1 + 1) * 6) (ht : cur.toList.take ((n1 + 1) * 6) = cellsD L) :
    Calls Try.prog 29 #[.slice (some ⟨g, 0, none⟩) (n1 + 1) (n1 + 1), .int .i64 (n1 : Int), .int .i64 ((n1 : Int) + 1)] w fun e w' => e = .returned (.slice (some ⟨g, 0, none⟩) n1 (n1 + 1)) ∧ w'.ownsRow 0 43 6 (.slice (some ⟨g, 0, none⟩) n1 (n1 + 1)) n1 (cellsD (L.eraseIdx n1)) ∧ Keeps (fun i => i = g) w w' := by
  obtain ⟨W1, W2, hA, hcl1, h1, h2⟩ := movedD (k := n1) ⟨g, 0, none⟩ hg hl (by omega) (Nat.le_refl _) hm hsz ht (.inl rfl)
  rw [Nat.sub_self, Nat.sub_self] at hA
  have HA : Hid (∀ ty, (Builtin.append_ #[28, 28] ty #[.slice (some ⟨g, 0, none⟩) n1 (n1 + 1), .slice (some ⟨g, 0, none⟩) 0 0]).run Try.prog w.drew = .ok (.slice (some ⟨g, 0, none⟩) n1 (n1 + 1)) W1) := Lib.hid hA
  have HE := Lib.hid (And.intro h1 h2)
  clear hg ht hA h1 h2 hl hsz
  unfold maxLen at hm
  have l1 : (n1 : Int) ≤ (n1 : Int) + 1 := by omega
  have l4 : ((n1 : Int) == (n1 : Int) + 1) = false := by rw [beq_eq_false_iff_ne]; omega
  have m3 : ((n1 : Int) + 1).toNat = n1 + 1 := by omega
  have m4 : (0 : Int) ≤ (n1 : Int) + 1 := by omega
  go_enter Try.func29, Try.ntmps29
  go_wp2
  refine wp_region_still_tail 6 (by kernel_rfl) (by kernel_rfl) ?_
  change wpStill _ _ w.drew (fun a => wpList _ _ _ _ a w.drew) _ _
  generalize w.drew = V at *
  simp only [List.take_succ_cons, List.take_zero, List.drop_succ_cons, List.drop_zero]
  repeat still_step
  refine wpStill_nil ?_
  refine wpList_run rfl (.tmp 22) (.tmp 25) 28 rfl (v1 := .slice (some ⟨g, 0, none⟩) n1 (n1 + 1)) (v2 := .slice (some ⟨g, 0, none⟩) 0 0) rfl rfl HA.out ?_
  go_wp2
  go_ret
  exact ⟨rfl, HE.out⟩

theorem deleteD (g cap n1 k : Nat) (cur : Array Value) (L : List Md) (w : World) (hg : w.heap[g]? = some (.cells cur 43 (0, 0))) (hl : L.length = n1 + 1) (hk : k < n1 + 1) (hcap : n1 + 1 ≤ cap) (hm : cap ≤ maxLen) (hsz : cur.size = cap * 6) (ht : cur.toList.take ((n1 + 1) * 6) = cellsD L) :
    Calls Try.prog 29 #[.slice (some ⟨g, 0, none⟩) (n1 + 1) cap, .int .i64 (k : Int), .int .i64 ((k : Int) + 1)] w fun e w' => e = .returned (.slice (some ⟨g, 0, none⟩) n1 cap) ∧ w'.ownsRow 0 43 6 (.slice (some ⟨g, 0, none⟩) n1 cap) n1 (cellsD (L.eraseIdx k)) ∧ Keeps (fun i => i = g) w w' := by
  by_cases h : cap = k + 1
  · obtain rfl : k = n1 := by omega
    subst h
    exact deleteD_end g k cur L w hg hl hm hsz ht
  · exact deleteD_in g cap n1 k cur L w hg hl hk hcap hm hsz ht h
end Go.Proofs.Ythfdnidcmkjmoaa
