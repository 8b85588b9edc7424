/-
  The contract of slices.Delete at sixteen addresses, the first one going. Conditions: the row lies in memory.
-/
import Derived.Test.YtidhdgcmagpkgaaSec
import Derived.Deep.QuietTactic
import Derived.StillTailTactics
import Derived.Deep.RegionLaw
namespace Go.Proofs.Ytidhdgcmagpkgaa
open Go.RowKit
attribute [local go_sem] Oper.semAt_some
set_option linter.unusedVariables false

theorem info38 : (Try.prog.info? 36).map (fun i => (i.zero, i.size, i.bytes)) = some (some (.agg #[.int .u32 0, .int .i64 0]), 2, 16) := by kernel_rfl
theorem info_parts {t : TypeId} {z : Value} {s b : Nat} (h : (Try.prog.info? t).map (fun i => (i.zero, i.size, i.bytes)) = some (some z, s, b)) : ∃ i, Try.prog.info? t = some i ∧ i.zero = some z ∧ i.size = s ∧ i.bytes = b := by
  cases hi : Try.prog.info? t with
  | none => rw [hi] at h; cases h
  | some i =>
    rw [hi] at h
    simp only [Option.map_some, Option.some.injEq, Prod.mk.injEq] at h
    exact ⟨i, rfl, h.1, h.2.1, h.2.2⟩
theorem add_spot (b o k : Nat) : (⟨b, o, none⟩ : Addr).add k = ⟨b, o + k, none⟩ := by unfold Addr.add; split <;> simp_all
/-- an append of which the run is known, as one step of a region that draws its order -/
theorem step_run {W : World} {ops : Array Oper} {o : Oper} {a : Act} {K : Act → World → Prop} {Q : Exit → Act → World → Prop} {E : Prop} (hf : o.guard = none) (s x : Operand) (t : TypeId)
    (ho : o.op = .call { callee := .builtin .append, args := #[s, x], argTypes := #[t, t] }) {v1 v2 v : Value} {W' : World} (hs : a.eval s = v1) (hx : a.eval x = v2)
    (hrun : (Builtin.append_ #[t, t] o.type #[v1, v2]).run Try.prog W = .ok v W') (h : K (a.put o.dst v) W') :
    if Region.wanted o (yielded ops a.tmps) = true then Oper.wp Try.prog o a W K Q else E := by
  rw [if_pos (by simp [Region.wanted, hf])]
  unfold Oper.wp
  simp [execOp, ho, resolve, invoke, builtin, hs, hx, hrun, Result.andThen]
  exact h
/-- an append of which the run is known, at the head of a row of operations -/
theorem wpList_run {w w' : World} {ops : Array Oper} {rest : List Oper} {o : Oper} {a : Act} {Q : Exit → Act → World → Prop} (hgd : o.guard = none) (s x : Operand) (t : TypeId)
    (ho : o.op = .call { callee := .builtin .append, args := #[s, x], argTypes := #[t, t] }) {v1 v2 v : Value} (hs : a.eval s = v1) (hx : a.eval x = v2)
    (hr : ∀ ty, (Builtin.append_ #[t, t] ty #[v1, v2]).run Try.prog w = .ok v w') (h : wpList Try.prog ops Q rest (a.put o.dst v) w') : wpList Try.prog ops Q (o :: rest) a w := by
  refine wpList_plain hgd fun K hK => ?_
  unfold Oper.wp execOp
  simp only [ho, resolve, invoke, builtin, Sem.run_bind, Sem.run_pure, Result.andThen_ok, List.map_toArray, List.map_cons, List.map_nil, hs, hx, hr]
  exact hK _ _ h
/-- fifteen addresses are moved down by one -/
theorem moved {w : World} {g cap : Nat} {cur : Array Value} {xs : List A2} (hg : w.heap[g]? = some (.cells cur 36 (0, 0))) (hl : xs.length = 16) (hcap : 16 ≤ cap) (hsz : cur.size = cap * 2) (ht : cur.toList.take (16 * 2) = cellsA xs) :
    ∃ C, (∀ ty q, (Builtin.append_ #[73, 73] ty #[.slice (some ⟨g, 0, none⟩) 0 cap, .slice (some ⟨g, 2, none⟩) 15 (cap - 1)]).run Try.prog (w.drewN q) = .ok (.slice (some ⟨g, 0, none⟩) 15 cap) ((w.drewN q).setRow g C)) ∧ C.size = cap * 2 ∧ C.toList.take (15 * 2) = cellsA (xs.drop 1) := by
  obtain ⟨i0, hi0, hz0, hz1, hz2⟩ := info_parts info38
  have hl1 : (xs.drop 1).length = 15 := by rw [List.length_drop, hl]
  have hln : (cellsA (xs.drop 1)).length = 15 * 2 := by rw [cellsA_len, hl1]
  have hnews : ∀ (q j : Nat) u, (cellsA (xs.drop 1))[j]? = some u → (w.drewN q).cell? ((⟨g, 2, none⟩ : Addr).add j) = some u := by
    intro q j u hj
    have hj2 := (List.getElem?_eq_some_iff.1 hj).1
    have hx : cellsA xs = cellsA (xs.take 1) ++ cellsA (xs.drop 1) := by rw [← cellsA_append, List.take_append_drop]
    have h1 : (cellsA (xs.take 1)).length = 2 := by rw [cellsA_len, List.length_take]; omega
    rw [add_spot, (cells_of (w := w.drewN q) hg _).1]
    have h2 : (cellsA xs)[2 + j]? = some u := by rw [hx, List.getElem?_append_right (by omega), h1]; simpa using hj
    rw [← ht, List.getElem?_take_of_lt (by omega)] at h2
    simpa using h2
  refine ⟨_, fun ty q => (run_append_room (P := Try.prog) (w.drewN q) 73 ty 36 i0 Try.underlying73 hi0 g 0 cap cur hg ⟨g, 2, none⟩ 15 (cap - 1) (cellsA (xs.drop 1)) (by rw [hz1]; exact hln) (hnews q) (cellsA_one _) (by omega) (by rw [hz1]; omega)).trans rfl, ?_, ?_⟩
  · simp only [hz1, Nat.zero_mul, List.take_zero, List.nil_append, Nat.zero_add, List.size_toArray, List.length_append, List.length_drop, Array.length_toList, hln, hsz]
    omega
  · simp only [hz1, Nat.zero_mul, List.take_zero, List.nil_append, Nat.zero_add]
    rw [← hln, List.take_left]

theorem moved2 (g cap : Nat) (cur : Array Value) (xs : List A2) (w : World) (hg : w.heap[g]? = some (.cells cur 36 (0, 0))) (hl : xs.length = 16) (hcap : 16 ≤ cap) (hm : cap ≤ maxLen) (hsz : cur.size = cap * 2) (ht : cur.toList.take (16 * 2) = cellsA xs) :
    ∃ W1 W2, (∀ ty, (Builtin.append_ #[73, 73] ty #[.slice (some ⟨g, 0, none⟩) 0 cap, .slice (some ⟨g, 2, none⟩) 15 (cap - 1)]).run Try.prog (w.drewN 1) = .ok (.slice (some ⟨g, 0, none⟩) 15 cap) W1) ∧
      (∀ ty, (Builtin.clear_ #[73] ty #[.slice (some ⟨g, 30, none⟩) 1 (cap - 15)]).run Try.prog W1 = .ok (.tuple #[]) W2) ∧ W2.ownsRow 0 36 2 (.slice (some ⟨g, 0, none⟩) 15 cap) 15 (cellsA (xs.drop 1)) ∧ Keeps (fun k => k = g) w W2 := by
  obtain ⟨C, hA, h1, h2⟩ := moved hg hl hcap hsz ht
  have hgC : ∀ q, ((w.drewN q).setRow g C).heap[g]? = some (.cells C 36 (0, 0)) := fun q => setRow_heap (w.drewN q) g cur C 36 (0, 0) hg
  have hK : ∀ q, Keeps (fun k => k = g) w ((w.drewN q).setRow g C) := fun q => ⟨rfl, rfl, rfl, by simp, fun k _ hn => setRow_other (w.drewN q) g k C hn⟩
  have hcl : ∀ ty q, (Builtin.clear_ #[73] ty #[.slice (some ⟨g, 30, none⟩) 1 (cap - 15)]).run Try.prog ((w.drewN q).setRow g C) = .ok (.tuple #[]) (((w.drewN q).setRow g C).setCells g 30 (Builtin.zeroCells #[.int .u32 0, .int .i64 0] 1).toList) :=
    fun ty q => run_clearA _ ty g 30 1 _ (by omega) (fun t ht => by rw [(cells_of (hgC q) _).1, Array.getElem?_eq_getElem (by omega)]; rfl) (fun t ht => (cells_of (hgC q) _).2)
  have HE : (∀ q, (((w.drewN q).setRow g C).setCells g 30 (Builtin.zeroCells #[.int .u32 0, .int .i64 0] 1).toList).ownsRow 0 36 2 (.slice (some ⟨g, 0, none⟩) 15 cap) 15 (cellsA (xs.drop 1)) ∧ Keeps (fun k => k = g) w (((w.drewN q).setRow g C).setCells g 30 (Builtin.zeroCells #[.int .u32 0, .int .i64 0] 1).toList)) := (fun q => by
    obtain ⟨C', c1, c2, c3⟩ := setCells_obj (Builtin.zeroCells #[.int .u32 0, .int .i64 0] 1).toList 30 _ C (hgC q)
    refine ⟨⟨by rw [cellsA_len, List.length_drop, hl], .inr ⟨g, cap, C', rfl, Nat.zero_le _, c1, by omega, hm, by omega, ?_⟩⟩, (hK q).trans (setCells_keeps _ _ _)⟩
    rw [← h2]
    refine List.ext_getElem? fun t => ?_
    by_cases ht : t < 30
    · rw [List.getElem?_take_of_lt (by omega), List.getElem?_take_of_lt (by omega)]
      simpa using c3 t ht
    · rw [List.getElem?_take_eq_none (by omega), List.getElem?_take_eq_none (by omega)])
  exact ⟨_, _, fun ty => hA ty 1, fun ty => hcl ty 1, (HE 1).1, (HE 1).2⟩
set_option maxRecDepth 100000 in
set_option maxHeartbeats 2000000 in
theorem delete1 (g cap : Nat) (cur : Array Value) (xs : List A2) (w : World) (hg : w.heap[g]? = some (.cells cur 36 (0, 0))) (hl : xs.length = 16) (hcap : 16 ≤ cap) (hm : cap ≤ maxLen) (hsz : cur.size = cap * 2) (ht : cur.toList.take (16 * 2) = cellsA xs) :
    Calls Try.prog 62 #[.slice (some ⟨g, 0, none⟩) 16 cap, .int .i64 0, .int .i64 1] w fun e w' => e = .returned (.slice (some ⟨g, 0, none⟩) 15 cap) ∧ w'.ownsRow 0 36 2 (.slice (some ⟨g, 0, none⟩) 15 cap) 15 (cellsA (xs.drop 1)) ∧ Keeps (fun k => k = g) w w' := by
  obtain ⟨W1, W2, hA, hcl1, h1, h2⟩ := moved2 g cap cur xs w hg hl hcap hm hsz ht
  have HA : Hid (∀ ty, (Builtin.append_ #[73, 73] ty #[.slice (some ⟨g, 0, none⟩) 0 cap, .slice (some ⟨g, 2, none⟩) 15 (cap - 1)]).run Try.prog w.drew = .ok (.slice (some ⟨g, 0, none⟩) 15 cap) W1) := Lib.hid hA
  have HE := Lib.hid (And.intro h1 h2)
  clear hg ht hA h1 h2 hl hsz
  unfold maxLen at hm
  have l1 : (16 : Int) ≤ (cap : Int) := by omega
  have l2 : ¬ cap - 1 = 0 := by omega
  have l6 : ¬ cap = 1 := by omega
  have l7 : ¬ cap = 15 := by omega
  have l3 : ¬ cap - 15 = 0 := by omega
  have l4 : (15 : Int) ≤ (cap : Int) := by omega
  have l5 : (1 : Int) ≤ (cap : Int) := by omega
  go_enter Try.func62, Try.ntmps62
  go_wp2
  refine wp_region_still_tail 6 (by kernel_rfl) (by kernel_rfl) ?_
  change wpStill _ _ w.drew (fun a => wpList _ _ _ _ a w.drew) _ _
  generalize w.drew = V at *
  simp only [List.take_succ_cons, List.take_zero, List.drop_succ_cons, List.drop_zero]
  repeat still_step
  refine wpStill_nil ?_
  refine wpList_run rfl (.tmp 22) (.tmp 25) 73 rfl (v1 := .slice (some ⟨g, 0, none⟩) 0 cap) (v2 := .slice (some ⟨g, 2, none⟩) 15 (cap - 1)) rfl rfl HA.out ?_
  go_wp2
  go_ret
  exact ⟨rfl, HE.out⟩
end Go.Proofs.Ytidhdgcmagpkgaa
