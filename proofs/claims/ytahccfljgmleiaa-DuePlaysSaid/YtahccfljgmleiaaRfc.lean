/-
  Appends of timers as steps of a region that draws its order; the contract of the document's Drop. Conditions: as each lemma states.
-/
import Derived.Test.YtahccfljgmleiaaRfb
namespace Go.Proofs.Ytahccfljgmleiaa
open Go.RowKit Go.Shelf Go.Maps
attribute [local go_sem] Oper.semAt_some
set_option linter.unusedVariables false

theorem info40 : (Try.prog.info? 40).map (fun i => (i.zero, i.size, i.bytes)) = some (some (.agg #[.string ⟨#[]⟩, .int .i64 0]), 2, 24) := by kernel_rfl
/-- a row of the call's own, at g, with the timers M -/
structure Own40 (N : Nat) (W : World) (g c : Nat) (M : List En) : Prop where
  own : W.ownsRow N 40 2 (.slice (some ⟨g, 0, none⟩) M.length c) M.length (cellsL M)
theorem Own40.parts {N : Nat} {W : World} {g c : Nat} {M : List En} (h : Own40 N W g c M) : N ≤ g ∧ g < W.heap.size ∧ M.length ≤ c ∧ c ≤ maxLen ∧ Row40 W (some ⟨g, 0, none⟩) M c := by
  rcases h.own.2 with ⟨e, _⟩ | ⟨g', cap, cur, e, h1, h2, h3, h4, h5, h6⟩
  · cases e
  · cases e
    refine ⟨h1, (Array.getElem?_eq_some_iff.1 h2).1, h3, h4, .inr ⟨_, _, cur, rfl, h2, fun j y hj => ?_⟩⟩
    have hl := (List.getElem?_eq_some_iff.1 hj).1
    rw [cellsL_len] at hl
    rw [← h6, List.getElem?_take_of_lt hl] at hj
    rw [Nat.zero_add]; simpa using hj
theorem Own40.lit {N : Nat} (W : World) (hN : N ≤ W.heap.size) : Own40 N (W.alloc (.cells #[] 40)) W.heap.size 0 [] :=
  ⟨World.ownsRow_lit W #[] 0 hN (Nat.zero_le _) rfl⟩
theorem Own40.kept {N : Nat} {W W' : World} {g c : Nat} {M : List En} (h : Own40 N W g c M) (hg : W'.heap[g]? = W.heap[g]?) : Own40 N W' g c M := by
  refine ⟨h.own.1, ?_⟩
  rcases h.own.2 with e | ⟨g', cap, cur, e, h1, h2, h3⟩
  · exact .inl e
  · cases e
    exact .inr ⟨_, _, cur, rfl, h1, hg.trans h2, h3⟩
theorem Own40.alloc {N : Nat} {W : World} {g c : Nat} {M : List En} (h : Own40 N W g c M) (o : Obj) : Own40 N (W.alloc o) g c M := h.kept (Below.heap_alloc W o g h.parts.2.1)
theorem Row40.news {W : World} {a : Addr} {c : Nat} {M : List En} (h : Row40 W (some a) M c) : ∀ j u, (cellsL M)[j]? = some u → W.cell? (a.add j) = some u := by
  intro j u hj
  rcases h with ⟨e, _⟩ | ⟨b, off, C, e, h1, h2⟩
  · cases e
  · cases e
    rw [show (⟨b, off, none⟩ : Addr).add j = ⟨b, off + j, none⟩ by unfold Addr.add; split <;> simp_all, (cells_of h1 _).1]
    exact h2 j u hj
theorem Row40.take {W : World} {A : Option Addr} {c : Nat} {M : List En} (h : Row40 W A M c) (k : Nat) : Row40 W A (M.take k) c := by
  rcases h with ⟨h1, rfl, h3⟩ | ⟨b, off, C, rfl, h1, h2⟩
  · exact .inl ⟨h1, by simp, h3⟩
  · exact .inr ⟨b, off, C, rfl, h1, fun j y hj => h2 j y (cellsL_take M k j y hj)⟩
theorem Row40.drop {W : World} {b off c : Nat} {M : List En} (h : Row40 W (some ⟨b, off, none⟩) M c) (k c' : Nat) : Row40 W (some ⟨b, off + k * 2, none⟩) (M.drop k) c' := by
  rcases h with ⟨e, _⟩ | ⟨b', off', C, e, h1, h2⟩
  · cases e
  · cases e
    refine .inr ⟨_, _, C, rfl, h1, fun j y hj => ?_⟩
    rw [cellsL_drop] at hj
    rw [Nat.add_assoc]; exact h2 _ _ hj

/-- 'append(l, m...)' of timers onto a row of the call's own, as one step of a region that draws its order -/
theorem step_app {W : World} {ops : Array Oper} {o : Oper} {a : Act} {K : Act → World → Prop} {Q : Exit → Act → World → Prop} {E : Prop} (hf : o.guard = none) (s x : Operand)
    (ho : o.op = .call { callee := .builtin .append, args := #[s, x], argTypes := #[28, 28] }) {N g c0 n : Nat} {M : List En} (hs : a.eval s = .slice (some ⟨g, 0, none⟩) n c0) (hO : Own40 N W g c0 M) (hn : M.length = n)
    {A : Option Addr} {m c : Nat} {M2 : List En} (hx : a.eval x = .slice A m c) (hR : Row40 W A M2 c) (hm : M2.length = m) (hb : n + m ≤ 1000) (hN : N ≤ W.heap.size)
    (h : ∀ g' c' W', Own40 N W' g' c' (M ++ M2) → W.grownBy W' (some g) → (g' = g ∨ g' = W.heap.size) → K (a.put o.dst (.slice (some ⟨g', 0, none⟩) (n + m) c')) W') :
    if Region.wanted o (yielded ops a.tmps) = true then Oper.wp Try.prog o a W K Q else E := by
  subst hn; subst hm
  obtain ⟨i0, hi0, hz0, hz1, hz2⟩ := info_parts info40
  rw [if_pos (by simp [Region.wanted, hf])]
  cases A with
  | none =>
    rcases hR with ⟨_, rfl, rfl⟩ | ⟨b, off, C, e, _⟩
    · have hrun := run_append_owned_none (P := Try.prog) (w := W) N 28 o.type 40 i0 2 Try.underlying28 hi0 _ _ _ hO.own
      have hK := h g c0 W (by rw [List.append_nil]; exact hO) (World.grownBy.refl _ _) (.inl rfl)
      unfold Oper.wp
      simp [execOp, ho, resolve, invoke, builtin, hs, hx, hrun, Result.andThen]
      have hK2 : K (a.put o.dst (.slice (some ⟨g, 0, none⟩) M.length c0)) W := by simpa using hK
      exact hK2
    · cases e
  | some ad =>
    obtain ⟨v', W', hrun, r1, r2, r3, r4⟩ := run_append_own_at (P := Try.prog) (w := W) N 28 o.type 40 i0 (.agg #[.string ⟨#[]⟩, .int .i64 0]) 2 24 Try.underlying28 hi0 hz0 hz1 hz2 rfl (by decide) _ M.length (cellsL M) hO.own ad M2.length c (cellsL M2) (by rw [cellsL_len]) hR.news (cellsL_one M2)
      (by unfold maxLen; omega) (by omega) hN
    obtain ⟨g', c', rfl⟩ : ∃ g' c', v' = .slice (some ⟨g', 0, none⟩) (M.length + M2.length) c' := by
      rcases r1.2 with ⟨e, _⟩ | ⟨g', cap, cur, e, _⟩
      · have := (r3.1 e).1; cases this
      · exact ⟨g', cap, e⟩
    have hK := h g' c' W' ⟨by rw [cellsL_append, List.length_append]; exact r1⟩ r2 (by
      rcases r4 with e | e
      · left; simpa [Value.ownBlock] using e
      · right; simpa [Value.ownBlock] using e)
    unfold Oper.wp
    simp [execOp, ho, resolve, invoke, builtin, hs, hx, hrun, Result.andThen]
    exact hK
theorem drop_at {L : List En} (hT : (L.map (·.1)).Nodup) {k : Nat} {x : Ky} {t : Int} (h : L[k]? = some (x, t)) : dropL L x = L.take k ++ L.drop (k + 1) := by
  induction L generalizing k with
  | nil => simp at h
  | cons e L ih =>
    simp only [List.map_cons, List.nodup_cons, List.mem_map, not_exists, not_and] at hT
    cases k with
    | zero =>
      simp only [List.getElem?_cons_zero, Option.some.injEq] at h
      subst h
      unfold dropL
      rw [List.filter_cons_of_neg (by simp), List.filter_eq_self.2 (fun f hf => by simpa using hT.1 f hf)]
      simp
    | succ k =>
      simp only [List.getElem?_cons_succ] at h
      have hm := List.mem_of_getElem? h
      have hne : ¬ e.1 = x := fun e2 => hT.1 _ hm e2.symm
      unfold dropL
      rw [List.filter_cons_of_pos (by simpa using hne)]
      show e :: dropL L x = _
      rw [ih hT.2 h]; rfl

/-- the document's table is turned alone -/
def Rturn (w : World) (rb : Nat) (L' : List En) (v : Value) : Ending → World → Prop := fun e w' => e = .returned v ∧ Rf w' rb L' ∧ Keeps (· = rb) w w'

/-- what an own row leaves, laid into the table: w the world at the call, W the one behind the last append -/
theorem rput_end {w W : World} {rb g c n : Nat} {u : Value} {M : List En} (hB : Boxed w rb 30 u) (hb : Below w.heap.size w W) (hO : Own40 w.heap.size W g c M) (hn : M.length = n) {M' : List En} (hM : M = M') :
    Rf (W.setCell ⟨rb, 0, none⟩ (.slice (some ⟨g, 0, none⟩) n c)) rb M' ∧ Keeps (· = rb) w (W.setCell ⟨rb, 0, none⟩ (.slice (some ⟨g, 0, none⟩) n c)) := by
  subst hn; subst hM
  obtain ⟨h1, h2, h3, h4, h5⟩ := hO.parts
  obtain ⟨k1, k2⟩ := Rf.put (bx_after hB hb hB.lt) h5 h3 h4
  exact ⟨k1, (Keeps.ofBelow hb (fun k e1 e2 => by omega)).trans k2⟩
theorem below_app {w W W' : World} {N g : Nat} (h : Below N w W) (hg : W.grownBy W' (some g)) (hn : N ≤ g) (hs : N ≤ W.heap.size) : Below N w W' := h.trans (grown_below hg hs (fun r e => by cases e; exact hn))

set_option maxRecDepth 100000 in
set_option maxHeartbeats 2000000 in
theorem rdrop_yes (rb k : Nat) (L : List En) (x : Ky) (t : Int) (w : World) (h : Rf w rb L) (hT : Tbl L) (hk : L[k]? = some (x, t)) :
    Calls Try.prog 14 #[.pointer (some ⟨rb, 0, none⟩), .string (str x)] w (Rturn w rb (dropL L x) (.bool true)) := by
  have F := Lib.hid (find_any rb L x w h)
  obtain ⟨A, c, hB, hlc, hcm, hR⟩ := h.box
  obtain ⟨b, off, rfl, _, _⟩ := hR.at hk
  have hkl := (List.getElem?_eq_some_iff.1 hk).1
  have hfew := hT.few
  have HK := Lib.hid hk; have HR := Lib.hid hR; have HB := Lib.hid hB; have HT := Lib.hid hT
  clear h hR
  have c0 := hB.cell
  unfold maxLen at hcm
  clear hB hT hk
  obtain ⟨n, hn⟩ : ∃ n, n = L.length := ⟨_, rfl⟩
  have HN := Lib.hid hn
  rw [← hn] at c0 hlc hkl hfew
  clear hn
  go_enter Try.func14, Try.ntmps14
  go_wp2_with fail
  refine F.out.mono ?_
  rintro e w' ⟨⟨v, rfl, hF⟩, rfl⟩
  obtain rfl : v = (k : Int) := by
    have HF := hF
    rcases HF with ⟨h1, _⟩ | ⟨j, u, rfl, hj⟩
    · have := inL_iff.2 ⟨t, List.mem_of_getElem? HK.out⟩
      rw [h1] at this; cases this
    · have hnd := HT.out.nodup
      have e1 : (L.map (·.1))[j]? = some x := by rw [List.getElem?_map, hj]; rfl
      have e2 : (L.map (·.1))[k]? = some x := by rw [List.getElem?_map, HK.out]; rfl
      have := (List.getElem?_inj (by simpa using (List.getElem?_eq_some_iff.1 hj).1) hnd).1 (e1.trans e2.symm)
      rw [this]
  clear hF
  have l1 : (k : Int) + 1 ≤ (n : Int) := by omega
  have l2 : IntKind.i64.wrap ((k : Int) + 1) = (k : Int) + 1 := by
    simp [IntKind.wrap, IntKind.signed, IntKind.bits] <;> omega
  have hrb := HB.out.lt
  have hB0 : Below w.heap.size w ((w.drewN 1).alloc (.cells #[] 40)) := (below_drewN' (Below.refl _ w) 1).alloc (Nat.le_refl _) _
  have HC : Hid (∀ W, Below w.heap.size w W → W.cell? ⟨rb, 0, none⟩ = some (.slice (some ⟨b, off, none⟩) n c) ∧ W.frozen? ⟨rb, 0, none⟩ = false) := Lib.hid (fun W hW => by
    have h1 := bx_after HB.out hW hrb
    rw [← HN.out] at h1
    exact ⟨h1.cell, h1.frozen⟩)
  have dA := (HC.out _ hB0).1
  have HR1 : Hid (∀ W, Below w.heap.size w W → Row40 W (some ⟨b, off, none⟩) (L.take k) c) := Lib.hid (fun W hW => (HR.out.take k).kept (.below hW))
  have HL1 : Hid ((L.take k).length = k) := Lib.hid (by rw [List.length_take]; have := HN.out; omega)
  have HL2 : Hid ((L.drop (k + 1)).length = n - (k + 1)) := Lib.hid (by rw [List.length_drop, HN.out])
  have HB0 := Lib.hid hB0
  have HSH : Hid (∀ (W W' : World) (g g' c' : Nat), Below w.heap.size w W → w.heap.size ≤ g → W.grownBy W' (some g) → Below w.heap.size w W') := Lib.hid (fun W W' g g' c' h1 h2 h3 => below_app h1 h3 h2 h1.size)
  clear hB0
  have HL3 : Hid (([] ++ L.take k ++ L.drop (k + 1)).length = k + (n - (k + 1))) := Lib.hid (by rw [List.nil_append, List.length_append, HL1.out, HL2.out])
  have HD : Hid ([] ++ L.take k ++ L.drop (k + 1) = dropL L x) := Lib.hid (by rw [drop_at HT.out.nodup HK.out, List.nil_append])
  by_cases hck : c = k + 1
  · have l3 : (k : Int) ≤ (c : Int) := by omega
    have l4 : k ≤ c := by omega
    have l5 : ¬ c = 0 := by omega
    have l6 : (0 : Int) ≤ (k : Int) := by omega
    have l8 : (0 : Int) ≤ (k : Int) + 1 := by omega
    have l7 : (n : Int) ≤ (c : Int) := by omega
    have hcz : c - (k + 1) = 0 := by omega
    have hnz : n - (k + 1) = 0 := by omega
    have hKN := Lib.hid (show n = k + 1 by omega)
    have hce : (c = k + 1) = True := eq_true hck
    clear hck
    have HR2 : Hid (∀ W, Below w.heap.size w W → Row40 W (some ⟨b, off, none⟩) (L.drop (k + 1)) 0) := Lib.hid (fun W hW => by rw [List.drop_of_length_le (by have := HN.out; have := hKN.out; omega)]; exact (HR.out.kept (.below hW)).nil 0)
    have HL4 : Hid ((L.drop (k + 1)).length = 0) := Lib.hid (by have := HL2.out; omega)
    have HL5 : Hid (([] ++ L.take k ++ L.drop (k + 1)).length = k) := Lib.hid (by have := HL3.out; omega)
    go_wp2
    go_region_law (first
      | (refine step_app rfl (.tmp 12) (.tmp 18) rfl (N := w.heap.size) (g := w.heap.size) (c0 := 0) (n := 0) (M := []) rfl (Own40.lit (w.drewN 1) (Nat.le_refl _)) rfl (A := some ⟨b, off, none⟩) (m := k) (c := c) (M2 := L.take k) rfl (HR1.out _ HB0.out) HL1.out (by omega) HB0.out.size ?_; intro g1 c1 w2 hO2 hg2 hl2; have hb2 := HSH.out _ _ _ 0 0 HB0.out (Nat.le_refl _) hg2; have c2 := (HC.out _ hb2).1; have f2 := (HC.out _ hb2).2; have HO2 := Lib.hid hO2; have HB2 := Lib.hid hb2; clear hO2 hb2 hg2 hl2)
      | (refine step_app rfl (.tmp 19) (.tmp 26) rfl (N := w.heap.size) (g := g1) (c0 := c1) (n := k) (M := [] ++ L.take k) rfl HO2.out HL1.out (A := some ⟨b, off, none⟩) (m := 0) (c := 0) (M2 := L.drop (k + 1)) rfl (HR2.out _ HB2.out) HL4.out (by omega) HB2.out.size ?_; intro g3 c3 w3 hO3 hg3 hl3; have hb3 := HSH.out _ _ _ 0 0 HB2.out HO2.out.parts.1 hg3; have c4 := (HC.out _ hb3).1; have f4 := (HC.out _ hb3).2; have HO3 := Lib.hid hO3; have HB3 := Lib.hid hb3; clear hO3 hb3 hg3 hl3))
    all_goals
      have HEND := Lib.hid (rput_end HB.out HB3.out HO3.out HL5.out HD.out)
      clear HO3 HB3 c4 f4
      go_wp2
      go_ret
      exact ⟨rfl, HEND.out⟩
  · have l3 : (k : Int) ≤ (c : Int) := by omega
    have l4 : k ≤ c := by omega
    have l5 : ¬ c = 0 := by omega
    have l6 : (0 : Int) ≤ (k : Int) := by omega
    have l8 : (0 : Int) ≤ (k : Int) + 1 := by omega
    have l7 : (n : Int) ≤ (c : Int) := by omega
    have hck2 : ¬ c - (k + 1) = 0 := by omega
    have HR2 : Hid (∀ W, Below w.heap.size w W → Row40 W (some ⟨b, off + (k + 1) * 2, none⟩) (L.drop (k + 1)) (c - (k + 1))) := Lib.hid (fun W hW => (HR.out.kept (.below hW)).drop (k + 1) (c - (k + 1)))
    go_wp2
    go_region_law (first
      | (refine step_app rfl (.tmp 12) (.tmp 18) rfl (N := w.heap.size) (g := w.heap.size) (c0 := 0) (n := 0) (M := []) rfl (Own40.lit (w.drewN 1) (Nat.le_refl _)) rfl (A := some ⟨b, off, none⟩) (m := k) (c := c) (M2 := L.take k) rfl (HR1.out _ HB0.out) HL1.out (by omega) HB0.out.size ?_; intro g1 c1 w2 hO2 hg2 hl2; have hb2 := HSH.out _ _ _ 0 0 HB0.out (Nat.le_refl _) hg2; have c2 := (HC.out _ hb2).1; have f2 := (HC.out _ hb2).2; have HO2 := Lib.hid hO2; have HB2 := Lib.hid hb2; clear hO2 hb2 hg2 hl2)
      | (refine step_app rfl (.tmp 19) (.tmp 26) rfl (N := w.heap.size) (g := g1) (c0 := c1) (n := k) (M := [] ++ L.take k) rfl HO2.out HL1.out (A := some ⟨b, off + (k + 1) * 2, none⟩) (m := n - (k + 1)) (c := c - (k + 1)) (M2 := L.drop (k + 1)) rfl (HR2.out _ HB2.out) HL2.out (by omega) HB2.out.size ?_; intro g3 c3 w3 hO3 hg3 hl3; have hb3 := HSH.out _ _ _ 0 0 HB2.out HO2.out.parts.1 hg3; have c4 := (HC.out _ hb3).1; have f4 := (HC.out _ hb3).2; have HO3 := Lib.hid hO3; have HB3 := Lib.hid hb3; clear hO3 hb3 hg3 hl3))
    all_goals
      have HEND := Lib.hid (rput_end HB.out HB3.out HO3.out HL3.out HD.out)
      clear HO3 HB3 c4 f4
      go_wp2
      go_ret
      exact ⟨rfl, HEND.out⟩
set_option maxHeartbeats 1000000 in
theorem rdrop_any (rb : Nat) (L : List En) (x : Ky) (w : World) (h : Rf w rb L) (hT : Tbl L) :
    Calls Try.prog 14 #[.pointer (some ⟨rb, 0, none⟩), .string (str x)] w (Rturn w rb (dropL L x) (.bool (inL L x))) := by
  cases hi : inL L x with
  | true =>
    obtain ⟨t, ht⟩ := inL_iff.1 hi
    obtain ⟨k, hk, e⟩ := List.getElem_of_mem ht
    exact rdrop_yes rb k L x t w h hT (by rw [List.getElem?_eq_getElem hk, e])
  | false =>
    have F := Lib.hid (find_any rb L x w h)
    have H := Lib.hid h
    have HI := Lib.hid hi
    clear h hi
    go_enter Try.func14, Try.ntmps14
    go_wp2_with fail
    refine F.out.mono ?_
    rintro e w' ⟨⟨v, rfl, hF⟩, rfl⟩
    obtain rfl : v = -1 := by
      rcases hF with ⟨_, rfl⟩ | ⟨j, u, rfl, hj⟩
      · rfl
      · have := inL_iff.2 ⟨u, List.mem_of_getElem? hj⟩
        rw [HI.out] at this; cases this
    clear hF
    go_wp2
    go_ret
    exact ⟨rfl, by rw [dropL_not HI.out]; exact H.out, Keeps.refl _ _⟩
end Go.Proofs.Ytahccfljgmleiaa
