/-
  The contract of the document's Set. Conditions: as each lemma states.
-/
import Derived.Test.YtahccfljgmleiaaRfc
import Derived.Deep.CutRange
import Derived.Test.YtahccfljgmleiaaTill
namespace Go.Proofs.Ytahccfljgmleiaa
open Go.RowKit Go.Shelf Go.Maps
attribute [local go_sem] Oper.semAt_some
set_option linter.unusedVariables false

/-- left in the plain way alone -/
def OnlyN (Q : Exit → Act → World → Prop) : Exit → Act → World → Prop
  | .normal, a, w => Q .normal a w
  | _, _, _ => False
theorem OnlyN.all {Q : Exit → Act → World → Prop} : ∀ e a w, OnlyN Q e a w → Q e a w
  | .normal, _, _, h => h
  | .exit _, _, _, h => h.elim
  | .goto _, _, _, h => h.elim
  | .ret, _, _, h => h.elim
  | .panic _, _, _, h => h.elim
  | .outgrown, _, _, h => h.elim
/-- a row of one timer -/
theorem Row40.one (W : World) (e : En) (W' : World) (g : Nat) (h : W'.heap[g]? = some (.cells #[.string (str e.1), .int .i64 e.2] 40 (0, 0))) : Row40 W' (some ⟨g, 0, none⟩) [e] 1 :=
  .inr ⟨g, 0, _, rfl, h, fun j y hj => by rw [Nat.zero_add]; simpa [cellsL] using hj⟩

set_option maxHeartbeats 1000000 in
theorem rset_arg (rb : Nat) (L : List En) (x : Ky) (t : Int) (w : World) (ht : t < 0 ∨ 1099511627776 < t) :
    Calls Try.prog 12 #[.pointer (some ⟨rb, 0, none⟩), .string (str x), .int .i64 t] w fun e w' => e = .returned (.int .i64 1) ∧ w = w' := by
  rcases ht with ht | ht
  · go_enter Try.func12, Try.ntmps12
    go_wp2
    go_ret
    exact ⟨rfl, rfl⟩
  · have ha2 : ¬ t < 0 := by omega
    go_enter Try.func12, Try.ntmps12
    go_wp2
    go_ret
    exact ⟨rfl, rfl⟩
set_option maxHeartbeats 1000000 in
theorem rset_full (rb : Nat) (L : List En) (x : Ky) (t : Int) (w : World) (h : Rf w rb L) (h0 : ¬ t < 0) (h1 : ¬ 1099511627776 < t) (hi : inL L x = false) (hl : 200 ≤ L.length) :
    Calls Try.prog 12 #[.pointer (some ⟨rb, 0, none⟩), .string (str x), .int .i64 t] w fun e w' => e = .returned (.int .i64 10) ∧ w = w' := by
  have F := Lib.hid (find_any rb L x w h)
  obtain ⟨A, c, c0, hlc, hcm, hR⟩ := h.look
  have HI := Lib.hid hi
  have l1 : (200 : Int) ≤ (L.length : Nat) := by omega
  clear h hi hR
  go_enter Try.func12, Try.ntmps12
  go_wp2_with fail
  refine F.out.mono ?_
  rintro e w' ⟨⟨v, rfl, hF⟩, rfl⟩
  obtain rfl : v = -1 := by
    rcases hF with ⟨_, rfl⟩ | ⟨j, u, rfl, hj⟩
    · rfl
    · have := inL_iff.2 ⟨u, List.mem_of_getElem? hj⟩
      rw [HI.out] at this; cases this
  clear hF
  go_wp2
  go_ret
  exact ⟨rfl, rfl⟩

theorem heap_b (W : World) (o : Obj) : (W.alloc o).heap[W.heap.size]? = some o := by
  show (W.heap.push o)[W.heap.size]? = some o
  simp
theorem heap_c (W : World) (o o2 : Obj) : ((W.alloc o).alloc o2).heap[W.heap.size]? = some o := by
  rw [Below.heap_alloc (W.alloc o) o2 W.heap.size (by simp)]; exact heap_b W o
theorem heap_d (W : World) (q : Nat) (o o2 : Obj) : (((W.drewN q).alloc o).alloc o2).heap[W.heap.size + 1]? = some o2 := by
  have h := heap_b ((W.drewN q).alloc o) o2
  have e : ((W.drewN q).alloc o).heap.size = W.heap.size + 1 := by simp
  rwa [e] at h
theorem heap_e (W : World) (q : Nat) (o o2 : Obj) : (((W.drewN q).alloc o).alloc o2).heap[W.heap.size]? = some o := heap_c (W.drewN q) o o2
theorem own_e (W : World) (q : Nat) (o : Obj) : Own40 W.heap.size (((W.drewN q).alloc o).alloc (.cells #[] 40)) (W.heap.size + 1) 0 [] := by
  have h := Own40.lit (N := W.heap.size) ((W.drewN q).alloc o) (by simp)
  have e : ((W.drewN q).alloc o).heap.size = W.heap.size + 1 := by simp
  rwa [e] at h
/-- all those ahead of place k come ahead of e -/
def Ahead (M : List En) (e : En) (k : Nat) : Prop := ∀ j, j < k → ∀ f, M[j]? = some f → bef f e
theorem Ahead.zero (M : List En) (e : En) : Ahead M e 0 := fun j h => by omega
theorem Ahead.succ {M : List En} {e f : En} {k : Nat} (h : Ahead M e k) (hk : M[k]? = some f) (hf : bef f e) : Ahead M e (k + 1) := fun j hj g hg => by
  rcases Nat.lt_or_ge j k with h' | h'
  · exact h j h' g hg
  · obtain rfl : j = k := by omega
    rw [hk] at hg; cases hg; exact hf
theorem ahead_split (e : En) : ∀ (M : List En) (k : Nat), k ≤ M.length → Ahead M e k → (∀ f, M[k]? = some f → ¬ bef f e) →
    M.takeWhile (fun f => decide (bef f e)) = M.take k ∧ M.dropWhile (fun f => decide (bef f e)) = M.drop k
  | [], k, hk, _, _ => by simp
  | g :: M, 0, _, _, h2 => by
    have := h2 g rfl
    rw [List.takeWhile_cons_of_neg (by simpa using this), List.dropWhile_cons_of_neg (by simpa using this)]
    simp
  | g :: M, k + 1, hk, h1, h2 => by
    have hg := h1 0 (by omega) g rfl
    rw [List.takeWhile_cons_of_pos (by simpa using hg), List.dropWhile_cons_of_pos (by simpa using hg)]
    have ih := ahead_split e M k (by simpa using hk) (fun j hj f hf => h1 (j + 1) (by omega) f (by simpa using hf)) (fun f hf => h2 f (by simpa using hf))
    rw [ih.1, ih.2]; simp
theorem put_split {L : List En} {x : Ky} {t : Int} {M : List En} (hM : M = dropL L x) (k : Nat) (hk : k ≤ M.length) (h1 : Ahead M (x, t) k) (h2 : ∀ f, M[k]? = some f → ¬ bef f (x, t)) :
    [] ++ M.take k ++ [(x, t)] ++ M.drop k = putL L x t := by
  obtain ⟨e1, e2⟩ := ahead_split (x, t) M k hk h1 h2
  unfold putL
  rw [← hM, e1, e2]; simp
theorem bef_lt {e f : En} (h : e.2 < f.2) : bef e f := .inl h
theorem bef_no {e f : En} (h : ¬ e.2 < f.2) (h2 : ¬ e.2 = f.2) : ¬ bef e f := by
  rintro (h' | ⟨h', _⟩)
  · exact h h'
  · exact h2 h'
theorem bef_eq {e f : En} (h : e.2 = f.2) : bef e f ↔ e.1.1 < f.1.1 := by
  constructor
  · rintro (h' | ⟨_, h'⟩)
    · omega
    · exact h'
  · exact fun h' => .inr ⟨h, h'⟩
/-- a row with an own block stays as it was when another row has grown -/
theorem one_kept {W W' : World} {e : En} {g gx : Nat} (h : W.heap[gx]? = some (.cells #[.string (str e.1), .int .i64 e.2] 40 (0, 0))) (hg : W.grownBy W' (some g)) (hne : gx ≠ g) : Row40 W' (some ⟨gx, 0, none⟩) [e] 1 :=
  Row40.one W e W' gx ((hg.block gx (Array.getElem?_eq_some_iff.1 h).1 (fun e2 => hne (Option.some.inj e2))).trans h)

set_option maxRecDepth 100000 in
set_option maxHeartbeats 4000000 in
theorem rset_put (rb : Nat) (L : List En) (x : Ky) (t : Int) (w : World) (h : Rf w rb L) (hT : Tbl L) (h0 : ¬ t < 0) (h1 : ¬ 1099511627776 < t) (hf : inL L x = true ∨ L.length < 200) :
    Calls Try.prog 12 #[.pointer (some ⟨rb, 0, none⟩), .string (str x), .int .i64 t] w (Rturn w rb (putL L x t) (.int .i64 0)) := by
  have F := Lib.hid (find_any rb L x w h)
  have D := Lib.hid (rdrop_any rb L x w h hT)
  have LS : Hid (∀ (y z : Ky) (w : World), Calls Try.prog 22 #[.string (str y), .string (str z)] w fun e w' => e = .returned (.bool (decide (y.1 < z.1))) ∧ ∃ q, w' = w.drewN q) := Lib.hid less_any
  obtain ⟨A, c, c0, hlc, hcm, hR⟩ := h.look
  have HF := Lib.hid hf
  have hfew : Hid ((dropL L x).length ≤ 200) := Lib.hid (hT.drop x).few
  clear h hR hf hlc hcm hT
  go_enter Try.func12, Try.ntmps12
  go_upto_region 3 with (fail)
  go_cut [25] from 8 to 28 (fun u wx => u = .bool false ∧ wx = w)
  case first =>
    go_wp2_with fail
    refine F.out.mono ?_
    rintro e w' ⟨⟨v, rfl, hF⟩, rfl⟩
    have hv : (v < 0 ∧ L.length < 200) ∨ ¬ v < 0 := by
      rcases hF with ⟨h1, rfl⟩ | ⟨j, u, rfl, hj⟩
      · left
        refine ⟨by omega, ?_⟩
        rcases HF.out with h2 | h2
        · rw [h1] at h2; cases h2
        · exact h2
      · right; omega
    clear hF
    rcases hv with ⟨v1, v2⟩ | v1
    · have v3 : decide ((200 : Int) ≤ (L.length : Nat)) = false := decide_eq_false (by omega)
      go_wp2_with fail
      go_meet
      exact ⟨rfl, rfl⟩
    · go_wp2_with fail
      go_meet
      exact ⟨rfl, rfl⟩
  case rest =>
  clear c0
  obtain ⟨rfl, rfl⟩ := hcut
  go_wp2_with fail
  refine D.out.mono ?_
  rintro e v ⟨rfl, hRv, hKv⟩
  have HKK := Lib.hid hKv
  obtain ⟨A, c, hB, hlc, hcm, hR⟩ := hRv.box
  have hrb := hB.lt
  have HBv := Lib.hid hB
  have HR := Lib.hid hR
  have c0 := hB.cell
  obtain ⟨M, hM⟩ : ∃ M, M = dropL L x := ⟨_, rfl⟩
  have HMD := Lib.hid hM
  rw [← hM] at hfew HBv HR c0 hlc
  clear hB hRv hKv hR hM D F
  obtain ⟨n, hn⟩ : ∃ n, n = M.length := ⟨_, rfl⟩
  have HN := Lib.hid hn
  have hn200 : n ≤ 200 := by rw [hn]; exact hfew.out
  rw [← hn] at c0 hlc HBv
  clear hn
  unfold maxLen at hcm
  cases A with
  | none =>
    obtain ⟨e1, e2⟩ : M = [] ∧ c = 0 := by
      rcases HR.out with ⟨_, e1, e2⟩ | ⟨b, off, C, e, _⟩
      · exact ⟨e1, e2⟩
      · cases e
    subst e1; subst e2
    have hn0 : n = 0 := HN.out
    subst hn0
    have HPUT : Hid ([] ++ [] ++ [(x, t)] ++ [] = putL L x t) := Lib.hid (put_split HMD.out 0 (Nat.le_refl _) (Ahead.zero _ _) (fun f hf => by simp at hf))
    have HL1 : Hid (([] : List En).length = 0) := Lib.hid rfl
    have HL2 : Hid (([] ++ [] ++ [(x, t)]).length = 0 + 1) := Lib.hid rfl
    have HL3 : Hid (([] : List En).length = 0) := Lib.hid rfl
    have HL4 : Hid (([] ++ [] ++ [(x, t)] ++ []).length = 1) := Lib.hid rfl
    have HC : Hid (∀ W, Below v.heap.size v W → W.cell? ⟨rb, 0, none⟩ = some (.slice none 0 0) ∧ W.frozen? ⟨rb, 0, none⟩ = false) := Lib.hid (fun W hW => by
      have h1 := bx_after HBv.out hW hrb
      exact ⟨h1.cell, h1.frozen⟩)
    have HCO : Hid (∀ W, Below v.heap.size v W → ∀ o, (W.alloc o).cell? ⟨rb, 0, none⟩ = some (.slice none 0 0)) := Lib.hid (fun W hW o => (HC.out _ (hW.alloc hW.size o)).1)
    have HR1 : Hid (∀ W, Below v.heap.size v W → Row40 W none [] 0) := Lib.hid (fun W hW => .inl ⟨rfl, rfl, rfl⟩)
    have HSH : Hid (∀ (W W' : World) (g : Nat), Below v.heap.size v W → v.heap.size ≤ g → W.grownBy W' (some g) → Below v.heap.size v W') := Lib.hid (fun W W' g h1 h2 h3 => below_app h1 h3 h2 h1.size)
    have HBA : Hid (∀ q o, Below v.heap.size v ((v.drewN q).alloc o)) := Lib.hid (fun q o => (below_drewN' (Below.refl _ v) q).alloc (Nat.le_refl _) _)
    have HBB : Hid (∀ q o o2, Below v.heap.size v (((v.drewN q).alloc o).alloc o2)) := Lib.hid (fun q o o2 => (HBA.out q o).alloc (HBA.out q o).size _)
    have da : ∀ q o, ((v.drewN q).alloc o).cell? ⟨rb, 0, none⟩ = some (.slice none 0 0) := fun q o => (HC.out _ (HBA.out q o)).1
    have db : ∀ q o o2, (((v.drewN q).alloc o).alloc o2).cell? ⟨rb, 0, none⟩ = some (.slice none 0 0) := fun q o o2 => (HC.out _ (HBB.out q o o2)).1
    go_wp2_with fail
    refine wp_loop_rounds 1 ?_
    rw [rounds_succ]
    go_upto_region 9 with (fail)
    refine Code.wp_mono (Q := OnlyN _) OnlyN.all ?_
    refine wp_region_till (S := fun W => W.cell? ⟨rb, 0, none⟩ = some (.slice none 0 0)) (z := 23) (by kernel_rfl) (HC.out _ (below_drewN' (Below.refl _ v) 1)).1 (fun hHeld => ?_)
    refine till_take (i := 0) (oi := _) (v := ?_) [] rfl (by kernel_rfl) (by kernel_rfl) (by kernel_rfl) (by kernel_rfl) (by kernel_rfl) (fun _ _ _ h => h) (Or.inl ⟨by rfl, ?_⟩) (by assumption) ?_
    case refine_2 => intro w hSw; (try dsimp only at hSw); go_simp; first | done | (with_reducible rfl)
    try simp only [Act.put, List.getElem_toArray, List.getElem_cons_zero, List.setIfInBounds_toArray, List.set_cons_zero, List.set_cons_succ]
    refine till_take (i := 2) (oi := _) (v := ?_) [] rfl (by kernel_rfl) (by kernel_rfl) (by kernel_rfl) (by kernel_rfl) (by kernel_rfl) (fun _ _ _ h => h) (Or.inl ⟨by rfl, ?_⟩) (by assumption) ?_
    case refine_2 => intro w hSw; (try dsimp only at hSw); go_simp; first | done | (with_reducible rfl)
    try simp only [Act.put, List.getElem_toArray, List.getElem_cons_zero, List.getElem_cons_succ, List.setIfInBounds_toArray, List.set_cons_zero, List.set_cons_succ]
    refine till_take (i := 3) (oi := _) (v := ?_) [] rfl (by kernel_rfl) (by kernel_rfl) (by kernel_rfl) (by kernel_rfl) (by kernel_rfl) (fun _ _ _ h => h) (Or.inl ⟨by rfl, ?_⟩) (by assumption) ?_
    case refine_2 => intro w hSw; (try dsimp only at hSw); go_simp; first | done | (with_reducible rfl)
    try simp only [Act.put, List.getElem_toArray, List.getElem_cons_zero, List.getElem_cons_succ, List.setIfInBounds_toArray, List.set_cons_zero, List.set_cons_succ]
    refine till_take (i := 4) (oi := _) (v := ?_) [] rfl (by kernel_rfl) (by kernel_rfl) (by kernel_rfl) (by kernel_rfl) (by kernel_rfl) (fun _ _ _ h => h) (Or.inl ⟨by rfl, ?_⟩) (by assumption) ?_
    case refine_2 => intro w hSw; (try dsimp only at hSw); go_simp; first | done | (with_reducible rfl)
    try simp only [Act.put, List.getElem_toArray, List.getElem_cons_zero, List.getElem_cons_succ, List.setIfInBounds_toArray, List.set_cons_zero, List.set_cons_succ]
    refine till_take (i := 5) (oi := _) (v := ?_) [] rfl (by kernel_rfl) (by kernel_rfl) (by kernel_rfl) (by kernel_rfl) (by kernel_rfl) (fun _ _ _ h => h) (Or.inl ⟨by rfl, ?_⟩) (by assumption) ?_
    case refine_2 => intro w hSw; (try dsimp only at hSw); go_simp; first | done | (with_reducible rfl)
    try simp only [Act.put, List.getElem_toArray, List.getElem_cons_zero, List.getElem_cons_succ, List.setIfInBounds_toArray, List.set_cons_zero, List.set_cons_succ]
    refine till_take (i := 6) (oi := _) (v := ?_) [] rfl (by kernel_rfl) (by kernel_rfl) (by kernel_rfl) (by kernel_rfl) (by kernel_rfl) (fun _ _ _ h => h) (Or.inl ⟨by rfl, ?_⟩) (by assumption) ?_
    case refine_2 => intro w hSw; (try dsimp only at hSw); go_simp; first | done | (with_reducible rfl)
    try simp only [Act.put, List.getElem_toArray, List.getElem_cons_zero, List.getElem_cons_succ, List.setIfInBounds_toArray, List.set_cons_zero, List.set_cons_succ]
    refine till_take (i := 7) (oi := _) (v := ?_) [] rfl (by kernel_rfl) (by kernel_rfl) (by kernel_rfl) (by kernel_rfl) (by kernel_rfl) (fun _ _ _ h => h) (Or.inl ⟨by rfl, ?_⟩) (by assumption) ?_
    case refine_2 => intro w hSw; (try dsimp only at hSw); go_simp; first | done | (with_reducible rfl)
    try simp only [Act.put, List.getElem_toArray, List.getElem_cons_zero, List.getElem_cons_succ, List.setIfInBounds_toArray, List.set_cons_zero, List.set_cons_succ]
    refine till_take (i := 9) (oi := _) (v := ?_) [] rfl (by kernel_rfl) (by kernel_rfl) (by kernel_rfl) (by kernel_rfl) (by kernel_rfl) (fun _ _ _ h => h) (Or.inl ⟨by rfl, ?_⟩) (by assumption) ?_
    case refine_2 => intro w hSw; (try dsimp only at hSw); go_simp; first | done | (with_reducible rfl)
    try simp only [Act.put, List.getElem_toArray, List.getElem_cons_zero, List.getElem_cons_succ, List.setIfInBounds_toArray, List.set_cons_zero, List.set_cons_succ]
    refine till_take (i := 10) (oi := _) (v := ?_) [] rfl (by kernel_rfl) (by kernel_rfl) (by kernel_rfl) (by kernel_rfl) (by kernel_rfl) (fun _ _ _ h => h) (Or.inl ⟨by rfl, ?_⟩) (by assumption) ?_
    case refine_2 => intro w hSw; (try dsimp only at hSw); go_simp; first | done | (with_reducible rfl)
    try simp only [Act.put, List.getElem_toArray, List.getElem_cons_zero, List.getElem_cons_succ, List.setIfInBounds_toArray, List.set_cons_zero, List.set_cons_succ]
    refine till_take (i := 11) (oi := _) (v := ?_) [] rfl (by kernel_rfl) (by kernel_rfl) (by kernel_rfl) (by kernel_rfl) (by kernel_rfl) (fun _ _ _ h => h) (Or.inl ⟨by rfl, ?_⟩) (by assumption) ?_
    case refine_2 => intro w hSw; (try dsimp only at hSw); go_simp; first | done | (with_reducible rfl)
    try simp only [Act.put, List.getElem_toArray, List.getElem_cons_zero, List.getElem_cons_succ, List.setIfInBounds_toArray, List.set_cons_zero, List.set_cons_succ]
    refine till_take (i := 14) (oi := _) (v := ?_) [] rfl (by kernel_rfl) (by kernel_rfl) (by kernel_rfl) (by kernel_rfl) (by kernel_rfl) (fun _ _ _ h => h) (Or.inl ⟨by rfl, ?_⟩) (by assumption) ?_
    case refine_2 => intro w hSw; (try dsimp only at hSw); go_simp; first | done | (with_reducible rfl)
    try simp only [Act.put, List.getElem_toArray, List.getElem_cons_zero, List.getElem_cons_succ, List.setIfInBounds_toArray, List.set_cons_zero, List.set_cons_succ]
    refine till_take (i := 15) (oi := _) (v := ?_) [] rfl (by kernel_rfl) (by kernel_rfl) (by kernel_rfl) (by kernel_rfl) (by kernel_rfl) (fun _ _ _ h => h) (Or.inl ⟨by rfl, ?_⟩) (by assumption) ?_
    case refine_2 => intro w hSw; (try dsimp only at hSw); go_simp; first | done | (with_reducible rfl)
    try simp only [Act.put, List.getElem_toArray, List.getElem_cons_zero, List.getElem_cons_succ, List.setIfInBounds_toArray, List.set_cons_zero, List.set_cons_succ]
    refine till_take (i := 16) (oi := _) (v := ?_) [] rfl (by kernel_rfl) (by kernel_rfl) (by kernel_rfl) (by kernel_rfl) (by kernel_rfl) (fun _ _ _ h => h) (Or.inl ⟨by rfl, ?_⟩) (by assumption) ?_
    case refine_2 => intro w hSw; (try dsimp only at hSw); go_simp; first | done | (with_reducible rfl)
    try simp only [Act.put, List.getElem_toArray, List.getElem_cons_zero, List.getElem_cons_succ, List.setIfInBounds_toArray, List.set_cons_zero, List.set_cons_succ]
    refine till_take (i := 17) (oi := _) (v := ?_) [] rfl (by kernel_rfl) (by kernel_rfl) (by kernel_rfl) (by kernel_rfl) (by kernel_rfl) (fun _ _ _ h => h) (Or.inl ⟨by rfl, ?_⟩) (by assumption) ?_
    case refine_2 => intro w hSw; (try dsimp only at hSw); go_simp; first | done | (with_reducible rfl)
    try simp only [Act.put, List.getElem_toArray, List.getElem_cons_zero, List.getElem_cons_succ, List.setIfInBounds_toArray, List.set_cons_zero, List.set_cons_succ]
    refine till_take (i := 18) (oi := _) (v := ?_) [] rfl (by kernel_rfl) (by kernel_rfl) (by kernel_rfl) (by kernel_rfl) (by kernel_rfl) (fun _ _ _ h => h) (Or.inl ⟨by rfl, ?_⟩) (by assumption) ?_
    case refine_2 => intro w hSw; (try dsimp only at hSw); go_simp; first | done | (with_reducible rfl)
    try simp only [Act.put, List.getElem_toArray, List.getElem_cons_zero, List.getElem_cons_succ, List.setIfInBounds_toArray, List.set_cons_zero, List.set_cons_succ]
    refine till_take (i := 19) (oi := _) (v := ?_) [] rfl (by kernel_rfl) (by kernel_rfl) (by kernel_rfl) (by kernel_rfl) (by kernel_rfl) (fun _ _ _ h => h) (Or.inl ⟨by rfl, ?_⟩) (by assumption) ?_
    case refine_2 => intro w hSw; (try dsimp only at hSw); go_simp; first | done | (with_reducible rfl)
    try simp only [Act.put, List.getElem_toArray, List.getElem_cons_zero, List.getElem_cons_succ, List.setIfInBounds_toArray, List.set_cons_zero, List.set_cons_succ]
    refine till_ready (rs := [1, 12]) (by kernel_rfl) (by simp) ?_
    refine TillReady.cons rfl (fun K hK => ?_) (TillReady.cons rfl (fun K hK => ?_) TillReady.nil)
    · go_simp
      refine hK.out _ _ (HC.out _ (HBA.out _ _)).1 (fun hHeld => ?_)
      clear hK K
      try simp only [Act.put, List.getElem_toArray, List.getElem_cons_zero, List.getElem_cons_succ, List.setIfInBounds_toArray, List.set_cons_zero, List.set_cons_succ]
      refine till_ready (rs := [8, 12]) (by kernel_rfl) (by simp) ?_
      refine TillReady.cons rfl (fun K hK => ?_) (TillReady.cons rfl (fun K hK => ?_) TillReady.nil)
      · refine step_app rfl (.tmp 75) (.tmp 81) rfl (N := v.heap.size) (c0 := 0) (n := 0) (M := []) rfl (Own40.lit (v.drewN _) (Nat.le_refl _)) rfl (A := none) (m := 0) (c := 0) (M2 := []) rfl (HR1.out _ (HBA.out _ _)) HL1.out (by omega) (HBA.out _ _).size ?_
        intro g1 c1 w2 hO2 hg2 hl2
        have hb2 := HSH.out _ _ _ (HBA.out _ _) (by simp) hg2
        have HO2 := Lib.hid hO2; have HB2 := Lib.hid hb2
        have hS2 := (HC.out _ hb2).1
        clear hO2 hb2 hg2 hl2
        refine hK.out _ _ hS2 (fun hHeld => ?_)
        clear hK K
        try simp only [Act.put, List.getElem_toArray, List.getElem_cons_zero, List.getElem_cons_succ, List.setIfInBounds_toArray, List.set_cons_zero, List.set_cons_succ]
        refine till_ready (rs := [12]) (by kernel_rfl) (by simp) ?_
        refine TillReady.cons rfl (fun K hK => ?_) TillReady.nil
        go_simp
        refine hK.out _ _ (HC.out _ (HB2.out.alloc HB2.out.size _)).1 (fun hHeld => ?_)
        clear hK K
        try simp only [Act.put, List.getElem_toArray, List.getElem_cons_zero, List.getElem_cons_succ, List.setIfInBounds_toArray, List.set_cons_zero, List.set_cons_succ]
        refine till_ready (rs := [13]) (by kernel_rfl) (by simp) ?_
        refine TillReady.cons rfl (fun K hK => ?_) TillReady.nil
        refine step_app rfl (.tmp 82) (.tmp 86) rfl (N := v.heap.size) (g := g1) (c0 := c1) (n := 0) (M := [] ++ []) rfl (HO2.out.alloc _) HL1.out (m := 1) (c := 1) (M2 := [(x, t)]) rfl (Row40.one w2 (x, t) _ _ (heap_b _ _)) rfl (by omega) (HB2.out.alloc HB2.out.size _).size ?_
        intro g2 c2 w3 hO3 hg3 hl3
        have hb3 := HSH.out _ _ _ (HB2.out.alloc HB2.out.size _) HO2.out.parts.1 hg3
        have HO3 := Lib.hid hO3; have HB3 := Lib.hid hb3
        have hS3 := (HC.out _ hb3).1
        clear hO3 hb3 hg3 hl3
        refine hK.out _ _ hS3 (fun hHeld => ?_)
        clear hK K
        try simp only [Act.put, List.getElem_toArray, List.getElem_cons_zero, List.getElem_cons_succ, List.setIfInBounds_toArray, List.set_cons_zero, List.set_cons_succ]
        refine till_ready (rs := [20]) (by kernel_rfl) (by simp) ?_
        refine TillReady.cons rfl (fun K hK => ?_) TillReady.nil
        refine step_app rfl (.tmp 87) (.tmp 93) rfl (N := v.heap.size) (g := g2) (c0 := c2) (n := 0 + 1) (M := [] ++ [] ++ [(x, t)]) rfl HO3.out HL2.out (m := 0) (c := 0) (M2 := []) rfl (HR1.out _ HB3.out) HL3.out (by omega) HB3.out.size ?_
        intro g4 c4 w4 hO4 hg4 hl4
        have hb4 := HSH.out _ _ _ HB3.out HO3.out.parts.1 hg4
        have d4 := (HC.out _ hb4).1; have f4 := (HC.out _ hb4).2
        have HO4 := Lib.hid hO4; have HB4 := Lib.hid hb4
        clear hO4 hb4 hg4 hl4
        refine hK.out _ _ d4 (fun hHeld => ?_)
        clear hK K
        try simp only [Act.put, List.getElem_toArray, List.getElem_cons_zero, List.getElem_cons_succ, List.setIfInBounds_toArray, List.set_cons_zero, List.set_cons_succ]
        refine till_take (i := 21) (oi := _) (v := ?_) [22] rfl (by kernel_rfl) (by kernel_rfl) (by kernel_rfl) (by kernel_rfl) (by kernel_rfl) (fun _ _ _ h => h) (Or.inl ⟨by rfl, ?_⟩) (by assumption) ?_
        case refine_2 => intro w hSw; (try dsimp only at hSw); go_simp; first | done | (with_reducible rfl)
        try simp only [Act.put, List.getElem_toArray, List.getElem_cons_zero, List.getElem_cons_succ, List.setIfInBounds_toArray, List.set_cons_zero, List.set_cons_succ]
        refine till_take (i := 22) (oi := _) (v := ?_) [] rfl (by kernel_rfl) (by kernel_rfl) (by kernel_rfl) (by kernel_rfl) (by kernel_rfl) (fun _ _ _ h => h) (Or.inl ⟨by rfl, ?_⟩) (by assumption) ?_
        case refine_2 => intro w hSw; (try dsimp only at hSw); go_simp; first | done | (with_reducible rfl)
        try simp only [Act.put, List.getElem_toArray, List.getElem_cons_zero, List.getElem_cons_succ, List.setIfInBounds_toArray, List.set_cons_zero, List.set_cons_succ]
        refine till_ready (rs := [23]) (by kernel_rfl) (by simp) ?_
        refine TillReady.last rfl (fun K hK => ?_)
        go_simp
        refine hK.out _ _ ?_
        clear hK K
        try simp only [Act.put, List.getElem_toArray, List.getElem_cons_zero, List.getElem_cons_succ, List.setIfInBounds_toArray, List.set_cons_zero, List.set_cons_succ]
        refine till_done (by kernel_rfl) ?_ _
        have HEND := Lib.hid (rput_end HBv.out HB4.out HO4.out HL4.out HPUT.out)
        clear HO4 HB4 d4 f4
        dsimp only [OnlyN]
        go_wp2
        all_goals
          go_ret
          exact ⟨rfl, HEND.out.1, HKK.out.trans HEND.out.2⟩
      · go_simp
        refine hK.out _ _ (HC.out _ (HBB.out _ _ _)).1 (fun hHeld => ?_)
        clear hK K
        try simp only [Act.put, List.getElem_toArray, List.getElem_cons_zero, List.getElem_cons_succ, List.setIfInBounds_toArray, List.set_cons_zero, List.set_cons_succ]
        refine till_ready (rs := [8]) (by kernel_rfl) (by simp) ?_
        refine TillReady.cons rfl (fun K hK => ?_) TillReady.nil
        refine step_app rfl (.tmp 75) (.tmp 81) rfl (N := v.heap.size) (c0 := 0) (n := 0) (M := []) rfl ((Own40.lit (v.drewN _) (Nat.le_refl _)).alloc _) rfl (A := none) (m := 0) (c := 0) (M2 := []) rfl (HR1.out _ (HBB.out _ _ _)) HL1.out (by omega) (HBB.out _ _ _).size ?_
        intro g1 c1 w2 hO2 hg2 hl2
        have hb2 := HSH.out _ _ _ (HBB.out _ _ _) (by simp) hg2
        have HX := Lib.hid (one_kept (e := (x, t)) (gx := v.heap.size + 1) (heap_d v _ _ _) hg2 (by simp))
        have HO2 := Lib.hid hO2; have HB2 := Lib.hid hb2
        have hS2 := (HC.out _ hb2).1
        clear hO2 hb2 hg2 hl2
        refine hK.out _ _ hS2 (fun hHeld => ?_)
        clear hK K
        try simp only [Act.put, List.getElem_toArray, List.getElem_cons_zero, List.getElem_cons_succ, List.setIfInBounds_toArray, List.set_cons_zero, List.set_cons_succ]
        refine till_ready (rs := [13]) (by kernel_rfl) (by simp) ?_
        refine TillReady.cons rfl (fun K hK => ?_) TillReady.nil
        refine step_app rfl (.tmp 82) (.tmp 86) rfl (N := v.heap.size) (g := g1) (c0 := c1) (n := 0 + 0) (M := [] ++ []) rfl HO2.out (HL1.out.trans (Nat.zero_add _).symm) (m := 1) (c := 1) (M2 := [(x, t)]) rfl HX.out rfl (by omega) HB2.out.size ?_
        intro g2 c2 w3 hO3 hg3 hl3
        have hb3 := HSH.out _ _ _ HB2.out HO2.out.parts.1 hg3
        have HO3 := Lib.hid hO3; have HB3 := Lib.hid hb3
        have hS3 := (HC.out _ hb3).1
        clear hO3 hb3 hg3 hl3
        refine hK.out _ _ hS3 (fun hHeld => ?_)
        clear hK K
        try simp only [Act.put, List.getElem_toArray, List.getElem_cons_zero, List.getElem_cons_succ, List.setIfInBounds_toArray, List.set_cons_zero, List.set_cons_succ]
        refine till_ready (rs := [20]) (by kernel_rfl) (by simp) ?_
        refine TillReady.cons rfl (fun K hK => ?_) TillReady.nil
        refine step_app rfl (.tmp 87) (.tmp 93) rfl (N := v.heap.size) (g := g2) (c0 := c2) (n := 0 + 0 + 1) (M := [] ++ [] ++ [(x, t)]) rfl HO3.out (HL2.out.trans (by omega)) (m := 0) (c := 0) (M2 := []) rfl (HR1.out _ HB3.out) HL3.out (by omega) HB3.out.size ?_
        intro g4 c4 w4 hO4 hg4 hl4
        have hb4 := HSH.out _ _ _ HB3.out HO3.out.parts.1 hg4
        have d4 := (HC.out _ hb4).1; have f4 := (HC.out _ hb4).2
        have HO4 := Lib.hid hO4; have HB4 := Lib.hid hb4
        clear hO4 hb4 hg4 hl4
        refine hK.out _ _ d4 (fun hHeld => ?_)
        clear hK K
        try simp only [Act.put, List.getElem_toArray, List.getElem_cons_zero, List.getElem_cons_succ, List.setIfInBounds_toArray, List.set_cons_zero, List.set_cons_succ]
        refine till_take (i := 21) (oi := _) (v := ?_) [22] rfl (by kernel_rfl) (by kernel_rfl) (by kernel_rfl) (by kernel_rfl) (by kernel_rfl) (fun _ _ _ h => h) (Or.inl ⟨by rfl, ?_⟩) (by assumption) ?_
        case refine_2 => intro w hSw; (try dsimp only at hSw); go_simp; first | done | (with_reducible rfl)
        try simp only [Act.put, List.getElem_toArray, List.getElem_cons_zero, List.getElem_cons_succ, List.setIfInBounds_toArray, List.set_cons_zero, List.set_cons_succ]
        refine till_take (i := 22) (oi := _) (v := ?_) [] rfl (by kernel_rfl) (by kernel_rfl) (by kernel_rfl) (by kernel_rfl) (by kernel_rfl) (fun _ _ _ h => h) (Or.inl ⟨by rfl, ?_⟩) (by assumption) ?_
        case refine_2 => intro w hSw; (try dsimp only at hSw); go_simp; first | done | (with_reducible rfl)
        try simp only [Act.put, List.getElem_toArray, List.getElem_cons_zero, List.getElem_cons_succ, List.setIfInBounds_toArray, List.set_cons_zero, List.set_cons_succ]
        refine till_ready (rs := [23]) (by kernel_rfl) (by simp) ?_
        refine TillReady.last rfl (fun K hK => ?_)
        go_simp
        refine hK.out _ _ ?_
        clear hK K
        try simp only [Act.put, List.getElem_toArray, List.getElem_cons_zero, List.getElem_cons_succ, List.setIfInBounds_toArray, List.set_cons_zero, List.set_cons_succ]
        refine till_done (by kernel_rfl) ?_ _
        have HEND := Lib.hid (rput_end HBv.out HB4.out HO4.out HL4.out HPUT.out)
        clear HO4 HB4 d4 f4
        dsimp only [OnlyN]
        go_wp2
        all_goals
          go_ret
          exact ⟨rfl, HEND.out.1, HKK.out.trans HEND.out.2⟩
    · go_simp
      refine hK.out _ _ (HC.out _ (HBA.out _ _)).1 (fun hHeld => ?_)
      clear hK K
      try simp only [Act.put, List.getElem_toArray, List.getElem_cons_zero, List.getElem_cons_succ, List.setIfInBounds_toArray, List.set_cons_zero, List.set_cons_succ]
      refine till_ready (rs := [1]) (by kernel_rfl) (by simp) ?_
      refine TillReady.cons rfl (fun K hK => ?_) TillReady.nil
      go_simp
      refine hK.out _ _ (HC.out _ (HBB.out _ _ _)).1 (fun hHeld => ?_)
      clear hK K
      try simp only [Act.put, List.getElem_toArray, List.getElem_cons_zero, List.getElem_cons_succ, List.setIfInBounds_toArray, List.set_cons_zero, List.set_cons_succ]
      refine till_ready (rs := [8]) (by kernel_rfl) (by simp) ?_
      refine TillReady.cons rfl (fun K hK => ?_) TillReady.nil
      refine step_app rfl (.tmp 75) (.tmp 81) rfl (N := v.heap.size) (c0 := 0) (n := 0) (M := []) rfl (own_e v _ _) rfl (A := none) (m := 0) (c := 0) (M2 := []) rfl (HR1.out _ (HBB.out _ _ _)) HL1.out (by omega) (HBB.out _ _ _).size ?_
      intro g1 c1 w2 hO2 hg2 hl2
      have hb2 := HSH.out _ _ _ (HBB.out _ _ _) (by simp) hg2
      have HX := Lib.hid (one_kept (e := (x, t)) (gx := v.heap.size) (heap_e v _ _ _) hg2 (by simp))
      have HO2 := Lib.hid hO2; have HB2 := Lib.hid hb2
      have hS2 := (HC.out _ hb2).1
      clear hO2 hb2 hg2 hl2
      refine hK.out _ _ hS2 (fun hHeld => ?_)
      clear hK K
      try simp only [Act.put, List.getElem_toArray, List.getElem_cons_zero, List.getElem_cons_succ, List.setIfInBounds_toArray, List.set_cons_zero, List.set_cons_succ]
      refine till_ready (rs := [13]) (by kernel_rfl) (by simp) ?_
      refine TillReady.cons rfl (fun K hK => ?_) TillReady.nil
      refine step_app rfl (.tmp 82) (.tmp 86) rfl (N := v.heap.size) (g := g1) (c0 := c1) (n := 0 + 0) (M := [] ++ []) rfl HO2.out (HL1.out.trans (Nat.zero_add _).symm) (m := 1) (c := 1) (M2 := [(x, t)]) rfl HX.out rfl (by omega) HB2.out.size ?_
      intro g2 c2 w3 hO3 hg3 hl3
      have hb3 := HSH.out _ _ _ HB2.out HO2.out.parts.1 hg3
      have HO3 := Lib.hid hO3; have HB3 := Lib.hid hb3
      have hS3 := (HC.out _ hb3).1
      clear hO3 hb3 hg3 hl3
      refine hK.out _ _ hS3 (fun hHeld => ?_)
      clear hK K
      try simp only [Act.put, List.getElem_toArray, List.getElem_cons_zero, List.getElem_cons_succ, List.setIfInBounds_toArray, List.set_cons_zero, List.set_cons_succ]
      refine till_ready (rs := [20]) (by kernel_rfl) (by simp) ?_
      refine TillReady.cons rfl (fun K hK => ?_) TillReady.nil
      refine step_app rfl (.tmp 87) (.tmp 93) rfl (N := v.heap.size) (g := g2) (c0 := c2) (n := 0 + 0 + 1) (M := [] ++ [] ++ [(x, t)]) rfl HO3.out (HL2.out.trans (by omega)) (m := 0) (c := 0) (M2 := []) rfl (HR1.out _ HB3.out) HL3.out (by omega) HB3.out.size ?_
      intro g4 c4 w4 hO4 hg4 hl4
      have hb4 := HSH.out _ _ _ HB3.out HO3.out.parts.1 hg4
      have d4 := (HC.out _ hb4).1; have f4 := (HC.out _ hb4).2
      have HO4 := Lib.hid hO4; have HB4 := Lib.hid hb4
      clear hO4 hb4 hg4 hl4
      refine hK.out _ _ d4 (fun hHeld => ?_)
      clear hK K
      try simp only [Act.put, List.getElem_toArray, List.getElem_cons_zero, List.getElem_cons_succ, List.setIfInBounds_toArray, List.set_cons_zero, List.set_cons_succ]
      refine till_take (i := 21) (oi := _) (v := ?_) [22] rfl (by kernel_rfl) (by kernel_rfl) (by kernel_rfl) (by kernel_rfl) (by kernel_rfl) (fun _ _ _ h => h) (Or.inl ⟨by rfl, ?_⟩) (by assumption) ?_
      case refine_2 => intro w hSw; (try dsimp only at hSw); go_simp; first | done | (with_reducible rfl)
      try simp only [Act.put, List.getElem_toArray, List.getElem_cons_zero, List.getElem_cons_succ, List.setIfInBounds_toArray, List.set_cons_zero, List.set_cons_succ]
      refine till_take (i := 22) (oi := _) (v := ?_) [] rfl (by kernel_rfl) (by kernel_rfl) (by kernel_rfl) (by kernel_rfl) (by kernel_rfl) (fun _ _ _ h => h) (Or.inl ⟨by rfl, ?_⟩) (by assumption) ?_
      case refine_2 => intro w hSw; (try dsimp only at hSw); go_simp; first | done | (with_reducible rfl)
      try simp only [Act.put, List.getElem_toArray, List.getElem_cons_zero, List.getElem_cons_succ, List.setIfInBounds_toArray, List.set_cons_zero, List.set_cons_succ]
      refine till_ready (rs := [23]) (by kernel_rfl) (by simp) ?_
      refine TillReady.last rfl (fun K hK => ?_)
      go_simp
      refine hK.out _ _ ?_
      clear hK K
      try simp only [Act.put, List.getElem_toArray, List.getElem_cons_zero, List.getElem_cons_succ, List.setIfInBounds_toArray, List.set_cons_zero, List.set_cons_succ]
      refine till_done (by kernel_rfl) ?_ _
      have HEND := Lib.hid (rput_end HBv.out HB4.out HO4.out HL4.out HPUT.out)
      clear HO4 HB4 d4 f4
      dsimp only [OnlyN]
      go_wp2
      all_goals
        go_ret
        exact ⟨rfl, HEND.out.1, HKK.out.trans HEND.out.2⟩
  | some ad =>
    obtain ⟨b, off, rfl⟩ : ∃ b off, ad = ⟨b, off, none⟩ := by
      rcases HR.out with ⟨e, _⟩ | ⟨b, off, C, e, _⟩
      · cases e
      · cases e; exact ⟨b, off, rfl⟩
    go_wp2_with fail
    go_loopw [7] (fun i wr => ∃ k q : Nat, k ≤ n ∧ i = .int .i64 k ∧ wr = v.drewN q ∧ Hid (Ahead M (x, t) k)) (fun i _ => n - (intOf i).toNat)
    case atStart => exact ⟨0, 0, by omega, rfl, rfl, Lib.hid (Ahead.zero _ _)⟩
    case round =>
      obtain ⟨k, q, hk, rfl, rfl, HA⟩ := hrel
      go_upto_region 7 with (fail)
      go_cut [71] from 29 to 73 (fun u wx => ∃ (bb : Bool) (q2 : Nat), u = .bool bb ∧ wx = v.drewN q2 ∧ (bb = true → k < n) ∧ Hid (bb = true → Ahead M (x, t) (k + 1)) ∧ Hid (bb = false → ∀ f, M[k]? = some f → ¬ bef f (x, t)))
      case first =>
        by_cases hkn : k < n
        · obtain ⟨e, he⟩ : ∃ e, M[k]? = some e := ⟨_, List.getElem?_eq_getElem (by have := HN.out; omega)⟩
          obtain ⟨b', off', e1, d0, d1⟩ := HR.out.at he
          obtain ⟨rfl, rfl⟩ : b' = b ∧ off' = off := by cases e1; exact ⟨rfl, rfl⟩
          clear e1
          have l1 : (k : Int) < (n : Int) := by omega
          have HE := Lib.hid he
          clear he
          by_cases hl : e.2 < t
          · go_wp2_with fail
            go_meet
            exact ⟨true, _, rfl, rfl, fun _ => hkn, Lib.hid (fun _ => HA.out.succ HE.out (bef_lt hl)), Lib.hid (fun h => by cases h)⟩
          · by_cases hq : e.2 = t
            · have H1 : Hid (∀ bb : Bool, bb = decide (e.1.1 < x.1) → (bb = true → Ahead M (x, t) (k + 1)) ∧ (bb = false → ∀ f, M[k]? = some f → ¬ bef f (x, t))) := Lib.hid (fun bb hb => by
                have hbe := bef_eq (e := e) (f := (x, t)) hq
                constructor
                · intro h1
                  rw [h1] at hb
                  exact HA.out.succ HE.out (hbe.2 (of_decide_eq_true hb.symm))
                · intro h1 f hf
                  rw [HE.out] at hf; cases hf
                  rw [h1] at hb
                  exact fun h2 => of_decide_eq_false hb.symm (hbe.1 h2))
              have hq2 : (e.2 == t) = true := by rw [beq_iff_eq]; exact hq
              clear hq
              go_wp2_with fail
              refine (LS.out _ _ _).mono ?_
              rintro e9 w9 ⟨rfl, q9, rfl⟩
              obtain ⟨bb, hbb⟩ : ∃ bb, bb = decide (e.1.1 < x.1) := ⟨_, rfl⟩
              rw [← hbb]
              have H2 := Lib.hid (H1.out bb hbb)
              clear hbb
              go_wp2_with fail
              go_meet
              exact ⟨bb, _, rfl, rfl, fun _ => hkn, Lib.hid H2.out.1, Lib.hid H2.out.2⟩
            · have H1 : Hid (false = false → ∀ f, M[k]? = some f → ¬ bef f (x, t)) := Lib.hid (fun _ f hf => by rw [HE.out] at hf; cases hf; exact bef_no hl hq)
              go_wp2_with fail
              go_meet
              exact ⟨false, _, rfl, rfl, fun h => (by cases h), Lib.hid (fun h => by cases h), Lib.hid (fun _ => H1.out trivial)⟩
        · have l1 : ¬ (k : Int) < (n : Int) := by omega
          have H1 : Hid (false = false → ∀ f, M[k]? = some f → ¬ bef f (x, t)) := Lib.hid (fun _ f hf => by
            have := (List.getElem?_eq_some_iff.1 hf).1
            have := HN.out
            omega)
          go_wp2_with fail
          go_meet
          exact ⟨false, _, rfl, rfl, fun h => (by cases h), Lib.hid (fun h => by cases h), Lib.hid (fun _ => H1.out trivial)⟩
      case rest =>
        obtain ⟨bb, q2, rfl, rfl, hlt, HT2, HF2⟩ := hcut
        cases bb with
        | true =>
          have hkn := hlt rfl
          clear hlt
          go_wp2_with fail
          go_roundw
          case rel => exact ⟨k + 1, _, by omega, by go_num, rfl, Lib.hid (HT2.out rfl)⟩
          case measure => simp [intOf]; omega
        | false =>
          clear hlt HT2
          have HPUT : Hid ([] ++ M.take k ++ [(x, t)] ++ M.drop k = putL L x t) := Lib.hid (put_split HMD.out k (by have := HN.out; omega) HA.out (HF2.out rfl))
          have HL1 : Hid ((M.take k).length = k) := Lib.hid (by rw [List.length_take]; have := HN.out; omega)
          have HL2 : Hid (([] ++ M.take k ++ [(x, t)]).length = k + 1) := Lib.hid (by rw [List.nil_append, List.length_append, HL1.out]; rfl)
          have HL3 : Hid ((M.drop k).length = n - k) := Lib.hid (by rw [List.length_drop, HN.out])
          have HL4 : Hid (([] ++ M.take k ++ [(x, t)] ++ M.drop k).length = k + 1 + (n - k)) := Lib.hid (by rw [List.length_append, HL2.out, HL3.out])
          have HC : Hid (∀ W, Below v.heap.size v W → W.cell? ⟨rb, 0, none⟩ = some (.slice (some ⟨b, off, none⟩) n c) ∧ W.frozen? ⟨rb, 0, none⟩ = false) := Lib.hid (fun W hW => by
            have h1 := bx_after HBv.out hW hrb
            exact ⟨h1.cell, h1.frozen⟩)
          have HCO : Hid (∀ W, Below v.heap.size v W → ∀ o, (W.alloc o).cell? ⟨rb, 0, none⟩ = some (.slice (some ⟨b, off, none⟩) n c)) := Lib.hid (fun W hW o => (HC.out _ (hW.alloc hW.size o)).1)
          have HR1 : Hid (∀ W, Below v.heap.size v W → Row40 W (some ⟨b, off, none⟩) (M.take k) c) := Lib.hid (fun W hW => (HR.out.take k).kept (.below hW))
          have HR4 : Hid (∀ W, Below v.heap.size v W → Row40 W (if c = k then some ⟨b, off, none⟩ else some ⟨b, off + k * 2, none⟩) (M.drop k) (c - k)) := Lib.hid (fun W hW => by
            split
            · have : n = k := by omega
              rw [List.drop_of_length_le (by have := HN.out; omega)]
              exact (HR.out.kept (.below hW)).nil _
            · exact (HR.out.kept (.below hW)).drop k (c - k))
          have HR3 : Hid (∀ W (A' : Option Addr), Below v.heap.size v W → A' = A' → True) := Lib.hid (fun _ _ _ _ => trivial)
          have HSH : Hid (∀ (W W' : World) (g : Nat), Below v.heap.size v W → v.heap.size ≤ g → W.grownBy W' (some g) → Below v.heap.size v W') := Lib.hid (fun W W' g h1 h2 h3 => below_app h1 h3 h2 h1.size)
          have HBA : Hid (∀ q o, Below v.heap.size v ((v.drewN q).alloc o)) := Lib.hid (fun q o => (below_drewN' (Below.refl _ v) q).alloc (Nat.le_refl _) _)
          have HBB : Hid (∀ q o o2, Below v.heap.size v (((v.drewN q).alloc o).alloc o2)) := Lib.hid (fun q o o2 => (HBA.out q o).alloc (HBA.out q o).size _)
          have da : ∀ q o, ((v.drewN q).alloc o).cell? ⟨rb, 0, none⟩ = some (.slice (some ⟨b, off, none⟩) n c) := fun q o => (HC.out _ (HBA.out q o)).1
          have db : ∀ q o o2, (((v.drewN q).alloc o).alloc o2).cell? ⟨rb, 0, none⟩ = some (.slice (some ⟨b, off, none⟩) n c) := fun q o o2 => (HC.out _ (HBB.out q o o2)).1
          have l3 : (k : Int) ≤ (c : Int) := by omega
          have l4 : k ≤ c := by omega
          have l6 : (0 : Int) ≤ (k : Int) := by omega
          have l7 : (n : Int) ≤ (c : Int) := by omega
          have l8 : (k : Int) ≤ (n : Int) := by omega
          have l9 : k ≤ n := hk
          go_upto_region 9 with (fail)
          refine Code.wp_mono (Q := OnlyN _) OnlyN.all ?_
          refine wp_region_till (S := fun W => W.cell? ⟨rb, 0, none⟩ = some (.slice (some ⟨b, off, none⟩) n c)) (z := 23) (by kernel_rfl) (HC.out _ (below_drewN' (Below.refl _ v) (q2 + 1))).1 (fun hHeld => ?_)
          refine till_take (i := 0) (oi := _) (v := ?_) [] rfl (by kernel_rfl) (by kernel_rfl) (by kernel_rfl) (by kernel_rfl) (by kernel_rfl) (fun _ _ _ h => h) (Or.inl ⟨by rfl, ?_⟩) (by assumption) ?_
          case refine_2 => intro w hSw; (try dsimp only at hSw); go_simp; first | done | (with_reducible rfl)
          try simp only [Act.put, List.getElem_toArray, List.getElem_cons_zero, List.setIfInBounds_toArray, List.set_cons_zero, List.set_cons_succ]
          refine till_take (i := 2) (oi := _) (v := ?_) [] rfl (by kernel_rfl) (by kernel_rfl) (by kernel_rfl) (by kernel_rfl) (by kernel_rfl) (fun _ _ _ h => h) (Or.inl ⟨by rfl, ?_⟩) (by assumption) ?_
          case refine_2 => intro w hSw; (try dsimp only at hSw); go_simp; first | done | (with_reducible rfl)
          try simp only [Act.put, List.getElem_toArray, List.getElem_cons_zero, List.getElem_cons_succ, List.setIfInBounds_toArray, List.set_cons_zero, List.set_cons_succ]
          refine till_take (i := 3) (oi := _) (v := ?_) [] rfl (by kernel_rfl) (by kernel_rfl) (by kernel_rfl) (by kernel_rfl) (by kernel_rfl) (fun _ _ _ h => h) (Or.inl ⟨by rfl, ?_⟩) (by assumption) ?_
          case refine_2 => intro w hSw; (try dsimp only at hSw); go_simp; first | done | (with_reducible rfl)
          try simp only [Act.put, List.getElem_toArray, List.getElem_cons_zero, List.getElem_cons_succ, List.setIfInBounds_toArray, List.set_cons_zero, List.set_cons_succ]
          refine till_take (i := 4) (oi := _) (v := ?_) [] rfl (by kernel_rfl) (by kernel_rfl) (by kernel_rfl) (by kernel_rfl) (by kernel_rfl) (fun _ _ _ h => h) (Or.inl ⟨by rfl, ?_⟩) (by assumption) ?_
          case refine_2 => intro w hSw; (try dsimp only at hSw); go_simp; first | done | (with_reducible rfl)
          try simp only [Act.put, List.getElem_toArray, List.getElem_cons_zero, List.getElem_cons_succ, List.setIfInBounds_toArray, List.set_cons_zero, List.set_cons_succ]
          refine till_take (i := 5) (oi := _) (v := ?_) [] rfl (by kernel_rfl) (by kernel_rfl) (by kernel_rfl) (by kernel_rfl) (by kernel_rfl) (fun _ _ _ h => h) (Or.inl ⟨by rfl, ?_⟩) (by assumption) ?_
          case refine_2 => intro w hSw; (try dsimp only at hSw); go_simp; first | done | (with_reducible rfl)
          try simp only [Act.put, List.getElem_toArray, List.getElem_cons_zero, List.getElem_cons_succ, List.setIfInBounds_toArray, List.set_cons_zero, List.set_cons_succ]
          refine till_take (i := 6) (oi := _) (v := ?_) [] rfl (by kernel_rfl) (by kernel_rfl) (by kernel_rfl) (by kernel_rfl) (by kernel_rfl) (fun _ _ _ h => h) (Or.inl ⟨by rfl, ?_⟩) (by assumption) ?_
          case refine_2 => intro w hSw; (try dsimp only at hSw); go_simp; first | done | (with_reducible rfl)
          try simp only [Act.put, List.getElem_toArray, List.getElem_cons_zero, List.getElem_cons_succ, List.setIfInBounds_toArray, List.set_cons_zero, List.set_cons_succ]
          refine till_take (i := 7) (oi := _) (v := ?_) [] rfl (by kernel_rfl) (by kernel_rfl) (by kernel_rfl) (by kernel_rfl) (by kernel_rfl) (fun _ _ _ h => h) (Or.inl ⟨by rfl, ?_⟩) (by assumption) ?_
          case refine_2 => intro w hSw; (try dsimp only at hSw); go_simp; first | done | (with_reducible rfl)
          try simp only [Act.put, List.getElem_toArray, List.getElem_cons_zero, List.getElem_cons_succ, List.setIfInBounds_toArray, List.set_cons_zero, List.set_cons_succ]
          refine till_take (i := 9) (oi := _) (v := ?_) [] rfl (by kernel_rfl) (by kernel_rfl) (by kernel_rfl) (by kernel_rfl) (by kernel_rfl) (fun _ _ _ h => h) (Or.inl ⟨by rfl, ?_⟩) (by assumption) ?_
          case refine_2 => intro w hSw; (try dsimp only at hSw); go_simp; first | done | (with_reducible rfl)
          try simp only [Act.put, List.getElem_toArray, List.getElem_cons_zero, List.getElem_cons_succ, List.setIfInBounds_toArray, List.set_cons_zero, List.set_cons_succ]
          refine till_take (i := 10) (oi := _) (v := ?_) [] rfl (by kernel_rfl) (by kernel_rfl) (by kernel_rfl) (by kernel_rfl) (by kernel_rfl) (fun _ _ _ h => h) (Or.inl ⟨by rfl, ?_⟩) (by assumption) ?_
          case refine_2 => intro w hSw; (try dsimp only at hSw); go_simp; first | done | (with_reducible rfl)
          try simp only [Act.put, List.getElem_toArray, List.getElem_cons_zero, List.getElem_cons_succ, List.setIfInBounds_toArray, List.set_cons_zero, List.set_cons_succ]
          refine till_take (i := 11) (oi := _) (v := ?_) [] rfl (by kernel_rfl) (by kernel_rfl) (by kernel_rfl) (by kernel_rfl) (by kernel_rfl) (fun _ _ _ h => h) (Or.inl ⟨by rfl, ?_⟩) (by assumption) ?_
          case refine_2 => intro w hSw; (try dsimp only at hSw); go_simp; first | done | (with_reducible rfl)
          try simp only [Act.put, List.getElem_toArray, List.getElem_cons_zero, List.getElem_cons_succ, List.setIfInBounds_toArray, List.set_cons_zero, List.set_cons_succ]
          refine till_take (i := 14) (oi := _) (v := ?_) [] rfl (by kernel_rfl) (by kernel_rfl) (by kernel_rfl) (by kernel_rfl) (by kernel_rfl) (fun _ _ _ h => h) (Or.inl ⟨by rfl, ?_⟩) (by assumption) ?_
          case refine_2 => intro w hSw; (try dsimp only at hSw); go_simp; first | done | (with_reducible rfl)
          try simp only [Act.put, List.getElem_toArray, List.getElem_cons_zero, List.getElem_cons_succ, List.setIfInBounds_toArray, List.set_cons_zero, List.set_cons_succ]
          refine till_take (i := 15) (oi := _) (v := ?_) [] rfl (by kernel_rfl) (by kernel_rfl) (by kernel_rfl) (by kernel_rfl) (by kernel_rfl) (fun _ _ _ h => h) (Or.inl ⟨by rfl, ?_⟩) (by assumption) ?_
          case refine_2 => intro w hSw; (try dsimp only at hSw); go_simp; first | done | (with_reducible rfl)
          try simp only [Act.put, List.getElem_toArray, List.getElem_cons_zero, List.getElem_cons_succ, List.setIfInBounds_toArray, List.set_cons_zero, List.set_cons_succ]
          refine till_take (i := 16) (oi := _) (v := ?_) [] rfl (by kernel_rfl) (by kernel_rfl) (by kernel_rfl) (by kernel_rfl) (by kernel_rfl) (fun _ _ _ h => h) (Or.inl ⟨by rfl, ?_⟩) (by assumption) ?_
          case refine_2 => intro w hSw; (try dsimp only at hSw); go_simp; first | done | (with_reducible rfl)
          try simp only [Act.put, List.getElem_toArray, List.getElem_cons_zero, List.getElem_cons_succ, List.setIfInBounds_toArray, List.set_cons_zero, List.set_cons_succ]
          refine till_take (i := 17) (oi := _) (v := ?_) [] rfl (by kernel_rfl) (by kernel_rfl) (by kernel_rfl) (by kernel_rfl) (by kernel_rfl) (fun _ _ _ h => h) (Or.inl ⟨by rfl, ?_⟩) (by assumption) ?_
          case refine_2 => intro w hSw; (try dsimp only at hSw); go_simp; first | done | (with_reducible rfl)
          try simp only [Act.put, List.getElem_toArray, List.getElem_cons_zero, List.getElem_cons_succ, List.setIfInBounds_toArray, List.set_cons_zero, List.set_cons_succ]
          refine till_take (i := 18) (oi := _) (v := ?_) [] rfl (by kernel_rfl) (by kernel_rfl) (by kernel_rfl) (by kernel_rfl) (by kernel_rfl) (fun _ _ _ h => h) (Or.inl ⟨by rfl, ?_⟩) (by assumption) ?_
          case refine_2 => intro w hSw; (try dsimp only at hSw); go_simp; first | done | (with_reducible rfl)
          try simp only [Act.put, List.getElem_toArray, List.getElem_cons_zero, List.getElem_cons_succ, List.setIfInBounds_toArray, List.set_cons_zero, List.set_cons_succ]
          refine till_take (i := 19) (oi := _) (v := ?_) [] rfl (by kernel_rfl) (by kernel_rfl) (by kernel_rfl) (by kernel_rfl) (by kernel_rfl) (fun _ _ _ h => h) (Or.inl ⟨by rfl, ?_⟩) (by assumption) ?_
          case refine_2 => intro w hSw; (try dsimp only at hSw); go_simp; first | done | (with_reducible rfl)
          try simp only [Act.put, List.getElem_toArray, List.getElem_cons_zero, List.getElem_cons_succ, List.setIfInBounds_toArray, List.set_cons_zero, List.set_cons_succ]
          refine till_ready (rs := [1, 12]) (by kernel_rfl) (by simp) ?_
          refine TillReady.cons rfl (fun K hK => ?_) (TillReady.cons rfl (fun K hK => ?_) TillReady.nil)
          · go_simp
            refine hK.out _ _ (HC.out _ (HBA.out _ _)).1 (fun hHeld => ?_)
            clear hK K
            try simp only [Act.put, List.getElem_toArray, List.getElem_cons_zero, List.getElem_cons_succ, List.setIfInBounds_toArray, List.set_cons_zero, List.set_cons_succ]
            refine till_ready (rs := [8, 12]) (by kernel_rfl) (by simp) ?_
            refine TillReady.cons rfl (fun K hK => ?_) (TillReady.cons rfl (fun K hK => ?_) TillReady.nil)
            · refine step_app rfl (.tmp 75) (.tmp 81) rfl (N := v.heap.size) (c0 := 0) (n := 0) (M := []) rfl (Own40.lit (v.drewN _) (Nat.le_refl _)) rfl (A := some ⟨b, off, none⟩) (m := k) (c := c) (M2 := M.take k) rfl (HR1.out _ (HBA.out _ _)) HL1.out (by omega) (HBA.out _ _).size ?_
              intro g1 c1 w2 hO2 hg2 hl2
              have hb2 := HSH.out _ _ _ (HBA.out _ _) (by simp) hg2
              have HO2 := Lib.hid hO2; have HB2 := Lib.hid hb2
              have hS2 := (HC.out _ hb2).1
              clear hO2 hb2 hg2 hl2
              refine hK.out _ _ hS2 (fun hHeld => ?_)
              clear hK K
              try simp only [Act.put, List.getElem_toArray, List.getElem_cons_zero, List.getElem_cons_succ, List.setIfInBounds_toArray, List.set_cons_zero, List.set_cons_succ]
              refine till_ready (rs := [12]) (by kernel_rfl) (by simp) ?_
              refine TillReady.cons rfl (fun K hK => ?_) TillReady.nil
              go_simp
              refine hK.out _ _ (HC.out _ (HB2.out.alloc HB2.out.size _)).1 (fun hHeld => ?_)
              clear hK K
              try simp only [Act.put, List.getElem_toArray, List.getElem_cons_zero, List.getElem_cons_succ, List.setIfInBounds_toArray, List.set_cons_zero, List.set_cons_succ]
              refine till_ready (rs := [13]) (by kernel_rfl) (by simp) ?_
              refine TillReady.cons rfl (fun K hK => ?_) TillReady.nil
              refine step_app rfl (.tmp 82) (.tmp 86) rfl (N := v.heap.size) (g := g1) (c0 := c1) (n := k) (M := [] ++ M.take k) rfl (HO2.out.alloc _) HL1.out (m := 1) (c := 1) (M2 := [(x, t)]) rfl (Row40.one w2 (x, t) _ _ (heap_b _ _)) rfl (by omega) (HB2.out.alloc HB2.out.size _).size ?_
              intro g2 c2 w3 hO3 hg3 hl3
              have hb3 := HSH.out _ _ _ (HB2.out.alloc HB2.out.size _) HO2.out.parts.1 hg3
              have HO3 := Lib.hid hO3; have HB3 := Lib.hid hb3
              have hS3 := (HC.out _ hb3).1
              clear hO3 hb3 hg3 hl3
              refine hK.out _ _ hS3 (fun hHeld => ?_)
              clear hK K
              try simp only [Act.put, List.getElem_toArray, List.getElem_cons_zero, List.getElem_cons_succ, List.setIfInBounds_toArray, List.set_cons_zero, List.set_cons_succ]
              refine till_ready (rs := [20]) (by kernel_rfl) (by simp) ?_
              refine TillReady.cons rfl (fun K hK => ?_) TillReady.nil
              refine step_app rfl (.tmp 87) (.tmp 93) rfl (N := v.heap.size) (g := g2) (c0 := c2) (n := k + 1) (M := [] ++ M.take k ++ [(x, t)]) rfl HO3.out HL2.out (m := n - k) (c := c - k) (M2 := M.drop k) rfl (by first | exact HR3.out _ _ HB3.out | exact HR4.out _ HB3.out) HL3.out (by omega) HB3.out.size ?_
              intro g4 c4 w4 hO4 hg4 hl4
              have hb4 := HSH.out _ _ _ HB3.out HO3.out.parts.1 hg4
              have d4 := (HC.out _ hb4).1; have f4 := (HC.out _ hb4).2
              have HO4 := Lib.hid hO4; have HB4 := Lib.hid hb4
              clear hO4 hb4 hg4 hl4
              refine hK.out _ _ d4 (fun hHeld => ?_)
              clear hK K
              try simp only [Act.put, List.getElem_toArray, List.getElem_cons_zero, List.getElem_cons_succ, List.setIfInBounds_toArray, List.set_cons_zero, List.set_cons_succ]
              refine till_take (i := 21) (oi := _) (v := ?_) [22] rfl (by kernel_rfl) (by kernel_rfl) (by kernel_rfl) (by kernel_rfl) (by kernel_rfl) (fun _ _ _ h => h) (Or.inl ⟨by rfl, ?_⟩) (by assumption) ?_
              case refine_2 => intro w hSw; (try dsimp only at hSw); go_simp; first | done | (with_reducible rfl)
              try simp only [Act.put, List.getElem_toArray, List.getElem_cons_zero, List.getElem_cons_succ, List.setIfInBounds_toArray, List.set_cons_zero, List.set_cons_succ]
              refine till_take (i := 22) (oi := _) (v := ?_) [] rfl (by kernel_rfl) (by kernel_rfl) (by kernel_rfl) (by kernel_rfl) (by kernel_rfl) (fun _ _ _ h => h) (Or.inl ⟨by rfl, ?_⟩) (by assumption) ?_
              case refine_2 => intro w hSw; (try dsimp only at hSw); go_simp; first | done | (with_reducible rfl)
              try simp only [Act.put, List.getElem_toArray, List.getElem_cons_zero, List.getElem_cons_succ, List.setIfInBounds_toArray, List.set_cons_zero, List.set_cons_succ]
              refine till_ready (rs := [23]) (by kernel_rfl) (by simp) ?_
              refine TillReady.last rfl (fun K hK => ?_)
              go_simp
              refine hK.out _ _ ?_
              clear hK K
              try simp only [Act.put, List.getElem_toArray, List.getElem_cons_zero, List.getElem_cons_succ, List.setIfInBounds_toArray, List.set_cons_zero, List.set_cons_succ]
              refine till_done (by kernel_rfl) ?_ _
              have HEND := Lib.hid (rput_end HBv.out HB4.out HO4.out HL4.out HPUT.out)
              clear HO4 HB4 d4 f4
              dsimp only [OnlyN]
              go_wp2
              all_goals
                go_ret
                exact ⟨rfl, HEND.out.1, HKK.out.trans HEND.out.2⟩
            · go_simp
              refine hK.out _ _ (HC.out _ (HBB.out _ _ _)).1 (fun hHeld => ?_)
              clear hK K
              try simp only [Act.put, List.getElem_toArray, List.getElem_cons_zero, List.getElem_cons_succ, List.setIfInBounds_toArray, List.set_cons_zero, List.set_cons_succ]
              refine till_ready (rs := [8]) (by kernel_rfl) (by simp) ?_
              refine TillReady.cons rfl (fun K hK => ?_) TillReady.nil
              refine step_app rfl (.tmp 75) (.tmp 81) rfl (N := v.heap.size) (c0 := 0) (n := 0) (M := []) rfl ((Own40.lit (v.drewN _) (Nat.le_refl _)).alloc _) rfl (A := some ⟨b, off, none⟩) (m := k) (c := c) (M2 := M.take k) rfl (HR1.out _ (HBB.out _ _ _)) HL1.out (by omega) (HBB.out _ _ _).size ?_
              intro g1 c1 w2 hO2 hg2 hl2
              have hb2 := HSH.out _ _ _ (HBB.out _ _ _) (by simp) hg2
              have HX := Lib.hid (one_kept (e := (x, t)) (gx := v.heap.size + 1) (heap_d v _ _ _) hg2 (by simp))
              have HO2 := Lib.hid hO2; have HB2 := Lib.hid hb2
              have hS2 := (HC.out _ hb2).1
              clear hO2 hb2 hg2 hl2
              refine hK.out _ _ hS2 (fun hHeld => ?_)
              clear hK K
              try simp only [Act.put, List.getElem_toArray, List.getElem_cons_zero, List.getElem_cons_succ, List.setIfInBounds_toArray, List.set_cons_zero, List.set_cons_succ]
              refine till_ready (rs := [13]) (by kernel_rfl) (by simp) ?_
              refine TillReady.cons rfl (fun K hK => ?_) TillReady.nil
              refine step_app rfl (.tmp 82) (.tmp 86) rfl (N := v.heap.size) (g := g1) (c0 := c1) (n := 0 + k) (M := [] ++ M.take k) rfl HO2.out (HL1.out.trans (Nat.zero_add _).symm) (m := 1) (c := 1) (M2 := [(x, t)]) rfl HX.out rfl (by omega) HB2.out.size ?_
              intro g2 c2 w3 hO3 hg3 hl3
              have hb3 := HSH.out _ _ _ HB2.out HO2.out.parts.1 hg3
              have HO3 := Lib.hid hO3; have HB3 := Lib.hid hb3
              have hS3 := (HC.out _ hb3).1
              clear hO3 hb3 hg3 hl3
              refine hK.out _ _ hS3 (fun hHeld => ?_)
              clear hK K
              try simp only [Act.put, List.getElem_toArray, List.getElem_cons_zero, List.getElem_cons_succ, List.setIfInBounds_toArray, List.set_cons_zero, List.set_cons_succ]
              refine till_ready (rs := [20]) (by kernel_rfl) (by simp) ?_
              refine TillReady.cons rfl (fun K hK => ?_) TillReady.nil
              refine step_app rfl (.tmp 87) (.tmp 93) rfl (N := v.heap.size) (g := g2) (c0 := c2) (n := 0 + k + 1) (M := [] ++ M.take k ++ [(x, t)]) rfl HO3.out (HL2.out.trans (by omega)) (m := n - k) (c := c - k) (M2 := M.drop k) rfl (by first | exact HR3.out _ _ HB3.out | exact HR4.out _ HB3.out) HL3.out (by omega) HB3.out.size ?_
              intro g4 c4 w4 hO4 hg4 hl4
              have hb4 := HSH.out _ _ _ HB3.out HO3.out.parts.1 hg4
              have d4 := (HC.out _ hb4).1; have f4 := (HC.out _ hb4).2
              have HO4 := Lib.hid hO4; have HB4 := Lib.hid hb4
              clear hO4 hb4 hg4 hl4
              refine hK.out _ _ d4 (fun hHeld => ?_)
              clear hK K
              try simp only [Act.put, List.getElem_toArray, List.getElem_cons_zero, List.getElem_cons_succ, List.setIfInBounds_toArray, List.set_cons_zero, List.set_cons_succ]
              refine till_take (i := 21) (oi := _) (v := ?_) [22] rfl (by kernel_rfl) (by kernel_rfl) (by kernel_rfl) (by kernel_rfl) (by kernel_rfl) (fun _ _ _ h => h) (Or.inl ⟨by rfl, ?_⟩) (by assumption) ?_
              case refine_2 => intro w hSw; (try dsimp only at hSw); go_simp; first | done | (with_reducible rfl)
              try simp only [Act.put, List.getElem_toArray, List.getElem_cons_zero, List.getElem_cons_succ, List.setIfInBounds_toArray, List.set_cons_zero, List.set_cons_succ]
              refine till_take (i := 22) (oi := _) (v := ?_) [] rfl (by kernel_rfl) (by kernel_rfl) (by kernel_rfl) (by kernel_rfl) (by kernel_rfl) (fun _ _ _ h => h) (Or.inl ⟨by rfl, ?_⟩) (by assumption) ?_
              case refine_2 => intro w hSw; (try dsimp only at hSw); go_simp; first | done | (with_reducible rfl)
              try simp only [Act.put, List.getElem_toArray, List.getElem_cons_zero, List.getElem_cons_succ, List.setIfInBounds_toArray, List.set_cons_zero, List.set_cons_succ]
              refine till_ready (rs := [23]) (by kernel_rfl) (by simp) ?_
              refine TillReady.last rfl (fun K hK => ?_)
              go_simp
              refine hK.out _ _ ?_
              clear hK K
              try simp only [Act.put, List.getElem_toArray, List.getElem_cons_zero, List.getElem_cons_succ, List.setIfInBounds_toArray, List.set_cons_zero, List.set_cons_succ]
              refine till_done (by kernel_rfl) ?_ _
              have HEND := Lib.hid (rput_end HBv.out HB4.out HO4.out HL4.out HPUT.out)
              clear HO4 HB4 d4 f4
              dsimp only [OnlyN]
              go_wp2
              all_goals
                go_ret
                exact ⟨rfl, HEND.out.1, HKK.out.trans HEND.out.2⟩
          · go_simp
            refine hK.out _ _ (HC.out _ (HBA.out _ _)).1 (fun hHeld => ?_)
            clear hK K
            try simp only [Act.put, List.getElem_toArray, List.getElem_cons_zero, List.getElem_cons_succ, List.setIfInBounds_toArray, List.set_cons_zero, List.set_cons_succ]
            refine till_ready (rs := [1]) (by kernel_rfl) (by simp) ?_
            refine TillReady.cons rfl (fun K hK => ?_) TillReady.nil
            go_simp
            refine hK.out _ _ (HC.out _ (HBB.out _ _ _)).1 (fun hHeld => ?_)
            clear hK K
            try simp only [Act.put, List.getElem_toArray, List.getElem_cons_zero, List.getElem_cons_succ, List.setIfInBounds_toArray, List.set_cons_zero, List.set_cons_succ]
            refine till_ready (rs := [8]) (by kernel_rfl) (by simp) ?_
            refine TillReady.cons rfl (fun K hK => ?_) TillReady.nil
            refine step_app rfl (.tmp 75) (.tmp 81) rfl (N := v.heap.size) (c0 := 0) (n := 0) (M := []) rfl (own_e v _ _) rfl (A := some ⟨b, off, none⟩) (m := k) (c := c) (M2 := M.take k) rfl (HR1.out _ (HBB.out _ _ _)) HL1.out (by omega) (HBB.out _ _ _).size ?_
            intro g1 c1 w2 hO2 hg2 hl2
            have hb2 := HSH.out _ _ _ (HBB.out _ _ _) (by simp) hg2
            have HX := Lib.hid (one_kept (e := (x, t)) (gx := v.heap.size) (heap_e v _ _ _) hg2 (by simp))
            have HO2 := Lib.hid hO2; have HB2 := Lib.hid hb2
            have hS2 := (HC.out _ hb2).1
            clear hO2 hb2 hg2 hl2
            refine hK.out _ _ hS2 (fun hHeld => ?_)
            clear hK K
            try simp only [Act.put, List.getElem_toArray, List.getElem_cons_zero, List.getElem_cons_succ, List.setIfInBounds_toArray, List.set_cons_zero, List.set_cons_succ]
            refine till_ready (rs := [13]) (by kernel_rfl) (by simp) ?_
            refine TillReady.cons rfl (fun K hK => ?_) TillReady.nil
            refine step_app rfl (.tmp 82) (.tmp 86) rfl (N := v.heap.size) (g := g1) (c0 := c1) (n := 0 + k) (M := [] ++ M.take k) rfl HO2.out (HL1.out.trans (Nat.zero_add _).symm) (m := 1) (c := 1) (M2 := [(x, t)]) rfl HX.out rfl (by omega) HB2.out.size ?_
            intro g2 c2 w3 hO3 hg3 hl3
            have hb3 := HSH.out _ _ _ HB2.out HO2.out.parts.1 hg3
            have HO3 := Lib.hid hO3; have HB3 := Lib.hid hb3
            have hS3 := (HC.out _ hb3).1
            clear hO3 hb3 hg3 hl3
            refine hK.out _ _ hS3 (fun hHeld => ?_)
            clear hK K
            try simp only [Act.put, List.getElem_toArray, List.getElem_cons_zero, List.getElem_cons_succ, List.setIfInBounds_toArray, List.set_cons_zero, List.set_cons_succ]
            refine till_ready (rs := [20]) (by kernel_rfl) (by simp) ?_
            refine TillReady.cons rfl (fun K hK => ?_) TillReady.nil
            refine step_app rfl (.tmp 87) (.tmp 93) rfl (N := v.heap.size) (g := g2) (c0 := c2) (n := 0 + k + 1) (M := [] ++ M.take k ++ [(x, t)]) rfl HO3.out (HL2.out.trans (by omega)) (m := n - k) (c := c - k) (M2 := M.drop k) rfl (by first | exact HR3.out _ _ HB3.out | exact HR4.out _ HB3.out) HL3.out (by omega) HB3.out.size ?_
            intro g4 c4 w4 hO4 hg4 hl4
            have hb4 := HSH.out _ _ _ HB3.out HO3.out.parts.1 hg4
            have d4 := (HC.out _ hb4).1; have f4 := (HC.out _ hb4).2
            have HO4 := Lib.hid hO4; have HB4 := Lib.hid hb4
            clear hO4 hb4 hg4 hl4
            refine hK.out _ _ d4 (fun hHeld => ?_)
            clear hK K
            try simp only [Act.put, List.getElem_toArray, List.getElem_cons_zero, List.getElem_cons_succ, List.setIfInBounds_toArray, List.set_cons_zero, List.set_cons_succ]
            refine till_take (i := 21) (oi := _) (v := ?_) [22] rfl (by kernel_rfl) (by kernel_rfl) (by kernel_rfl) (by kernel_rfl) (by kernel_rfl) (fun _ _ _ h => h) (Or.inl ⟨by rfl, ?_⟩) (by assumption) ?_
            case refine_2 => intro w hSw; (try dsimp only at hSw); go_simp; first | done | (with_reducible rfl)
            try simp only [Act.put, List.getElem_toArray, List.getElem_cons_zero, List.getElem_cons_succ, List.setIfInBounds_toArray, List.set_cons_zero, List.set_cons_succ]
            refine till_take (i := 22) (oi := _) (v := ?_) [] rfl (by kernel_rfl) (by kernel_rfl) (by kernel_rfl) (by kernel_rfl) (by kernel_rfl) (fun _ _ _ h => h) (Or.inl ⟨by rfl, ?_⟩) (by assumption) ?_
            case refine_2 => intro w hSw; (try dsimp only at hSw); go_simp; first | done | (with_reducible rfl)
            try simp only [Act.put, List.getElem_toArray, List.getElem_cons_zero, List.getElem_cons_succ, List.setIfInBounds_toArray, List.set_cons_zero, List.set_cons_succ]
            refine till_ready (rs := [23]) (by kernel_rfl) (by simp) ?_
            refine TillReady.last rfl (fun K hK => ?_)
            go_simp
            refine hK.out _ _ ?_
            clear hK K
            try simp only [Act.put, List.getElem_toArray, List.getElem_cons_zero, List.getElem_cons_succ, List.setIfInBounds_toArray, List.set_cons_zero, List.set_cons_succ]
            refine till_done (by kernel_rfl) ?_ _
            have HEND := Lib.hid (rput_end HBv.out HB4.out HO4.out HL4.out HPUT.out)
            clear HO4 HB4 d4 f4
            dsimp only [OnlyN]
            go_wp2
            all_goals
              go_ret
              exact ⟨rfl, HEND.out.1, HKK.out.trans HEND.out.2⟩
end Go.Proofs.Ytahccfljgmleiaa
