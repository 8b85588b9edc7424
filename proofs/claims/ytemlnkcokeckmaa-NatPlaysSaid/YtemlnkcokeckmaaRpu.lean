/-
  The document's own put: a new binding, its port chosen, in its place. Conditions: the box stands in memory.
-/
import Derived.Test.YtemlnkcokeckmaaRap
import Derived.Test.YtemlnkcokeckmaaTil
import Derived.Deep.CutRange
namespace Go.Proofs.Ytemlnkcokeckmaa
open Go.RowKit
attribute [local go_sem] Oper.semAt_some
set_option linter.unusedVariables false
set_option linter.unusedSimpArgs false

/-- what port a new binding gets -/
def PortR (x : Bx) (M : List Bn) (wish p : Int) : Prop := freeR x M p = true ∧ (p = wish ∨ freeR x M wish = false ∧ ∀ q, x.lo ≤ q → q < p → freeR x M q = false)
/-- .. or there is none -/
def NoPort (x : Bx) (M : List Bn) (wish : Int) : Prop := freeR x M wish = false ∧ ∀ q, x.lo ≤ q → q ≤ x.hi → freeR x M q = false
/-- the new one -/
def newR (inn tw : A2) (s : Bool) (p : Int) : Rb := ⟨⟨inn, tw, p, 0, s, []⟩, .slice none 0 0⟩
/-- it stands at place k -/
def insR (L : List Rb) (k : Nat) (d : Rb) : List Rb := [] ++ L.take k ++ [d] ++ L.drop k
def PlaceR (L : List Rb) (p : Int) (k : Nat) : Prop := k ≤ L.length ∧ (∀ (j : Nat) (e : Rb), j < k → L[j]? = some e → e.b.port < p) ∧ ∀ e, L[k]? = some e → ¬ e.b.port < p

/-- what put answers and leaves -/
def PutAns (w0 w : World) (rb : Nat) (x : Bx) (v0 : Value) (L0 L : List Rb) (now' : Int) (inn tw : A2) (s : Bool) (wish : Int) (n : Nat) (e : Ending) (w' : World) : Prop :=
      (((x.most ≤ (n : Int)) ∨ NoPort x (L.map Rb.b) wish) ∧ e = .returned (.int .i64 (-1)) ∧ Below w.heap.size w w') ∨
      (∃ (p : Int) (k : Nat), (n : Int) < x.most ∧ PortR x (L.map Rb.b) wish p ∧ PlaceR L p k ∧ e = .returned (.int .i64 (k : Int)) ∧ RStep w0 w' rb x v0 L0 now' (insR L k (newR inn tw s p)))

/-- left in the plain way alone -/
def OnlyN (Q : Exit → Act → World → Prop) : Exit → Act → World → Prop
  | .normal, a, w => Q .normal a w
  | _, _, _ => False
theorem OnlyN.all {Q : Exit → Act → World → Prop} : ∀ e a w, OnlyN Q e a w → Q e a w
  | .normal, _, _, h => h
  | .exit _, _, _, h => h.elim
  | .goto _, _, _, h => h.elim
  | .ret, _, _, h => h.elim
  | .panic _, _, _, h => h.elim
  | .outgrown, _, _, h => h.elim
/-- a row of one binding -/
theorem RowR.one {W : World} {d : Rb} {g : Nat} {C : Array Value} (h : W.heap[g]? = some (.cells C 104 (0, 0))) (hC : C = (rbCells d).toArray) : RowR W (some ⟨g, 0, none⟩) [d] 1 := by
  subst hC
  exact .inr ⟨g, 0, _, rfl, h, fun j y hj => by rw [Nat.zero_add]; simpa [cellsR] using hj⟩
theorem one_keptR {W W' : World} {d : Rb} {g gx : Nat} {C : Array Value} (h : W.heap[gx]? = some (.cells C 104 (0, 0))) (hC : C = (rbCells d).toArray) (hg : W.grownBy W' (some g)) (hne : gx ≠ g) : RowR W' (some ⟨gx, 0, none⟩) [d] 1 :=
  RowR.one ((hg.block gx (Array.getElem?_eq_some_iff.1 h).1 (fun e2 => hne (Option.some.inj e2))).trans h) hC
theorem heap_bR (W : World) (o : Obj) : (W.alloc o).heap[W.heap.size]? = some o := by
  show (W.heap.push o)[W.heap.size]? = some o
  simp
theorem heap_dR (W : World) (q : Nat) (o o2 : Obj) : (((W.drewN q).alloc o).alloc o2).heap[W.heap.size + 1]? = some o2 := by
  have h := heap_bR ((W.drewN q).alloc o) o2
  have e : ((W.drewN q).alloc o).heap.size = W.heap.size + 1 := by simp
  rwa [e] at h
theorem heap_eR (W : World) (q : Nat) (o o2 : Obj) : (((W.drewN q).alloc o).alloc o2).heap[W.heap.size]? = some o := by
  rw [Below.heap_alloc ((W.drewN q).alloc o) o2 W.heap.size (by simp)]
  exact heap_bR (W.drewN q) o
theorem own_eR (W : World) (q : Nat) (o : Obj) : OwnR W.heap.size (((W.drewN q).alloc o).alloc (.cells #[] 104)) (W.heap.size + 1) 0 [] := by
  have h := OwnR.lit (N := W.heap.size) ((W.drewN q).alloc o) (by simp)
  have e : ((W.drewN q).alloc o).heap.size = W.heap.size + 1 := by simp
  rwa [e] at h
theorem PlaceR.zero {L : List Rb} {p : Int} (h : L = []) : PlaceR L p 0 := ⟨Nat.zero_le _, fun j e h => by omega, fun e he => by rw [h] at he; simp at he⟩

/-- .. and a call that leaves all as it was -/
theorem RStep.more {w w' w2 : World} {rb : Nat} {x : Bx} {v : Value} {L : List Rb} {now' : Int} {L' : List Rb} (h : RStep w w' rb x v L now' L') (hb : Below w'.heap.size w' w2) : RStep w w2 rb x v L now' L' := by
  obtain ⟨v', h1, h2, h3⟩ := h
  exact ⟨v', h1.below hb, h2.trans (.all hb), h3⟩

set_option maxRecDepth 100000 in
set_option maxHeartbeats 8000000 in
theorem rput_any {w0 w : World} {rb : Nat} {x : Bx} {now now' : Int} {v0 v : Value} {L0 L : List Rb} (hst : RStep w0 w rb x v0 L0 now' L) (h : Ra w rb x now' v L) (inn tw : A2) (s : Bool) (wish : Int) (hL : L.length ≤ 100) (h1 : 1 ≤ x.lo) (h2 : x.hi ≤ 65535) :
    Calls Try.prog 50 #[.pointer (some ⟨rb, 0, none⟩), .agg #[.int .u32 inn.1, .int .i64 inn.2, .int .u32 tw.1, .int .i64 tw.2, .int .i64 0, .int .i64 0, .bool s], .int .i64 wish] w (PutAns w0 w rb x v0 L0 L now' inn tw s wish L.length) := by
  have HST := Lib.hid hst
  have HR := Lib.hid h
  have HF := Lib.hid (fun (W : World) (hb : Below w.heap.size w W) p => free_any (h.below hb) p)
  have HB : Hid (∀ C : Obj, Below w.heap.size w (w.alloc C)) := Lib.hid (fun C => (Below.refl _ w).alloc (Nat.le_refl _) _)
  obtain ⟨A, c, rfl, hlc, hcm, hoff, hrow⟩ := h.rowR
  have HROW := Lib.hid hrow
  have HOFF := Lib.hid hoff
  have HC : Hid (∀ W, Below w.heap.size w W → (W.cell? ⟨rb, 6, none⟩ = some (.int .i64 x.most) ∧ W.cell? ⟨rb, 1, none⟩ = some (.int .i64 x.lo) ∧ W.cell? ⟨rb, 2, none⟩ = some (.int .i64 x.hi) ∧ W.cell? ⟨rb, 7, none⟩ = some (.slice A L.length c)) ∧ W.frozen? ⟨rb, 7, none⟩ = false ∧ rb < W.heap.size) := Lib.hid (fun W hW => by
    have hr := h.below hW
    have h1 := hr.cells
    exact ⟨⟨h1.1.2.2.2.2.2.2, h1.1.2.1, h1.1.2.2.1, h1.2.1⟩, h1.2.2.2 7, hr.lt⟩)
  have HSV1 : Hid (∀ d ∈ L, d.sv.oneCell' = true) := Lib.hid (fun d hd => sv_one (h.nds d hd))
  unfold maxLen at hcm
  obtain ⟨n, hn⟩ : ∃ n, L.length = n := ⟨_, rfl⟩
  have HN := Lib.hid hn
  rw [hn] at hlc HC hL
  rw [hn]
  have HST2 : Hid (∀ W, Below w.heap.size w W → RStep w0 W rb x v0 L0 now' L) := Lib.hid (fun W hb => hst.more hb)
  have HAT : Hid (∀ (b : Nat), A = some ⟨b, 0, none⟩ → ∀ W, Below w.heap.size w W → ∀ (k : Nat) (d : Rb), L[k]? = some d → W.cell? ⟨b, k * 8 + 4, none⟩ = some (.int .i64 d.b.port) ∧ b < W.heap.size) := Lib.hid (fun b hb W hW k d hd => by
    obtain ⟨g, c', e1, _, _, hat, hfz, hgl⟩ := (h.below hW).at hd
    rw [hb] at e1
    cases e1
    exact ⟨hat 4 (by omega), hgl⟩)
  clear h hst hrow hoff hn
  obtain ⟨W1, hW1⟩ : ∃ W1, w.alloc (.cells #[.int .u32 inn.1, .int .i64 inn.2, .int .u32 tw.1, .int .i64 tw.2, .int .i64 0, .int .i64 0, .bool s] 54) = W1 := ⟨_, rfl⟩
  have HB1 : Hid (Below w.heap.size w W1) := Lib.hid (by rw [← hW1]; exact HB.out _)
  have HNEW : Hid (W1.heap[w.heap.size]? = some (.cells #[.int .u32 inn.1, .int .i64 inn.2, .int .u32 tw.1, .int .i64 tw.2, .int .i64 0, .int .i64 0, .bool s] 54 (0, 0))) := Lib.hid (by rw [← hW1]; exact World.alloc_heap_new w _)
  obtain ⟨⟨c6, c1, c2, c7⟩, -, hrb⟩ := HC.out _ HB1.out
  have HF1 := Lib.hid (fun q p => HF.out (W1.drewN q) (below_drw HB1.out q) p)
  clear HF
  go_enter Try.func50, Try.ntmps50
  go_wp2_with fail
  try rw [hW1]
  clear hW1 HB
  by_cases hm : x.most ≤ (n : Int)
  · have t1 : decide (x.most ≤ (n : Int)) = true := decide_eq_true hm
    have HM := Lib.hid hm
    clear hm
    go_quiet (fail)
    go_wp2
    go_ret
    exact Or.inl ⟨.inl HM.out, rfl, below_drw HB1.out _⟩
  have t1 : decide (x.most ≤ (n : Int)) = false := decide_eq_false hm
  have HM : Hid ((n : Int) < x.most) := Lib.hid (by omega)
  clear hm
  go_quiet (fail)
  rename_i nq
  cases A with
  | none =>
    obtain ⟨rfl, rfl⟩ : L = [] ∧ c = 0 := by
      rcases HROW.out with ⟨_, e1, e2⟩ | ⟨b, off, C, e, _⟩
      · exact ⟨e1, e2⟩
      · cases e
    obtain rfl : n = 0 := HN.out.symm
    cases hf : freeR x (([] : List Rb).map Rb.b) wish with
    | true =>
      obtain ⟨p, hpw⟩ : ∃ p, p = wish := ⟨_, rfl⟩
      have HP : Hid (PortR x (([] : List Rb).map Rb.b) wish p) := Lib.hid ⟨by rw [hpw]; exact hf, .inl hpw⟩
      have HFW := Lib.hid hf
      clear hf
      go_wp2_with fail
      refine (HF1.out _ wish).mono ?_
      rintro e w' ⟨rfl, rfl⟩
      rw [HFW.out, ← hpw]
      clear hpw
      obtain ⟨V, hV⟩ : ∃ V, (W1.drewN nq).setCell ⟨w.heap.size, 4, none⟩ (.int .i64 p) = V := ⟨_, rfl⟩
      have HBV : Hid (Below w.heap.size w V) := Lib.hid (by rw [← hV]; exact (below_drw HB1.out nq).setCell (p := ⟨w.heap.size, 4, none⟩) (Nat.le_refl _) _)
      have HNV : Hid (V.heap[w.heap.size]? = some (.cells #[.int .u32 inn.1, .int .i64 inn.2, .int .u32 tw.1, .int .i64 tw.2, .int .i64 p, .int .i64 0, .bool s] 54 (0, 0))) := Lib.hid (by rw [← hV, set_top (w := W1.drewN nq) (C := #[.int .u32 inn.1, .int .i64 inn.2, .int .u32 tw.1, .int .i64 tw.2, .int .i64 0, .int .i64 0, .bool s]) HNEW.out]; simp)
      have e4 : W1.cell? ⟨w.heap.size, 4, none⟩ = some (.int .i64 0) := (cells_of HNEW.out 4).1
      have f4 : W1.frozen? ⟨w.heap.size, 4, none⟩ = false := (cells_of HNEW.out 4).2
      have l4 : w.heap.size < W1.heap.size := (Array.getElem?_eq_some_iff.1 HNEW.out).1
      have HBX : Hid (∀ W, Below V.heap.size V W → Below w.heap.size w W) := Lib.hid (fun W h => HBV.out.trans (h.mono HBV.out.size))
      have HCX : Hid (∀ W, Below V.heap.size V W → (W.cell? ⟨rb, 7, none⟩ = some (.slice none 0 0) ∧ rb < W.heap.size) ∧ (W.cell? ⟨w.heap.size, 0, none⟩ = some (.int .u32 inn.1) ∧ W.cell? ⟨w.heap.size, 1, none⟩ = some (.int .i64 inn.2) ∧ W.cell? ⟨w.heap.size, 2, none⟩ = some (.int .u32 tw.1) ∧ W.cell? ⟨w.heap.size, 3, none⟩ = some (.int .i64 tw.2) ∧ W.cell? ⟨w.heap.size, 4, none⟩ = some (.int .i64 p) ∧ W.cell? ⟨w.heap.size, 5, none⟩ = some (.int .i64 0) ∧ W.cell? ⟨w.heap.size, 6, none⟩ = some (.bool s)) ∧ w.heap.size < W.heap.size) := Lib.hid (fun W h => by
        have h1 := HC.out _ (HBX.out _ h)
        have h2 : W.heap[w.heap.size]? = _ := (h.block _ (Array.getElem?_eq_some_iff.1 HNV.out).1).trans HNV.out
        exact ⟨⟨h1.1.2.2.2, h1.2.2⟩, ⟨(cells_of h2 0).1, (cells_of h2 1).1, (cells_of h2 2).1, (cells_of h2 3).1, (cells_of h2 4).1, (cells_of h2 5).1, (cells_of h2 6).1⟩, (Array.getElem?_eq_some_iff.1 h2).1⟩)
      have HCF : Hid (∀ W, Below V.heap.size V W → W.frozen? ⟨rb, 7, none⟩ = false) := Lib.hid (fun W h => (HC.out _ (HBX.out _ h)).2.1)
      have HSTV : Hid (RStep w0 V rb x v0 L0 now' []) := Lib.hid (HST2.out _ HBV.out)
      have HSH : Hid (∀ (W W' : World) (g : Nat), Below V.heap.size V W → V.heap.size ≤ g → W.grownBy W' (some g) → Below V.heap.size V W') := Lib.hid (fun W W' g h1 h2 h3 => below_appR h1 h3 h2 h1.size)
      have HBA : Hid (∀ q o, Below V.heap.size V ((V.drewN q).alloc o)) := Lib.hid (fun q o => (below_drw (Below.refl _ V) q).alloc (Nat.le_refl _) _)
      have HBB : Hid (∀ q o o2, Below V.heap.size V (((V.drewN q).alloc o).alloc o2)) := Lib.hid (fun q o o2 => (HBA.out q o).alloc (HBA.out q o).size _)
      have HV2 : Hid (∀ d ∈ [newR inn tw s p], d.sv.oneCell' = true) := Lib.hid (fun d hd => by rw [List.mem_singleton.1 hd]; rfl)
      have HROWV : Hid (∀ W, Below V.heap.size V W → RowR W none [] 0) := Lib.hid (fun W h => HROW.out.below (HBX.out _ h))
      obtain ⟨⟨d7, drb⟩, ⟨y0, y1, y2, y3, y4, y5, y6⟩, dnb⟩ := HCX.out V (Below.refl _ _)
      have HEND : Hid (∀ (W : World) (g c n : Nat), Below V.heap.size V W → OwnR V.heap.size W g c ([] ++ [] ++ [newR inn tw s p] ++ []) → ([] ++ [] ++ [newR inn tw s p] ++ [] : List Rb).length = n → RStep w0 (W.setCell ⟨rb, 7, none⟩ (.slice (some ⟨g, 0, none⟩) n c)) rb x v0 L0 now' (insR [] 0 (newR inn tw s p))) := Lib.hid (fun W g c n h1 h2 h3 => rrow_end (now := now') (v1 := v0) HSTV.out (fun d hd => by
        right
        rw [List.nil_append, List.nil_append, List.append_nil, List.mem_singleton] at hd
        rw [hd]
        exact ⟨rfl, rfl⟩) h1 h2 h3 (by simp [insR]))
      have HPL : Hid (PlaceR [] p 0) := Lib.hid (PlaceR.zero rfl)
      have HL1 : Hid (([] : List Rb).length = 0) := Lib.hid rfl
      have HL2 : Hid (([] ++ [] ++ [newR inn tw s p]).length = 0 + 1) := Lib.hid rfl
      have HL3 : Hid (([] : List Rb).length = 0) := Lib.hid rfl
      have HL4 : Hid (([] ++ [] ++ [newR inn tw s p] ++ []).length = 1) := Lib.hid rfl
      have HV1 : Hid (∀ d ∈ ([] : List Rb), d.sv.oneCell' = true) := Lib.hid (fun d hd => by simp at hd)
      have HV3 : Hid (∀ d ∈ ([] : List Rb), d.sv.oneCell' = true) := Lib.hid (fun d hd => by simp at hd)
      have HR1 : Hid (∀ W, Below V.heap.size V W → RowR W none [] 0) := Lib.hid (fun W hW => .inl ⟨rfl, rfl, rfl⟩)
      go_wp2_with fail
      try rw [hV]
      clear hV e4 f4 l4
      refine wp_loop_rounds 1 ?_
      rw [rounds_succ]
      go_upto_region 14 with (fail)
      refine Code.wp_mono (Q := OnlyN _) OnlyN.all ?_
      refine wp_region_till (S := fun W => Below V.heap.size V W) (z := 22) (by kernel_rfl) (below_drw (Below.refl _ V) 1) (fun hHeld => ?_)
      refine till_take (i := 0) (oi := _) (v := ?_) [] rfl (by kernel_rfl) (by kernel_rfl) (by decide) (by kernel_rfl) (by kernel_rfl) (by kernel_rfl) (fun _ _ _ h => h) (Or.inl ⟨by rfl, ?_⟩) (by assumption) ?_
      case refine_2 => intro w hSw; obtain ⟨⟨q7, qrb⟩, ⟨n0, n1, n2, n3, n4, n5, n6⟩, qnb⟩ := HCX.out _ hSw; go_simp; first | done | (with_reducible rfl)
      try simp only [Act.put, List.getElem_toArray, List.getElem_cons_zero, List.setIfInBounds_toArray, List.set_cons_zero, List.set_cons_succ]
      refine till_take (i := 2) (oi := _) (v := ?_) [] rfl (by kernel_rfl) (by kernel_rfl) (by decide) (by kernel_rfl) (by kernel_rfl) (by kernel_rfl) (fun _ _ _ h => h) (Or.inl ⟨by rfl, ?_⟩) (by assumption) ?_
      case refine_2 => intro w hSw; obtain ⟨⟨q7, qrb⟩, ⟨n0, n1, n2, n3, n4, n5, n6⟩, qnb⟩ := HCX.out _ hSw; go_simp; first | done | (with_reducible rfl)
      try simp only [Act.put, List.getElem_toArray, List.getElem_cons_zero, List.getElem_cons_succ, List.setIfInBounds_toArray, List.set_cons_zero, List.set_cons_succ]
      refine till_take (i := 3) (oi := _) (v := ?_) [] rfl (by kernel_rfl) (by kernel_rfl) (by decide) (by kernel_rfl) (by kernel_rfl) (by kernel_rfl) (fun _ _ _ h => h) (Or.inl ⟨by rfl, ?_⟩) (by assumption) ?_
      case refine_2 => intro w hSw; obtain ⟨⟨q7, qrb⟩, ⟨n0, n1, n2, n3, n4, n5, n6⟩, qnb⟩ := HCX.out _ hSw; go_simp; first | done | (with_reducible rfl)
      try simp only [Act.put, List.getElem_toArray, List.getElem_cons_zero, List.getElem_cons_succ, List.setIfInBounds_toArray, List.set_cons_zero, List.set_cons_succ]
      refine till_take (i := 4) (oi := _) (v := ?_) [] rfl (by kernel_rfl) (by kernel_rfl) (by decide) (by kernel_rfl) (by kernel_rfl) (by kernel_rfl) (fun _ _ _ h => h) (Or.inl ⟨by rfl, ?_⟩) (by assumption) ?_
      case refine_2 => intro w hSw; obtain ⟨⟨q7, qrb⟩, ⟨n0, n1, n2, n3, n4, n5, n6⟩, qnb⟩ := HCX.out _ hSw; go_simp; first | done | (with_reducible rfl)
      try simp only [Act.put, List.getElem_toArray, List.getElem_cons_zero, List.getElem_cons_succ, List.setIfInBounds_toArray, List.set_cons_zero, List.set_cons_succ]
      refine till_take (i := 5) (oi := _) (v := ?_) [] rfl (by kernel_rfl) (by kernel_rfl) (by decide) (by kernel_rfl) (by kernel_rfl) (by kernel_rfl) (fun _ _ _ h => h) (Or.inl ⟨by rfl, ?_⟩) (by assumption) ?_
      case refine_2 => intro w hSw; obtain ⟨⟨q7, qrb⟩, ⟨n0, n1, n2, n3, n4, n5, n6⟩, qnb⟩ := HCX.out _ hSw; go_simp; first | done | (with_reducible rfl)
      try simp only [Act.put, List.getElem_toArray, List.getElem_cons_zero, List.getElem_cons_succ, List.setIfInBounds_toArray, List.set_cons_zero, List.set_cons_succ]
      refine till_take (i := 6) (oi := _) (v := ?_) [] rfl (by kernel_rfl) (by kernel_rfl) (by decide) (by kernel_rfl) (by kernel_rfl) (by kernel_rfl) (fun _ _ _ h => h) (Or.inl ⟨by rfl, ?_⟩) (by assumption) ?_
      case refine_2 => intro w hSw; obtain ⟨⟨q7, qrb⟩, ⟨n0, n1, n2, n3, n4, n5, n6⟩, qnb⟩ := HCX.out _ hSw; go_simp; first | done | (with_reducible rfl)
      try simp only [Act.put, List.getElem_toArray, List.getElem_cons_zero, List.getElem_cons_succ, List.setIfInBounds_toArray, List.set_cons_zero, List.set_cons_succ]
      refine till_take (i := 7) (oi := _) (v := ?_) [] rfl (by kernel_rfl) (by kernel_rfl) (by decide) (by kernel_rfl) (by kernel_rfl) (by kernel_rfl) (fun _ _ _ h => h) (Or.inl ⟨by rfl, ?_⟩) (by assumption) ?_
      case refine_2 => intro w hSw; obtain ⟨⟨q7, qrb⟩, ⟨n0, n1, n2, n3, n4, n5, n6⟩, qnb⟩ := HCX.out _ hSw; go_simp; first | done | (with_reducible rfl)
      try simp only [Act.put, List.getElem_toArray, List.getElem_cons_zero, List.getElem_cons_succ, List.setIfInBounds_toArray, List.set_cons_zero, List.set_cons_succ]
      refine till_take (i := 9) (oi := _) (v := ?_) [] rfl (by kernel_rfl) (by kernel_rfl) (by decide) (by kernel_rfl) (by kernel_rfl) (by kernel_rfl) (fun _ _ _ h => h) (Or.inl ⟨by rfl, ?_⟩) (by assumption) ?_
      case refine_2 => intro w hSw; obtain ⟨⟨q7, qrb⟩, ⟨n0, n1, n2, n3, n4, n5, n6⟩, qnb⟩ := HCX.out _ hSw; go_simp; first | done | (with_reducible rfl)
      try simp only [Act.put, List.getElem_toArray, List.getElem_cons_zero, List.getElem_cons_succ, List.setIfInBounds_toArray, List.set_cons_zero, List.set_cons_succ]
      refine till_take (i := 10) (oi := _) (v := ?_) [] rfl (by kernel_rfl) (by kernel_rfl) (by decide) (by kernel_rfl) (by kernel_rfl) (by kernel_rfl) (fun _ _ _ h => h) (Or.inl ⟨by rfl, ?_⟩) (by assumption) ?_
      case refine_2 => intro w hSw; obtain ⟨⟨q7, qrb⟩, ⟨n0, n1, n2, n3, n4, n5, n6⟩, qnb⟩ := HCX.out _ hSw; go_simp; first | done | (with_reducible rfl)
      try simp only [Act.put, List.getElem_toArray, List.getElem_cons_zero, List.getElem_cons_succ, List.setIfInBounds_toArray, List.set_cons_zero, List.set_cons_succ]
      refine till_take (i := 13) (oi := _) (v := ?_) [] rfl (by kernel_rfl) (by kernel_rfl) (by decide) (by kernel_rfl) (by kernel_rfl) (by kernel_rfl) (fun _ _ _ h => h) (Or.inl ⟨by rfl, ?_⟩) (by assumption) ?_
      case refine_2 => intro w hSw; obtain ⟨⟨q7, qrb⟩, ⟨n0, n1, n2, n3, n4, n5, n6⟩, qnb⟩ := HCX.out _ hSw; go_simp; first | done | (with_reducible rfl)
      try simp only [Act.put, List.getElem_toArray, List.getElem_cons_zero, List.getElem_cons_succ, List.setIfInBounds_toArray, List.set_cons_zero, List.set_cons_succ]
      refine till_take (i := 14) (oi := _) (v := ?_) [] rfl (by kernel_rfl) (by kernel_rfl) (by decide) (by kernel_rfl) (by kernel_rfl) (by kernel_rfl) (fun _ _ _ h => h) (Or.inl ⟨by rfl, ?_⟩) (by assumption) ?_
      case refine_2 => intro w hSw; obtain ⟨⟨q7, qrb⟩, ⟨n0, n1, n2, n3, n4, n5, n6⟩, qnb⟩ := HCX.out _ hSw; go_simp; first | done | (with_reducible rfl)
      try simp only [Act.put, List.getElem_toArray, List.getElem_cons_zero, List.getElem_cons_succ, List.setIfInBounds_toArray, List.set_cons_zero, List.set_cons_succ]
      refine till_take (i := 15) (oi := _) (v := ?_) [] rfl (by kernel_rfl) (by kernel_rfl) (by decide) (by kernel_rfl) (by kernel_rfl) (by kernel_rfl) (fun _ _ _ h => h) (Or.inl ⟨by rfl, ?_⟩) (by assumption) ?_
      case refine_2 => intro w hSw; obtain ⟨⟨q7, qrb⟩, ⟨n0, n1, n2, n3, n4, n5, n6⟩, qnb⟩ := HCX.out _ hSw; go_simp; first | done | (with_reducible rfl)
      try simp only [Act.put, List.getElem_toArray, List.getElem_cons_zero, List.getElem_cons_succ, List.setIfInBounds_toArray, List.set_cons_zero, List.set_cons_succ]
      refine till_take (i := 16) (oi := _) (v := ?_) [] rfl (by kernel_rfl) (by kernel_rfl) (by decide) (by kernel_rfl) (by kernel_rfl) (by kernel_rfl) (fun _ _ _ h => h) (Or.inl ⟨by rfl, ?_⟩) (by assumption) ?_
      case refine_2 => intro w hSw; obtain ⟨⟨q7, qrb⟩, ⟨n0, n1, n2, n3, n4, n5, n6⟩, qnb⟩ := HCX.out _ hSw; go_simp; first | done | (with_reducible rfl)
      try simp only [Act.put, List.getElem_toArray, List.getElem_cons_zero, List.getElem_cons_succ, List.setIfInBounds_toArray, List.set_cons_zero, List.set_cons_succ]
      refine till_take (i := 17) (oi := _) (v := ?_) [] rfl (by kernel_rfl) (by kernel_rfl) (by decide) (by kernel_rfl) (by kernel_rfl) (by kernel_rfl) (fun _ _ _ h => h) (Or.inl ⟨by rfl, ?_⟩) (by assumption) ?_
      case refine_2 => intro w hSw; obtain ⟨⟨q7, qrb⟩, ⟨n0, n1, n2, n3, n4, n5, n6⟩, qnb⟩ := HCX.out _ hSw; go_simp; first | done | (with_reducible rfl)
      try simp only [Act.put, List.getElem_toArray, List.getElem_cons_zero, List.getElem_cons_succ, List.setIfInBounds_toArray, List.set_cons_zero, List.set_cons_succ]
      refine till_take (i := 18) (oi := _) (v := ?_) [] rfl (by kernel_rfl) (by kernel_rfl) (by decide) (by kernel_rfl) (by kernel_rfl) (by kernel_rfl) (fun _ _ _ h => h) (Or.inl ⟨by rfl, ?_⟩) (by assumption) ?_
      case refine_2 => intro w hSw; obtain ⟨⟨q7, qrb⟩, ⟨n0, n1, n2, n3, n4, n5, n6⟩, qnb⟩ := HCX.out _ hSw; go_simp; first | done | (with_reducible rfl)
      try simp only [Act.put, List.getElem_toArray, List.getElem_cons_zero, List.getElem_cons_succ, List.setIfInBounds_toArray, List.set_cons_zero, List.set_cons_succ]
      refine till_ready (rs := [1, 11]) (by kernel_rfl) (by simp) ?_
      refine TillReady.cons rfl (fun K hK => ?_) (TillReady.cons rfl (fun K hK => ?_) TillReady.nil)
      · go_simp
        refine hK.out _ _ (HBA.out _ _) (fun hHeld => ?_)
        clear hK K
        try simp only [Act.put, List.getElem_toArray, List.getElem_cons_zero, List.getElem_cons_succ, List.setIfInBounds_toArray, List.set_cons_zero, List.set_cons_succ]
        refine till_ready (rs := [8, 11]) (by kernel_rfl) (by simp) ?_
        refine TillReady.cons rfl (fun K hK => ?_) (TillReady.cons rfl (fun K hK => ?_) TillReady.nil)
        · refine step_appR rfl (.tmp 77) (.tmp 83) rfl (N := V.heap.size) (c0 := 0) (n := 0) (M := []) rfl (OwnR.lit (V.drewN _) (Nat.le_refl _)) rfl (A := none) (m := 0) (c := 0) (M2 := []) rfl (HR1.out _ (HBA.out _ _)) HL1.out HV1.out (by omega) (HBA.out _ _).size ?_
          intro g1 c1 w2 hO2 hg2 hl2
          have hb2 := HSH.out _ _ _ (HBA.out _ _) (by simp) hg2
          have HO2 := Lib.hid hO2; have HB2 := Lib.hid hb2
          clear hO2 hb2 hg2 hl2
          refine hK.out _ _ HB2.out (fun hHeld => ?_)
          clear hK K
          try simp only [Act.put, List.getElem_toArray, List.getElem_cons_zero, List.getElem_cons_succ, List.setIfInBounds_toArray, List.set_cons_zero, List.set_cons_succ]
          refine till_ready (rs := [11]) (by kernel_rfl) (by simp) ?_
          refine TillReady.cons rfl (fun K hK => ?_) TillReady.nil
          go_simp
          refine hK.out _ _ (HB2.out.alloc HB2.out.size _) (fun hHeld => ?_)
          clear hK K
          try simp only [Act.put, List.getElem_toArray, List.getElem_cons_zero, List.getElem_cons_succ, List.setIfInBounds_toArray, List.set_cons_zero, List.set_cons_succ]
          refine till_ready (rs := [12]) (by kernel_rfl) (by simp) ?_
          refine TillReady.cons rfl (fun K hK => ?_) TillReady.nil
          refine step_appR rfl (.tmp 84) (.tmp 87) rfl (N := V.heap.size) (g := g1) (c0 := c1) (n := 0) (M := [] ++ []) rfl (HO2.out.alloc _) HL1.out (m := 1) (c := 1) (M2 := [newR inn tw s p]) rfl (RowR.one (d := newR inn tw s p) (heap_bR _ _) rfl) rfl HV2.out (by omega) (HB2.out.alloc HB2.out.size _).size ?_
          intro g2 c2 w3 hO3 hg3 hl3
          have hb3 := HSH.out _ _ _ (HB2.out.alloc HB2.out.size _) HO2.out.parts.1 hg3
          have HO3 := Lib.hid hO3; have HB3 := Lib.hid hb3
          clear hO3 hb3 hg3 hl3
          refine hK.out _ _ HB3.out (fun hHeld => ?_)
          clear hK K
          try simp only [Act.put, List.getElem_toArray, List.getElem_cons_zero, List.getElem_cons_succ, List.setIfInBounds_toArray, List.set_cons_zero, List.set_cons_succ]
          refine till_ready (rs := [19]) (by kernel_rfl) (by simp) ?_
          refine TillReady.cons rfl (fun K hK => ?_) TillReady.nil
          refine step_appR rfl (.tmp 88) (.tmp 94) rfl (N := V.heap.size) (g := g2) (c0 := c2) (n := 0 + 1) (M := [] ++ [] ++ [newR inn tw s p]) rfl HO3.out HL2.out (m := 0) (c := 0) (M2 := []) rfl (HR1.out _ HB3.out) HL3.out HV3.out (by omega) HB3.out.size ?_
          intro g4 c4 w4 hO4 hg4 hl4
          have hb4 := HSH.out _ _ _ HB3.out HO3.out.parts.1 hg4
          have d4 := (HCX.out _ hb4).1.1; have f4 := (HCF.out _ hb4); have drb := (HCX.out _ hb4).1.2
          have HO4 := Lib.hid hO4; have HB4 := Lib.hid hb4
          clear hO4 hb4 hg4 hl4
          refine hK.out _ _ HB4.out (fun hHeld => ?_)
          clear hK K
          try simp only [Act.put, List.getElem_toArray, List.getElem_cons_zero, List.getElem_cons_succ, List.setIfInBounds_toArray, List.set_cons_zero, List.set_cons_succ]
          refine till_take (i := 20) (oi := _) (v := ?_) [21] rfl (by kernel_rfl) (by kernel_rfl) (by decide) (by kernel_rfl) (by kernel_rfl) (by kernel_rfl) (fun _ _ _ h => h) (Or.inl ⟨by rfl, ?_⟩) (by assumption) ?_
          case refine_2 => intro w hSw; obtain ⟨⟨q7, qrb⟩, ⟨n0, n1, n2, n3, n4, n5, n6⟩, qnb⟩ := HCX.out _ hSw; go_simp; first | done | (with_reducible rfl)
          try simp only [Act.put, List.getElem_toArray, List.getElem_cons_zero, List.getElem_cons_succ, List.setIfInBounds_toArray, List.set_cons_zero, List.set_cons_succ]
          refine till_take (i := 21) (oi := _) (v := ?_) [] rfl (by kernel_rfl) (by kernel_rfl) (by decide) (by kernel_rfl) (by kernel_rfl) (by kernel_rfl) (fun _ _ _ h => h) (Or.inl ⟨by rfl, ?_⟩) (by assumption) ?_
          case refine_2 => intro w hSw; obtain ⟨⟨q7, qrb⟩, ⟨n0, n1, n2, n3, n4, n5, n6⟩, qnb⟩ := HCX.out _ hSw; go_simp; first | done | (with_reducible rfl)
          try simp only [Act.put, List.getElem_toArray, List.getElem_cons_zero, List.getElem_cons_succ, List.setIfInBounds_toArray, List.set_cons_zero, List.set_cons_succ]
          refine till_ready (rs := [22]) (by kernel_rfl) (by simp) ?_
          refine TillReady.past rfl (by kernel_rfl) (fun K hK => ?_) TillReady.nil
          go_simp
          refine hK.out _ _ ?_
          clear hK K
          try simp only [Act.put, List.getElem_toArray, List.getElem_cons_zero, List.getElem_cons_succ, List.setIfInBounds_toArray, List.set_cons_zero, List.set_cons_succ]
          refine till_done (by kernel_rfl) ?_ _
          have HEN := Lib.hid (HEND.out _ _ _ _ HB4.out HO4.out HL4.out)
          clear HO4 HB4 d4 f4
          dsimp only [OnlyN]
          go_wp2
          all_goals
            go_ret
            exact Or.inr ⟨p, 0, HM.out, HP.out, HPL.out, rfl, HEN.out⟩
        · go_simp
          refine hK.out _ _ (HBB.out _ _ _) (fun hHeld => ?_)
          clear hK K
          try simp only [Act.put, List.getElem_toArray, List.getElem_cons_zero, List.getElem_cons_succ, List.setIfInBounds_toArray, List.set_cons_zero, List.set_cons_succ]
          refine till_ready (rs := [8]) (by kernel_rfl) (by simp) ?_
          refine TillReady.cons rfl (fun K hK => ?_) TillReady.nil
          refine step_appR rfl (.tmp 77) (.tmp 83) rfl (N := V.heap.size) (c0 := 0) (n := 0) (M := []) rfl ((OwnR.lit (V.drewN _) (Nat.le_refl _)).alloc _) rfl (A := none) (m := 0) (c := 0) (M2 := []) rfl (HR1.out _ (HBB.out _ _ _)) HL1.out HV1.out (by omega) (HBB.out _ _ _).size ?_
          intro g1 c1 w2 hO2 hg2 hl2
          have hb2 := HSH.out _ _ _ (HBB.out _ _ _) (by simp) hg2
          have HX := Lib.hid (one_keptR (d := newR inn tw s p) (gx := V.heap.size + 1) (heap_dR V _ _ _) rfl hg2 (by simp))
          have HO2 := Lib.hid hO2; have HB2 := Lib.hid hb2
          clear hO2 hb2 hg2 hl2
          refine hK.out _ _ HB2.out (fun hHeld => ?_)
          clear hK K
          try simp only [Act.put, List.getElem_toArray, List.getElem_cons_zero, List.getElem_cons_succ, List.setIfInBounds_toArray, List.set_cons_zero, List.set_cons_succ]
          refine till_ready (rs := [12]) (by kernel_rfl) (by simp) ?_
          refine TillReady.cons rfl (fun K hK => ?_) TillReady.nil
          refine step_appR rfl (.tmp 84) (.tmp 87) rfl (N := V.heap.size) (g := g1) (c0 := c1) (n := 0 + 0) (M := [] ++ []) rfl HO2.out (HL1.out.trans (Nat.zero_add _).symm) (m := 1) (c := 1) (M2 := [newR inn tw s p]) rfl HX.out rfl HV2.out (by omega) HB2.out.size ?_
          intro g2 c2 w3 hO3 hg3 hl3
          have hb3 := HSH.out _ _ _ HB2.out HO2.out.parts.1 hg3
          have HO3 := Lib.hid hO3; have HB3 := Lib.hid hb3
          clear hO3 hb3 hg3 hl3
          refine hK.out _ _ HB3.out (fun hHeld => ?_)
          clear hK K
          try simp only [Act.put, List.getElem_toArray, List.getElem_cons_zero, List.getElem_cons_succ, List.setIfInBounds_toArray, List.set_cons_zero, List.set_cons_succ]
          refine till_ready (rs := [19]) (by kernel_rfl) (by simp) ?_
          refine TillReady.cons rfl (fun K hK => ?_) TillReady.nil
          refine step_appR rfl (.tmp 88) (.tmp 94) rfl (N := V.heap.size) (g := g2) (c0 := c2) (n := 0 + 0 + 1) (M := [] ++ [] ++ [newR inn tw s p]) rfl HO3.out (HL2.out.trans (by omega)) (m := 0) (c := 0) (M2 := []) rfl (HR1.out _ HB3.out) HL3.out HV3.out (by omega) HB3.out.size ?_
          intro g4 c4 w4 hO4 hg4 hl4
          have hb4 := HSH.out _ _ _ HB3.out HO3.out.parts.1 hg4
          have d4 := (HCX.out _ hb4).1.1; have f4 := (HCF.out _ hb4); have drb := (HCX.out _ hb4).1.2
          have HO4 := Lib.hid hO4; have HB4 := Lib.hid hb4
          clear hO4 hb4 hg4 hl4
          refine hK.out _ _ HB4.out (fun hHeld => ?_)
          clear hK K
          try simp only [Act.put, List.getElem_toArray, List.getElem_cons_zero, List.getElem_cons_succ, List.setIfInBounds_toArray, List.set_cons_zero, List.set_cons_succ]
          refine till_take (i := 20) (oi := _) (v := ?_) [21] rfl (by kernel_rfl) (by kernel_rfl) (by decide) (by kernel_rfl) (by kernel_rfl) (by kernel_rfl) (fun _ _ _ h => h) (Or.inl ⟨by rfl, ?_⟩) (by assumption) ?_
          case refine_2 => intro w hSw; obtain ⟨⟨q7, qrb⟩, ⟨n0, n1, n2, n3, n4, n5, n6⟩, qnb⟩ := HCX.out _ hSw; go_simp; first | done | (with_reducible rfl)
          try simp only [Act.put, List.getElem_toArray, List.getElem_cons_zero, List.getElem_cons_succ, List.setIfInBounds_toArray, List.set_cons_zero, List.set_cons_succ]
          refine till_take (i := 21) (oi := _) (v := ?_) [] rfl (by kernel_rfl) (by kernel_rfl) (by decide) (by kernel_rfl) (by kernel_rfl) (by kernel_rfl) (fun _ _ _ h => h) (Or.inl ⟨by rfl, ?_⟩) (by assumption) ?_
          case refine_2 => intro w hSw; obtain ⟨⟨q7, qrb⟩, ⟨n0, n1, n2, n3, n4, n5, n6⟩, qnb⟩ := HCX.out _ hSw; go_simp; first | done | (with_reducible rfl)
          try simp only [Act.put, List.getElem_toArray, List.getElem_cons_zero, List.getElem_cons_succ, List.setIfInBounds_toArray, List.set_cons_zero, List.set_cons_succ]
          refine till_ready (rs := [22]) (by kernel_rfl) (by simp) ?_
          refine TillReady.past rfl (by kernel_rfl) (fun K hK => ?_) TillReady.nil
          go_simp
          refine hK.out _ _ ?_
          clear hK K
          try simp only [Act.put, List.getElem_toArray, List.getElem_cons_zero, List.getElem_cons_succ, List.setIfInBounds_toArray, List.set_cons_zero, List.set_cons_succ]
          refine till_done (by kernel_rfl) ?_ _
          have HEN := Lib.hid (HEND.out _ _ _ _ HB4.out HO4.out HL4.out)
          clear HO4 HB4 d4 f4
          dsimp only [OnlyN]
          go_wp2
          all_goals
            go_ret
            exact Or.inr ⟨p, 0, HM.out, HP.out, HPL.out, rfl, HEN.out⟩
      · go_simp
        refine hK.out _ _ (HBA.out _ _) (fun hHeld => ?_)
        clear hK K
        try simp only [Act.put, List.getElem_toArray, List.getElem_cons_zero, List.getElem_cons_succ, List.setIfInBounds_toArray, List.set_cons_zero, List.set_cons_succ]
        refine till_ready (rs := [1]) (by kernel_rfl) (by simp) ?_
        refine TillReady.cons rfl (fun K hK => ?_) TillReady.nil
        go_simp
        refine hK.out _ _ (HBB.out _ _ _) (fun hHeld => ?_)
        clear hK K
        try simp only [Act.put, List.getElem_toArray, List.getElem_cons_zero, List.getElem_cons_succ, List.setIfInBounds_toArray, List.set_cons_zero, List.set_cons_succ]
        refine till_ready (rs := [8]) (by kernel_rfl) (by simp) ?_
        refine TillReady.cons rfl (fun K hK => ?_) TillReady.nil
        refine step_appR rfl (.tmp 77) (.tmp 83) rfl (N := V.heap.size) (c0 := 0) (n := 0) (M := []) rfl (own_eR V _ _) rfl (A := none) (m := 0) (c := 0) (M2 := []) rfl (HR1.out _ (HBB.out _ _ _)) HL1.out HV1.out (by omega) (HBB.out _ _ _).size ?_
        intro g1 c1 w2 hO2 hg2 hl2
        have hb2 := HSH.out _ _ _ (HBB.out _ _ _) (by simp) hg2
        have HX := Lib.hid (one_keptR (d := newR inn tw s p) (gx := V.heap.size) (heap_eR V _ _ _) rfl hg2 (by simp))
        have HO2 := Lib.hid hO2; have HB2 := Lib.hid hb2
        clear hO2 hb2 hg2 hl2
        refine hK.out _ _ HB2.out (fun hHeld => ?_)
        clear hK K
        try simp only [Act.put, List.getElem_toArray, List.getElem_cons_zero, List.getElem_cons_succ, List.setIfInBounds_toArray, List.set_cons_zero, List.set_cons_succ]
        refine till_ready (rs := [12]) (by kernel_rfl) (by simp) ?_
        refine TillReady.cons rfl (fun K hK => ?_) TillReady.nil
        refine step_appR rfl (.tmp 84) (.tmp 87) rfl (N := V.heap.size) (g := g1) (c0 := c1) (n := 0 + 0) (M := [] ++ []) rfl HO2.out (HL1.out.trans (Nat.zero_add _).symm) (m := 1) (c := 1) (M2 := [newR inn tw s p]) rfl HX.out rfl HV2.out (by omega) HB2.out.size ?_
        intro g2 c2 w3 hO3 hg3 hl3
        have hb3 := HSH.out _ _ _ HB2.out HO2.out.parts.1 hg3
        have HO3 := Lib.hid hO3; have HB3 := Lib.hid hb3
        clear hO3 hb3 hg3 hl3
        refine hK.out _ _ HB3.out (fun hHeld => ?_)
        clear hK K
        try simp only [Act.put, List.getElem_toArray, List.getElem_cons_zero, List.getElem_cons_succ, List.setIfInBounds_toArray, List.set_cons_zero, List.set_cons_succ]
        refine till_ready (rs := [19]) (by kernel_rfl) (by simp) ?_
        refine TillReady.cons rfl (fun K hK => ?_) TillReady.nil
        refine step_appR rfl (.tmp 88) (.tmp 94) rfl (N := V.heap.size) (g := g2) (c0 := c2) (n := 0 + 0 + 1) (M := [] ++ [] ++ [newR inn tw s p]) rfl HO3.out (HL2.out.trans (by omega)) (m := 0) (c := 0) (M2 := []) rfl (HR1.out _ HB3.out) HL3.out HV3.out (by omega) HB3.out.size ?_
        intro g4 c4 w4 hO4 hg4 hl4
        have hb4 := HSH.out _ _ _ HB3.out HO3.out.parts.1 hg4
        have d4 := (HCX.out _ hb4).1.1; have f4 := (HCF.out _ hb4); have drb := (HCX.out _ hb4).1.2
        have HO4 := Lib.hid hO4; have HB4 := Lib.hid hb4
        clear hO4 hb4 hg4 hl4
        refine hK.out _ _ HB4.out (fun hHeld => ?_)
        clear hK K
        try simp only [Act.put, List.getElem_toArray, List.getElem_cons_zero, List.getElem_cons_succ, List.setIfInBounds_toArray, List.set_cons_zero, List.set_cons_succ]
        refine till_take (i := 20) (oi := _) (v := ?_) [21] rfl (by kernel_rfl) (by kernel_rfl) (by decide) (by kernel_rfl) (by kernel_rfl) (by kernel_rfl) (fun _ _ _ h => h) (Or.inl ⟨by rfl, ?_⟩) (by assumption) ?_
        case refine_2 => intro w hSw; obtain ⟨⟨q7, qrb⟩, ⟨n0, n1, n2, n3, n4, n5, n6⟩, qnb⟩ := HCX.out _ hSw; go_simp; first | done | (with_reducible rfl)
        try simp only [Act.put, List.getElem_toArray, List.getElem_cons_zero, List.getElem_cons_succ, List.setIfInBounds_toArray, List.set_cons_zero, List.set_cons_succ]
        refine till_take (i := 21) (oi := _) (v := ?_) [] rfl (by kernel_rfl) (by kernel_rfl) (by decide) (by kernel_rfl) (by kernel_rfl) (by kernel_rfl) (fun _ _ _ h => h) (Or.inl ⟨by rfl, ?_⟩) (by assumption) ?_
        case refine_2 => intro w hSw; obtain ⟨⟨q7, qrb⟩, ⟨n0, n1, n2, n3, n4, n5, n6⟩, qnb⟩ := HCX.out _ hSw; go_simp; first | done | (with_reducible rfl)
        try simp only [Act.put, List.getElem_toArray, List.getElem_cons_zero, List.getElem_cons_succ, List.setIfInBounds_toArray, List.set_cons_zero, List.set_cons_succ]
        refine till_ready (rs := [22]) (by kernel_rfl) (by simp) ?_
        refine TillReady.past rfl (by kernel_rfl) (fun K hK => ?_) TillReady.nil
        go_simp
        refine hK.out _ _ ?_
        clear hK K
        try simp only [Act.put, List.getElem_toArray, List.getElem_cons_zero, List.getElem_cons_succ, List.setIfInBounds_toArray, List.set_cons_zero, List.set_cons_succ]
        refine till_done (by kernel_rfl) ?_ _
        have HEN := Lib.hid (HEND.out _ _ _ _ HB4.out HO4.out HL4.out)
        clear HO4 HB4 d4 f4
        dsimp only [OnlyN]
        go_wp2
        all_goals
          go_ret
          exact Or.inr ⟨p, 0, HM.out, HP.out, HPL.out, rfl, HEN.out⟩
    | false =>
      have HW := Lib.hid hf
      clear hf
      go_wp2_with fail
      refine (HF1.out _ wish).mono ?_
      rintro e w' ⟨rfl, rfl⟩
      rw [HW.out]
      go_wp2_with fail
      go_loopw [7] (fun i wr => ∃ (p : Int) (q : Nat), i = .int .i64 p ∧ wr = W1.drewN q ∧ x.lo ≤ p ∧ (p ≤ x.hi + 1 ∨ p = x.lo) ∧ Hid (∀ q, x.lo ≤ q → q < p → freeR x (([] : List Rb).map Rb.b) q = false)) (fun i _ => (x.hi + 1 - intOf i).toNat)
      case atStart => exact ⟨x.lo, _, rfl, rfl, by omega, .inr rfl, Lib.hid (fun q h1 h2 => by omega)⟩
      case round =>
        obtain ⟨p, nq, rfl, rfl, hlp, hph, HNO⟩ := hrel
        by_cases hp : p ≤ x.hi
        · have t2 : decide (x.hi < p) = false := decide_eq_false (by omega)
          go_wp2_with fail
          refine (HF1.out _ p).mono ?_
          rintro e w' ⟨rfl, rfl⟩
          cases hfp : freeR x (([] : List Rb).map Rb.b) p with
          | true =>
            have HP : Hid (PortR x (([] : List Rb).map Rb.b) wish p) := Lib.hid ⟨hfp, .inr ⟨HW.out, HNO.out⟩⟩
            have HFW := Lib.hid hfp
            clear hfp HNO
            obtain ⟨V, hV⟩ : ∃ V, (W1.drewN nq).setCell ⟨w.heap.size, 4, none⟩ (.int .i64 p) = V := ⟨_, rfl⟩
            have HBV : Hid (Below w.heap.size w V) := Lib.hid (by rw [← hV]; exact (below_drw HB1.out nq).setCell (p := ⟨w.heap.size, 4, none⟩) (Nat.le_refl _) _)
            have HNV : Hid (V.heap[w.heap.size]? = some (.cells #[.int .u32 inn.1, .int .i64 inn.2, .int .u32 tw.1, .int .i64 tw.2, .int .i64 p, .int .i64 0, .bool s] 54 (0, 0))) := Lib.hid (by rw [← hV, set_top (w := W1.drewN nq) (C := #[.int .u32 inn.1, .int .i64 inn.2, .int .u32 tw.1, .int .i64 tw.2, .int .i64 0, .int .i64 0, .bool s]) HNEW.out]; simp)
            have e4 : W1.cell? ⟨w.heap.size, 4, none⟩ = some (.int .i64 0) := (cells_of HNEW.out 4).1
            have f4 : W1.frozen? ⟨w.heap.size, 4, none⟩ = false := (cells_of HNEW.out 4).2
            have l4 : w.heap.size < W1.heap.size := (Array.getElem?_eq_some_iff.1 HNEW.out).1
            have HBX : Hid (∀ W, Below V.heap.size V W → Below w.heap.size w W) := Lib.hid (fun W h => HBV.out.trans (h.mono HBV.out.size))
            have HCX : Hid (∀ W, Below V.heap.size V W → (W.cell? ⟨rb, 7, none⟩ = some (.slice none 0 0) ∧ rb < W.heap.size) ∧ (W.cell? ⟨w.heap.size, 0, none⟩ = some (.int .u32 inn.1) ∧ W.cell? ⟨w.heap.size, 1, none⟩ = some (.int .i64 inn.2) ∧ W.cell? ⟨w.heap.size, 2, none⟩ = some (.int .u32 tw.1) ∧ W.cell? ⟨w.heap.size, 3, none⟩ = some (.int .i64 tw.2) ∧ W.cell? ⟨w.heap.size, 4, none⟩ = some (.int .i64 p) ∧ W.cell? ⟨w.heap.size, 5, none⟩ = some (.int .i64 0) ∧ W.cell? ⟨w.heap.size, 6, none⟩ = some (.bool s)) ∧ w.heap.size < W.heap.size) := Lib.hid (fun W h => by
              have h1 := HC.out _ (HBX.out _ h)
              have h2 : W.heap[w.heap.size]? = _ := (h.block _ (Array.getElem?_eq_some_iff.1 HNV.out).1).trans HNV.out
              exact ⟨⟨h1.1.2.2.2, h1.2.2⟩, ⟨(cells_of h2 0).1, (cells_of h2 1).1, (cells_of h2 2).1, (cells_of h2 3).1, (cells_of h2 4).1, (cells_of h2 5).1, (cells_of h2 6).1⟩, (Array.getElem?_eq_some_iff.1 h2).1⟩)
            have HCF : Hid (∀ W, Below V.heap.size V W → W.frozen? ⟨rb, 7, none⟩ = false) := Lib.hid (fun W h => (HC.out _ (HBX.out _ h)).2.1)
            have HSTV : Hid (RStep w0 V rb x v0 L0 now' []) := Lib.hid (HST2.out _ HBV.out)
            have HSH : Hid (∀ (W W' : World) (g : Nat), Below V.heap.size V W → V.heap.size ≤ g → W.grownBy W' (some g) → Below V.heap.size V W') := Lib.hid (fun W W' g h1 h2 h3 => below_appR h1 h3 h2 h1.size)
            have HBA : Hid (∀ q o, Below V.heap.size V ((V.drewN q).alloc o)) := Lib.hid (fun q o => (below_drw (Below.refl _ V) q).alloc (Nat.le_refl _) _)
            have HBB : Hid (∀ q o o2, Below V.heap.size V (((V.drewN q).alloc o).alloc o2)) := Lib.hid (fun q o o2 => (HBA.out q o).alloc (HBA.out q o).size _)
            have HV2 : Hid (∀ d ∈ [newR inn tw s p], d.sv.oneCell' = true) := Lib.hid (fun d hd => by rw [List.mem_singleton.1 hd]; rfl)
            have HROWV : Hid (∀ W, Below V.heap.size V W → RowR W none [] 0) := Lib.hid (fun W h => HROW.out.below (HBX.out _ h))
            obtain ⟨⟨d7, drb⟩, ⟨y0, y1, y2, y3, y4, y5, y6⟩, dnb⟩ := HCX.out V (Below.refl _ _)
            have HEND : Hid (∀ (W : World) (g c n : Nat), Below V.heap.size V W → OwnR V.heap.size W g c ([] ++ [] ++ [newR inn tw s p] ++ []) → ([] ++ [] ++ [newR inn tw s p] ++ [] : List Rb).length = n → RStep w0 (W.setCell ⟨rb, 7, none⟩ (.slice (some ⟨g, 0, none⟩) n c)) rb x v0 L0 now' (insR [] 0 (newR inn tw s p))) := Lib.hid (fun W g c n h1 h2 h3 => rrow_end (now := now') (v1 := v0) HSTV.out (fun d hd => by
              right
              rw [List.nil_append, List.nil_append, List.append_nil, List.mem_singleton] at hd
              rw [hd]
              exact ⟨rfl, rfl⟩) h1 h2 h3 (by simp [insR]))
            have HPL : Hid (PlaceR [] p 0) := Lib.hid (PlaceR.zero rfl)
            have HL1 : Hid (([] : List Rb).length = 0) := Lib.hid rfl
            have HL2 : Hid (([] ++ [] ++ [newR inn tw s p]).length = 0 + 1) := Lib.hid rfl
            have HL3 : Hid (([] : List Rb).length = 0) := Lib.hid rfl
            have HL4 : Hid (([] ++ [] ++ [newR inn tw s p] ++ []).length = 1) := Lib.hid rfl
            have HV1 : Hid (∀ d ∈ ([] : List Rb), d.sv.oneCell' = true) := Lib.hid (fun d hd => by simp at hd)
            have HV3 : Hid (∀ d ∈ ([] : List Rb), d.sv.oneCell' = true) := Lib.hid (fun d hd => by simp at hd)
            have HR1 : Hid (∀ W, Below V.heap.size V W → RowR W none [] 0) := Lib.hid (fun W hW => .inl ⟨rfl, rfl, rfl⟩)
            go_wp2_with fail
            try rw [hV]
            clear hV e4 f4 l4
            refine wp_loop_rounds 1 ?_
            rw [rounds_succ]
            go_upto_region 14 with (fail)
            refine Code.wp_mono (Q := OnlyN _) OnlyN.all ?_
            refine wp_region_till (S := fun W => Below V.heap.size V W) (z := 22) (by kernel_rfl) (below_drw (Below.refl _ V) 1) (fun hHeld => ?_)
            refine till_take (i := 0) (oi := _) (v := ?_) [] rfl (by kernel_rfl) (by kernel_rfl) (by decide) (by kernel_rfl) (by kernel_rfl) (by kernel_rfl) (fun _ _ _ h => h) (Or.inl ⟨by rfl, ?_⟩) (by assumption) ?_
            case refine_2 => intro w hSw; obtain ⟨⟨q7, qrb⟩, ⟨n0, n1, n2, n3, n4, n5, n6⟩, qnb⟩ := HCX.out _ hSw; go_simp; first | done | (with_reducible rfl)
            try simp only [Act.put, List.getElem_toArray, List.getElem_cons_zero, List.setIfInBounds_toArray, List.set_cons_zero, List.set_cons_succ]
            refine till_take (i := 2) (oi := _) (v := ?_) [] rfl (by kernel_rfl) (by kernel_rfl) (by decide) (by kernel_rfl) (by kernel_rfl) (by kernel_rfl) (fun _ _ _ h => h) (Or.inl ⟨by rfl, ?_⟩) (by assumption) ?_
            case refine_2 => intro w hSw; obtain ⟨⟨q7, qrb⟩, ⟨n0, n1, n2, n3, n4, n5, n6⟩, qnb⟩ := HCX.out _ hSw; go_simp; first | done | (with_reducible rfl)
            try simp only [Act.put, List.getElem_toArray, List.getElem_cons_zero, List.getElem_cons_succ, List.setIfInBounds_toArray, List.set_cons_zero, List.set_cons_succ]
            refine till_take (i := 3) (oi := _) (v := ?_) [] rfl (by kernel_rfl) (by kernel_rfl) (by decide) (by kernel_rfl) (by kernel_rfl) (by kernel_rfl) (fun _ _ _ h => h) (Or.inl ⟨by rfl, ?_⟩) (by assumption) ?_
            case refine_2 => intro w hSw; obtain ⟨⟨q7, qrb⟩, ⟨n0, n1, n2, n3, n4, n5, n6⟩, qnb⟩ := HCX.out _ hSw; go_simp; first | done | (with_reducible rfl)
            try simp only [Act.put, List.getElem_toArray, List.getElem_cons_zero, List.getElem_cons_succ, List.setIfInBounds_toArray, List.set_cons_zero, List.set_cons_succ]
            refine till_take (i := 4) (oi := _) (v := ?_) [] rfl (by kernel_rfl) (by kernel_rfl) (by decide) (by kernel_rfl) (by kernel_rfl) (by kernel_rfl) (fun _ _ _ h => h) (Or.inl ⟨by rfl, ?_⟩) (by assumption) ?_
            case refine_2 => intro w hSw; obtain ⟨⟨q7, qrb⟩, ⟨n0, n1, n2, n3, n4, n5, n6⟩, qnb⟩ := HCX.out _ hSw; go_simp; first | done | (with_reducible rfl)
            try simp only [Act.put, List.getElem_toArray, List.getElem_cons_zero, List.getElem_cons_succ, List.setIfInBounds_toArray, List.set_cons_zero, List.set_cons_succ]
            refine till_take (i := 5) (oi := _) (v := ?_) [] rfl (by kernel_rfl) (by kernel_rfl) (by decide) (by kernel_rfl) (by kernel_rfl) (by kernel_rfl) (fun _ _ _ h => h) (Or.inl ⟨by rfl, ?_⟩) (by assumption) ?_
            case refine_2 => intro w hSw; obtain ⟨⟨q7, qrb⟩, ⟨n0, n1, n2, n3, n4, n5, n6⟩, qnb⟩ := HCX.out _ hSw; go_simp; first | done | (with_reducible rfl)
            try simp only [Act.put, List.getElem_toArray, List.getElem_cons_zero, List.getElem_cons_succ, List.setIfInBounds_toArray, List.set_cons_zero, List.set_cons_succ]
            refine till_take (i := 6) (oi := _) (v := ?_) [] rfl (by kernel_rfl) (by kernel_rfl) (by decide) (by kernel_rfl) (by kernel_rfl) (by kernel_rfl) (fun _ _ _ h => h) (Or.inl ⟨by rfl, ?_⟩) (by assumption) ?_
            case refine_2 => intro w hSw; obtain ⟨⟨q7, qrb⟩, ⟨n0, n1, n2, n3, n4, n5, n6⟩, qnb⟩ := HCX.out _ hSw; go_simp; first | done | (with_reducible rfl)
            try simp only [Act.put, List.getElem_toArray, List.getElem_cons_zero, List.getElem_cons_succ, List.setIfInBounds_toArray, List.set_cons_zero, List.set_cons_succ]
            refine till_take (i := 7) (oi := _) (v := ?_) [] rfl (by kernel_rfl) (by kernel_rfl) (by decide) (by kernel_rfl) (by kernel_rfl) (by kernel_rfl) (fun _ _ _ h => h) (Or.inl ⟨by rfl, ?_⟩) (by assumption) ?_
            case refine_2 => intro w hSw; obtain ⟨⟨q7, qrb⟩, ⟨n0, n1, n2, n3, n4, n5, n6⟩, qnb⟩ := HCX.out _ hSw; go_simp; first | done | (with_reducible rfl)
            try simp only [Act.put, List.getElem_toArray, List.getElem_cons_zero, List.getElem_cons_succ, List.setIfInBounds_toArray, List.set_cons_zero, List.set_cons_succ]
            refine till_take (i := 9) (oi := _) (v := ?_) [] rfl (by kernel_rfl) (by kernel_rfl) (by decide) (by kernel_rfl) (by kernel_rfl) (by kernel_rfl) (fun _ _ _ h => h) (Or.inl ⟨by rfl, ?_⟩) (by assumption) ?_
            case refine_2 => intro w hSw; obtain ⟨⟨q7, qrb⟩, ⟨n0, n1, n2, n3, n4, n5, n6⟩, qnb⟩ := HCX.out _ hSw; go_simp; first | done | (with_reducible rfl)
            try simp only [Act.put, List.getElem_toArray, List.getElem_cons_zero, List.getElem_cons_succ, List.setIfInBounds_toArray, List.set_cons_zero, List.set_cons_succ]
            refine till_take (i := 10) (oi := _) (v := ?_) [] rfl (by kernel_rfl) (by kernel_rfl) (by decide) (by kernel_rfl) (by kernel_rfl) (by kernel_rfl) (fun _ _ _ h => h) (Or.inl ⟨by rfl, ?_⟩) (by assumption) ?_
            case refine_2 => intro w hSw; obtain ⟨⟨q7, qrb⟩, ⟨n0, n1, n2, n3, n4, n5, n6⟩, qnb⟩ := HCX.out _ hSw; go_simp; first | done | (with_reducible rfl)
            try simp only [Act.put, List.getElem_toArray, List.getElem_cons_zero, List.getElem_cons_succ, List.setIfInBounds_toArray, List.set_cons_zero, List.set_cons_succ]
            refine till_take (i := 13) (oi := _) (v := ?_) [] rfl (by kernel_rfl) (by kernel_rfl) (by decide) (by kernel_rfl) (by kernel_rfl) (by kernel_rfl) (fun _ _ _ h => h) (Or.inl ⟨by rfl, ?_⟩) (by assumption) ?_
            case refine_2 => intro w hSw; obtain ⟨⟨q7, qrb⟩, ⟨n0, n1, n2, n3, n4, n5, n6⟩, qnb⟩ := HCX.out _ hSw; go_simp; first | done | (with_reducible rfl)
            try simp only [Act.put, List.getElem_toArray, List.getElem_cons_zero, List.getElem_cons_succ, List.setIfInBounds_toArray, List.set_cons_zero, List.set_cons_succ]
            refine till_take (i := 14) (oi := _) (v := ?_) [] rfl (by kernel_rfl) (by kernel_rfl) (by decide) (by kernel_rfl) (by kernel_rfl) (by kernel_rfl) (fun _ _ _ h => h) (Or.inl ⟨by rfl, ?_⟩) (by assumption) ?_
            case refine_2 => intro w hSw; obtain ⟨⟨q7, qrb⟩, ⟨n0, n1, n2, n3, n4, n5, n6⟩, qnb⟩ := HCX.out _ hSw; go_simp; first | done | (with_reducible rfl)
            try simp only [Act.put, List.getElem_toArray, List.getElem_cons_zero, List.getElem_cons_succ, List.setIfInBounds_toArray, List.set_cons_zero, List.set_cons_succ]
            refine till_take (i := 15) (oi := _) (v := ?_) [] rfl (by kernel_rfl) (by kernel_rfl) (by decide) (by kernel_rfl) (by kernel_rfl) (by kernel_rfl) (fun _ _ _ h => h) (Or.inl ⟨by rfl, ?_⟩) (by assumption) ?_
            case refine_2 => intro w hSw; obtain ⟨⟨q7, qrb⟩, ⟨n0, n1, n2, n3, n4, n5, n6⟩, qnb⟩ := HCX.out _ hSw; go_simp; first | done | (with_reducible rfl)
            try simp only [Act.put, List.getElem_toArray, List.getElem_cons_zero, List.getElem_cons_succ, List.setIfInBounds_toArray, List.set_cons_zero, List.set_cons_succ]
            refine till_take (i := 16) (oi := _) (v := ?_) [] rfl (by kernel_rfl) (by kernel_rfl) (by decide) (by kernel_rfl) (by kernel_rfl) (by kernel_rfl) (fun _ _ _ h => h) (Or.inl ⟨by rfl, ?_⟩) (by assumption) ?_
            case refine_2 => intro w hSw; obtain ⟨⟨q7, qrb⟩, ⟨n0, n1, n2, n3, n4, n5, n6⟩, qnb⟩ := HCX.out _ hSw; go_simp; first | done | (with_reducible rfl)
            try simp only [Act.put, List.getElem_toArray, List.getElem_cons_zero, List.getElem_cons_succ, List.setIfInBounds_toArray, List.set_cons_zero, List.set_cons_succ]
            refine till_take (i := 17) (oi := _) (v := ?_) [] rfl (by kernel_rfl) (by kernel_rfl) (by decide) (by kernel_rfl) (by kernel_rfl) (by kernel_rfl) (fun _ _ _ h => h) (Or.inl ⟨by rfl, ?_⟩) (by assumption) ?_
            case refine_2 => intro w hSw; obtain ⟨⟨q7, qrb⟩, ⟨n0, n1, n2, n3, n4, n5, n6⟩, qnb⟩ := HCX.out _ hSw; go_simp; first | done | (with_reducible rfl)
            try simp only [Act.put, List.getElem_toArray, List.getElem_cons_zero, List.getElem_cons_succ, List.setIfInBounds_toArray, List.set_cons_zero, List.set_cons_succ]
            refine till_take (i := 18) (oi := _) (v := ?_) [] rfl (by kernel_rfl) (by kernel_rfl) (by decide) (by kernel_rfl) (by kernel_rfl) (by kernel_rfl) (fun _ _ _ h => h) (Or.inl ⟨by rfl, ?_⟩) (by assumption) ?_
            case refine_2 => intro w hSw; obtain ⟨⟨q7, qrb⟩, ⟨n0, n1, n2, n3, n4, n5, n6⟩, qnb⟩ := HCX.out _ hSw; go_simp; first | done | (with_reducible rfl)
            try simp only [Act.put, List.getElem_toArray, List.getElem_cons_zero, List.getElem_cons_succ, List.setIfInBounds_toArray, List.set_cons_zero, List.set_cons_succ]
            refine till_ready (rs := [1, 11]) (by kernel_rfl) (by simp) ?_
            refine TillReady.cons rfl (fun K hK => ?_) (TillReady.cons rfl (fun K hK => ?_) TillReady.nil)
            · go_simp
              refine hK.out _ _ (HBA.out _ _) (fun hHeld => ?_)
              clear hK K
              try simp only [Act.put, List.getElem_toArray, List.getElem_cons_zero, List.getElem_cons_succ, List.setIfInBounds_toArray, List.set_cons_zero, List.set_cons_succ]
              refine till_ready (rs := [8, 11]) (by kernel_rfl) (by simp) ?_
              refine TillReady.cons rfl (fun K hK => ?_) (TillReady.cons rfl (fun K hK => ?_) TillReady.nil)
              · refine step_appR rfl (.tmp 77) (.tmp 83) rfl (N := V.heap.size) (c0 := 0) (n := 0) (M := []) rfl (OwnR.lit (V.drewN _) (Nat.le_refl _)) rfl (A := none) (m := 0) (c := 0) (M2 := []) rfl (HR1.out _ (HBA.out _ _)) HL1.out HV1.out (by omega) (HBA.out _ _).size ?_
                intro g1 c1 w2 hO2 hg2 hl2
                have hb2 := HSH.out _ _ _ (HBA.out _ _) (by simp) hg2
                have HO2 := Lib.hid hO2; have HB2 := Lib.hid hb2
                clear hO2 hb2 hg2 hl2
                refine hK.out _ _ HB2.out (fun hHeld => ?_)
                clear hK K
                try simp only [Act.put, List.getElem_toArray, List.getElem_cons_zero, List.getElem_cons_succ, List.setIfInBounds_toArray, List.set_cons_zero, List.set_cons_succ]
                refine till_ready (rs := [11]) (by kernel_rfl) (by simp) ?_
                refine TillReady.cons rfl (fun K hK => ?_) TillReady.nil
                go_simp
                refine hK.out _ _ (HB2.out.alloc HB2.out.size _) (fun hHeld => ?_)
                clear hK K
                try simp only [Act.put, List.getElem_toArray, List.getElem_cons_zero, List.getElem_cons_succ, List.setIfInBounds_toArray, List.set_cons_zero, List.set_cons_succ]
                refine till_ready (rs := [12]) (by kernel_rfl) (by simp) ?_
                refine TillReady.cons rfl (fun K hK => ?_) TillReady.nil
                refine step_appR rfl (.tmp 84) (.tmp 87) rfl (N := V.heap.size) (g := g1) (c0 := c1) (n := 0) (M := [] ++ []) rfl (HO2.out.alloc _) HL1.out (m := 1) (c := 1) (M2 := [newR inn tw s p]) rfl (RowR.one (d := newR inn tw s p) (heap_bR _ _) rfl) rfl HV2.out (by omega) (HB2.out.alloc HB2.out.size _).size ?_
                intro g2 c2 w3 hO3 hg3 hl3
                have hb3 := HSH.out _ _ _ (HB2.out.alloc HB2.out.size _) HO2.out.parts.1 hg3
                have HO3 := Lib.hid hO3; have HB3 := Lib.hid hb3
                clear hO3 hb3 hg3 hl3
                refine hK.out _ _ HB3.out (fun hHeld => ?_)
                clear hK K
                try simp only [Act.put, List.getElem_toArray, List.getElem_cons_zero, List.getElem_cons_succ, List.setIfInBounds_toArray, List.set_cons_zero, List.set_cons_succ]
                refine till_ready (rs := [19]) (by kernel_rfl) (by simp) ?_
                refine TillReady.cons rfl (fun K hK => ?_) TillReady.nil
                refine step_appR rfl (.tmp 88) (.tmp 94) rfl (N := V.heap.size) (g := g2) (c0 := c2) (n := 0 + 1) (M := [] ++ [] ++ [newR inn tw s p]) rfl HO3.out HL2.out (m := 0) (c := 0) (M2 := []) rfl (HR1.out _ HB3.out) HL3.out HV3.out (by omega) HB3.out.size ?_
                intro g4 c4 w4 hO4 hg4 hl4
                have hb4 := HSH.out _ _ _ HB3.out HO3.out.parts.1 hg4
                have d4 := (HCX.out _ hb4).1.1; have f4 := (HCF.out _ hb4); have drb := (HCX.out _ hb4).1.2
                have HO4 := Lib.hid hO4; have HB4 := Lib.hid hb4
                clear hO4 hb4 hg4 hl4
                refine hK.out _ _ HB4.out (fun hHeld => ?_)
                clear hK K
                try simp only [Act.put, List.getElem_toArray, List.getElem_cons_zero, List.getElem_cons_succ, List.setIfInBounds_toArray, List.set_cons_zero, List.set_cons_succ]
                refine till_take (i := 20) (oi := _) (v := ?_) [21] rfl (by kernel_rfl) (by kernel_rfl) (by decide) (by kernel_rfl) (by kernel_rfl) (by kernel_rfl) (fun _ _ _ h => h) (Or.inl ⟨by rfl, ?_⟩) (by assumption) ?_
                case refine_2 => intro w hSw; obtain ⟨⟨q7, qrb⟩, ⟨n0, n1, n2, n3, n4, n5, n6⟩, qnb⟩ := HCX.out _ hSw; go_simp; first | done | (with_reducible rfl)
                try simp only [Act.put, List.getElem_toArray, List.getElem_cons_zero, List.getElem_cons_succ, List.setIfInBounds_toArray, List.set_cons_zero, List.set_cons_succ]
                refine till_take (i := 21) (oi := _) (v := ?_) [] rfl (by kernel_rfl) (by kernel_rfl) (by decide) (by kernel_rfl) (by kernel_rfl) (by kernel_rfl) (fun _ _ _ h => h) (Or.inl ⟨by rfl, ?_⟩) (by assumption) ?_
                case refine_2 => intro w hSw; obtain ⟨⟨q7, qrb⟩, ⟨n0, n1, n2, n3, n4, n5, n6⟩, qnb⟩ := HCX.out _ hSw; go_simp; first | done | (with_reducible rfl)
                try simp only [Act.put, List.getElem_toArray, List.getElem_cons_zero, List.getElem_cons_succ, List.setIfInBounds_toArray, List.set_cons_zero, List.set_cons_succ]
                refine till_ready (rs := [22]) (by kernel_rfl) (by simp) ?_
                refine TillReady.past rfl (by kernel_rfl) (fun K hK => ?_) TillReady.nil
                go_simp
                refine hK.out _ _ ?_
                clear hK K
                try simp only [Act.put, List.getElem_toArray, List.getElem_cons_zero, List.getElem_cons_succ, List.setIfInBounds_toArray, List.set_cons_zero, List.set_cons_succ]
                refine till_done (by kernel_rfl) ?_ _
                have HEN := Lib.hid (HEND.out _ _ _ _ HB4.out HO4.out HL4.out)
                clear HO4 HB4 d4 f4
                dsimp only [OnlyN]
                go_wp2
                all_goals
                  go_ret
                  exact Or.inr ⟨p, 0, HM.out, HP.out, HPL.out, rfl, HEN.out⟩
              · go_simp
                refine hK.out _ _ (HBB.out _ _ _) (fun hHeld => ?_)
                clear hK K
                try simp only [Act.put, List.getElem_toArray, List.getElem_cons_zero, List.getElem_cons_succ, List.setIfInBounds_toArray, List.set_cons_zero, List.set_cons_succ]
                refine till_ready (rs := [8]) (by kernel_rfl) (by simp) ?_
                refine TillReady.cons rfl (fun K hK => ?_) TillReady.nil
                refine step_appR rfl (.tmp 77) (.tmp 83) rfl (N := V.heap.size) (c0 := 0) (n := 0) (M := []) rfl ((OwnR.lit (V.drewN _) (Nat.le_refl _)).alloc _) rfl (A := none) (m := 0) (c := 0) (M2 := []) rfl (HR1.out _ (HBB.out _ _ _)) HL1.out HV1.out (by omega) (HBB.out _ _ _).size ?_
                intro g1 c1 w2 hO2 hg2 hl2
                have hb2 := HSH.out _ _ _ (HBB.out _ _ _) (by simp) hg2
                have HX := Lib.hid (one_keptR (d := newR inn tw s p) (gx := V.heap.size + 1) (heap_dR V _ _ _) rfl hg2 (by simp))
                have HO2 := Lib.hid hO2; have HB2 := Lib.hid hb2
                clear hO2 hb2 hg2 hl2
                refine hK.out _ _ HB2.out (fun hHeld => ?_)
                clear hK K
                try simp only [Act.put, List.getElem_toArray, List.getElem_cons_zero, List.getElem_cons_succ, List.setIfInBounds_toArray, List.set_cons_zero, List.set_cons_succ]
                refine till_ready (rs := [12]) (by kernel_rfl) (by simp) ?_
                refine TillReady.cons rfl (fun K hK => ?_) TillReady.nil
                refine step_appR rfl (.tmp 84) (.tmp 87) rfl (N := V.heap.size) (g := g1) (c0 := c1) (n := 0 + 0) (M := [] ++ []) rfl HO2.out (HL1.out.trans (Nat.zero_add _).symm) (m := 1) (c := 1) (M2 := [newR inn tw s p]) rfl HX.out rfl HV2.out (by omega) HB2.out.size ?_
                intro g2 c2 w3 hO3 hg3 hl3
                have hb3 := HSH.out _ _ _ HB2.out HO2.out.parts.1 hg3
                have HO3 := Lib.hid hO3; have HB3 := Lib.hid hb3
                clear hO3 hb3 hg3 hl3
                refine hK.out _ _ HB3.out (fun hHeld => ?_)
                clear hK K
                try simp only [Act.put, List.getElem_toArray, List.getElem_cons_zero, List.getElem_cons_succ, List.setIfInBounds_toArray, List.set_cons_zero, List.set_cons_succ]
                refine till_ready (rs := [19]) (by kernel_rfl) (by simp) ?_
                refine TillReady.cons rfl (fun K hK => ?_) TillReady.nil
                refine step_appR rfl (.tmp 88) (.tmp 94) rfl (N := V.heap.size) (g := g2) (c0 := c2) (n := 0 + 0 + 1) (M := [] ++ [] ++ [newR inn tw s p]) rfl HO3.out (HL2.out.trans (by omega)) (m := 0) (c := 0) (M2 := []) rfl (HR1.out _ HB3.out) HL3.out HV3.out (by omega) HB3.out.size ?_
                intro g4 c4 w4 hO4 hg4 hl4
                have hb4 := HSH.out _ _ _ HB3.out HO3.out.parts.1 hg4
                have d4 := (HCX.out _ hb4).1.1; have f4 := (HCF.out _ hb4); have drb := (HCX.out _ hb4).1.2
                have HO4 := Lib.hid hO4; have HB4 := Lib.hid hb4
                clear hO4 hb4 hg4 hl4
                refine hK.out _ _ HB4.out (fun hHeld => ?_)
                clear hK K
                try simp only [Act.put, List.getElem_toArray, List.getElem_cons_zero, List.getElem_cons_succ, List.setIfInBounds_toArray, List.set_cons_zero, List.set_cons_succ]
                refine till_take (i := 20) (oi := _) (v := ?_) [21] rfl (by kernel_rfl) (by kernel_rfl) (by decide) (by kernel_rfl) (by kernel_rfl) (by kernel_rfl) (fun _ _ _ h => h) (Or.inl ⟨by rfl, ?_⟩) (by assumption) ?_
                case refine_2 => intro w hSw; obtain ⟨⟨q7, qrb⟩, ⟨n0, n1, n2, n3, n4, n5, n6⟩, qnb⟩ := HCX.out _ hSw; go_simp; first | done | (with_reducible rfl)
                try simp only [Act.put, List.getElem_toArray, List.getElem_cons_zero, List.getElem_cons_succ, List.setIfInBounds_toArray, List.set_cons_zero, List.set_cons_succ]
                refine till_take (i := 21) (oi := _) (v := ?_) [] rfl (by kernel_rfl) (by kernel_rfl) (by decide) (by kernel_rfl) (by kernel_rfl) (by kernel_rfl) (fun _ _ _ h => h) (Or.inl ⟨by rfl, ?_⟩) (by assumption) ?_
                case refine_2 => intro w hSw; obtain ⟨⟨q7, qrb⟩, ⟨n0, n1, n2, n3, n4, n5, n6⟩, qnb⟩ := HCX.out _ hSw; go_simp; first | done | (with_reducible rfl)
                try simp only [Act.put, List.getElem_toArray, List.getElem_cons_zero, List.getElem_cons_succ, List.setIfInBounds_toArray, List.set_cons_zero, List.set_cons_succ]
                refine till_ready (rs := [22]) (by kernel_rfl) (by simp) ?_
                refine TillReady.past rfl (by kernel_rfl) (fun K hK => ?_) TillReady.nil
                go_simp
                refine hK.out _ _ ?_
                clear hK K
                try simp only [Act.put, List.getElem_toArray, List.getElem_cons_zero, List.getElem_cons_succ, List.setIfInBounds_toArray, List.set_cons_zero, List.set_cons_succ]
                refine till_done (by kernel_rfl) ?_ _
                have HEN := Lib.hid (HEND.out _ _ _ _ HB4.out HO4.out HL4.out)
                clear HO4 HB4 d4 f4
                dsimp only [OnlyN]
                go_wp2
                all_goals
                  go_ret
                  exact Or.inr ⟨p, 0, HM.out, HP.out, HPL.out, rfl, HEN.out⟩
            · go_simp
              refine hK.out _ _ (HBA.out _ _) (fun hHeld => ?_)
              clear hK K
              try simp only [Act.put, List.getElem_toArray, List.getElem_cons_zero, List.getElem_cons_succ, List.setIfInBounds_toArray, List.set_cons_zero, List.set_cons_succ]
              refine till_ready (rs := [1]) (by kernel_rfl) (by simp) ?_
              refine TillReady.cons rfl (fun K hK => ?_) TillReady.nil
              go_simp
              refine hK.out _ _ (HBB.out _ _ _) (fun hHeld => ?_)
              clear hK K
              try simp only [Act.put, List.getElem_toArray, List.getElem_cons_zero, List.getElem_cons_succ, List.setIfInBounds_toArray, List.set_cons_zero, List.set_cons_succ]
              refine till_ready (rs := [8]) (by kernel_rfl) (by simp) ?_
              refine TillReady.cons rfl (fun K hK => ?_) TillReady.nil
              refine step_appR rfl (.tmp 77) (.tmp 83) rfl (N := V.heap.size) (c0 := 0) (n := 0) (M := []) rfl (own_eR V _ _) rfl (A := none) (m := 0) (c := 0) (M2 := []) rfl (HR1.out _ (HBB.out _ _ _)) HL1.out HV1.out (by omega) (HBB.out _ _ _).size ?_
              intro g1 c1 w2 hO2 hg2 hl2
              have hb2 := HSH.out _ _ _ (HBB.out _ _ _) (by simp) hg2
              have HX := Lib.hid (one_keptR (d := newR inn tw s p) (gx := V.heap.size) (heap_eR V _ _ _) rfl hg2 (by simp))
              have HO2 := Lib.hid hO2; have HB2 := Lib.hid hb2
              clear hO2 hb2 hg2 hl2
              refine hK.out _ _ HB2.out (fun hHeld => ?_)
              clear hK K
              try simp only [Act.put, List.getElem_toArray, List.getElem_cons_zero, List.getElem_cons_succ, List.setIfInBounds_toArray, List.set_cons_zero, List.set_cons_succ]
              refine till_ready (rs := [12]) (by kernel_rfl) (by simp) ?_
              refine TillReady.cons rfl (fun K hK => ?_) TillReady.nil
              refine step_appR rfl (.tmp 84) (.tmp 87) rfl (N := V.heap.size) (g := g1) (c0 := c1) (n := 0 + 0) (M := [] ++ []) rfl HO2.out (HL1.out.trans (Nat.zero_add _).symm) (m := 1) (c := 1) (M2 := [newR inn tw s p]) rfl HX.out rfl HV2.out (by omega) HB2.out.size ?_
              intro g2 c2 w3 hO3 hg3 hl3
              have hb3 := HSH.out _ _ _ HB2.out HO2.out.parts.1 hg3
              have HO3 := Lib.hid hO3; have HB3 := Lib.hid hb3
              clear hO3 hb3 hg3 hl3
              refine hK.out _ _ HB3.out (fun hHeld => ?_)
              clear hK K
              try simp only [Act.put, List.getElem_toArray, List.getElem_cons_zero, List.getElem_cons_succ, List.setIfInBounds_toArray, List.set_cons_zero, List.set_cons_succ]
              refine till_ready (rs := [19]) (by kernel_rfl) (by simp) ?_
              refine TillReady.cons rfl (fun K hK => ?_) TillReady.nil
              refine step_appR rfl (.tmp 88) (.tmp 94) rfl (N := V.heap.size) (g := g2) (c0 := c2) (n := 0 + 0 + 1) (M := [] ++ [] ++ [newR inn tw s p]) rfl HO3.out (HL2.out.trans (by omega)) (m := 0) (c := 0) (M2 := []) rfl (HR1.out _ HB3.out) HL3.out HV3.out (by omega) HB3.out.size ?_
              intro g4 c4 w4 hO4 hg4 hl4
              have hb4 := HSH.out _ _ _ HB3.out HO3.out.parts.1 hg4
              have d4 := (HCX.out _ hb4).1.1; have f4 := (HCF.out _ hb4); have drb := (HCX.out _ hb4).1.2
              have HO4 := Lib.hid hO4; have HB4 := Lib.hid hb4
              clear hO4 hb4 hg4 hl4
              refine hK.out _ _ HB4.out (fun hHeld => ?_)
              clear hK K
              try simp only [Act.put, List.getElem_toArray, List.getElem_cons_zero, List.getElem_cons_succ, List.setIfInBounds_toArray, List.set_cons_zero, List.set_cons_succ]
              refine till_take (i := 20) (oi := _) (v := ?_) [21] rfl (by kernel_rfl) (by kernel_rfl) (by decide) (by kernel_rfl) (by kernel_rfl) (by kernel_rfl) (fun _ _ _ h => h) (Or.inl ⟨by rfl, ?_⟩) (by assumption) ?_
              case refine_2 => intro w hSw; obtain ⟨⟨q7, qrb⟩, ⟨n0, n1, n2, n3, n4, n5, n6⟩, qnb⟩ := HCX.out _ hSw; go_simp; first | done | (with_reducible rfl)
              try simp only [Act.put, List.getElem_toArray, List.getElem_cons_zero, List.getElem_cons_succ, List.setIfInBounds_toArray, List.set_cons_zero, List.set_cons_succ]
              refine till_take (i := 21) (oi := _) (v := ?_) [] rfl (by kernel_rfl) (by kernel_rfl) (by decide) (by kernel_rfl) (by kernel_rfl) (by kernel_rfl) (fun _ _ _ h => h) (Or.inl ⟨by rfl, ?_⟩) (by assumption) ?_
              case refine_2 => intro w hSw; obtain ⟨⟨q7, qrb⟩, ⟨n0, n1, n2, n3, n4, n5, n6⟩, qnb⟩ := HCX.out _ hSw; go_simp; first | done | (with_reducible rfl)
              try simp only [Act.put, List.getElem_toArray, List.getElem_cons_zero, List.getElem_cons_succ, List.setIfInBounds_toArray, List.set_cons_zero, List.set_cons_succ]
              refine till_ready (rs := [22]) (by kernel_rfl) (by simp) ?_
              refine TillReady.past rfl (by kernel_rfl) (fun K hK => ?_) TillReady.nil
              go_simp
              refine hK.out _ _ ?_
              clear hK K
              try simp only [Act.put, List.getElem_toArray, List.getElem_cons_zero, List.getElem_cons_succ, List.setIfInBounds_toArray, List.set_cons_zero, List.set_cons_succ]
              refine till_done (by kernel_rfl) ?_ _
              have HEN := Lib.hid (HEND.out _ _ _ _ HB4.out HO4.out HL4.out)
              clear HO4 HB4 d4 f4
              dsimp only [OnlyN]
              go_wp2
              all_goals
                go_ret
                exact Or.inr ⟨p, 0, HM.out, HP.out, HPL.out, rfl, HEN.out⟩
          | false =>
            have HS : Hid (∀ q, x.lo ≤ q → q < p + 1 → freeR x (([] : List Rb).map Rb.b) q = false) := Lib.hid (fun q h1 h2 => by
              by_cases e : q = p
              · rw [e]; exact hfp
              · exact HNO.out q h1 (by omega))
            clear hfp
            go_wp2
            go_roundw
            case rel => exact ⟨p + 1, _, by go_num, rfl, by omega, .inl (by omega), HS⟩
            case measure => simp [intOf]; omega
        · have t2 : decide (x.hi < p) = true := decide_eq_true (by omega)
          have HNP : Hid (NoPort x (([] : List Rb).map Rb.b) wish) := Lib.hid ⟨HW.out, fun q h1 h2 => HNO.out q h1 (by omega)⟩
          go_wp2
          go_ret
          exact Or.inl ⟨.inr HNP.out, rfl, below_drw HB1.out _⟩
  | some ad =>
    obtain ⟨b, rfl⟩ := HOFF.out _ rfl
    have HAT := Lib.hid (HAT.out b rfl)
    cases hf : freeR x (L.map Rb.b) wish with
    | true =>
      obtain ⟨p, hpw⟩ : ∃ p, p = wish := ⟨_, rfl⟩
      have HP : Hid (PortR x (L.map Rb.b) wish p) := Lib.hid ⟨by rw [hpw]; exact hf, .inl hpw⟩
      have HFW := Lib.hid hf
      clear hf
      go_wp2_with fail
      refine (HF1.out _ wish).mono ?_
      rintro e w' ⟨rfl, rfl⟩
      rw [HFW.out, ← hpw]
      clear hpw
      obtain ⟨V, hV⟩ : ∃ V, (W1.drewN nq).setCell ⟨w.heap.size, 4, none⟩ (.int .i64 p) = V := ⟨_, rfl⟩
      have HBV : Hid (Below w.heap.size w V) := Lib.hid (by rw [← hV]; exact (below_drw HB1.out nq).setCell (p := ⟨w.heap.size, 4, none⟩) (Nat.le_refl _) _)
      have HNV : Hid (V.heap[w.heap.size]? = some (.cells #[.int .u32 inn.1, .int .i64 inn.2, .int .u32 tw.1, .int .i64 tw.2, .int .i64 p, .int .i64 0, .bool s] 54 (0, 0))) := Lib.hid (by rw [← hV, set_top (w := W1.drewN nq) (C := #[.int .u32 inn.1, .int .i64 inn.2, .int .u32 tw.1, .int .i64 tw.2, .int .i64 0, .int .i64 0, .bool s]) HNEW.out]; simp)
      have e4 : W1.cell? ⟨w.heap.size, 4, none⟩ = some (.int .i64 0) := (cells_of HNEW.out 4).1
      have f4 : W1.frozen? ⟨w.heap.size, 4, none⟩ = false := (cells_of HNEW.out 4).2
      have l4 : w.heap.size < W1.heap.size := (Array.getElem?_eq_some_iff.1 HNEW.out).1
      have HBX : Hid (∀ W, Below V.heap.size V W → Below w.heap.size w W) := Lib.hid (fun W h => HBV.out.trans (h.mono HBV.out.size))
      have HCX : Hid (∀ W, Below V.heap.size V W → (W.cell? ⟨rb, 7, none⟩ = some (.slice (some ⟨b, 0, none⟩) n c) ∧ rb < W.heap.size) ∧ (W.cell? ⟨w.heap.size, 0, none⟩ = some (.int .u32 inn.1) ∧ W.cell? ⟨w.heap.size, 1, none⟩ = some (.int .i64 inn.2) ∧ W.cell? ⟨w.heap.size, 2, none⟩ = some (.int .u32 tw.1) ∧ W.cell? ⟨w.heap.size, 3, none⟩ = some (.int .i64 tw.2) ∧ W.cell? ⟨w.heap.size, 4, none⟩ = some (.int .i64 p) ∧ W.cell? ⟨w.heap.size, 5, none⟩ = some (.int .i64 0) ∧ W.cell? ⟨w.heap.size, 6, none⟩ = some (.bool s)) ∧ w.heap.size < W.heap.size) := Lib.hid (fun W h => by
        have h1 := HC.out _ (HBX.out _ h)
        have h2 : W.heap[w.heap.size]? = _ := (h.block _ (Array.getElem?_eq_some_iff.1 HNV.out).1).trans HNV.out
        exact ⟨⟨h1.1.2.2.2, h1.2.2⟩, ⟨(cells_of h2 0).1, (cells_of h2 1).1, (cells_of h2 2).1, (cells_of h2 3).1, (cells_of h2 4).1, (cells_of h2 5).1, (cells_of h2 6).1⟩, (Array.getElem?_eq_some_iff.1 h2).1⟩)
      have HCF : Hid (∀ W, Below V.heap.size V W → W.frozen? ⟨rb, 7, none⟩ = false) := Lib.hid (fun W h => (HC.out _ (HBX.out _ h)).2.1)
      have HSTV : Hid (RStep w0 V rb x v0 L0 now' L) := Lib.hid (HST2.out _ HBV.out)
      have HSH : Hid (∀ (W W' : World) (g : Nat), Below V.heap.size V W → V.heap.size ≤ g → W.grownBy W' (some g) → Below V.heap.size V W') := Lib.hid (fun W W' g h1 h2 h3 => below_appR h1 h3 h2 h1.size)
      have HBA : Hid (∀ q o, Below V.heap.size V ((V.drewN q).alloc o)) := Lib.hid (fun q o => (below_drw (Below.refl _ V) q).alloc (Nat.le_refl _) _)
      have HBB : Hid (∀ q o o2, Below V.heap.size V (((V.drewN q).alloc o).alloc o2)) := Lib.hid (fun q o o2 => (HBA.out q o).alloc (HBA.out q o).size _)
      have HV2 : Hid (∀ d ∈ [newR inn tw s p], d.sv.oneCell' = true) := Lib.hid (fun d hd => by rw [List.mem_singleton.1 hd]; rfl)
      have HROWV : Hid (∀ W, Below V.heap.size V W → RowR W (some ⟨b, 0, none⟩) L c) := Lib.hid (fun W h => HROW.out.below (HBX.out _ h))
      have HEND : Hid (∀ (k : Nat) (W : World) (g c n : Nat), Below V.heap.size V W → OwnR V.heap.size W g c (insR L k (newR inn tw s p)) → (insR L k (newR inn tw s p)).length = n → RStep w0 (W.setCell ⟨rb, 7, none⟩ (.slice (some ⟨g, 0, none⟩) n c)) rb x v0 L0 now' (insR L k (newR inn tw s p))) := Lib.hid (fun k W g c n h1 h2 h3 => rrow_end (now := now') (v1 := v0) HSTV.out (fun d hd => by
        unfold insR at hd
        rw [List.nil_append, List.mem_append, List.mem_append, List.mem_singleton] at hd
        rcases hd with (hd | rfl) | hd
        · exact .inl (List.mem_of_mem_take hd)
        · exact .inr ⟨rfl, rfl⟩
        · exact .inl (List.mem_of_mem_drop hd)) h1 h2 h3 rfl)
      obtain ⟨⟨d7, drb⟩, ⟨y0, y1, y2, y3, y4, y5, y6⟩, dnb⟩ := HCX.out V (Below.refl _ _)
      go_wp2_with fail
      try rw [hV]
      clear hV e4 f4 l4
      go_loopw [8] (fun i wr => ∃ k q : Nat, k ≤ n ∧ i = .int .i64 k ∧ wr = V.drewN q ∧ Hid (∀ (j : Nat) (e : Rb), j < k → L[j]? = some e → e.b.port < p)) (fun i _ => n - (intOf i).toNat)
      case atStart => exact ⟨0, 0, by omega, rfl, rfl, Lib.hid (fun j e h => by omega)⟩
      case round =>
        obtain ⟨k, q, hk, rfl, rfl, HA⟩ := hrel
        go_upto_region 12 with (fail)
        go_cut [73] from 54 to 75 (fun u wx => ∃ (bb : Bool) (q2 : Nat), u = .bool bb ∧ wx = V.drewN q2 ∧ (bb = true → k < n) ∧ Hid (bb = true → ∀ (j : Nat) (e : Rb), j < k + 1 → L[j]? = some e → e.b.port < p) ∧ Hid (bb = false → ∀ e, L[k]? = some e → ¬ e.b.port < p))
        case first =>
          by_cases hkn : k < n
          · obtain ⟨d, hd⟩ : ∃ d, L[k]? = some d := ⟨_, List.getElem?_eq_getElem (by have := HN.out; omega)⟩
            obtain ⟨dp, gl⟩ := HAT.out V HBV.out k d hd
            have HD := Lib.hid hd
            have l1 : (k : Int) < (n : Int) := by omega
            clear hd
            by_cases hl : d.b.port < p
            · have HS : Hid (true = true → ∀ (j : Nat) (e : Rb), j < k + 1 → L[j]? = some e → e.b.port < p) := Lib.hid (fun _ j e hj he => by
                rcases Nat.lt_or_ge j k with h' | h'
                · exact HA.out j e h' he
                · obtain rfl : j = k := by omega
                  rw [HD.out] at he; cases he; exact hl)
              go_wp2_with fail
              go_meet
              exact ⟨true, _, rfl, rfl, fun _ => hkn, Lib.hid (fun _ => HS.out trivial), Lib.hid (fun h => by cases h)⟩
            · have HS : Hid (false = false → ∀ e, L[k]? = some e → ¬ e.b.port < p) := Lib.hid (fun _ e he => by rw [HD.out] at he; cases he; exact hl)
              go_wp2_with fail
              go_meet
              exact ⟨false, _, rfl, rfl, fun h => (by cases h), Lib.hid (fun h => by cases h), Lib.hid (fun _ => HS.out trivial)⟩
          · have l1 : ¬ (k : Int) < (n : Int) := by omega
            have HS : Hid (false = false → ∀ e, L[k]? = some e → ¬ e.b.port < p) := Lib.hid (fun _ e he => by
              have := (List.getElem?_eq_some_iff.1 he).1
              have := HN.out
              omega)
            go_wp2_with fail
            go_meet
            exact ⟨false, _, rfl, rfl, fun h => (by cases h), Lib.hid (fun h => by cases h), Lib.hid (fun _ => HS.out trivial)⟩
        case rest =>
          obtain ⟨bb, q2, rfl, rfl, hlt, HT2, HF2⟩ := hcut
          cases bb with
          | true =>
            have hkn := hlt rfl
            clear hlt
            go_wp2_with fail
            go_roundw
            case rel => exact ⟨k + 1, _, by omega, by go_num, rfl, Lib.hid (HT2.out rfl)⟩
            case measure => simp [intOf]; omega
          | false =>
            clear hlt HT2
            have HPL : Hid (PlaceR L p k) := Lib.hid ⟨by have := HN.out; omega, HA.out, HF2.out rfl⟩
            have HL1 : Hid ((L.take k).length = k) := Lib.hid (by rw [List.length_take]; have := HN.out; omega)
            have HL2 : Hid (([] ++ L.take k ++ [newR inn tw s p]).length = k + 1) := Lib.hid (by rw [List.nil_append, List.length_append, HL1.out]; rfl)
            have HL3 : Hid ((L.drop k).length = n - k) := Lib.hid (by rw [List.length_drop, HN.out])
            have HL4 : Hid (([] ++ L.take k ++ [newR inn tw s p] ++ L.drop k).length = k + 1 + (n - k)) := Lib.hid (by rw [List.length_append, HL2.out, HL3.out])
            have HV1 : Hid (∀ d ∈ L.take k, d.sv.oneCell' = true) := Lib.hid (fun d hd => HSV1.out d (List.mem_of_mem_take hd))
            have HV3 : Hid (∀ d ∈ L.drop k, d.sv.oneCell' = true) := Lib.hid (fun d hd => HSV1.out d (List.mem_of_mem_drop hd))
            have HR1 : Hid (∀ W, Below V.heap.size V W → RowR W (some ⟨b, 0, none⟩) (L.take k) c) := Lib.hid (fun W hW => (HROWV.out W hW).take k)
            have HR4 : Hid (∀ W, Below V.heap.size V W → RowR W (if c = k then some ⟨b, 0, none⟩ else some ⟨b, k * 8, none⟩) (L.drop k) (c - k)) := Lib.hid (fun W hW => by
              split
              · have : n = k := by omega
                rw [List.drop_of_length_le (by have := HN.out; omega)]
                exact (HROWV.out W hW).nil _
              · have := (HROWV.out W hW).drop k (c - k)
                rwa [Nat.zero_add] at this)
            have HEN2 := Lib.hid (HEND.out k)
            unfold insR at HEN2
            have l3 : (k : Int) ≤ (c : Int) := by omega
            have l4 : k ≤ c := by omega
            have l6 : (0 : Int) ≤ (k : Int) := by omega
            have l7 : (n : Int) ≤ (c : Int) := by omega
            have l8 : (k : Int) ≤ (n : Int) := by omega
            go_upto_region 14 with (fail)
            refine Code.wp_mono (Q := OnlyN _) OnlyN.all ?_
            refine wp_region_till (S := fun W => Below V.heap.size V W) (z := 22) (by kernel_rfl) (below_drw (Below.refl _ V) (q2 + 1)) (fun hHeld => ?_)
            refine till_take (i := 0) (oi := _) (v := ?_) [] rfl (by kernel_rfl) (by kernel_rfl) (by decide) (by kernel_rfl) (by kernel_rfl) (by kernel_rfl) (fun _ _ _ h => h) (Or.inl ⟨by rfl, ?_⟩) (by assumption) ?_
            case refine_2 => intro w hSw; obtain ⟨⟨q7, qrb⟩, ⟨n0, n1, n2, n3, n4, n5, n6⟩, qnb⟩ := HCX.out _ hSw; go_simp; first | done | (with_reducible rfl)
            try simp only [Act.put, List.getElem_toArray, List.getElem_cons_zero, List.setIfInBounds_toArray, List.set_cons_zero, List.set_cons_succ]
            refine till_take (i := 2) (oi := _) (v := ?_) [] rfl (by kernel_rfl) (by kernel_rfl) (by decide) (by kernel_rfl) (by kernel_rfl) (by kernel_rfl) (fun _ _ _ h => h) (Or.inl ⟨by rfl, ?_⟩) (by assumption) ?_
            case refine_2 => intro w hSw; obtain ⟨⟨q7, qrb⟩, ⟨n0, n1, n2, n3, n4, n5, n6⟩, qnb⟩ := HCX.out _ hSw; go_simp; first | done | (with_reducible rfl)
            try simp only [Act.put, List.getElem_toArray, List.getElem_cons_zero, List.getElem_cons_succ, List.setIfInBounds_toArray, List.set_cons_zero, List.set_cons_succ]
            refine till_take (i := 3) (oi := _) (v := ?_) [] rfl (by kernel_rfl) (by kernel_rfl) (by decide) (by kernel_rfl) (by kernel_rfl) (by kernel_rfl) (fun _ _ _ h => h) (Or.inl ⟨by rfl, ?_⟩) (by assumption) ?_
            case refine_2 => intro w hSw; obtain ⟨⟨q7, qrb⟩, ⟨n0, n1, n2, n3, n4, n5, n6⟩, qnb⟩ := HCX.out _ hSw; go_simp; first | done | (with_reducible rfl)
            try simp only [Act.put, List.getElem_toArray, List.getElem_cons_zero, List.getElem_cons_succ, List.setIfInBounds_toArray, List.set_cons_zero, List.set_cons_succ]
            refine till_take (i := 4) (oi := _) (v := ?_) [] rfl (by kernel_rfl) (by kernel_rfl) (by decide) (by kernel_rfl) (by kernel_rfl) (by kernel_rfl) (fun _ _ _ h => h) (Or.inl ⟨by rfl, ?_⟩) (by assumption) ?_
            case refine_2 => intro w hSw; obtain ⟨⟨q7, qrb⟩, ⟨n0, n1, n2, n3, n4, n5, n6⟩, qnb⟩ := HCX.out _ hSw; go_simp; first | done | (with_reducible rfl)
            try simp only [Act.put, List.getElem_toArray, List.getElem_cons_zero, List.getElem_cons_succ, List.setIfInBounds_toArray, List.set_cons_zero, List.set_cons_succ]
            refine till_take (i := 5) (oi := _) (v := ?_) [] rfl (by kernel_rfl) (by kernel_rfl) (by decide) (by kernel_rfl) (by kernel_rfl) (by kernel_rfl) (fun _ _ _ h => h) (Or.inl ⟨by rfl, ?_⟩) (by assumption) ?_
            case refine_2 => intro w hSw; obtain ⟨⟨q7, qrb⟩, ⟨n0, n1, n2, n3, n4, n5, n6⟩, qnb⟩ := HCX.out _ hSw; go_simp; first | done | (with_reducible rfl)
            try simp only [Act.put, List.getElem_toArray, List.getElem_cons_zero, List.getElem_cons_succ, List.setIfInBounds_toArray, List.set_cons_zero, List.set_cons_succ]
            refine till_take (i := 6) (oi := _) (v := ?_) [] rfl (by kernel_rfl) (by kernel_rfl) (by decide) (by kernel_rfl) (by kernel_rfl) (by kernel_rfl) (fun _ _ _ h => h) (Or.inl ⟨by rfl, ?_⟩) (by assumption) ?_
            case refine_2 => intro w hSw; obtain ⟨⟨q7, qrb⟩, ⟨n0, n1, n2, n3, n4, n5, n6⟩, qnb⟩ := HCX.out _ hSw; go_simp; first | done | (with_reducible rfl)
            try simp only [Act.put, List.getElem_toArray, List.getElem_cons_zero, List.getElem_cons_succ, List.setIfInBounds_toArray, List.set_cons_zero, List.set_cons_succ]
            refine till_take (i := 7) (oi := _) (v := ?_) [] rfl (by kernel_rfl) (by kernel_rfl) (by decide) (by kernel_rfl) (by kernel_rfl) (by kernel_rfl) (fun _ _ _ h => h) (Or.inl ⟨by rfl, ?_⟩) (by assumption) ?_
            case refine_2 => intro w hSw; obtain ⟨⟨q7, qrb⟩, ⟨n0, n1, n2, n3, n4, n5, n6⟩, qnb⟩ := HCX.out _ hSw; go_simp; first | done | (with_reducible rfl)
            try simp only [Act.put, List.getElem_toArray, List.getElem_cons_zero, List.getElem_cons_succ, List.setIfInBounds_toArray, List.set_cons_zero, List.set_cons_succ]
            refine till_take (i := 9) (oi := _) (v := ?_) [] rfl (by kernel_rfl) (by kernel_rfl) (by decide) (by kernel_rfl) (by kernel_rfl) (by kernel_rfl) (fun _ _ _ h => h) (Or.inl ⟨by rfl, ?_⟩) (by assumption) ?_
            case refine_2 => intro w hSw; obtain ⟨⟨q7, qrb⟩, ⟨n0, n1, n2, n3, n4, n5, n6⟩, qnb⟩ := HCX.out _ hSw; go_simp; first | done | (with_reducible rfl)
            try simp only [Act.put, List.getElem_toArray, List.getElem_cons_zero, List.getElem_cons_succ, List.setIfInBounds_toArray, List.set_cons_zero, List.set_cons_succ]
            refine till_take (i := 10) (oi := _) (v := ?_) [] rfl (by kernel_rfl) (by kernel_rfl) (by decide) (by kernel_rfl) (by kernel_rfl) (by kernel_rfl) (fun _ _ _ h => h) (Or.inl ⟨by rfl, ?_⟩) (by assumption) ?_
            case refine_2 => intro w hSw; obtain ⟨⟨q7, qrb⟩, ⟨n0, n1, n2, n3, n4, n5, n6⟩, qnb⟩ := HCX.out _ hSw; go_simp; first | done | (with_reducible rfl)
            try simp only [Act.put, List.getElem_toArray, List.getElem_cons_zero, List.getElem_cons_succ, List.setIfInBounds_toArray, List.set_cons_zero, List.set_cons_succ]
            refine till_take (i := 13) (oi := _) (v := ?_) [] rfl (by kernel_rfl) (by kernel_rfl) (by decide) (by kernel_rfl) (by kernel_rfl) (by kernel_rfl) (fun _ _ _ h => h) (Or.inl ⟨by rfl, ?_⟩) (by assumption) ?_
            case refine_2 => intro w hSw; obtain ⟨⟨q7, qrb⟩, ⟨n0, n1, n2, n3, n4, n5, n6⟩, qnb⟩ := HCX.out _ hSw; go_simp; first | done | (with_reducible rfl)
            try simp only [Act.put, List.getElem_toArray, List.getElem_cons_zero, List.getElem_cons_succ, List.setIfInBounds_toArray, List.set_cons_zero, List.set_cons_succ]
            refine till_take (i := 14) (oi := _) (v := ?_) [] rfl (by kernel_rfl) (by kernel_rfl) (by decide) (by kernel_rfl) (by kernel_rfl) (by kernel_rfl) (fun _ _ _ h => h) (Or.inl ⟨by rfl, ?_⟩) (by assumption) ?_
            case refine_2 => intro w hSw; obtain ⟨⟨q7, qrb⟩, ⟨n0, n1, n2, n3, n4, n5, n6⟩, qnb⟩ := HCX.out _ hSw; go_simp; first | done | (with_reducible rfl)
            try simp only [Act.put, List.getElem_toArray, List.getElem_cons_zero, List.getElem_cons_succ, List.setIfInBounds_toArray, List.set_cons_zero, List.set_cons_succ]
            refine till_take (i := 15) (oi := _) (v := ?_) [] rfl (by kernel_rfl) (by kernel_rfl) (by decide) (by kernel_rfl) (by kernel_rfl) (by kernel_rfl) (fun _ _ _ h => h) (Or.inl ⟨by rfl, ?_⟩) (by assumption) ?_
            case refine_2 => intro w hSw; obtain ⟨⟨q7, qrb⟩, ⟨n0, n1, n2, n3, n4, n5, n6⟩, qnb⟩ := HCX.out _ hSw; go_simp; first | done | (with_reducible rfl)
            try simp only [Act.put, List.getElem_toArray, List.getElem_cons_zero, List.getElem_cons_succ, List.setIfInBounds_toArray, List.set_cons_zero, List.set_cons_succ]
            refine till_take (i := 16) (oi := _) (v := ?_) [] rfl (by kernel_rfl) (by kernel_rfl) (by decide) (by kernel_rfl) (by kernel_rfl) (by kernel_rfl) (fun _ _ _ h => h) (Or.inl ⟨by rfl, ?_⟩) (by assumption) ?_
            case refine_2 => intro w hSw; obtain ⟨⟨q7, qrb⟩, ⟨n0, n1, n2, n3, n4, n5, n6⟩, qnb⟩ := HCX.out _ hSw; go_simp; first | done | (with_reducible rfl)
            try simp only [Act.put, List.getElem_toArray, List.getElem_cons_zero, List.getElem_cons_succ, List.setIfInBounds_toArray, List.set_cons_zero, List.set_cons_succ]
            refine till_take (i := 17) (oi := _) (v := ?_) [] rfl (by kernel_rfl) (by kernel_rfl) (by decide) (by kernel_rfl) (by kernel_rfl) (by kernel_rfl) (fun _ _ _ h => h) (Or.inl ⟨by rfl, ?_⟩) (by assumption) ?_
            case refine_2 => intro w hSw; obtain ⟨⟨q7, qrb⟩, ⟨n0, n1, n2, n3, n4, n5, n6⟩, qnb⟩ := HCX.out _ hSw; go_simp; first | done | (with_reducible rfl)
            try simp only [Act.put, List.getElem_toArray, List.getElem_cons_zero, List.getElem_cons_succ, List.setIfInBounds_toArray, List.set_cons_zero, List.set_cons_succ]
            refine till_take (i := 18) (oi := _) (v := ?_) [] rfl (by kernel_rfl) (by kernel_rfl) (by decide) (by kernel_rfl) (by kernel_rfl) (by kernel_rfl) (fun _ _ _ h => h) (Or.inl ⟨by rfl, ?_⟩) (by assumption) ?_
            case refine_2 => intro w hSw; obtain ⟨⟨q7, qrb⟩, ⟨n0, n1, n2, n3, n4, n5, n6⟩, qnb⟩ := HCX.out _ hSw; go_simp; first | done | (with_reducible rfl)
            try simp only [Act.put, List.getElem_toArray, List.getElem_cons_zero, List.getElem_cons_succ, List.setIfInBounds_toArray, List.set_cons_zero, List.set_cons_succ]
            refine till_ready (rs := [1, 11]) (by kernel_rfl) (by simp) ?_
            refine TillReady.cons rfl (fun K hK => ?_) (TillReady.cons rfl (fun K hK => ?_) TillReady.nil)
            · go_simp
              refine hK.out _ _ (HBA.out _ _) (fun hHeld => ?_)
              clear hK K
              try simp only [Act.put, List.getElem_toArray, List.getElem_cons_zero, List.getElem_cons_succ, List.setIfInBounds_toArray, List.set_cons_zero, List.set_cons_succ]
              refine till_ready (rs := [8, 11]) (by kernel_rfl) (by simp) ?_
              refine TillReady.cons rfl (fun K hK => ?_) (TillReady.cons rfl (fun K hK => ?_) TillReady.nil)
              · refine step_appR rfl (.tmp 77) (.tmp 83) rfl (N := V.heap.size) (c0 := 0) (n := 0) (M := []) rfl (OwnR.lit (V.drewN _) (Nat.le_refl _)) rfl (A := some ⟨b, 0, none⟩) (m := k) (c := c) (M2 := L.take k) rfl (HR1.out _ (HBA.out _ _)) HL1.out HV1.out (by omega) (HBA.out _ _).size ?_
                intro g1 c1 w2 hO2 hg2 hl2
                have hb2 := HSH.out _ _ _ (HBA.out _ _) (by simp) hg2
                have HO2 := Lib.hid hO2; have HB2 := Lib.hid hb2
                clear hO2 hb2 hg2 hl2
                refine hK.out _ _ HB2.out (fun hHeld => ?_)
                clear hK K
                try simp only [Act.put, List.getElem_toArray, List.getElem_cons_zero, List.getElem_cons_succ, List.setIfInBounds_toArray, List.set_cons_zero, List.set_cons_succ]
                refine till_ready (rs := [11]) (by kernel_rfl) (by simp) ?_
                refine TillReady.cons rfl (fun K hK => ?_) TillReady.nil
                go_simp
                refine hK.out _ _ (HB2.out.alloc HB2.out.size _) (fun hHeld => ?_)
                clear hK K
                try simp only [Act.put, List.getElem_toArray, List.getElem_cons_zero, List.getElem_cons_succ, List.setIfInBounds_toArray, List.set_cons_zero, List.set_cons_succ]
                refine till_ready (rs := [12]) (by kernel_rfl) (by simp) ?_
                refine TillReady.cons rfl (fun K hK => ?_) TillReady.nil
                refine step_appR rfl (.tmp 84) (.tmp 87) rfl (N := V.heap.size) (g := g1) (c0 := c1) (n := k) (M := [] ++ L.take k) rfl (HO2.out.alloc _) HL1.out (m := 1) (c := 1) (M2 := [newR inn tw s p]) rfl (RowR.one (d := newR inn tw s p) (heap_bR _ _) rfl) rfl HV2.out (by omega) (HB2.out.alloc HB2.out.size _).size ?_
                intro g2 c2 w3 hO3 hg3 hl3
                have hb3 := HSH.out _ _ _ (HB2.out.alloc HB2.out.size _) HO2.out.parts.1 hg3
                have HO3 := Lib.hid hO3; have HB3 := Lib.hid hb3
                clear hO3 hb3 hg3 hl3
                refine hK.out _ _ HB3.out (fun hHeld => ?_)
                clear hK K
                try simp only [Act.put, List.getElem_toArray, List.getElem_cons_zero, List.getElem_cons_succ, List.setIfInBounds_toArray, List.set_cons_zero, List.set_cons_succ]
                refine till_ready (rs := [19]) (by kernel_rfl) (by simp) ?_
                refine TillReady.cons rfl (fun K hK => ?_) TillReady.nil
                refine step_appR rfl (.tmp 88) (.tmp 94) rfl (N := V.heap.size) (g := g2) (c0 := c2) (n := k + 1) (M := [] ++ L.take k ++ [newR inn tw s p]) rfl HO3.out HL2.out (m := n - k) (c := c - k) (M2 := L.drop k) rfl (HR4.out _ HB3.out) HL3.out HV3.out (by omega) HB3.out.size ?_
                intro g4 c4 w4 hO4 hg4 hl4
                have hb4 := HSH.out _ _ _ HB3.out HO3.out.parts.1 hg4
                have d4 := (HCX.out _ hb4).1.1; have f4 := (HCF.out _ hb4); have drb := (HCX.out _ hb4).1.2
                have HO4 := Lib.hid hO4; have HB4 := Lib.hid hb4
                clear hO4 hb4 hg4 hl4
                refine hK.out _ _ HB4.out (fun hHeld => ?_)
                clear hK K
                try simp only [Act.put, List.getElem_toArray, List.getElem_cons_zero, List.getElem_cons_succ, List.setIfInBounds_toArray, List.set_cons_zero, List.set_cons_succ]
                refine till_take (i := 20) (oi := _) (v := ?_) [21] rfl (by kernel_rfl) (by kernel_rfl) (by decide) (by kernel_rfl) (by kernel_rfl) (by kernel_rfl) (fun _ _ _ h => h) (Or.inl ⟨by rfl, ?_⟩) (by assumption) ?_
                case refine_2 => intro w hSw; obtain ⟨⟨q7, qrb⟩, ⟨n0, n1, n2, n3, n4, n5, n6⟩, qnb⟩ := HCX.out _ hSw; go_simp; first | done | (with_reducible rfl)
                try simp only [Act.put, List.getElem_toArray, List.getElem_cons_zero, List.getElem_cons_succ, List.setIfInBounds_toArray, List.set_cons_zero, List.set_cons_succ]
                refine till_take (i := 21) (oi := _) (v := ?_) [] rfl (by kernel_rfl) (by kernel_rfl) (by decide) (by kernel_rfl) (by kernel_rfl) (by kernel_rfl) (fun _ _ _ h => h) (Or.inl ⟨by rfl, ?_⟩) (by assumption) ?_
                case refine_2 => intro w hSw; obtain ⟨⟨q7, qrb⟩, ⟨n0, n1, n2, n3, n4, n5, n6⟩, qnb⟩ := HCX.out _ hSw; go_simp; first | done | (with_reducible rfl)
                try simp only [Act.put, List.getElem_toArray, List.getElem_cons_zero, List.getElem_cons_succ, List.setIfInBounds_toArray, List.set_cons_zero, List.set_cons_succ]
                refine till_ready (rs := [22]) (by kernel_rfl) (by simp) ?_
                refine TillReady.past rfl (by kernel_rfl) (fun K hK => ?_) TillReady.nil
                go_simp
                refine hK.out _ _ ?_
                clear hK K
                try simp only [Act.put, List.getElem_toArray, List.getElem_cons_zero, List.getElem_cons_succ, List.setIfInBounds_toArray, List.set_cons_zero, List.set_cons_succ]
                refine till_done (by kernel_rfl) ?_ _
                have HEN := Lib.hid (HEN2.out _ _ _ _ HB4.out HO4.out HL4.out)
                clear HO4 HB4 d4 f4
                dsimp only [OnlyN]
                go_wp2
                all_goals
                  go_ret
                  exact Or.inr ⟨p, k, HM.out, HP.out, HPL.out, rfl, HEN.out⟩
              · go_simp
                refine hK.out _ _ (HBB.out _ _ _) (fun hHeld => ?_)
                clear hK K
                try simp only [Act.put, List.getElem_toArray, List.getElem_cons_zero, List.getElem_cons_succ, List.setIfInBounds_toArray, List.set_cons_zero, List.set_cons_succ]
                refine till_ready (rs := [8]) (by kernel_rfl) (by simp) ?_
                refine TillReady.cons rfl (fun K hK => ?_) TillReady.nil
                refine step_appR rfl (.tmp 77) (.tmp 83) rfl (N := V.heap.size) (c0 := 0) (n := 0) (M := []) rfl ((OwnR.lit (V.drewN _) (Nat.le_refl _)).alloc _) rfl (A := some ⟨b, 0, none⟩) (m := k) (c := c) (M2 := L.take k) rfl (HR1.out _ (HBB.out _ _ _)) HL1.out HV1.out (by omega) (HBB.out _ _ _).size ?_
                intro g1 c1 w2 hO2 hg2 hl2
                have hb2 := HSH.out _ _ _ (HBB.out _ _ _) (by simp) hg2
                have HX := Lib.hid (one_keptR (d := newR inn tw s p) (gx := V.heap.size + 1) (heap_dR V _ _ _) rfl hg2 (by simp))
                have HO2 := Lib.hid hO2; have HB2 := Lib.hid hb2
                clear hO2 hb2 hg2 hl2
                refine hK.out _ _ HB2.out (fun hHeld => ?_)
                clear hK K
                try simp only [Act.put, List.getElem_toArray, List.getElem_cons_zero, List.getElem_cons_succ, List.setIfInBounds_toArray, List.set_cons_zero, List.set_cons_succ]
                refine till_ready (rs := [12]) (by kernel_rfl) (by simp) ?_
                refine TillReady.cons rfl (fun K hK => ?_) TillReady.nil
                refine step_appR rfl (.tmp 84) (.tmp 87) rfl (N := V.heap.size) (g := g1) (c0 := c1) (n := 0 + k) (M := [] ++ L.take k) rfl HO2.out (HL1.out.trans (Nat.zero_add _).symm) (m := 1) (c := 1) (M2 := [newR inn tw s p]) rfl HX.out rfl HV2.out (by omega) HB2.out.size ?_
                intro g2 c2 w3 hO3 hg3 hl3
                have hb3 := HSH.out _ _ _ HB2.out HO2.out.parts.1 hg3
                have HO3 := Lib.hid hO3; have HB3 := Lib.hid hb3
                clear hO3 hb3 hg3 hl3
                refine hK.out _ _ HB3.out (fun hHeld => ?_)
                clear hK K
                try simp only [Act.put, List.getElem_toArray, List.getElem_cons_zero, List.getElem_cons_succ, List.setIfInBounds_toArray, List.set_cons_zero, List.set_cons_succ]
                refine till_ready (rs := [19]) (by kernel_rfl) (by simp) ?_
                refine TillReady.cons rfl (fun K hK => ?_) TillReady.nil
                refine step_appR rfl (.tmp 88) (.tmp 94) rfl (N := V.heap.size) (g := g2) (c0 := c2) (n := 0 + k + 1) (M := [] ++ L.take k ++ [newR inn tw s p]) rfl HO3.out (HL2.out.trans (by omega)) (m := n - k) (c := c - k) (M2 := L.drop k) rfl (HR4.out _ HB3.out) HL3.out HV3.out (by omega) HB3.out.size ?_
                intro g4 c4 w4 hO4 hg4 hl4
                have hb4 := HSH.out _ _ _ HB3.out HO3.out.parts.1 hg4
                have d4 := (HCX.out _ hb4).1.1; have f4 := (HCF.out _ hb4); have drb := (HCX.out _ hb4).1.2
                have HO4 := Lib.hid hO4; have HB4 := Lib.hid hb4
                clear hO4 hb4 hg4 hl4
                refine hK.out _ _ HB4.out (fun hHeld => ?_)
                clear hK K
                try simp only [Act.put, List.getElem_toArray, List.getElem_cons_zero, List.getElem_cons_succ, List.setIfInBounds_toArray, List.set_cons_zero, List.set_cons_succ]
                refine till_take (i := 20) (oi := _) (v := ?_) [21] rfl (by kernel_rfl) (by kernel_rfl) (by decide) (by kernel_rfl) (by kernel_rfl) (by kernel_rfl) (fun _ _ _ h => h) (Or.inl ⟨by rfl, ?_⟩) (by assumption) ?_
                case refine_2 => intro w hSw; obtain ⟨⟨q7, qrb⟩, ⟨n0, n1, n2, n3, n4, n5, n6⟩, qnb⟩ := HCX.out _ hSw; go_simp; first | done | (with_reducible rfl)
                try simp only [Act.put, List.getElem_toArray, List.getElem_cons_zero, List.getElem_cons_succ, List.setIfInBounds_toArray, List.set_cons_zero, List.set_cons_succ]
                refine till_take (i := 21) (oi := _) (v := ?_) [] rfl (by kernel_rfl) (by kernel_rfl) (by decide) (by kernel_rfl) (by kernel_rfl) (by kernel_rfl) (fun _ _ _ h => h) (Or.inl ⟨by rfl, ?_⟩) (by assumption) ?_
                case refine_2 => intro w hSw; obtain ⟨⟨q7, qrb⟩, ⟨n0, n1, n2, n3, n4, n5, n6⟩, qnb⟩ := HCX.out _ hSw; go_simp; first | done | (with_reducible rfl)
                try simp only [Act.put, List.getElem_toArray, List.getElem_cons_zero, List.getElem_cons_succ, List.setIfInBounds_toArray, List.set_cons_zero, List.set_cons_succ]
                refine till_ready (rs := [22]) (by kernel_rfl) (by simp) ?_
                refine TillReady.past rfl (by kernel_rfl) (fun K hK => ?_) TillReady.nil
                go_simp
                refine hK.out _ _ ?_
                clear hK K
                try simp only [Act.put, List.getElem_toArray, List.getElem_cons_zero, List.getElem_cons_succ, List.setIfInBounds_toArray, List.set_cons_zero, List.set_cons_succ]
                refine till_done (by kernel_rfl) ?_ _
                have HEN := Lib.hid (HEN2.out _ _ _ _ HB4.out HO4.out HL4.out)
                clear HO4 HB4 d4 f4
                dsimp only [OnlyN]
                go_wp2
                all_goals
                  go_ret
                  exact Or.inr ⟨p, k, HM.out, HP.out, HPL.out, rfl, HEN.out⟩
            · go_simp
              refine hK.out _ _ (HBA.out _ _) (fun hHeld => ?_)
              clear hK K
              try simp only [Act.put, List.getElem_toArray, List.getElem_cons_zero, List.getElem_cons_succ, List.setIfInBounds_toArray, List.set_cons_zero, List.set_cons_succ]
              refine till_ready (rs := [1]) (by kernel_rfl) (by simp) ?_
              refine TillReady.cons rfl (fun K hK => ?_) TillReady.nil
              go_simp
              refine hK.out _ _ (HBB.out _ _ _) (fun hHeld => ?_)
              clear hK K
              try simp only [Act.put, List.getElem_toArray, List.getElem_cons_zero, List.getElem_cons_succ, List.setIfInBounds_toArray, List.set_cons_zero, List.set_cons_succ]
              refine till_ready (rs := [8]) (by kernel_rfl) (by simp) ?_
              refine TillReady.cons rfl (fun K hK => ?_) TillReady.nil
              refine step_appR rfl (.tmp 77) (.tmp 83) rfl (N := V.heap.size) (c0 := 0) (n := 0) (M := []) rfl (own_eR V _ _) rfl (A := some ⟨b, 0, none⟩) (m := k) (c := c) (M2 := L.take k) rfl (HR1.out _ (HBB.out _ _ _)) HL1.out HV1.out (by omega) (HBB.out _ _ _).size ?_
              intro g1 c1 w2 hO2 hg2 hl2
              have hb2 := HSH.out _ _ _ (HBB.out _ _ _) (by simp) hg2
              have HX := Lib.hid (one_keptR (d := newR inn tw s p) (gx := V.heap.size) (heap_eR V _ _ _) rfl hg2 (by simp))
              have HO2 := Lib.hid hO2; have HB2 := Lib.hid hb2
              clear hO2 hb2 hg2 hl2
              refine hK.out _ _ HB2.out (fun hHeld => ?_)
              clear hK K
              try simp only [Act.put, List.getElem_toArray, List.getElem_cons_zero, List.getElem_cons_succ, List.setIfInBounds_toArray, List.set_cons_zero, List.set_cons_succ]
              refine till_ready (rs := [12]) (by kernel_rfl) (by simp) ?_
              refine TillReady.cons rfl (fun K hK => ?_) TillReady.nil
              refine step_appR rfl (.tmp 84) (.tmp 87) rfl (N := V.heap.size) (g := g1) (c0 := c1) (n := 0 + k) (M := [] ++ L.take k) rfl HO2.out (HL1.out.trans (Nat.zero_add _).symm) (m := 1) (c := 1) (M2 := [newR inn tw s p]) rfl HX.out rfl HV2.out (by omega) HB2.out.size ?_
              intro g2 c2 w3 hO3 hg3 hl3
              have hb3 := HSH.out _ _ _ HB2.out HO2.out.parts.1 hg3
              have HO3 := Lib.hid hO3; have HB3 := Lib.hid hb3
              clear hO3 hb3 hg3 hl3
              refine hK.out _ _ HB3.out (fun hHeld => ?_)
              clear hK K
              try simp only [Act.put, List.getElem_toArray, List.getElem_cons_zero, List.getElem_cons_succ, List.setIfInBounds_toArray, List.set_cons_zero, List.set_cons_succ]
              refine till_ready (rs := [19]) (by kernel_rfl) (by simp) ?_
              refine TillReady.cons rfl (fun K hK => ?_) TillReady.nil
              refine step_appR rfl (.tmp 88) (.tmp 94) rfl (N := V.heap.size) (g := g2) (c0 := c2) (n := 0 + k + 1) (M := [] ++ L.take k ++ [newR inn tw s p]) rfl HO3.out (HL2.out.trans (by omega)) (m := n - k) (c := c - k) (M2 := L.drop k) rfl (HR4.out _ HB3.out) HL3.out HV3.out (by omega) HB3.out.size ?_
              intro g4 c4 w4 hO4 hg4 hl4
              have hb4 := HSH.out _ _ _ HB3.out HO3.out.parts.1 hg4
              have d4 := (HCX.out _ hb4).1.1; have f4 := (HCF.out _ hb4); have drb := (HCX.out _ hb4).1.2
              have HO4 := Lib.hid hO4; have HB4 := Lib.hid hb4
              clear hO4 hb4 hg4 hl4
              refine hK.out _ _ HB4.out (fun hHeld => ?_)
              clear hK K
              try simp only [Act.put, List.getElem_toArray, List.getElem_cons_zero, List.getElem_cons_succ, List.setIfInBounds_toArray, List.set_cons_zero, List.set_cons_succ]
              refine till_take (i := 20) (oi := _) (v := ?_) [21] rfl (by kernel_rfl) (by kernel_rfl) (by decide) (by kernel_rfl) (by kernel_rfl) (by kernel_rfl) (fun _ _ _ h => h) (Or.inl ⟨by rfl, ?_⟩) (by assumption) ?_
              case refine_2 => intro w hSw; obtain ⟨⟨q7, qrb⟩, ⟨n0, n1, n2, n3, n4, n5, n6⟩, qnb⟩ := HCX.out _ hSw; go_simp; first | done | (with_reducible rfl)
              try simp only [Act.put, List.getElem_toArray, List.getElem_cons_zero, List.getElem_cons_succ, List.setIfInBounds_toArray, List.set_cons_zero, List.set_cons_succ]
              refine till_take (i := 21) (oi := _) (v := ?_) [] rfl (by kernel_rfl) (by kernel_rfl) (by decide) (by kernel_rfl) (by kernel_rfl) (by kernel_rfl) (fun _ _ _ h => h) (Or.inl ⟨by rfl, ?_⟩) (by assumption) ?_
              case refine_2 => intro w hSw; obtain ⟨⟨q7, qrb⟩, ⟨n0, n1, n2, n3, n4, n5, n6⟩, qnb⟩ := HCX.out _ hSw; go_simp; first | done | (with_reducible rfl)
              try simp only [Act.put, List.getElem_toArray, List.getElem_cons_zero, List.getElem_cons_succ, List.setIfInBounds_toArray, List.set_cons_zero, List.set_cons_succ]
              refine till_ready (rs := [22]) (by kernel_rfl) (by simp) ?_
              refine TillReady.past rfl (by kernel_rfl) (fun K hK => ?_) TillReady.nil
              go_simp
              refine hK.out _ _ ?_
              clear hK K
              try simp only [Act.put, List.getElem_toArray, List.getElem_cons_zero, List.getElem_cons_succ, List.setIfInBounds_toArray, List.set_cons_zero, List.set_cons_succ]
              refine till_done (by kernel_rfl) ?_ _
              have HEN := Lib.hid (HEN2.out _ _ _ _ HB4.out HO4.out HL4.out)
              clear HO4 HB4 d4 f4
              dsimp only [OnlyN]
              go_wp2
              all_goals
                go_ret
                exact Or.inr ⟨p, k, HM.out, HP.out, HPL.out, rfl, HEN.out⟩
    | false =>
      have HW := Lib.hid hf
      clear hf
      go_wp2_with fail
      refine (HF1.out _ wish).mono ?_
      rintro e w' ⟨rfl, rfl⟩
      rw [HW.out]
      go_wp2_with fail
      go_loopw [7] (fun i wr => ∃ (p : Int) (q : Nat), i = .int .i64 p ∧ wr = W1.drewN q ∧ x.lo ≤ p ∧ (p ≤ x.hi + 1 ∨ p = x.lo) ∧ Hid (∀ q, x.lo ≤ q → q < p → freeR x (L.map Rb.b) q = false)) (fun i _ => (x.hi + 1 - intOf i).toNat)
      case atStart => exact ⟨x.lo, _, rfl, rfl, by omega, .inr rfl, Lib.hid (fun q h1 h2 => by omega)⟩
      case round =>
        obtain ⟨p, nq, rfl, rfl, hlp, hph, HNO⟩ := hrel
        by_cases hp : p ≤ x.hi
        · have t2 : decide (x.hi < p) = false := decide_eq_false (by omega)
          go_wp2_with fail
          refine (HF1.out _ p).mono ?_
          rintro e w' ⟨rfl, rfl⟩
          cases hfp : freeR x (L.map Rb.b) p with
          | true =>
            have HP : Hid (PortR x (L.map Rb.b) wish p) := Lib.hid ⟨hfp, .inr ⟨HW.out, HNO.out⟩⟩
            have HFW := Lib.hid hfp
            clear hfp HNO
            obtain ⟨V, hV⟩ : ∃ V, (W1.drewN nq).setCell ⟨w.heap.size, 4, none⟩ (.int .i64 p) = V := ⟨_, rfl⟩
            have HBV : Hid (Below w.heap.size w V) := Lib.hid (by rw [← hV]; exact (below_drw HB1.out nq).setCell (p := ⟨w.heap.size, 4, none⟩) (Nat.le_refl _) _)
            have HNV : Hid (V.heap[w.heap.size]? = some (.cells #[.int .u32 inn.1, .int .i64 inn.2, .int .u32 tw.1, .int .i64 tw.2, .int .i64 p, .int .i64 0, .bool s] 54 (0, 0))) := Lib.hid (by rw [← hV, set_top (w := W1.drewN nq) (C := #[.int .u32 inn.1, .int .i64 inn.2, .int .u32 tw.1, .int .i64 tw.2, .int .i64 0, .int .i64 0, .bool s]) HNEW.out]; simp)
            have e4 : W1.cell? ⟨w.heap.size, 4, none⟩ = some (.int .i64 0) := (cells_of HNEW.out 4).1
            have f4 : W1.frozen? ⟨w.heap.size, 4, none⟩ = false := (cells_of HNEW.out 4).2
            have l4 : w.heap.size < W1.heap.size := (Array.getElem?_eq_some_iff.1 HNEW.out).1
            have HBX : Hid (∀ W, Below V.heap.size V W → Below w.heap.size w W) := Lib.hid (fun W h => HBV.out.trans (h.mono HBV.out.size))
            have HCX : Hid (∀ W, Below V.heap.size V W → (W.cell? ⟨rb, 7, none⟩ = some (.slice (some ⟨b, 0, none⟩) n c) ∧ rb < W.heap.size) ∧ (W.cell? ⟨w.heap.size, 0, none⟩ = some (.int .u32 inn.1) ∧ W.cell? ⟨w.heap.size, 1, none⟩ = some (.int .i64 inn.2) ∧ W.cell? ⟨w.heap.size, 2, none⟩ = some (.int .u32 tw.1) ∧ W.cell? ⟨w.heap.size, 3, none⟩ = some (.int .i64 tw.2) ∧ W.cell? ⟨w.heap.size, 4, none⟩ = some (.int .i64 p) ∧ W.cell? ⟨w.heap.size, 5, none⟩ = some (.int .i64 0) ∧ W.cell? ⟨w.heap.size, 6, none⟩ = some (.bool s)) ∧ w.heap.size < W.heap.size) := Lib.hid (fun W h => by
              have h1 := HC.out _ (HBX.out _ h)
              have h2 : W.heap[w.heap.size]? = _ := (h.block _ (Array.getElem?_eq_some_iff.1 HNV.out).1).trans HNV.out
              exact ⟨⟨h1.1.2.2.2, h1.2.2⟩, ⟨(cells_of h2 0).1, (cells_of h2 1).1, (cells_of h2 2).1, (cells_of h2 3).1, (cells_of h2 4).1, (cells_of h2 5).1, (cells_of h2 6).1⟩, (Array.getElem?_eq_some_iff.1 h2).1⟩)
            have HCF : Hid (∀ W, Below V.heap.size V W → W.frozen? ⟨rb, 7, none⟩ = false) := Lib.hid (fun W h => (HC.out _ (HBX.out _ h)).2.1)
            have HSTV : Hid (RStep w0 V rb x v0 L0 now' L) := Lib.hid (HST2.out _ HBV.out)
            have HSH : Hid (∀ (W W' : World) (g : Nat), Below V.heap.size V W → V.heap.size ≤ g → W.grownBy W' (some g) → Below V.heap.size V W') := Lib.hid (fun W W' g h1 h2 h3 => below_appR h1 h3 h2 h1.size)
            have HBA : Hid (∀ q o, Below V.heap.size V ((V.drewN q).alloc o)) := Lib.hid (fun q o => (below_drw (Below.refl _ V) q).alloc (Nat.le_refl _) _)
            have HBB : Hid (∀ q o o2, Below V.heap.size V (((V.drewN q).alloc o).alloc o2)) := Lib.hid (fun q o o2 => (HBA.out q o).alloc (HBA.out q o).size _)
            have HV2 : Hid (∀ d ∈ [newR inn tw s p], d.sv.oneCell' = true) := Lib.hid (fun d hd => by rw [List.mem_singleton.1 hd]; rfl)
            have HROWV : Hid (∀ W, Below V.heap.size V W → RowR W (some ⟨b, 0, none⟩) L c) := Lib.hid (fun W h => HROW.out.below (HBX.out _ h))
            have HEND : Hid (∀ (k : Nat) (W : World) (g c n : Nat), Below V.heap.size V W → OwnR V.heap.size W g c (insR L k (newR inn tw s p)) → (insR L k (newR inn tw s p)).length = n → RStep w0 (W.setCell ⟨rb, 7, none⟩ (.slice (some ⟨g, 0, none⟩) n c)) rb x v0 L0 now' (insR L k (newR inn tw s p))) := Lib.hid (fun k W g c n h1 h2 h3 => rrow_end (now := now') (v1 := v0) HSTV.out (fun d hd => by
              unfold insR at hd
              rw [List.nil_append, List.mem_append, List.mem_append, List.mem_singleton] at hd
              rcases hd with (hd | rfl) | hd
              · exact .inl (List.mem_of_mem_take hd)
              · exact .inr ⟨rfl, rfl⟩
              · exact .inl (List.mem_of_mem_drop hd)) h1 h2 h3 rfl)
            obtain ⟨⟨d7, drb⟩, ⟨y0, y1, y2, y3, y4, y5, y6⟩, dnb⟩ := HCX.out V (Below.refl _ _)
            go_wp2_with fail
            try rw [hV]
            clear hV e4 f4 l4
            go_loopw [8] (fun i wr => ∃ k q : Nat, k ≤ n ∧ i = .int .i64 k ∧ wr = V.drewN q ∧ Hid (∀ (j : Nat) (e : Rb), j < k → L[j]? = some e → e.b.port < p)) (fun i _ => n - (intOf i).toNat)
            case atStart => exact ⟨0, 0, by omega, rfl, rfl, Lib.hid (fun j e h => by omega)⟩
            case round =>
              obtain ⟨k, q, hk, rfl, rfl, HA⟩ := hrel
              go_upto_region 12 with (fail)
              go_cut [73] from 54 to 75 (fun u wx => ∃ (bb : Bool) (q2 : Nat), u = .bool bb ∧ wx = V.drewN q2 ∧ (bb = true → k < n) ∧ Hid (bb = true → ∀ (j : Nat) (e : Rb), j < k + 1 → L[j]? = some e → e.b.port < p) ∧ Hid (bb = false → ∀ e, L[k]? = some e → ¬ e.b.port < p))
              case first =>
                by_cases hkn : k < n
                · obtain ⟨d, hd⟩ : ∃ d, L[k]? = some d := ⟨_, List.getElem?_eq_getElem (by have := HN.out; omega)⟩
                  obtain ⟨dp, gl⟩ := HAT.out V HBV.out k d hd
                  have HD := Lib.hid hd
                  have l1 : (k : Int) < (n : Int) := by omega
                  clear hd
                  by_cases hl : d.b.port < p
                  · have HS : Hid (true = true → ∀ (j : Nat) (e : Rb), j < k + 1 → L[j]? = some e → e.b.port < p) := Lib.hid (fun _ j e hj he => by
                      rcases Nat.lt_or_ge j k with h' | h'
                      · exact HA.out j e h' he
                      · obtain rfl : j = k := by omega
                        rw [HD.out] at he; cases he; exact hl)
                    go_wp2_with fail
                    go_meet
                    exact ⟨true, _, rfl, rfl, fun _ => hkn, Lib.hid (fun _ => HS.out trivial), Lib.hid (fun h => by cases h)⟩
                  · have HS : Hid (false = false → ∀ e, L[k]? = some e → ¬ e.b.port < p) := Lib.hid (fun _ e he => by rw [HD.out] at he; cases he; exact hl)
                    go_wp2_with fail
                    go_meet
                    exact ⟨false, _, rfl, rfl, fun h => (by cases h), Lib.hid (fun h => by cases h), Lib.hid (fun _ => HS.out trivial)⟩
                · have l1 : ¬ (k : Int) < (n : Int) := by omega
                  have HS : Hid (false = false → ∀ e, L[k]? = some e → ¬ e.b.port < p) := Lib.hid (fun _ e he => by
                    have := (List.getElem?_eq_some_iff.1 he).1
                    have := HN.out
                    omega)
                  go_wp2_with fail
                  go_meet
                  exact ⟨false, _, rfl, rfl, fun h => (by cases h), Lib.hid (fun h => by cases h), Lib.hid (fun _ => HS.out trivial)⟩
              case rest =>
                obtain ⟨bb, q2, rfl, rfl, hlt, HT2, HF2⟩ := hcut
                cases bb with
                | true =>
                  have hkn := hlt rfl
                  clear hlt
                  go_wp2_with fail
                  go_roundw
                  case rel => exact ⟨k + 1, _, by omega, by go_num, rfl, Lib.hid (HT2.out rfl)⟩
                  case measure => simp [intOf]; omega
                | false =>
                  clear hlt HT2
                  have HPL : Hid (PlaceR L p k) := Lib.hid ⟨by have := HN.out; omega, HA.out, HF2.out rfl⟩
                  have HL1 : Hid ((L.take k).length = k) := Lib.hid (by rw [List.length_take]; have := HN.out; omega)
                  have HL2 : Hid (([] ++ L.take k ++ [newR inn tw s p]).length = k + 1) := Lib.hid (by rw [List.nil_append, List.length_append, HL1.out]; rfl)
                  have HL3 : Hid ((L.drop k).length = n - k) := Lib.hid (by rw [List.length_drop, HN.out])
                  have HL4 : Hid (([] ++ L.take k ++ [newR inn tw s p] ++ L.drop k).length = k + 1 + (n - k)) := Lib.hid (by rw [List.length_append, HL2.out, HL3.out])
                  have HV1 : Hid (∀ d ∈ L.take k, d.sv.oneCell' = true) := Lib.hid (fun d hd => HSV1.out d (List.mem_of_mem_take hd))
                  have HV3 : Hid (∀ d ∈ L.drop k, d.sv.oneCell' = true) := Lib.hid (fun d hd => HSV1.out d (List.mem_of_mem_drop hd))
                  have HR1 : Hid (∀ W, Below V.heap.size V W → RowR W (some ⟨b, 0, none⟩) (L.take k) c) := Lib.hid (fun W hW => (HROWV.out W hW).take k)
                  have HR4 : Hid (∀ W, Below V.heap.size V W → RowR W (if c = k then some ⟨b, 0, none⟩ else some ⟨b, k * 8, none⟩) (L.drop k) (c - k)) := Lib.hid (fun W hW => by
                    split
                    · have : n = k := by omega
                      rw [List.drop_of_length_le (by have := HN.out; omega)]
                      exact (HROWV.out W hW).nil _
                    · have := (HROWV.out W hW).drop k (c - k)
                      rwa [Nat.zero_add] at this)
                  have HEN2 := Lib.hid (HEND.out k)
                  unfold insR at HEN2
                  have l3 : (k : Int) ≤ (c : Int) := by omega
                  have l4 : k ≤ c := by omega
                  have l6 : (0 : Int) ≤ (k : Int) := by omega
                  have l7 : (n : Int) ≤ (c : Int) := by omega
                  have l8 : (k : Int) ≤ (n : Int) := by omega
                  go_upto_region 14 with (fail)
                  refine Code.wp_mono (Q := OnlyN _) OnlyN.all ?_
                  refine wp_region_till (S := fun W => Below V.heap.size V W) (z := 22) (by kernel_rfl) (below_drw (Below.refl _ V) (q2 + 1)) (fun hHeld => ?_)
                  refine till_take (i := 0) (oi := _) (v := ?_) [] rfl (by kernel_rfl) (by kernel_rfl) (by decide) (by kernel_rfl) (by kernel_rfl) (by kernel_rfl) (fun _ _ _ h => h) (Or.inl ⟨by rfl, ?_⟩) (by assumption) ?_
                  case refine_2 => intro w hSw; obtain ⟨⟨q7, qrb⟩, ⟨n0, n1, n2, n3, n4, n5, n6⟩, qnb⟩ := HCX.out _ hSw; go_simp; first | done | (with_reducible rfl)
                  try simp only [Act.put, List.getElem_toArray, List.getElem_cons_zero, List.setIfInBounds_toArray, List.set_cons_zero, List.set_cons_succ]
                  refine till_take (i := 2) (oi := _) (v := ?_) [] rfl (by kernel_rfl) (by kernel_rfl) (by decide) (by kernel_rfl) (by kernel_rfl) (by kernel_rfl) (fun _ _ _ h => h) (Or.inl ⟨by rfl, ?_⟩) (by assumption) ?_
                  case refine_2 => intro w hSw; obtain ⟨⟨q7, qrb⟩, ⟨n0, n1, n2, n3, n4, n5, n6⟩, qnb⟩ := HCX.out _ hSw; go_simp; first | done | (with_reducible rfl)
                  try simp only [Act.put, List.getElem_toArray, List.getElem_cons_zero, List.getElem_cons_succ, List.setIfInBounds_toArray, List.set_cons_zero, List.set_cons_succ]
                  refine till_take (i := 3) (oi := _) (v := ?_) [] rfl (by kernel_rfl) (by kernel_rfl) (by decide) (by kernel_rfl) (by kernel_rfl) (by kernel_rfl) (fun _ _ _ h => h) (Or.inl ⟨by rfl, ?_⟩) (by assumption) ?_
                  case refine_2 => intro w hSw; obtain ⟨⟨q7, qrb⟩, ⟨n0, n1, n2, n3, n4, n5, n6⟩, qnb⟩ := HCX.out _ hSw; go_simp; first | done | (with_reducible rfl)
                  try simp only [Act.put, List.getElem_toArray, List.getElem_cons_zero, List.getElem_cons_succ, List.setIfInBounds_toArray, List.set_cons_zero, List.set_cons_succ]
                  refine till_take (i := 4) (oi := _) (v := ?_) [] rfl (by kernel_rfl) (by kernel_rfl) (by decide) (by kernel_rfl) (by kernel_rfl) (by kernel_rfl) (fun _ _ _ h => h) (Or.inl ⟨by rfl, ?_⟩) (by assumption) ?_
                  case refine_2 => intro w hSw; obtain ⟨⟨q7, qrb⟩, ⟨n0, n1, n2, n3, n4, n5, n6⟩, qnb⟩ := HCX.out _ hSw; go_simp; first | done | (with_reducible rfl)
                  try simp only [Act.put, List.getElem_toArray, List.getElem_cons_zero, List.getElem_cons_succ, List.setIfInBounds_toArray, List.set_cons_zero, List.set_cons_succ]
                  refine till_take (i := 5) (oi := _) (v := ?_) [] rfl (by kernel_rfl) (by kernel_rfl) (by decide) (by kernel_rfl) (by kernel_rfl) (by kernel_rfl) (fun _ _ _ h => h) (Or.inl ⟨by rfl, ?_⟩) (by assumption) ?_
                  case refine_2 => intro w hSw; obtain ⟨⟨q7, qrb⟩, ⟨n0, n1, n2, n3, n4, n5, n6⟩, qnb⟩ := HCX.out _ hSw; go_simp; first | done | (with_reducible rfl)
                  try simp only [Act.put, List.getElem_toArray, List.getElem_cons_zero, List.getElem_cons_succ, List.setIfInBounds_toArray, List.set_cons_zero, List.set_cons_succ]
                  refine till_take (i := 6) (oi := _) (v := ?_) [] rfl (by kernel_rfl) (by kernel_rfl) (by decide) (by kernel_rfl) (by kernel_rfl) (by kernel_rfl) (fun _ _ _ h => h) (Or.inl ⟨by rfl, ?_⟩) (by assumption) ?_
                  case refine_2 => intro w hSw; obtain ⟨⟨q7, qrb⟩, ⟨n0, n1, n2, n3, n4, n5, n6⟩, qnb⟩ := HCX.out _ hSw; go_simp; first | done | (with_reducible rfl)
                  try simp only [Act.put, List.getElem_toArray, List.getElem_cons_zero, List.getElem_cons_succ, List.setIfInBounds_toArray, List.set_cons_zero, List.set_cons_succ]
                  refine till_take (i := 7) (oi := _) (v := ?_) [] rfl (by kernel_rfl) (by kernel_rfl) (by decide) (by kernel_rfl) (by kernel_rfl) (by kernel_rfl) (fun _ _ _ h => h) (Or.inl ⟨by rfl, ?_⟩) (by assumption) ?_
                  case refine_2 => intro w hSw; obtain ⟨⟨q7, qrb⟩, ⟨n0, n1, n2, n3, n4, n5, n6⟩, qnb⟩ := HCX.out _ hSw; go_simp; first | done | (with_reducible rfl)
                  try simp only [Act.put, List.getElem_toArray, List.getElem_cons_zero, List.getElem_cons_succ, List.setIfInBounds_toArray, List.set_cons_zero, List.set_cons_succ]
                  refine till_take (i := 9) (oi := _) (v := ?_) [] rfl (by kernel_rfl) (by kernel_rfl) (by decide) (by kernel_rfl) (by kernel_rfl) (by kernel_rfl) (fun _ _ _ h => h) (Or.inl ⟨by rfl, ?_⟩) (by assumption) ?_
                  case refine_2 => intro w hSw; obtain ⟨⟨q7, qrb⟩, ⟨n0, n1, n2, n3, n4, n5, n6⟩, qnb⟩ := HCX.out _ hSw; go_simp; first | done | (with_reducible rfl)
                  try simp only [Act.put, List.getElem_toArray, List.getElem_cons_zero, List.getElem_cons_succ, List.setIfInBounds_toArray, List.set_cons_zero, List.set_cons_succ]
                  refine till_take (i := 10) (oi := _) (v := ?_) [] rfl (by kernel_rfl) (by kernel_rfl) (by decide) (by kernel_rfl) (by kernel_rfl) (by kernel_rfl) (fun _ _ _ h => h) (Or.inl ⟨by rfl, ?_⟩) (by assumption) ?_
                  case refine_2 => intro w hSw; obtain ⟨⟨q7, qrb⟩, ⟨n0, n1, n2, n3, n4, n5, n6⟩, qnb⟩ := HCX.out _ hSw; go_simp; first | done | (with_reducible rfl)
                  try simp only [Act.put, List.getElem_toArray, List.getElem_cons_zero, List.getElem_cons_succ, List.setIfInBounds_toArray, List.set_cons_zero, List.set_cons_succ]
                  refine till_take (i := 13) (oi := _) (v := ?_) [] rfl (by kernel_rfl) (by kernel_rfl) (by decide) (by kernel_rfl) (by kernel_rfl) (by kernel_rfl) (fun _ _ _ h => h) (Or.inl ⟨by rfl, ?_⟩) (by assumption) ?_
                  case refine_2 => intro w hSw; obtain ⟨⟨q7, qrb⟩, ⟨n0, n1, n2, n3, n4, n5, n6⟩, qnb⟩ := HCX.out _ hSw; go_simp; first | done | (with_reducible rfl)
                  try simp only [Act.put, List.getElem_toArray, List.getElem_cons_zero, List.getElem_cons_succ, List.setIfInBounds_toArray, List.set_cons_zero, List.set_cons_succ]
                  refine till_take (i := 14) (oi := _) (v := ?_) [] rfl (by kernel_rfl) (by kernel_rfl) (by decide) (by kernel_rfl) (by kernel_rfl) (by kernel_rfl) (fun _ _ _ h => h) (Or.inl ⟨by rfl, ?_⟩) (by assumption) ?_
                  case refine_2 => intro w hSw; obtain ⟨⟨q7, qrb⟩, ⟨n0, n1, n2, n3, n4, n5, n6⟩, qnb⟩ := HCX.out _ hSw; go_simp; first | done | (with_reducible rfl)
                  try simp only [Act.put, List.getElem_toArray, List.getElem_cons_zero, List.getElem_cons_succ, List.setIfInBounds_toArray, List.set_cons_zero, List.set_cons_succ]
                  refine till_take (i := 15) (oi := _) (v := ?_) [] rfl (by kernel_rfl) (by kernel_rfl) (by decide) (by kernel_rfl) (by kernel_rfl) (by kernel_rfl) (fun _ _ _ h => h) (Or.inl ⟨by rfl, ?_⟩) (by assumption) ?_
                  case refine_2 => intro w hSw; obtain ⟨⟨q7, qrb⟩, ⟨n0, n1, n2, n3, n4, n5, n6⟩, qnb⟩ := HCX.out _ hSw; go_simp; first | done | (with_reducible rfl)
                  try simp only [Act.put, List.getElem_toArray, List.getElem_cons_zero, List.getElem_cons_succ, List.setIfInBounds_toArray, List.set_cons_zero, List.set_cons_succ]
                  refine till_take (i := 16) (oi := _) (v := ?_) [] rfl (by kernel_rfl) (by kernel_rfl) (by decide) (by kernel_rfl) (by kernel_rfl) (by kernel_rfl) (fun _ _ _ h => h) (Or.inl ⟨by rfl, ?_⟩) (by assumption) ?_
                  case refine_2 => intro w hSw; obtain ⟨⟨q7, qrb⟩, ⟨n0, n1, n2, n3, n4, n5, n6⟩, qnb⟩ := HCX.out _ hSw; go_simp; first | done | (with_reducible rfl)
                  try simp only [Act.put, List.getElem_toArray, List.getElem_cons_zero, List.getElem_cons_succ, List.setIfInBounds_toArray, List.set_cons_zero, List.set_cons_succ]
                  refine till_take (i := 17) (oi := _) (v := ?_) [] rfl (by kernel_rfl) (by kernel_rfl) (by decide) (by kernel_rfl) (by kernel_rfl) (by kernel_rfl) (fun _ _ _ h => h) (Or.inl ⟨by rfl, ?_⟩) (by assumption) ?_
                  case refine_2 => intro w hSw; obtain ⟨⟨q7, qrb⟩, ⟨n0, n1, n2, n3, n4, n5, n6⟩, qnb⟩ := HCX.out _ hSw; go_simp; first | done | (with_reducible rfl)
                  try simp only [Act.put, List.getElem_toArray, List.getElem_cons_zero, List.getElem_cons_succ, List.setIfInBounds_toArray, List.set_cons_zero, List.set_cons_succ]
                  refine till_take (i := 18) (oi := _) (v := ?_) [] rfl (by kernel_rfl) (by kernel_rfl) (by decide) (by kernel_rfl) (by kernel_rfl) (by kernel_rfl) (fun _ _ _ h => h) (Or.inl ⟨by rfl, ?_⟩) (by assumption) ?_
                  case refine_2 => intro w hSw; obtain ⟨⟨q7, qrb⟩, ⟨n0, n1, n2, n3, n4, n5, n6⟩, qnb⟩ := HCX.out _ hSw; go_simp; first | done | (with_reducible rfl)
                  try simp only [Act.put, List.getElem_toArray, List.getElem_cons_zero, List.getElem_cons_succ, List.setIfInBounds_toArray, List.set_cons_zero, List.set_cons_succ]
                  refine till_ready (rs := [1, 11]) (by kernel_rfl) (by simp) ?_
                  refine TillReady.cons rfl (fun K hK => ?_) (TillReady.cons rfl (fun K hK => ?_) TillReady.nil)
                  · go_simp
                    refine hK.out _ _ (HBA.out _ _) (fun hHeld => ?_)
                    clear hK K
                    try simp only [Act.put, List.getElem_toArray, List.getElem_cons_zero, List.getElem_cons_succ, List.setIfInBounds_toArray, List.set_cons_zero, List.set_cons_succ]
                    refine till_ready (rs := [8, 11]) (by kernel_rfl) (by simp) ?_
                    refine TillReady.cons rfl (fun K hK => ?_) (TillReady.cons rfl (fun K hK => ?_) TillReady.nil)
                    · refine step_appR rfl (.tmp 77) (.tmp 83) rfl (N := V.heap.size) (c0 := 0) (n := 0) (M := []) rfl (OwnR.lit (V.drewN _) (Nat.le_refl _)) rfl (A := some ⟨b, 0, none⟩) (m := k) (c := c) (M2 := L.take k) rfl (HR1.out _ (HBA.out _ _)) HL1.out HV1.out (by omega) (HBA.out _ _).size ?_
                      intro g1 c1 w2 hO2 hg2 hl2
                      have hb2 := HSH.out _ _ _ (HBA.out _ _) (by simp) hg2
                      have HO2 := Lib.hid hO2; have HB2 := Lib.hid hb2
                      clear hO2 hb2 hg2 hl2
                      refine hK.out _ _ HB2.out (fun hHeld => ?_)
                      clear hK K
                      try simp only [Act.put, List.getElem_toArray, List.getElem_cons_zero, List.getElem_cons_succ, List.setIfInBounds_toArray, List.set_cons_zero, List.set_cons_succ]
                      refine till_ready (rs := [11]) (by kernel_rfl) (by simp) ?_
                      refine TillReady.cons rfl (fun K hK => ?_) TillReady.nil
                      go_simp
                      refine hK.out _ _ (HB2.out.alloc HB2.out.size _) (fun hHeld => ?_)
                      clear hK K
                      try simp only [Act.put, List.getElem_toArray, List.getElem_cons_zero, List.getElem_cons_succ, List.setIfInBounds_toArray, List.set_cons_zero, List.set_cons_succ]
                      refine till_ready (rs := [12]) (by kernel_rfl) (by simp) ?_
                      refine TillReady.cons rfl (fun K hK => ?_) TillReady.nil
                      refine step_appR rfl (.tmp 84) (.tmp 87) rfl (N := V.heap.size) (g := g1) (c0 := c1) (n := k) (M := [] ++ L.take k) rfl (HO2.out.alloc _) HL1.out (m := 1) (c := 1) (M2 := [newR inn tw s p]) rfl (RowR.one (d := newR inn tw s p) (heap_bR _ _) rfl) rfl HV2.out (by omega) (HB2.out.alloc HB2.out.size _).size ?_
                      intro g2 c2 w3 hO3 hg3 hl3
                      have hb3 := HSH.out _ _ _ (HB2.out.alloc HB2.out.size _) HO2.out.parts.1 hg3
                      have HO3 := Lib.hid hO3; have HB3 := Lib.hid hb3
                      clear hO3 hb3 hg3 hl3
                      refine hK.out _ _ HB3.out (fun hHeld => ?_)
                      clear hK K
                      try simp only [Act.put, List.getElem_toArray, List.getElem_cons_zero, List.getElem_cons_succ, List.setIfInBounds_toArray, List.set_cons_zero, List.set_cons_succ]
                      refine till_ready (rs := [19]) (by kernel_rfl) (by simp) ?_
                      refine TillReady.cons rfl (fun K hK => ?_) TillReady.nil
                      refine step_appR rfl (.tmp 88) (.tmp 94) rfl (N := V.heap.size) (g := g2) (c0 := c2) (n := k + 1) (M := [] ++ L.take k ++ [newR inn tw s p]) rfl HO3.out HL2.out (m := n - k) (c := c - k) (M2 := L.drop k) rfl (HR4.out _ HB3.out) HL3.out HV3.out (by omega) HB3.out.size ?_
                      intro g4 c4 w4 hO4 hg4 hl4
                      have hb4 := HSH.out _ _ _ HB3.out HO3.out.parts.1 hg4
                      have d4 := (HCX.out _ hb4).1.1; have f4 := (HCF.out _ hb4); have drb := (HCX.out _ hb4).1.2
                      have HO4 := Lib.hid hO4; have HB4 := Lib.hid hb4
                      clear hO4 hb4 hg4 hl4
                      refine hK.out _ _ HB4.out (fun hHeld => ?_)
                      clear hK K
                      try simp only [Act.put, List.getElem_toArray, List.getElem_cons_zero, List.getElem_cons_succ, List.setIfInBounds_toArray, List.set_cons_zero, List.set_cons_succ]
                      refine till_take (i := 20) (oi := _) (v := ?_) [21] rfl (by kernel_rfl) (by kernel_rfl) (by decide) (by kernel_rfl) (by kernel_rfl) (by kernel_rfl) (fun _ _ _ h => h) (Or.inl ⟨by rfl, ?_⟩) (by assumption) ?_
                      case refine_2 => intro w hSw; obtain ⟨⟨q7, qrb⟩, ⟨n0, n1, n2, n3, n4, n5, n6⟩, qnb⟩ := HCX.out _ hSw; go_simp; first | done | (with_reducible rfl)
                      try simp only [Act.put, List.getElem_toArray, List.getElem_cons_zero, List.getElem_cons_succ, List.setIfInBounds_toArray, List.set_cons_zero, List.set_cons_succ]
                      refine till_take (i := 21) (oi := _) (v := ?_) [] rfl (by kernel_rfl) (by kernel_rfl) (by decide) (by kernel_rfl) (by kernel_rfl) (by kernel_rfl) (fun _ _ _ h => h) (Or.inl ⟨by rfl, ?_⟩) (by assumption) ?_
                      case refine_2 => intro w hSw; obtain ⟨⟨q7, qrb⟩, ⟨n0, n1, n2, n3, n4, n5, n6⟩, qnb⟩ := HCX.out _ hSw; go_simp; first | done | (with_reducible rfl)
                      try simp only [Act.put, List.getElem_toArray, List.getElem_cons_zero, List.getElem_cons_succ, List.setIfInBounds_toArray, List.set_cons_zero, List.set_cons_succ]
                      refine till_ready (rs := [22]) (by kernel_rfl) (by simp) ?_
                      refine TillReady.past rfl (by kernel_rfl) (fun K hK => ?_) TillReady.nil
                      go_simp
                      refine hK.out _ _ ?_
                      clear hK K
                      try simp only [Act.put, List.getElem_toArray, List.getElem_cons_zero, List.getElem_cons_succ, List.setIfInBounds_toArray, List.set_cons_zero, List.set_cons_succ]
                      refine till_done (by kernel_rfl) ?_ _
                      have HEN := Lib.hid (HEN2.out _ _ _ _ HB4.out HO4.out HL4.out)
                      clear HO4 HB4 d4 f4
                      dsimp only [OnlyN]
                      go_wp2
                      all_goals
                        go_ret
                        exact Or.inr ⟨p, k, HM.out, HP.out, HPL.out, rfl, HEN.out⟩
                    · go_simp
                      refine hK.out _ _ (HBB.out _ _ _) (fun hHeld => ?_)
                      clear hK K
                      try simp only [Act.put, List.getElem_toArray, List.getElem_cons_zero, List.getElem_cons_succ, List.setIfInBounds_toArray, List.set_cons_zero, List.set_cons_succ]
                      refine till_ready (rs := [8]) (by kernel_rfl) (by simp) ?_
                      refine TillReady.cons rfl (fun K hK => ?_) TillReady.nil
                      refine step_appR rfl (.tmp 77) (.tmp 83) rfl (N := V.heap.size) (c0 := 0) (n := 0) (M := []) rfl ((OwnR.lit (V.drewN _) (Nat.le_refl _)).alloc _) rfl (A := some ⟨b, 0, none⟩) (m := k) (c := c) (M2 := L.take k) rfl (HR1.out _ (HBB.out _ _ _)) HL1.out HV1.out (by omega) (HBB.out _ _ _).size ?_
                      intro g1 c1 w2 hO2 hg2 hl2
                      have hb2 := HSH.out _ _ _ (HBB.out _ _ _) (by simp) hg2
                      have HX := Lib.hid (one_keptR (d := newR inn tw s p) (gx := V.heap.size + 1) (heap_dR V _ _ _) rfl hg2 (by simp))
                      have HO2 := Lib.hid hO2; have HB2 := Lib.hid hb2
                      clear hO2 hb2 hg2 hl2
                      refine hK.out _ _ HB2.out (fun hHeld => ?_)
                      clear hK K
                      try simp only [Act.put, List.getElem_toArray, List.getElem_cons_zero, List.getElem_cons_succ, List.setIfInBounds_toArray, List.set_cons_zero, List.set_cons_succ]
                      refine till_ready (rs := [12]) (by kernel_rfl) (by simp) ?_
                      refine TillReady.cons rfl (fun K hK => ?_) TillReady.nil
                      refine step_appR rfl (.tmp 84) (.tmp 87) rfl (N := V.heap.size) (g := g1) (c0 := c1) (n := 0 + k) (M := [] ++ L.take k) rfl HO2.out (HL1.out.trans (Nat.zero_add _).symm) (m := 1) (c := 1) (M2 := [newR inn tw s p]) rfl HX.out rfl HV2.out (by omega) HB2.out.size ?_
                      intro g2 c2 w3 hO3 hg3 hl3
                      have hb3 := HSH.out _ _ _ HB2.out HO2.out.parts.1 hg3
                      have HO3 := Lib.hid hO3; have HB3 := Lib.hid hb3
                      clear hO3 hb3 hg3 hl3
                      refine hK.out _ _ HB3.out (fun hHeld => ?_)
                      clear hK K
                      try simp only [Act.put, List.getElem_toArray, List.getElem_cons_zero, List.getElem_cons_succ, List.setIfInBounds_toArray, List.set_cons_zero, List.set_cons_succ]
                      refine till_ready (rs := [19]) (by kernel_rfl) (by simp) ?_
                      refine TillReady.cons rfl (fun K hK => ?_) TillReady.nil
                      refine step_appR rfl (.tmp 88) (.tmp 94) rfl (N := V.heap.size) (g := g2) (c0 := c2) (n := 0 + k + 1) (M := [] ++ L.take k ++ [newR inn tw s p]) rfl HO3.out (HL2.out.trans (by omega)) (m := n - k) (c := c - k) (M2 := L.drop k) rfl (HR4.out _ HB3.out) HL3.out HV3.out (by omega) HB3.out.size ?_
                      intro g4 c4 w4 hO4 hg4 hl4
                      have hb4 := HSH.out _ _ _ HB3.out HO3.out.parts.1 hg4
                      have d4 := (HCX.out _ hb4).1.1; have f4 := (HCF.out _ hb4); have drb := (HCX.out _ hb4).1.2
                      have HO4 := Lib.hid hO4; have HB4 := Lib.hid hb4
                      clear hO4 hb4 hg4 hl4
                      refine hK.out _ _ HB4.out (fun hHeld => ?_)
                      clear hK K
                      try simp only [Act.put, List.getElem_toArray, List.getElem_cons_zero, List.getElem_cons_succ, List.setIfInBounds_toArray, List.set_cons_zero, List.set_cons_succ]
                      refine till_take (i := 20) (oi := _) (v := ?_) [21] rfl (by kernel_rfl) (by kernel_rfl) (by decide) (by kernel_rfl) (by kernel_rfl) (by kernel_rfl) (fun _ _ _ h => h) (Or.inl ⟨by rfl, ?_⟩) (by assumption) ?_
                      case refine_2 => intro w hSw; obtain ⟨⟨q7, qrb⟩, ⟨n0, n1, n2, n3, n4, n5, n6⟩, qnb⟩ := HCX.out _ hSw; go_simp; first | done | (with_reducible rfl)
                      try simp only [Act.put, List.getElem_toArray, List.getElem_cons_zero, List.getElem_cons_succ, List.setIfInBounds_toArray, List.set_cons_zero, List.set_cons_succ]
                      refine till_take (i := 21) (oi := _) (v := ?_) [] rfl (by kernel_rfl) (by kernel_rfl) (by decide) (by kernel_rfl) (by kernel_rfl) (by kernel_rfl) (fun _ _ _ h => h) (Or.inl ⟨by rfl, ?_⟩) (by assumption) ?_
                      case refine_2 => intro w hSw; obtain ⟨⟨q7, qrb⟩, ⟨n0, n1, n2, n3, n4, n5, n6⟩, qnb⟩ := HCX.out _ hSw; go_simp; first | done | (with_reducible rfl)
                      try simp only [Act.put, List.getElem_toArray, List.getElem_cons_zero, List.getElem_cons_succ, List.setIfInBounds_toArray, List.set_cons_zero, List.set_cons_succ]
                      refine till_ready (rs := [22]) (by kernel_rfl) (by simp) ?_
                      refine TillReady.past rfl (by kernel_rfl) (fun K hK => ?_) TillReady.nil
                      go_simp
                      refine hK.out _ _ ?_
                      clear hK K
                      try simp only [Act.put, List.getElem_toArray, List.getElem_cons_zero, List.getElem_cons_succ, List.setIfInBounds_toArray, List.set_cons_zero, List.set_cons_succ]
                      refine till_done (by kernel_rfl) ?_ _
                      have HEN := Lib.hid (HEN2.out _ _ _ _ HB4.out HO4.out HL4.out)
                      clear HO4 HB4 d4 f4
                      dsimp only [OnlyN]
                      go_wp2
                      all_goals
                        go_ret
                        exact Or.inr ⟨p, k, HM.out, HP.out, HPL.out, rfl, HEN.out⟩
                  · go_simp
                    refine hK.out _ _ (HBA.out _ _) (fun hHeld => ?_)
                    clear hK K
                    try simp only [Act.put, List.getElem_toArray, List.getElem_cons_zero, List.getElem_cons_succ, List.setIfInBounds_toArray, List.set_cons_zero, List.set_cons_succ]
                    refine till_ready (rs := [1]) (by kernel_rfl) (by simp) ?_
                    refine TillReady.cons rfl (fun K hK => ?_) TillReady.nil
                    go_simp
                    refine hK.out _ _ (HBB.out _ _ _) (fun hHeld => ?_)
                    clear hK K
                    try simp only [Act.put, List.getElem_toArray, List.getElem_cons_zero, List.getElem_cons_succ, List.setIfInBounds_toArray, List.set_cons_zero, List.set_cons_succ]
                    refine till_ready (rs := [8]) (by kernel_rfl) (by simp) ?_
                    refine TillReady.cons rfl (fun K hK => ?_) TillReady.nil
                    refine step_appR rfl (.tmp 77) (.tmp 83) rfl (N := V.heap.size) (c0 := 0) (n := 0) (M := []) rfl (own_eR V _ _) rfl (A := some ⟨b, 0, none⟩) (m := k) (c := c) (M2 := L.take k) rfl (HR1.out _ (HBB.out _ _ _)) HL1.out HV1.out (by omega) (HBB.out _ _ _).size ?_
                    intro g1 c1 w2 hO2 hg2 hl2
                    have hb2 := HSH.out _ _ _ (HBB.out _ _ _) (by simp) hg2
                    have HX := Lib.hid (one_keptR (d := newR inn tw s p) (gx := V.heap.size) (heap_eR V _ _ _) rfl hg2 (by simp))
                    have HO2 := Lib.hid hO2; have HB2 := Lib.hid hb2
                    clear hO2 hb2 hg2 hl2
                    refine hK.out _ _ HB2.out (fun hHeld => ?_)
                    clear hK K
                    try simp only [Act.put, List.getElem_toArray, List.getElem_cons_zero, List.getElem_cons_succ, List.setIfInBounds_toArray, List.set_cons_zero, List.set_cons_succ]
                    refine till_ready (rs := [12]) (by kernel_rfl) (by simp) ?_
                    refine TillReady.cons rfl (fun K hK => ?_) TillReady.nil
                    refine step_appR rfl (.tmp 84) (.tmp 87) rfl (N := V.heap.size) (g := g1) (c0 := c1) (n := 0 + k) (M := [] ++ L.take k) rfl HO2.out (HL1.out.trans (Nat.zero_add _).symm) (m := 1) (c := 1) (M2 := [newR inn tw s p]) rfl HX.out rfl HV2.out (by omega) HB2.out.size ?_
                    intro g2 c2 w3 hO3 hg3 hl3
                    have hb3 := HSH.out _ _ _ HB2.out HO2.out.parts.1 hg3
                    have HO3 := Lib.hid hO3; have HB3 := Lib.hid hb3
                    clear hO3 hb3 hg3 hl3
                    refine hK.out _ _ HB3.out (fun hHeld => ?_)
                    clear hK K
                    try simp only [Act.put, List.getElem_toArray, List.getElem_cons_zero, List.getElem_cons_succ, List.setIfInBounds_toArray, List.set_cons_zero, List.set_cons_succ]
                    refine till_ready (rs := [19]) (by kernel_rfl) (by simp) ?_
                    refine TillReady.cons rfl (fun K hK => ?_) TillReady.nil
                    refine step_appR rfl (.tmp 88) (.tmp 94) rfl (N := V.heap.size) (g := g2) (c0 := c2) (n := 0 + k + 1) (M := [] ++ L.take k ++ [newR inn tw s p]) rfl HO3.out (HL2.out.trans (by omega)) (m := n - k) (c := c - k) (M2 := L.drop k) rfl (HR4.out _ HB3.out) HL3.out HV3.out (by omega) HB3.out.size ?_
                    intro g4 c4 w4 hO4 hg4 hl4
                    have hb4 := HSH.out _ _ _ HB3.out HO3.out.parts.1 hg4
                    have d4 := (HCX.out _ hb4).1.1; have f4 := (HCF.out _ hb4); have drb := (HCX.out _ hb4).1.2
                    have HO4 := Lib.hid hO4; have HB4 := Lib.hid hb4
                    clear hO4 hb4 hg4 hl4
                    refine hK.out _ _ HB4.out (fun hHeld => ?_)
                    clear hK K
                    try simp only [Act.put, List.getElem_toArray, List.getElem_cons_zero, List.getElem_cons_succ, List.setIfInBounds_toArray, List.set_cons_zero, List.set_cons_succ]
                    refine till_take (i := 20) (oi := _) (v := ?_) [21] rfl (by kernel_rfl) (by kernel_rfl) (by decide) (by kernel_rfl) (by kernel_rfl) (by kernel_rfl) (fun _ _ _ h => h) (Or.inl ⟨by rfl, ?_⟩) (by assumption) ?_
                    case refine_2 => intro w hSw; obtain ⟨⟨q7, qrb⟩, ⟨n0, n1, n2, n3, n4, n5, n6⟩, qnb⟩ := HCX.out _ hSw; go_simp; first | done | (with_reducible rfl)
                    try simp only [Act.put, List.getElem_toArray, List.getElem_cons_zero, List.getElem_cons_succ, List.setIfInBounds_toArray, List.set_cons_zero, List.set_cons_succ]
                    refine till_take (i := 21) (oi := _) (v := ?_) [] rfl (by kernel_rfl) (by kernel_rfl) (by decide) (by kernel_rfl) (by kernel_rfl) (by kernel_rfl) (fun _ _ _ h => h) (Or.inl ⟨by rfl, ?_⟩) (by assumption) ?_
                    case refine_2 => intro w hSw; obtain ⟨⟨q7, qrb⟩, ⟨n0, n1, n2, n3, n4, n5, n6⟩, qnb⟩ := HCX.out _ hSw; go_simp; first | done | (with_reducible rfl)
                    try simp only [Act.put, List.getElem_toArray, List.getElem_cons_zero, List.getElem_cons_succ, List.setIfInBounds_toArray, List.set_cons_zero, List.set_cons_succ]
                    refine till_ready (rs := [22]) (by kernel_rfl) (by simp) ?_
                    refine TillReady.past rfl (by kernel_rfl) (fun K hK => ?_) TillReady.nil
                    go_simp
                    refine hK.out _ _ ?_
                    clear hK K
                    try simp only [Act.put, List.getElem_toArray, List.getElem_cons_zero, List.getElem_cons_succ, List.setIfInBounds_toArray, List.set_cons_zero, List.set_cons_succ]
                    refine till_done (by kernel_rfl) ?_ _
                    have HEN := Lib.hid (HEN2.out _ _ _ _ HB4.out HO4.out HL4.out)
                    clear HO4 HB4 d4 f4
                    dsimp only [OnlyN]
                    go_wp2
                    all_goals
                      go_ret
                      exact Or.inr ⟨p, k, HM.out, HP.out, HPL.out, rfl, HEN.out⟩
          | false =>
            have HS : Hid (∀ q, x.lo ≤ q → q < p + 1 → freeR x (L.map Rb.b) q = false) := Lib.hid (fun q h1 h2 => by
              by_cases e : q = p
              · rw [e]; exact hfp
              · exact HNO.out q h1 (by omega))
            clear hfp
            go_wp2
            go_roundw
            case rel => exact ⟨p + 1, _, by go_num, rfl, by omega, .inl (by omega), HS⟩
            case measure => simp [intOf]; omega
        · have t2 : decide (x.hi < p) = true := decide_eq_true (by omega)
          have HNP : Hid (NoPort x (L.map Rb.b) wish) := Lib.hid ⟨HW.out, fun q h1 h2 => HNO.out q h1 (by omega)⟩
          go_wp2
          go_ret
          exact Or.inl ⟨.inr HNP.out, rfl, below_drw HB1.out _⟩
end Go.Proofs.Ytemlnkcokeckmaa
