/-
  The contract of nat's asked: the binding of one that was asked for, if there is one. Conditions: the box lies in memory; at most 1000 bindings.
  A region that draws its order, in a round of a range over a function, whose operations only read and whose callees leave what was there as it was: it may be walked as outside of the round. Conditions: as each lemma states.
  The contract of nat's way: the binding by which something goes out, if there is one. Conditions: the box lies in memory; at most 1000 bindings.
  Plain words on what a box answers and leaves, on its list of bindings; how a call moves a box on in memory. Conditions: ls each lemma states.
  A region that draws its order, with a condition S on the world that is kept up to its operation number z (a call that writes, say), not from there on: what yields in every world of S, and is waited for by z, may be taken first. Conditions: as each lemma states.
-/
import Derived.Test.YtemlnkcokeckmaaMh9
import Derived.RangeFuncKeeps
import Derived.Test.YtemlnkcokeckmaaMh6
import Derived.Lib.QuietBelowIn
import Derived.RangeFuncCalls
import Derived.Deep.RegionHeld
namespace Go.Proofs.Ytemlnkcokeckmaa
open Go.RowKit Go.Shelf
attribute [local go_sem] Oper.semAt_some
set_option linter.unusedVariables false

theorem Kept.set' {gs : List Nat} {t : Bool} {B b : Nat} {W : World} (hb : b < B) (hgs : b ∉ gs) (v : Value) : Kept gs t B W (W.setCell ⟨b, 0, none⟩ v) :=
  ⟨by simp, fun g hg => heap_setCell_other W ⟨b, 0, none⟩ g v (fun e => by have e : g = b := e; exact hgs (e ▸ hg)), fun k o h1 h2 _ => (heap_setCell_other W ⟨b, 0, none⟩ k v (fun e => by have : k = b := e; omega)).trans h2⟩
theorem grown_set {A W : World} {b : Nat} (h : A.grownBy W (some b)) (v : Value) : A.grownBy (W.setCell ⟨b, 0, none⟩ v) (some b) :=
  ⟨h.os, h.tape, h.output, by have := h.size; simp; omega, fun k hk hne => (heap_setCell_other W ⟨b, 0, none⟩ k v (fun e => hne (by rw [e]))).trans (h.block k hk hne)⟩
theorem grown_then {A W W' : World} {b : Nat} {row : Option Nat} (h : A.grownBy W (some b)) (hg : W.grownBy W' row) (hr : ∀ r, row = some r → A.heap.size ≤ r) : A.grownBy W' (some b) :=
  ⟨hg.os.trans h.os, hg.tape.trans h.tape, hg.output.trans h.output, Nat.le_trans h.size hg.size, fun k hk hne =>
    (hg.block k (Nat.lt_of_lt_of_le hk h.size) (fun e => by have := hr k e.symm; omega)).trans (h.block k hk hne)⟩
theorem grown_belw {A W : World} {b n : Nat} (h : A.grownBy W (some b)) (hb : n ≤ b) (hn : n ≤ A.heap.size) : Below n A W := ⟨h.os, h.tape, h.output, h.size, fun k hk => h.block k (by omega) (fun e => by cases e; omega)⟩

/-- the pointer to a binding, or none -/
def ptrO (o : Option Nd) : Value := .pointer (o.map fun d => ⟨d.p, 0, none⟩)
/-- the first of them of which it holds -/
theorem find_filter (L : List Nd) (f g : Nd → Bool) : (L.filter f).find? g = L.find? (fun d => f d && g d) := by
  induction L with
  | nil => rfl
  | cons d L ih =>
    by_cases h : f d = true
    · rw [List.filter_cons_of_pos h]
      simp only [List.find?_cons, h, Bool.true_and, ih]
    · rw [List.filter_cons_of_neg h]
      have hf : f d = false := by simpa using h
      simp only [List.find?_cons, hf, Bool.false_and, ih]
/-- what stands between two rounds of a loop over of -/
def IO (g : Nd → Bool) (r : Nat) (W0 : World) (pre : List Nd) (W : World) : Prop := Boxed W r 93 (.pointer none) ∧ (∀ d ∈ pre, g d = false) ∧ W0.grownBy W (some r)
def IX (g : Nd → Bool) (r : Nat) (W0 : World) (c : Code) (pre : List Nd) (W : World) : Prop := c = .ret ∧ ∃ pre' d, pre = pre' ++ [d] ∧ (∀ d ∈ pre', g d = false) ∧ g d = true ∧ Boxed W r 93 (.pointer (some ⟨d.p, 0, none⟩)) ∧ W0.grownBy W (some r)
theorem io_lasts {g : Nd → Bool} {r : Nat} {W0 : World} {L : List Nd} {a : A2} (hr : r < W0.heap.size) : Lasts W0.heap.size (IO g r W0) (IX g r W0) (OkN L a) where
  on := fun s X Y row hs hg hrow => ⟨hs.1.kept hg (fun e => by have := (hrow _ e.symm).1; omega), hs.2.1, grown_then hs.2.2 hg (fun k e => (hrow k e).1)⟩
  off := fun c s X Y row hs hg hrow => by
    obtain ⟨rfl, pre', d, h1, h2, h3, h4, h5⟩ := hs
    exact ⟨rfl, pre', d, h1, h2, h3, h4.kept hg (fun e => by have := (hrow _ e.symm).1; omega), grown_then h5 hg (fun k e => (hrow k e).1)⟩
  ok := fun zs z s X Y row hs _ _ => hs
theorem io_none {L : List Nd} {a : A2} {g : Nd → Bool} (h : ∀ d ∈ L.filter (inF a), g d = false) : L.find? (fun d => inF a d && g d) = none := by
  rw [← find_filter, List.find?_eq_none]
  intro d hd
  simp [h d hd]
theorem io_some {L pre rest : List Nd} {d : Nd} {a : A2} {g : Nd → Bool} (hL : L.filter (inF a) = (pre ++ [d]) ++ rest) (h : ∀ d ∈ pre, g d = false) (hd : g d = true) : L.find? (fun d => inF a d && g d) = some d := by
  rw [← find_filter, hL, List.append_assoc, List.find?_append]
  have : pre.find? g = none := by rw [List.find?_eq_none]; intro e he; simp [h e he]
  rw [this]
  simp [hd]
/-- the blocks that a loop over of reads -/
def blks (b2 b3 nb : Nat) (kv : Value) (L : List Nd) : List Nat := b2 :: b3 :: nb :: (kv.ownBlock.toList ++ L.map Nd.p)
theorem blks_all {b2 b3 nb : Nat} {kv : Value} {L : List Nd} {p : Nat → Prop} (h1 : p b2) (h2 : p b3) (h3 : p nb) (h4 : ∀ g, kv.ownBlock = some g → p g) (h5 : ∀ d ∈ L, p d.p) : ∀ g ∈ blks b2 b3 nb kv L, p g := by
  intro g hg
  simp only [blks, List.mem_cons, List.mem_append, Option.mem_toList, List.mem_map] at hg
  rcases hg with rfl | rfl | rfl | hg | ⟨d, hd, rfl⟩
  · exact h1
  · exact h2
  · exact h3
  · exact h4 g hg
  · exact h5 d hd
theorem blks_row {b2 b3 nb : Nat} {kv : Value} {L : List Nd} (g : Nat) (h : kv.ownBlock = some g) : g ∈ blks b2 b3 nb kv L := by simp [blks, h]
theorem blks_nd {b2 b3 nb : Nat} {kv : Value} {L : List Nd} (d : Nd) (h : d ∈ L) : d.p ∈ blks b2 b3 nb kv L := by
  simp only [blks, List.mem_cons, List.mem_append, List.mem_map]
  exact .inr (.inr (.inr (.inr ⟨d, h, rfl⟩)))
theorem ok_mem {L : List Nd} {a : A2} {pre : List Nd} {z : Nd} {W : World} (h : OkN L a pre z W) : z ∈ L := by
  obtain ⟨rest, h⟩ := h
  have : z ∈ L.filter (inF a) := by rw [h]; simp
  exact (List.mem_filter.1 this).1

set_option maxRecDepth 100000 in
set_option maxHeartbeats 4000000 in
theorem asked_any (nb : Nat) (x : Bx) (now : Int) (kv : Value) (L : List Nd) (a : A2) (w : World) (h : Na w nb x now kv L) (hbig : L.length ≤ 1000) :
    Calls Try.prog 52 #[.pointer (some ⟨nb, 0, none⟩), adr a] w fun e w' => e = .returned (ptrO (L.find? (fun d => inF a d && d.b.asked))) ∧ Below w.heap.size w w' := by
  have H := Lib.hid h
  have hlt := h.lt
  clear h
  have HOF := Lib.hid (fun W => of_any nb a W)
  refine (callsIn_wide (n := 6)).1 ?_
  unfold adr at *
  refine callsIn_of_wp_marks Try.func52 rfl trivial ?_ rfl
  refine wpIn_wide.2 ?_
  simp only [Try.ntmps52, List.size_toArray, List.length_cons, List.length_nil, Nat.reduceAdd, Nat.reduceSub, Array.replicate_succ, Array.replicate_zero, List.push_toArray, List.append_toArray, List.nil_append, List.cons_append]
  go_wp2_with (go_at_call 78; refine (HOF.out _).mono ?_; rintro e w' ⟨rfl, rfl⟩)
  obtain ⟨W0, hW0⟩ : ∃ W0, ((((w.alloc (.cells #[.int .u32 a.1, .int .i64 a.2] 38)).alloc (.cells #[.pointer none] 93)).alloc (.cells #[.pointer (some ⟨nb, 0, none⟩)] 27)).alloc (.cells #[.int .u32 a.1, .int .i64 a.2] 38)) = W0 := ⟨_, rfl⟩
  rw [hW0]
  have hsz : W0.heap.size = w.heap.size + 4 := by rw [← hW0]; simp
  have HB0 : Hid (Below w.heap.size w W0) := Lib.hid (by rw [← hW0]; exact ((((Below.refl _ w).alloc (Nat.le_refl _) _).alloc (by simp) _).alloc (by simp; omega) _).alloc (by simp; omega) _)
  have HR0 : Hid (Boxed W0 (w.heap.size + 1) 93 (.pointer none)) := Lib.hid (by
    rw [← hW0]
    have := (((Boxed.new (w.alloc (.cells #[.int .u32 a.1, .int .i64 a.2] 38)) 93 (.pointer none)).alloc (.cells #[.pointer (some ⟨nb, 0, none⟩)] 27)).alloc (.cells #[.int .u32 a.1, .int .i64 a.2] 38))
    rwa [World.size_alloc] at this)
  have hc2 : W0.cell? ⟨w.heap.size + 2, 0, none⟩ = some (.pointer (some ⟨nb, 0, none⟩)) := by rw [← hW0]; clear hW0; go_simp
  have hc3 : W0.cell? ⟨w.heap.size + 3, 0, none⟩ = some (.int .u32 a.1) := by rw [← hW0]; clear hW0; go_simp
  have hc4 : W0.cell? ⟨w.heap.size + 3, 1, none⟩ = some (.int .i64 a.2) := by rw [← hW0]; clear hW0; go_simp
  clear hW0
  have hN0 := H.out.below HB0.out
  have HN0 := Lib.hid hN0
  have hall : ∀ g ∈ blks (w.heap.size + 2) (w.heap.size + 3) nb kv L, g < W0.heap.size ∧ g ≠ w.heap.size + 1 := by
    have hft : ∀ k, Foot nb kv L k → k < W0.heap.size ∧ k ≠ w.heap.size + 1 := fun k hk => by have := H.out.foot_lt hk; omega
    exact blks_all (p := fun g => g < W0.heap.size ∧ g ≠ w.heap.size + 1) (by omega) (by omega) (hft _ (.inl rfl)) (fun g hg => hft _ (.inr (.inl hg))) (fun d hd => hft _ (.inr (.inr ⟨d, hd, .inl rfl⟩)))
  have hne : w.heap.size + 1 ∉ blks (w.heap.size + 2) (w.heap.size + 3) nb kv L := fun hm => (hall _ hm).2 rfl
  have hst := of1_tells 5 (by omega) (w.heap.size + 2) (w.heap.size + 3) nb (blks (w.heap.size + 2) (w.heap.size + 3) nb kv L) x now kv L a W0 (fun g hg => (hall g hg).1) hN0 hbig hc2 hc3 hc4 (by simp [blks]) (by simp [blks]) (by simp [blks]) blks_row blks_nd
  clear hN0 hc2 hc3 hc4
  refine (wpIn_wide (n := 6)).1 ?_
  apply range_told (F := Fence.wide) (n := 6) (f := 101) (own := #[.pointer (some ⟨w.heap.size + 2, 0, none⟩), .pointer (some ⟨w.heap.size + 3, 0, none⟩)]) ⟨rfl, by omega, trivial, enters_of Try.func101 (by kernel_rfl) rfl, hst⟩ rfl (Below.refl _ _) (fun g hg => (hall g hg).1) (fun _ => rfl)
    (IO (fun d => d.b.asked) (w.heap.size + 1) W0) (IX (fun d => d.b.asked) (w.heap.size + 1) W0) (io_lasts (by omega)) ⟨HR0.out, by simp, World.grownBy.refl _ _⟩
  case hassign =>
    intro l z W K hK
    simp only [encN]
    gi_wp2
    exact hK
  case hbody =>
    rintro l pre z W hWs ⟨bx, hpre, hg⟩ hok
    have hz := ok_mem hok
    have hcl := bx.cell
    have hfr := bx.frozen
    have hzl : z.p < W0.heap.size := (HN0.out.nds z hz).lt
    have c6 := (World.cell?_of_block (a := ⟨z.p, 6, none⟩) (hg.block z.p hzl (fun e => (hall _ (blks_nd z hz)).2 (Option.some.inj e)))).trans (HN0.out.nds z hz).cells.1.2.2.2.2.2.2
    have BX := Lib.hid bx; have HG := Lib.hid hg; have HPRE := Lib.hid hpre
    clear bx hg hpre hok
    cases hk : z.b.asked with
    | true =>
      rw [hk] at c6
      have HZ := Lib.hid hk; clear hk
      gi_wp2
      exact ⟨Kept.set' (by omega) hne _, rfl, pre, z, rfl, HPRE.out, HZ.out, BX.out.set _, grown_set HG.out _⟩
    | false =>
      rw [hk] at c6
      have HZ := Lib.hid hk; clear hk
      gi_wp2
      refine ⟨Kept.refl _ _ _ _, BX.out, fun d hd => ?_, HG.out⟩
      rcases List.mem_append.1 hd with h | h
      · exact HPRE.out d h
      · simp at h; rw [h]; exact HZ.out
  case hstop =>
    rintro D c pre W hD ⟨rest, hL⟩ ⟨rfl, pre', d, rfl, h1, h2, bx, hg⟩ hK
    have HV : Hid (L.find? (fun d => inF a d && d.b.asked) = some d) := Lib.hid (io_some hL h1 h2)
    have HK := Lib.hid hK
    have hcl := bx.cell
    have HB : Hid (Below w.heap.size w W) := Lib.hid (HB0.out.trans (grown_belw hg (by omega) (by omega)))
    clear hK bx hg hL h1 h2
    gi_wp2
    refine ⟨by simp, .inl ⟨_, _, rfl, run_takeDeferred HK.out, ?_⟩⟩
    have e0 := cell_kept hcl (grownBy_putObj' _ D (.deferred none)) (fun r e => by cases e; exact ⟨_, HK.out, rfl⟩)
    exact ⟨.pointer (some ⟨d.p, 0, none⟩), by simp [results, Try.results52, go_sem, e0], by rw [HV.out]; rfl, HB.out.trans (belowK_b (w := w) (Nat.le_refl _) _ D _ _ (by omega) HK.out rfl rfl)⟩
  case hdone =>
    rintro D xs W hD hxs ⟨bx, hpre, hg⟩ hK
    have hxs : xs = L.filter (inF a) := hxs
    subst hxs
    have HV : Hid (L.find? (fun d => inF a d && d.b.asked) = none) := Lib.hid (io_none hpre)
    have HK := Lib.hid hK
    have hcl := bx.cell
    have hfr := bx.frozen
    have HB : Hid (Below w.heap.size w W) := Lib.hid (HB0.out.trans (grown_belw hg (by omega) (by omega)))
    have BX := Lib.hid bx
    clear hK bx hg hpre
    go_wp2
    have HK2 : (W.setCell ⟨w.heap.size + 1, 0, none⟩ (.pointer none)).heap[D]? = some (.deferred (some [])) := (heap_setCell_other _ ⟨w.heap.size + 1, 0, none⟩ D _ (fun e => by have e2 : D = w.heap.size + 1 := e; omega)).trans HK.out
    refine ⟨by simp, .inl ⟨_, _, rfl, run_takeDeferred HK2, ?_⟩⟩
    have e0 := cell_kept (BX.out.set (.pointer none)).cell (grownBy_putObj' _ D (.deferred none)) (fun r e => by cases e; exact ⟨_, HK2, rfl⟩)
    exact ⟨.pointer none, by simp [results, Try.results52, go_sem, e0], by rw [HV.out]; rfl, (HB.out.setCell (p := ⟨w.heap.size + 1, 0, none⟩) (by show w.heap.size ≤ w.heap.size + 1; omega) _).trans (belowK_b (w := w) (Nat.le_refl _) _ D _ _ (by omega) HK2 rfl rfl)⟩
end Go.Proofs.Ytemlnkcokeckmaa
namespace Go.Proofs.Ytemlnkcokeckmaa
open Go.RowKit Go.Sort
set_option linter.unusedVariables false
variable {P : Program} {n r : Nat} {md : Region.Mode} {ops : Array Oper} {Q : Exit → Act → World → Prop}

/-- no operation puts anything off -/
def noDefer (ops : Array Oper) : Bool := ops.all fun o => match o.op with
  | .defer _ => false
  | _ => true
theorem noDefer_at (h : noDefer ops = true) {i : Nat} {o : Oper} (hi : ops[i]? = some o) (c) : o.op ≠ .defer c := by
  intro e
  unfold noDefer at h
  rw [Array.all_eq_true_iff_forall_mem] at h
  have h1 := h o (Array.mem_of_getElem? hi)
  rw [e] at h1
  cases h1
theorem op_round {o : Oper} {a : Act} {w : World} {K : Act → World → Prop} (hd : ∀ c, o.op ≠ .defer c) (h : Oper.wpIn Fence.wide n P o a w K Q) : Oper.wpIn (Fence.wide.inRound r) n P o a w K Q := by
  unfold Oper.wpIn at *
  rw [Oper.semAt_eq _ _ _ hd] at *
  refine ⟨h.1, ?_⟩
  have h2 := h.2
  generalize (execOp a.eval o).run P w = x at *
  cases x with
  | ok y w' => cases y <;> exact h2
  | halt y w' => cases y <;> exact h2
theorem any_round (hd : noDefer ops = true) : ∀ (k : Nat) (l : Array Bool) (a : Act) (w : World), wpAnyIn Fence.wide n P md ops Q k l a w → wpAnyIn (Fence.wide.inRound r) n P md ops Q k l a w
  | 0, _, _, _, h => h
  | k + 1, l, a, w, h => by
    refine ⟨h.1, fun i hi => ?_⟩
    have h1 := h.2 i hi
    have h2 : wpOpIn Fence.wide n P ops Q i (wpAnyIn (Fence.wide.inRound r) n P md ops Q k (l.setIfInBounds i true)) a w := wpOpIn_mono (fun a' w' h => any_round hd k _ a' w' h) h1
    unfold wpOpIn at h2 ⊢
    cases ho : ops[i]? with
    | none => rw [ho] at h2; exact h2
    | some o =>
      rw [ho] at h2
      dsimp only at h2 ⊢
      split
      · rename_i hw
        rw [if_pos hw] at h2
        exact op_round (noDefer_at hd ho) h2
      · rename_i hw
        rw [if_neg hw] at h2
        exact h2
/-- one walk, in the order of the text, in a round -/
theorem region_round {id : Nat} {a : Act} {w : World} {l : List Oper} (hm : P.follows .mixedOrders = true) (hd : noDefer l.toArray = true) (hB : Region.lexB .any l.toArray = true)
    (h : wpQuietIn Fence.wide n P l.toArray (fun w' => ∃ p : Regrown, w' = grow (redrawn w p.d) p.os) (fun a' => ∀ w', (∃ p : Regrown, w' = grow (redrawn w p.d) p.os) → Q .normal a' w') l a) : (Code.region id l.toArray true).wpIn (Fence.wide.inRound r) n P Q a w := by
  simp only [Region.lexB, Bool.and_eq_true] at hB
  refine wpIn_region_any hm (any_round hd _ _ _ _ ?_)
  refine wpAnyIn_of_quiet (C := fun w' => ∃ p : Regrown, w' = grow (redrawn w p.d) p.os) (Q := fun a' => ∀ w', (∃ p : Regrown, w' = grow (redrawn w p.d) p.os) → Q .normal a' w') rfl (fun _ w' hw' h => h w' hw') _ _ _ _ ⟨⟨w.drawn + 1, #[]⟩, by rw [grow_empty]; rfl⟩ ?_
  have h2 := wpAnyQIn_lex (F := Fence.wide) (n := n) (C := fun w' => ∃ p : Regrown, w' = grow (redrawn w p.d) p.os) (md := .any) hB.1 l 0 (Array.replicate l.toArray.size false) a (by simp) (by simpa using hB.2) h
  simpa using h2
/-- the wide fence lets in whatever is called -/
theorem ask_wide (o : Oper) (a : Act) (C : World → Prop) : o.askedIn Fence.wide P a C := fun _ _ _ _ => trivial
end Go.Proofs.Ytemlnkcokeckmaa
namespace Go.Proofs.Ytemlnkcokeckmaa
open Go.RowKit Go.Shelf Go.Sort
attribute [local go_sem] Oper.semAt_some
set_option linter.unusedVariables false

/-- the binding of one by which something goes to another one -/
def wayN (x : Bx) (L : List Nd) (a b : A2) : Option Nd := (L.find? (fun d => inF a d && d.b.asked)).or (L.find? (fun d => inF a d && decide (d.b.to = partA b x.map)))
set_option maxRecDepth 100000 in
set_option maxHeartbeats 4000000 in
theorem way_any (nb : Nat) (x : Bx) (now : Int) (kv : Value) (L : List Nd) (a b : A2) (w : World) (h : Na w nb x now kv L) (hbig : L.length ≤ 1000) :
    Calls Try.prog 42 #[.pointer (some ⟨nb, 0, none⟩), adr a, adr b] w fun e w' => e = .returned (ptrO (wayN x L a b)) ∧ Below w.heap.size w w' := by
  have H := Lib.hid h
  have hlt := h.lt
  clear h
  have HOF := Lib.hid (fun W => of_any nb a W)
  refine (callsIn_wide (n := 6)).1 ?_
  unfold adr at *
  refine callsIn_of_wp_marks Try.func42 rfl trivial ?_ rfl
  refine wpIn_wide.2 ?_
  simp only [Try.ntmps42, List.size_toArray, List.length_cons, List.length_nil, Nat.reduceAdd, Nat.reduceSub, Array.replicate_succ, Array.replicate_zero, List.push_toArray, List.append_toArray, List.nil_append, List.cons_append]
  go_wp2_with fail
  obtain ⟨V, hV⟩ : ∃ V, ((((w.alloc (.cells #[.pointer (some ⟨nb, 0, none⟩)] 27)).alloc (.cells #[.int .u32 a.1, .int .i64 a.2] 38)).alloc (.cells #[.int .u32 b.1, .int .i64 b.2] 38)).alloc (.cells #[.pointer none] 93)) = V := ⟨_, rfl⟩
  rw [hV]
  have hvs : V.heap.size = w.heap.size + 4 := by rw [← hV]; simp
  have HBV : Hid (Below w.heap.size w V) := Lib.hid (by rw [← hV]; exact ((((Below.refl _ w).alloc (Nat.le_refl _) _).alloc (by simp) _).alloc (by simp; omega) _).alloc (by simp; omega) _)
  have HRV : Hid (Boxed V (w.heap.size + 3) 93 (.pointer none)) := Lib.hid (by
    rw [← hV]
    have := Boxed.new (((w.alloc (.cells #[.pointer (some ⟨nb, 0, none⟩)] 27)).alloc (.cells #[.int .u32 a.1, .int .i64 a.2] 38)).alloc (.cells #[.int .u32 b.1, .int .i64 b.2] 38)) 93 (.pointer none)
    rwa [World.size_alloc, World.size_alloc, World.size_alloc] at this)
  have HCV : Hid (V.cell? ⟨w.heap.size, 0, none⟩ = some (.pointer (some ⟨nb, 0, none⟩)) ∧ V.cell? ⟨w.heap.size + 1, 0, none⟩ = some (.int .u32 a.1) ∧ V.cell? ⟨w.heap.size + 1, 1, none⟩ = some (.int .i64 a.2) ∧ V.cell? ⟨w.heap.size + 2, 0, none⟩ = some (.int .u32 b.1) ∧ V.cell? ⟨w.heap.size + 2, 1, none⟩ = some (.int .i64 b.2)) := Lib.hid (by
    rw [← hV]; clear hV hvs
    exact ⟨by go_simp, by go_simp, by go_simp, by go_simp, by go_simp⟩)
  have HNV : Hid (Na V nb x now kv L) := Lib.hid (H.out.below HBV.out)
  have HAS := Lib.hid (asked_any nb x now kv L a V HNV.out hbig)
  unfold adr at HAS
  clear hV
  refine HAS.out.mono ?_
  rintro e w1 ⟨rfl, hb1⟩
  have HB1 := Lib.hid hb1
  have hw1 := hb1.size
  have cn := (hb1.cell (p := ⟨w.heap.size, 0, none⟩) (by show w.heap.size < _; omega)).trans HCV.out.1
  have ca0 := (hb1.cell (p := ⟨w.heap.size + 1, 0, none⟩) (by show w.heap.size + 1 < _; omega)).trans HCV.out.2.1
  have ca1 := (hb1.cell (p := ⟨w.heap.size + 1, 1, none⟩) (by show w.heap.size + 1 < _; omega)).trans HCV.out.2.2.1
  have cb0 := (hb1.cell (p := ⟨w.heap.size + 2, 0, none⟩) (by show w.heap.size + 2 < _; omega)).trans HCV.out.2.2.2.1
  have cb1 := (hb1.cell (p := ⟨w.heap.size + 2, 1, none⟩) (by show w.heap.size + 2 < _; omega)).trans HCV.out.2.2.2.2
  have hR1 : Boxed w1 (w.heap.size + 3) 93 (.pointer none) := (hb1.block _ (by omega)).trans HRV.out
  have cr := hR1.cell
  have fr := hR1.frozen
  have HR1 := Lib.hid hR1
  clear hb1 hR1
  cases hfa : L.find? (fun d => inF a d && d.b.asked) with
  | some d =>
    have HV : Hid (wayN x L a b = some d) := Lib.hid (by unfold wayN; rw [hfa]; rfl)
    clear hfa
    unfold ptrO
    dsimp only [Option.map]
    have HE : Hid (Below w.heap.size w (w1.setCell ⟨w.heap.size + 3, 0, none⟩ (.pointer (some ⟨d.p, 0, none⟩)))) := Lib.hid ((HBV.out.trans (HB1.out.mono (by omega))).setCell (p := ⟨w.heap.size + 3, 0, none⟩) (by show w.heap.size ≤ w.heap.size + 3; omega) _)
    have e0 := (HR1.out.set (.pointer (some ⟨d.p, 0, none⟩))).cell
    go_wp2
    exact ⟨.pointer (some ⟨d.p, 0, none⟩), by simp [results, Try.results42, go_sem, e0], by rw [HV.out]; rfl, HE.out⟩
  | none =>
    have HV1 : Hid (wayN x L a b = L.find? (fun d => inF a d && decide (d.b.to = partA b x.map))) := Lib.hid (by unfold wayN; rw [hfa]; rfl)
    clear hfa
    unfold ptrO
    dsimp only [Option.map]
    go_wp2_with (go_at_call 78; refine (HOF.out _).mono ?_; rintro e w' ⟨rfl, rfl⟩)
    obtain ⟨W0, hW0⟩ : ∃ W0, ((w1.alloc (.cells #[.pointer (some ⟨nb, 0, none⟩)] 27)).alloc (.cells #[.int .u32 a.1, .int .i64 a.2] 38)) = W0 := ⟨_, rfl⟩
    rw [hW0]
    have hsz : W0.heap.size = w1.heap.size + 2 := by rw [← hW0]; simp
    have hb01 : Below w1.heap.size w1 W0 := by rw [← hW0]; exact ((Below.refl _ w1).alloc (Nat.le_refl _) _).alloc (by simp) _
    have HB0 : Hid (Below w.heap.size w W0) := Lib.hid ((HBV.out.trans (HB1.out.mono (by omega))).trans (hb01.mono (by omega)))
    have HR0 : Hid (Boxed W0 (w.heap.size + 3) 93 (.pointer none)) := Lib.hid ((hb01.block _ (by omega)).trans HR1.out)
    have hc2 : W0.cell? ⟨w1.heap.size, 0, none⟩ = some (.pointer (some ⟨nb, 0, none⟩)) := by rw [← hW0]; clear hW0; go_simp
    have hc3 : W0.cell? ⟨w1.heap.size + 1, 0, none⟩ = some (.int .u32 a.1) := by rw [← hW0]; clear hW0; go_simp
    have hc4 : W0.cell? ⟨w1.heap.size + 1, 1, none⟩ = some (.int .i64 a.2) := by rw [← hW0]; clear hW0; go_simp
    have dn := (hb01.cell (p := ⟨w.heap.size, 0, none⟩) (by show w.heap.size < _; omega)).trans cn
    have db0 := (hb01.cell (p := ⟨w.heap.size + 2, 0, none⟩) (by show w.heap.size + 2 < _; omega)).trans cb0
    have db1 := (hb01.cell (p := ⟨w.heap.size + 2, 1, none⟩) (by show w.heap.size + 2 < _; omega)).trans cb1
    have HDC := Lib.hid (And.intro dn (And.intro db0 db1))
    clear hb01 cn ca0 ca1 cb0 cb1 cr fr dn db0 db1
    clear hW0
    have hN0 := H.out.below HB0.out
    have HN0 := Lib.hid hN0
    have hall : ∀ g ∈ blks w1.heap.size (w1.heap.size + 1) nb kv L, g < W0.heap.size ∧ g ≠ w.heap.size + 3 := by
      have hft : ∀ k, Foot nb kv L k → k < W0.heap.size ∧ k ≠ w.heap.size + 3 := fun k hk => by have := H.out.foot_lt hk; omega
      exact blks_all (p := fun g => g < W0.heap.size ∧ g ≠ w.heap.size + 3) (by omega) (by omega) (hft _ (.inl rfl)) (fun g hg => hft _ (.inr (.inl hg))) (fun d hd => hft _ (.inr (.inr ⟨d, hd, .inl rfl⟩)))
    have hne : w.heap.size + 3 ∉ blks w1.heap.size (w1.heap.size + 1) nb kv L := fun hm => (hall _ hm).2 rfl
    have hst := of1_tells 5 (by omega) w1.heap.size (w1.heap.size + 1) nb (blks w1.heap.size (w1.heap.size + 1) nb kv L) x now kv L a W0 (fun g hg => (hall g hg).1) hN0 hbig hc2 hc3 hc4 (by simp [blks]) (by simp [blks]) (by simp [blks]) blks_row blks_nd
    clear hN0 hc2 hc3 hc4
    refine (wpIn_wide (n := 6)).1 ?_
    apply range_told (F := Fence.wide) (n := 6) (f := 101) (own := #[.pointer (some ⟨w1.heap.size, 0, none⟩), .pointer (some ⟨w1.heap.size + 1, 0, none⟩)]) ⟨rfl, by omega, trivial, enters_of Try.func101 (by kernel_rfl) rfl, hst⟩ rfl (Below.refl _ _) (fun g hg => (hall g hg).1) (fun _ => rfl)
      (IO (fun d => decide (d.b.to = partA b x.map)) (w.heap.size + 3) W0) (IX (fun d => decide (d.b.to = partA b x.map)) (w.heap.size + 3) W0) (io_lasts (by omega)) ⟨HR0.out, by simp, World.grownBy.refl _ _⟩
    case hassign =>
      intro l z W K hK
      simp only [encN]
      gi_wp2
      exact hK
    case hbody =>
      rintro l pre z W hWs ⟨bx, hpre, hg⟩ hok
      have hz := ok_mem hok
      have hcl := bx.cell
      have hfr := bx.frozen
      have hzl : z.p < W0.heap.size := (HN0.out.nds z hz).lt
      have hcl2 : ∀ k, W.cell? ⟨z.p, k, none⟩ = W0.cell? ⟨z.p, k, none⟩ := fun k => World.cell?_of_block (a := ⟨z.p, k, none⟩) (hg.block z.p hzl (fun e => (hall _ (blks_nd z hz)).2 (Option.some.inj e)))
      have z2 := (hcl2 2).trans (HN0.out.nds z hz).cells.1.2.2.1
      have z3 := (hcl2 3).trans (HN0.out.nds z hz).cells.1.2.2.2.1
      have hne2 : ∀ g, g < W0.heap.size → g ≠ w.heap.size + 3 → ∀ k, W.cell? ⟨g, k, none⟩ = W0.cell? ⟨g, k, none⟩ := fun g h1 h2 k => World.cell?_of_block (a := ⟨g, k, none⟩) (hg.block g h1 (fun e => h2 (Option.some.inj e)))
      have dn := (hne2 w.heap.size (by omega) (by omega) 0).trans HDC.out.1
      have db0 := (hne2 (w.heap.size + 2) (by omega) (by omega) 0).trans HDC.out.2.1
      have db1 := (hne2 (w.heap.size + 2) (by omega) (by omega) 1).trans HDC.out.2.2
      have hnl := HN0.out.lt
      have d3 := (hne2 nb hnl (by omega) 3).trans HN0.out.cells.1.2.2.2.1
      have hWl : W0.heap.size ≤ W.heap.size := hg.size
      have BX := Lib.hid bx; have HG := Lib.hid hg; have HPRE := Lib.hid hpre
      clear bx hg hpre hok hcl2 hne2
      have HP := Lib.hid (fun V => part_any b x.map V)
      have hE := fun V => run_eqA z.b.to (partA b x.map) V
      have HQ : ∃ q, q = decide (z.b.to = partA b x.map) := ⟨_, rfl⟩
      obtain ⟨q, hq⟩ := HQ
      rw [← hq] at hE
      unfold adr at HP
      have HQ := Lib.hid hq; clear hq
      generalize partA b x.map = pb at *
      have k1 := cell_regrown z2; have k2 := cell_regrown z3; have k3 := cell_regrown dn; have k4 := cell_regrown db0; have k5 := cell_regrown db1; have k6 := cell_regrown d3
      have cP : ∀ d os, CallsIn Fence.wide 3 Try.prog 44 #[.agg #[.int .u32 b.1, .int .i64 b.2], .int .i64 x.map] (grow (redrawn W d) os) fun e w'' => e = .returned (.agg #[.int .u32 pb.1, .int .i64 pb.2]) ∧ ∃ p : Regrown, w'' = grow (redrawn W p.d) p.os := fun d os => CallsIn.regrown_of (callsIn_wide.2 (HP.out _))
      have HIOW : Hid (∀ V, Below W.heap.size W V → Kept (blks w1.heap.size (w1.heap.size + 1) nb kv L) false W0.heap.size W V ∧ IO (fun d => decide (d.b.to = pb)) (w.heap.size + 3) W0 pre V) := Lib.hid (fun V hV => ⟨⟨hV.size, fun g hg => hV.block g (Nat.lt_of_lt_of_le (hall g hg).1 hWl), fun k o h1 h2 _ => (hV.block k (Array.getElem?_eq_some_iff.1 h2).1).trans h2⟩, (hV.block _ (by omega)).trans BX.out, HPRE.out, ⟨hV.os.trans HG.out.os, hV.tape.trans HG.out.tape, hV.output.trans HG.out.output, Nat.le_trans HG.out.size hV.size, fun k hk hne => (hV.block k (Nat.lt_of_lt_of_le hk HG.out.size)).trans (HG.out.block k hk hne)⟩⟩)
      gi_wp2
      refine region_round (by kernel_rfl) (by kernel_rfl) (by kernel_rfl) ?_
      repeat (refine wpQuietIn_step (ask_wide _ _ _) (fun K hK => ?_); go_simp; first | (refine hK _ ?_; clear hK K) | (apply Exists.intro; refine ⟨fun _ => ?_, hK _ ?_⟩; (first | exact ⟨trivial, cP _ _⟩ | exact cP _ _); clear hK K))
      refine wpQuietIn_nil ?_
      intro _ hw'
      obtain ⟨⟨dq, osq⟩, hw''⟩ := hw'
      subst hw''
      have hV := below_regrown W dq osq
      have hV1 := HIOW.out _ hV
      generalize grow (redrawn W dq) osq = V at *
      have HV1 := Lib.hid hV1
      have cl1 := hV1.2.1.cell
      have fl1 := hV1.2.1.frozen
      clear hV hV1 k1 k2 k3 k4 k5 k6 cP hE
      cases q with
      | true =>
        gi_wp2
        exact ⟨HV1.out.1.trans (Kept.set' (by omega) hne _), rfl, pre, z, rfl, HV1.out.2.2.1, HQ.out.symm, HV1.out.2.1.set _, grown_set HV1.out.2.2.2 _⟩
      | false =>
        gi_wp2
        refine ⟨HV1.out.1, HV1.out.2.1, fun d hd => ?_, HV1.out.2.2.2⟩
        rcases List.mem_append.1 hd with h | h
        · exact HV1.out.2.2.1 d h
        · simp at h; rw [h]; exact HQ.out.symm
    case hstop =>
      rintro D c pre W hD ⟨rest, hL⟩ ⟨rfl, pre', d, rfl, h1, h2, bx, hg⟩ hK
      have HV : Hid (L.find? (fun d => inF a d && decide (d.b.to = partA b x.map)) = some d) := Lib.hid (io_some hL h1 h2)
      have HK := Lib.hid hK
      have hcl := bx.cell
      have HB : Hid (Below w.heap.size w W) := Lib.hid (HB0.out.trans (grown_belw hg (by omega) (by omega)))
      clear hK bx hg hL h1 h2
      gi_wp2
      refine ⟨by simp, .inl ⟨_, _, rfl, run_takeDeferred HK.out, ?_⟩⟩
      have e0 := cell_kept hcl (grownBy_putObj' _ D (.deferred none)) (fun r e => by cases e; exact ⟨_, HK.out, rfl⟩)
      exact ⟨.pointer (some ⟨d.p, 0, none⟩), by simp [results, Try.results42, go_sem, e0], by rw [HV1.out, HV.out]; rfl, HB.out.trans (belowK_b (w := w) (Nat.le_refl _) _ D _ _ (by omega) HK.out rfl rfl)⟩
    case hdone =>
      rintro D xs W hD hxs ⟨bx, hpre, hg⟩ hK
      have hxs : xs = L.filter (inF a) := hxs
      subst hxs
      have HV : Hid (L.find? (fun d => inF a d && decide (d.b.to = partA b x.map)) = none) := Lib.hid (io_none hpre)
      have HK := Lib.hid hK
      have hcl := bx.cell
      have hfr := bx.frozen
      have HB : Hid (Below w.heap.size w W) := Lib.hid (HB0.out.trans (grown_belw hg (by omega) (by omega)))
      have BX := Lib.hid bx
      clear hK bx hg hpre
      go_wp2
      have HK2 : (W.setCell ⟨w.heap.size + 3, 0, none⟩ (.pointer none)).heap[D]? = some (.deferred (some [])) := (heap_setCell_other _ ⟨w.heap.size + 3, 0, none⟩ D _ (fun e => by have e2 : D = w.heap.size + 3 := e; omega)).trans HK.out
      refine ⟨by simp, .inl ⟨_, _, rfl, run_takeDeferred HK2, ?_⟩⟩
      have e0 := cell_kept (BX.out.set (.pointer none)).cell (grownBy_putObj' _ D (.deferred none)) (fun r e => by cases e; exact ⟨_, HK2, rfl⟩)
      exact ⟨.pointer none, by simp [results, Try.results42, go_sem, e0], by rw [HV1.out, HV.out]; rfl, (HB.out.setCell (p := ⟨w.heap.size + 3, 0, none⟩) (by show w.heap.size ≤ w.heap.size + 3; omega) _).trans (belowK_b (w := w) (Nat.le_refl _) _ D _ _ (by omega) HK2 rfl rfl)⟩
end Go.Proofs.Ytemlnkcokeckmaa
namespace Go.Proofs.Ytemlnkcokeckmaa
open Go.RowKit
set_option linter.unusedVariables false

/-- the box has been moved on: its blocks are its own, or new -/
structure Mvd (nb : Nat) (x : Bx) (kv : Value) (L : List Nd) (w : World) (now' : Int) (kv' : Value) (L' : List Nd) (w' : World) : Prop where
  na : Na w' nb x now' kv' L'
  foot : ∀ k, Foot nb kv' L' k → Foot nb kv L k ∨ w.heap.size ≤ k
  keeps : Keeps (Foot nb kv L) w w'
section
variable {nb : Nat} {x : Bx} {kv kv1 kv2 : Value} {L L1 L2 : List Nd} {w w1 w2 : World} {now now1 now2 : Int}
theorem Mvd.same (h : Na w nb x now kv L) (hb : Below w.heap.size w w1) : Mvd nb x kv L w now kv L w1 := ⟨h.below hb, fun k hk => .inl hk, .all hb⟩
theorem Mvd.trans (h : Mvd nb x kv L w now1 kv1 L1 w1) (k : Mvd nb x kv1 L1 w1 now2 kv2 L2 w2) : Mvd nb x kv L w now2 kv2 L2 w2 :=
  ⟨k.na, fun i hi => (k.foot i hi).elim (h.foot i) (fun e => .inr (Nat.le_trans h.keeps.size e)), h.keeps.then k.keeps (fun i hi hf => (h.foot i hf).elim id (fun e => by omega))⟩
theorem Mvd.went {t : Int} {e : Ending} (h : Na w nb x now kv L) (hw : Went w nb x now t kv L e w1) (hg : goes now t = true) : ∃ kv', Mvd nb x kv L w t kv' (liveN L t) w1 := by
  have h2 := hw.2
  rw [if_pos hg] at h2
  obtain ⟨kv', h3, h4, h5⟩ := h2
  refine ⟨kv', h3, fun k hk => .inl ?_, h5.mono (fun k _ hk => hk.elim .inl (fun e => .inr (.inl e)))⟩
  rcases hk with rfl | hk | ⟨d, hd, hk⟩
  · exact .inl rfl
  · exact .inr (.inl (by rw [← h4]; exact hk))
  · exact .inr (.inr ⟨d, (List.mem_filter.1 hd).1, hk⟩)
theorem Mvd.added {q : Nat} {d : Nd} (hN : Na w1 nb x now1 kv1 (L ++ [d])) (hq : w.heap.size ≤ d.p) (hs : d.sv = .slice none 0 0) (hf : ∀ g, kv1.ownBlock = some g → kv.ownBlock = some g ∨ w.heap.size ≤ g) (hk : Keeps (fun k => k = nb ∨ kv.ownBlock = some k) w w1) : Mvd nb x kv L w now1 kv1 (L ++ [d]) w1 := by
  refine ⟨hN, fun k hk => ?_, hk.mono (fun k _ hk => hk.elim .inl (fun e => .inr (.inl e)))⟩
  rcases hk with rfl | hk | ⟨e, he, hk⟩
  · exact .inl (.inl rfl)
  · exact (hf k hk).imp (fun e => .inr (.inl e)) id
  · rcases List.mem_append.1 he with he | he
    · exact .inl (.inr (.inr ⟨e, he, hk⟩))
    · simp only [List.mem_singleton] at he
      subst he
      rcases hk with rfl | hk
      · exact .inr hq
      · rw [hs] at hk; cases hk
/-- one binding is turned -/
theorem Mvd.turn {ls rs : List Nd} {d d' : Nd} (h : Na w nb x now kv (ls ++ d :: rs)) (hp : d'.p = d.p) (h1 : NdAt w1 d') (h2 : ∀ g, d'.sv.ownBlock = some g → d.sv.ownBlock = some g ∨ w.heap.size ≤ g) (hk : Keeps (fun k => k = d.p ∨ d.sv.ownBlock = some k) w w1) :
    Mvd nb x kv (ls ++ d :: rs) w now kv (ls ++ d' :: rs) w1 := by
  have hd : d ∈ ls ++ d :: rs := by simp
  have hsep := h.sep
  rw [List.pairwise_append, List.pairwise_cons] at hsep
  obtain ⟨s1, ⟨s2, s3⟩, s4⟩ := hsep
  have hap : ∀ e ∈ ls ++ rs, Apart e d ∧ e ∈ ls ++ d :: rs := fun e he => by
    rcases List.mem_append.1 he with he | he
    · exact ⟨s4 e he d (by simp), by simp [he]⟩
    · exact ⟨(s2 e he).symm, by simp [he]⟩
  have hap' : ∀ e ∈ ls ++ rs, Apart e d' := fun e he => by
    obtain ⟨a1, a2⟩ := hap e he
    refine ⟨by rw [hp]; exact a1.1, fun g hg hg' => ?_⟩
    rcases h2 g hg' with h3 | h3
    · exact a1.2 g hg h3
    · have := (h.nds e a2).rowlt hg; omega
  have hol : ∀ e ∈ ls ++ rs, NdAt w1 e := fun e he => by
    obtain ⟨a1, a2⟩ := hap e he
    refine (h.nds e a2).kept (hk.block _ (h.nds e a2).lt ?_) (fun g hg => hk.block g ((h.nds e a2).rowlt hg) ?_)
    · rintro (e1 | e1)
      · exact a1.1 e1
      · exact h.nd_seen hd a2 e1
    · rintro (e1 | e1)
      · rw [e1] at hg; exact h.nd_seen a2 hd hg
      · exact a1.2 g hg e1
  refine ⟨⟨(hk.block nb h.lt ?_).trans h.top, ?_, ?_, ?_⟩, ?_, ?_⟩
  · rintro (e1 | e1)
    · exact h.ne_nd hd e1.symm
    · exact h.ne_seen hd e1
  · have hr := h.row
    have e1 : (ls ++ d' :: rs).length = (ls ++ d :: rs).length := by simp
    have e2 : (ls ++ d' :: rs).map Nd.p = (ls ++ d :: rs).map Nd.p := by simp [hp]
    rw [e1, e2]
    refine own_at hr (fun g hg => hk.block g (h.foot_lt (.inr (.inl hg))) ?_)
    rintro (e3 | e3)
    · rw [e3] at hg; exact h.row_nd hd hg
    · exact h.row_seen hd hg e3
  · intro e he
    simp only [List.mem_append, List.mem_cons] at he
    rcases he with he | rfl | he
    · exact hol e (by simp [he])
    · exact h1
    · exact hol e (by simp [he])
  · rw [List.pairwise_append, List.pairwise_cons]
    refine ⟨s1, ⟨fun e he => (hap' e (by simp [he])).symm, s3⟩, fun e he f hf => ?_⟩
    rcases List.mem_cons.1 hf with rfl | hf
    · exact hap' e (by simp [he])
    · exact s4 e he f (by simp [hf])
  · rintro k (rfl | hk1 | ⟨e, he, hk1⟩)
    · exact .inl (.inl rfl)
    · exact .inl (.inr (.inl hk1))
    · simp only [List.mem_append, List.mem_cons] at he
      rcases he with he | rfl | he
      · exact .inl (.inr (.inr ⟨e, by simp [he], hk1⟩))
      · rcases hk1 with rfl | hk1
        · exact .inl (.inr (.inr ⟨d, hd, .inl hp⟩))
        · exact (h2 k hk1).imp (fun h3 => .inr (.inr ⟨d, hd, .inr h3⟩)) id
      · exact .inl (.inr (.inr ⟨e, by simp [he], hk1⟩))
  · exact hk.mono (fun k _ e => .inr (.inr ⟨d, hd, e⟩))
end
/-- the first of which it holds is turned -/
def updF {α : Type} (f : α → Bool) (u : α → α) : List α → List α
  | [] => []
  | b :: M => if f b = true then u b :: M else b :: updF f u M
theorem updF_at {α : Type} {f : α → Bool} {u : α → α} {ls rs : List α} {d : α} (ha : ∀ a ∈ ls, f a = false) (hd : f d = true) : updF f u (ls ++ d :: rs) = ls ++ u d :: rs := by
  induction ls with
  | nil => simp [updF, hd]
  | cons a ls ih =>
    have h1 := ha a (by simp)
    simp only [List.cons_append, updF, h1, Bool.false_eq_true, if_false]
    rw [ih (fun e he => ha e (by simp [he]))]
theorem updF_len {α : Type} (f : α → Bool) (u : α → α) : ∀ M : List α, (updF f u M).length = M.length
  | [] => rfl
  | b :: M => by
    unfold updF
    split
    · rfl
    · simp [updF_len f u M]
/-- what a box is asked for: whose, towards whom -/
def askF (a : A2) (b : Bn) : Bool := decide (b.inn = a) && b.asked
def toF (x : Bx) (a b : A2) (d : Bn) : Bool := decide (d.inn = a) && decide (d.to = partA b x.map)
def wayF (x : Bx) (M : List Bn) (a b : A2) : Bn → Bool := if M.any (askF a) = true then askF a else toF x a b
theorem wayN_eq (x : Bx) (L : List Nd) (a b : A2) : wayN x L a b = L.find? (fun d => wayF x (L.map Nd.b) a b d.b) := by
  unfold wayN wayF
  have e1 : (fun d : Nd => inF a d && d.b.asked) = (fun d => askF a d.b) := rfl
  have e2 : (fun d : Nd => inF a d && decide (d.b.to = partA b x.map)) = (fun d => toF x a b d.b) := rfl
  rw [e1, e2]
  by_cases h : (L.map Nd.b).any (askF a) = true
  · rw [if_pos h]
    cases hf : L.find? (fun d => askF a d.b) with
    | some d => rfl
    | none =>
      exfalso
      rw [List.find?_eq_none] at hf
      rw [List.any_eq_true] at h
      obtain ⟨b, hb, h⟩ := h
      obtain ⟨d, hd, rfl⟩ := List.mem_map.1 hb
      exact hf d hd h
  · rw [if_neg h]
    have hf : L.find? (fun d => askF a d.b) = none := by
      rw [List.find?_eq_none]
      intro d hd hc
      exact h (List.any_eq_true.2 ⟨d.b, List.mem_map.2 ⟨d, hd, rfl⟩, hc⟩)
    rw [hf]; rfl
/-- the bindings that are left at t -/
def liveM (M : List Bn) (t : Int) : List Bn := M.filter (fun b => !decide (b.until_ ≤ t))
theorem live_map (L : List Nd) (t : Int) : (liveN L t).map Nd.b = liveM (L.map Nd.b) t := by
  unfold liveN liveM dead
  rw [List.filter_map]; rfl
/-- an address, and a code -/
def ansA (a : A2) (c : Int) : Value := .tuple #[adr a, .int .i64 c]
/-- a binding by which something has gone out -/
def sentB (x : Bx) (t : Int) (b : A2) (d : Bn) : Bn := { d with until_ := if d.asked = true then d.until_ else min (t + x.life) 1099511627776, seen := seeL d.seen b }
def newB (x : Bx) (a b : A2) (p : Int) : Bn := { inn := a, to := partA b x.map, port := p, until_ := 0, asked := false, seen := [] }
/-- what Out answers: the address and the code, and the bindings that it leaves, at a time that may be -/
def outM (x : Bx) (M : List Bn) (t : Int) (a b : A2) : A2 × Int × List Bn :=
  if mayA a = true ∧ mayA b = true then
    match M.find? (wayF x M a b) with
    | some d => ((x.host, d.port), 0, updF (wayF x M a b) (sentB x t b) M)
    | none => match addM x M a.2 with
      | some p => ((x.host, p), 0, M ++ [sentB x t b (newB x a b p)])
      | none => ((0, 0), 10, M)
  else ((0, 0), 1, M)
end Go.Proofs.Ytemlnkcokeckmaa
namespace Go.Proofs.Ytemlnkcokeckmaa
set_option linter.unusedVariables false
variable {P : Program} {ops : Array Oper} {Q : Exit → Act → World → Prop} {md : Region.Mode} {S : World → Prop} {z : Nat}

/-- operation x waits for operation y -/
def waitsB (md : Region.Mode) (ops : Array Oper) (x y : Nat) : Bool :=
  match ops[x]? with
  | some o => o.after.any fun e => Region.binds md e && e.on == y
  | none => false
/-- .. through others, one behind the other -/
def linkB (md : Region.Mode) (ops : Array Oper) : Nat → List Nat → Nat → Bool
  | x, [], i => waitsB md ops x i
  | x, y :: ys, i => waitsB md ops x y && linkB md ops y ys i
/-- for whatever is listed all is listed that it waits for -/
def FullL (md : Region.Mode) (ops : Array Oper) (l : Array Bool) : Prop := ∀ j o, ops[j]? = some o → l.getD j false = true → ∀ e ∈ o.after, Region.binds md e = true → l.getD e.on false = true
def fullB (md : Region.Mode) (ops : Array Oper) (l : Array Bool) : Bool := (List.range ops.size).all fun j =>
  match ops[j]? with
  | some o => !l.getD j false || o.after.all fun e => !Region.binds md e || l.getD e.on false
  | none => true
theorem full_of {l : Array Bool} (h : fullB md ops l = true) : FullL md ops l := by
  intro j o ho hl e he hb
  unfold fullB at h
  rw [List.all_eq_true] at h
  have h1 := h j (List.mem_range.2 (Array.getElem?_eq_some_iff.1 ho).1)
  rw [ho] at h1
  simp only [hl, Bool.not_true, Bool.false_or] at h1
  rw [Array.all_eq_true_iff_forall_mem] at h1
  have h2 := h1 e he
  rw [hb] at h2
  simpa using h2
theorem full_set {l : Array Bool} {i : Nat} (h : FullL md ops l) (hi : i ∈ Region.ready md ops l) : FullL md ops (l.setIfInBounds i true) := by
  intro j o ho hl e he hb
  refine getD_set_true ?_
  by_cases hji : i = j
  · subst hji
    obtain ⟨_, o', ho', hall⟩ := mem_ready.1 hi
    rw [ho] at ho'
    cases ho'
    exact hall e he hb
  · rw [getD_set_ne false hji] at hl
    exact h j o ho hl e he hb
theorem waits_spec {x y : Nat} (h : waitsB md ops x y = true) : ∃ o e, ops[x]? = some o ∧ e ∈ o.after ∧ Region.binds md e = true ∧ e.on = y := by
  unfold waitsB at h
  split at h
  · rename_i o ho
    rw [Array.any_eq_true'] at h
    obtain ⟨e, he, h2⟩ := h
    rw [Bool.and_eq_true, beq_iff_eq] at h2
    exact ⟨o, e, ho, he, h2.1, h2.2⟩
  · cases h
/-- what is waited for by a listed one, or by one that is ready, is listed -/
theorem link_listed {l : Array Bool} (h : FullL md ops l) : ∀ (ys : List Nat) (x i : Nat), (∀ o, ops[x]? = some o → ∀ e ∈ o.after, Region.binds md e = true → l.getD e.on false = true) → linkB md ops x ys i = true → l.getD i false = true
  | [], x, i, hx, hl => by
    obtain ⟨o, e, ho, he, hb, rfl⟩ := waits_spec hl
    exact hx o ho e he hb
  | y :: ys, x, i, hx, hl => by
    unfold linkB at hl
    rw [Bool.and_eq_true] at hl
    obtain ⟨o, e, ho, he, hb, rfl⟩ := waits_spec hl.1
    have h1 := hx o ho e he hb
    exact link_listed h ys e.on i (fun o' ho' e' he' hb' => h e.on o' ho' h1 e' he' hb') hl.2

/-- whatever order is picked, and S holds as long as number z has not come up -/
def wpTill (P : Program) (md : Region.Mode) (ops : Array Oper) (Q : Exit → Act → World → Prop) (S : World → Prop) (z : Nat) : Nat → Array Bool → Act → World → Prop
  | 0, l, a, w => Region.ready md ops l = [] ∧ Q .normal a w
  | k + 1, l, a, w => (Region.ready md ops l = [] → Q .normal a w) ∧ ∀ i ∈ Region.ready md ops l, wpOp P ops Q i (fun a' w' => (((l.setIfInBounds i true).getD z false = false → S w') ∧ wpTill P md ops Q S z k (l.setIfInBounds i true) a' w')) a w
theorem any_of_till : ∀ (k : Nat) (l : Array Bool) (a : Act) (w : World), wpTill P md ops Q S z k l a w → wpAny P md ops Q k l a w
  | 0, _, _, _, h => h
  | k + 1, l, _, _, h => ⟨h.1, fun i hi => wpOp_mono (fun a' w' h' => any_of_till k _ a' w' h'.2) (h.2 i hi)⟩

/-- nobody who could come ahead of it touches what it reads or writes -/
def FreeL (md : Region.Mode) (ops : Array Oper) (l : Array Bool) (i : Nat) (oi : Oper) : Prop := ∀ j oj, ops[j]? = some oj → j ≠ i → l.getD j true = false → (∀ e ∈ oj.after, Region.binds md e = true → e.on ≠ i) → oi.apart ops oj = true
theorem free_set {l : Array Bool} {i j : Nat} {oi : Oper} (h : FreeL md ops l i oi) (hj : l.getD j true = false) : FreeL md ops (l.setIfInBounds j true) i oi := by
  intro k ok hk hki hun hno
  refine h k ok hk hki ?_ hno
  by_cases hjk : j = k
  · subst hjk; exact hj
  · rwa [getD_set_ne true hjk] at hun
theorem till_first {i : Nat} {oi : Oper} {v : Value} {ys : List Nat} (hi : ops[i]? = some oi) (hsel : ∀ (j : Nat) (o : Oper) cs b, ops[j]? = some o → o.op ≠ .select cs b)
    (hQ : ∀ c a w, Q (.panic c) (a.put oi.dst v) w → Q (.panic c) a w) (hz : linkB md ops z ys i = true) (hz0 : ¬ z = i) (k : Nat) :
    ∀ (l : Array Bool) (a : Act) (w : World), FullL md ops l → FreeL md ops l i oi → i ∈ Region.ready md ops l → YieldsIf P ops S oi v a → S w →
      wpTill P md ops Q S z k (l.setIfInBounds i true) (a.put oi.dst v) w → wpTill P md ops Q S z (k + 1) l a w := by
  induction k with
  | zero =>
    intro l a w _ _ hr hy hS H
    refine ⟨fun h => absurd hr (by rw [h]; simp), fun j hj => ?_⟩
    rcases Decidable.em (j = i) with rfl | hji
    · exact hy.wpOp hi hS ⟨fun _ => hS, H⟩
    · exact absurd (ready_mono hj hji) (by rw [H.1]; simp)
  | succ k ih =>
    intro l a w hfull hfree hr hy hS H
    refine ⟨fun h => absurd hr (by rw [h]; simp), fun j hj => ?_⟩
    rcases Decidable.em (j = i) with rfl | hji
    · exact hy.wpOp hi hS ⟨fun _ => hS, H⟩
    obtain ⟨hun, oj, hoj, hdeps⟩ := mem_ready.1 hj
    obtain ⟨hui, _, _, _⟩ := mem_ready.1 hr
    have hunl : ¬ l.getD i false = true := by
      intro h1
      rcases Nat.lt_or_ge i l.size with h2 | h2
      · simp [h2] at h1 hui
        rw [h1] at hui; cases hui
      · simp [Array.getElem?_eq_none h2] at h1
    have hiz : z ≠ i := hz0
    -- z waits for i, which isn't listed: j isn't z
    have hjz : j ≠ z := by
      rintro rfl
      have h1 := link_listed hfull ys j i (fun o ho => by rw [hoj] at ho; cases ho; exact hdeps) hz
      rcases Nat.lt_or_ge i l.size with h2 | h2
      · simp [h2] at h1 hui
        rw [h1] at hui; cases hui
      · simp [Array.getElem?_eq_none h2] at h1
    have hzl : (l.setIfInBounds j true).getD z false = false := by
      rw [getD_set_ne false hjz]
      cases hzl : l.getD z false with
      | false => rfl
      | true =>
        have hzo : ∃ o, ops[z]? = some o := by
          cases hzo : ops[z]? with
          | some o => exact ⟨o, rfl⟩
          | none =>
            exfalso
            cases ys with
            | nil => simp [linkB, waitsB, hzo] at hz
            | cons y ys => simp [linkB, waitsB, hzo] at hz
        obtain ⟨o, hzo⟩ := hzo
        exact absurd (link_listed hfull ys z i (fun o' ho' => hfull z o' ho' hzl) hz) hunl
    have hno : ∀ e ∈ oj.after, Region.binds md e = true → e.on ≠ i := by
      intro e he hb heq
      have h1 := hdeps e he hb
      rw [heq] at h1
      rcases Nat.lt_or_ge i l.size with h2 | h2
      · simp [h2] at h1 hui
        rw [h1] at hui; cases hui
      · simp [Array.getElem?_eq_none h2] at h1
    have hS3 : ∀ w', (((l.setIfInBounds i true).setIfInBounds j true).getD z false = false → S w') → S w' := fun w' h => h (by rw [Array.setIfInBounds_comm _ _ (Ne.symm hji), getD_set_ne false hiz.symm]; exact hzl)
    have h2 := wpOp_putIf hoj (hfree j oj hoj hji hun hno) (fun cs b => hsel i oi cs b hi) (fun cs b => hsel j oj cs b hoj) hQ hy (H.2 j (ready_mono hj hji))
    refine wpOp_mono (fun a' w' h3 => ⟨fun _ => hS3 _ h3.2.1, ih _ a' w' (full_set hfull hj) (free_set hfree hun) (ready_mono hr (Ne.symm hji)) h3.1 (hS3 _ h3.2.1) ?_⟩) h2
    rw [Array.setIfInBounds_comm _ _ hji]
    exact h3.2.2

/-- number i is taken first -/
theorem till_take {i : Nat} {oi : Oper} {v : Value} {k : Nat} {l : Array Bool} {a : Act} {w : World} (ys : List Nat) (hi : ops[i]? = some oi)
    (hs : Region.noSelect ops = true) (hz : linkB md ops z ys i = true) (hz0 : ¬ z = i) (hu : fullB md ops l = true) (hf : Region.free md ops l i = true) (hr : (Region.ready md ops l).contains i = true)
    (hQ : ∀ c a w, Q (.panic c) (a.put oi.dst v) w → Q (.panic c) a w) (hy : YieldsIf P ops S oi v a) (hS : S w)
    (h : wpTill P md ops Q S z k (l.setIfInBounds i true) (a.put oi.dst v) w) : wpTill P md ops Q S z (k + 1) l a w :=
  till_first hi (Region.noSelect_spec hs) hQ hz hz0 k l a w (full_of hu) (Region.free_spec hi hf) (by simpa using hr) hy hS h
/-- each of these may come up next -/
def TillReady (P : Program) (md : Region.Mode) (ops : Array Oper) (Q : Exit → Act → World → Prop) (S : World → Prop) (z k : Nat) (l : Array Bool) (a : Act) (w : World) (rs : List Nat) : Prop :=
  ∀ i ∈ rs, wpOp P ops Q i (fun a' w' => (((l.setIfInBounds i true).getD z false = false → S w') ∧ wpTill P md ops Q S z k (l.setIfInBounds i true) a' w')) a w
theorem TillReady.nil {k : Nat} {l : Array Bool} {a : Act} {w : World} : TillReady P md ops Q S z k l a w [] := fun _ h => by cases h
theorem TillReady.cons {k : Nat} {l : Array Bool} {a : Act} {w : World} {i : Nat} {o : Oper} {rs : List Nat} (ho : ops[i]? = some o)
    (h : ∀ K' : Act → World → Prop, Shut (∀ a w, S w → (S w → wpTill P md ops Q S z k (l.setIfInBounds i true) a w) → K' a w) → if Region.wanted o (yielded ops a.tmps) = true then Oper.wp P o a w K' Q else K' (a.put o.dst undef) w)
    (hs : TillReady P md ops Q S z k l a w rs) : TillReady P md ops Q S z k l a w (i :: rs) := fun j hj => by
  rcases List.mem_cons.1 hj with rfl | hj
  · exact wpOp_step ho (fun K' hK => h K' (fun a w hS hW => hK a w ⟨fun _ => hS, hW hS⟩))
  · exact hs j hj
/-- .. from z on -/
theorem TillReady.past {k : Nat} {l : Array Bool} {a : Act} {w : World} {i : Nat} {o : Oper} {rs : List Nat} (ho : ops[i]? = some o) (hl : (l.setIfInBounds i true).getD z false = true)
    (h : ∀ K' : Act → World → Prop, Shut (∀ a w, wpTill P md ops Q S z k (l.setIfInBounds i true) a w → K' a w) → if Region.wanted o (yielded ops a.tmps) = true then Oper.wp P o a w K' Q else K' (a.put o.dst undef) w)
    (hs : TillReady P md ops Q S z k l a w rs) : TillReady P md ops Q S z k l a w (i :: rs) := fun j hj => by
  rcases List.mem_cons.1 hj with rfl | hj
  · exact wpOp_step ho (fun K' hK => h K' (fun a w hW => hK a w ⟨fun hn => absurd (hl.symm.trans hn) (by decide), hW⟩))
  · exact hs j hj
theorem till_ready {rs : List Nat} {k : Nat} {l : Array Bool} {a : Act} {w : World} (hr : Region.ready md ops l = rs) (hne : rs ≠ []) (h : TillReady P md ops Q S z k l a w rs) : wpTill P md ops Q S z (k + 1) l a w :=
  ⟨fun h0 => absurd (hr ▸ h0) hne, hr ▸ h⟩
theorem till_done {l : Array Bool} {a : Act} {w : World} (hr : Region.ready md ops l = []) (h : Q .normal a w) : ∀ k, wpTill P md ops Q S z k l a w
  | 0 => ⟨hr, h⟩
  | _ + 1 => ⟨fun _ => h, by rw [hr]; simp⟩
/-- the beginning -/
theorem wp_region_till {id : Nat} {a : Act} {w : World} (hm : P.follows .mixedOrders = true) (hS : S w.drew) (h : S w.drew → wpTill P .any ops Q S z ops.size (Array.replicate ops.size false) a w.drew) : (Code.region id ops true).wp P Q a w :=
  wp_region_any hm (any_of_till _ _ _ _ (h hS))
end Go.Proofs.Ytemlnkcokeckmaa
