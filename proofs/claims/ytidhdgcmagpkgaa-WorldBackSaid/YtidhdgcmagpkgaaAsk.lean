/-
  The contract of nat's asked: the binding of one that was asked for, if there is one. Conditions: the box lies in memory; at most 1000 bindings.
-/
import Derived.Test.YtidhdgcmagpkgaaOft
import Derived.RangeFuncKeeps
namespace Go.Proofs.Ytidhdgcmagpkgaa
open Go.RowKit Go.Shelf
attribute [local go_sem] Oper.semAt_some
set_option linter.unusedVariables false

theorem Kept.set' {gs : List Nat} {t : Bool} {B b : Nat} {W : World} (hb : b < B) (hgs : b ∉ gs) (v : Value) : Kept gs t B W (W.setCell ⟨b, 0, none⟩ v) :=
  ⟨by simp, fun g hg => heap_setCell_other W ⟨b, 0, none⟩ g v (fun e => by have e : g = b := e; exact hgs (e ▸ hg)), fun k o h1 h2 _ => (heap_setCell_other W ⟨b, 0, none⟩ k v (fun e => by have : k = b := e; omega)).trans h2⟩
theorem grown_set {A W : World} {b : Nat} (h : A.grownBy W (some b)) (v : Value) : A.grownBy (W.setCell ⟨b, 0, none⟩ v) (some b) :=
  ⟨h.os, h.tape, h.output, by have := h.size; simp; omega, fun k hk hne => (heap_setCell_other W ⟨b, 0, none⟩ k v (fun e => hne (by rw [e]))).trans (h.block k hk hne)⟩
theorem grown_then {A W W' : World} {b : Nat} {row : Option Nat} (h : A.grownBy W (some b)) (hg : W.grownBy W' row) (hr : ∀ r, row = some r → A.heap.size ≤ r) : A.grownBy W' (some b) :=
  ⟨hg.os.trans h.os, hg.tape.trans h.tape, hg.output.trans h.output, Nat.le_trans h.size hg.size, fun k hk hne =>
    (hg.block k (Nat.lt_of_lt_of_le hk h.size) (fun e => by have := hr k e.symm; omega)).trans (h.block k hk hne)⟩
theorem grown_belw {A W : World} {b n : Nat} (h : A.grownBy W (some b)) (hb : n ≤ b) (hn : n ≤ A.heap.size) : Below n A W := ⟨h.os, h.tape, h.output, h.size, fun k hk => h.block k (by omega) (fun e => by cases e; omega)⟩

/-- the pointer to a binding, or none -/
def ptrO (o : Option Nd) : Value := .pointer (o.map fun d => ⟨d.p, 0, none⟩)
/-- the first of them of which it holds -/
theorem find_filter (L : List Nd) (f g : Nd → Bool) : (L.filter f).find? g = L.find? (fun d => f d && g d) := by
  induction L with
  | nil => rfl
  | cons d L ih =>
    by_cases h : f d = true
    · rw [List.filter_cons_of_pos h]
      simp only [List.find?_cons, h, Bool.true_and, ih]
    · rw [List.filter_cons_of_neg h]
      have hf : f d = false := by simpa using h
      simp only [List.find?_cons, hf, Bool.false_and, ih]
/-- what stands between two rounds of a loop over of -/
def IO (g : Nd → Bool) (r : Nat) (W0 : World) (pre : List Nd) (W : World) : Prop := Boxed W r 70 (.pointer none) ∧ (∀ d ∈ pre, g d = false) ∧ W0.grownBy W (some r)
def IX (g : Nd → Bool) (r : Nat) (W0 : World) (c : Code) (pre : List Nd) (W : World) : Prop := c = .ret ∧ ∃ pre' d, pre = pre' ++ [d] ∧ (∀ d ∈ pre', g d = false) ∧ g d = true ∧ Boxed W r 70 (.pointer (some ⟨d.p, 0, none⟩)) ∧ W0.grownBy W (some r)
theorem io_lasts {g : Nd → Bool} {r : Nat} {W0 : World} {L : List Nd} {a : A2} (hr : r < W0.heap.size) : Lasts W0.heap.size (IO g r W0) (IX g r W0) (OkN L a) where
  on := fun s X Y row hs hg hrow => ⟨hs.1.kept hg (fun e => by have := (hrow _ e.symm).1; omega), hs.2.1, grown_then hs.2.2 hg (fun k e => (hrow k e).1)⟩
  off := fun c s X Y row hs hg hrow => by
    obtain ⟨rfl, pre', d, h1, h2, h3, h4, h5⟩ := hs
    exact ⟨rfl, pre', d, h1, h2, h3, h4.kept hg (fun e => by have := (hrow _ e.symm).1; omega), grown_then h5 hg (fun k e => (hrow k e).1)⟩
  ok := fun zs z s X Y row hs _ _ => hs
theorem io_none {L : List Nd} {a : A2} {g : Nd → Bool} (h : ∀ d ∈ L.filter (inF a), g d = false) : L.find? (fun d => inF a d && g d) = none := by
  rw [← find_filter, List.find?_eq_none]
  intro d hd
  simp [h d hd]
theorem io_some {L pre rest : List Nd} {d : Nd} {a : A2} {g : Nd → Bool} (hL : L.filter (inF a) = (pre ++ [d]) ++ rest) (h : ∀ d ∈ pre, g d = false) (hd : g d = true) : L.find? (fun d => inF a d && g d) = some d := by
  rw [← find_filter, hL, List.append_assoc, List.find?_append]
  have : pre.find? g = none := by rw [List.find?_eq_none]; intro e he; simp [h e he]
  rw [this]
  simp [hd]
/-- the blocks that a loop over of reads -/
def blks (b2 b3 nb : Nat) (kv : Value) (L : List Nd) : List Nat := b2 :: b3 :: nb :: (kv.ownBlock.toList ++ L.map Nd.p)
theorem blks_all {b2 b3 nb : Nat} {kv : Value} {L : List Nd} {p : Nat → Prop} (h1 : p b2) (h2 : p b3) (h3 : p nb) (h4 : ∀ g, kv.ownBlock = some g → p g) (h5 : ∀ d ∈ L, p d.p) : ∀ g ∈ blks b2 b3 nb kv L, p g := by
  intro g hg
  simp only [blks, List.mem_cons, List.mem_append, Option.mem_toList, List.mem_map] at hg
  rcases hg with rfl | rfl | rfl | hg | ⟨d, hd, rfl⟩
  · exact h1
  · exact h2
  · exact h3
  · exact h4 g hg
  · exact h5 d hd
theorem blks_row {b2 b3 nb : Nat} {kv : Value} {L : List Nd} (g : Nat) (h : kv.ownBlock = some g) : g ∈ blks b2 b3 nb kv L := by simp [blks, h]
theorem blks_nd {b2 b3 nb : Nat} {kv : Value} {L : List Nd} (d : Nd) (h : d ∈ L) : d.p ∈ blks b2 b3 nb kv L := by
  simp only [blks, List.mem_cons, List.mem_append, List.mem_map]
  exact .inr (.inr (.inr (.inr ⟨d, h, rfl⟩)))
theorem ok_mem {L : List Nd} {a : A2} {pre : List Nd} {z : Nd} {W : World} (h : OkN L a pre z W) : z ∈ L := by
  obtain ⟨rest, h⟩ := h
  have : z ∈ L.filter (inF a) := by rw [h]; simp
  exact (List.mem_filter.1 this).1

set_option maxRecDepth 100000 in
set_option maxHeartbeats 4000000 in
theorem asked_any (nb : Nat) (x : Bx) (now : Int) (kv : Value) (L : List Nd) (a : A2) (w : World) (h : Na w nb x now kv L) (hbig : L.length ≤ 1000) :
    Calls Try.prog 57 #[.pointer (some ⟨nb, 0, none⟩), adr a] w fun e w' => e = .returned (ptrO (L.find? (fun d => inF a d && d.b.asked))) ∧ Below w.heap.size w w' := by
  have H := Lib.hid h
  have hlt := h.lt
  clear h
  have HOF := Lib.hid (fun W => of_any nb a W)
  refine (callsIn_wide (n := 6)).1 ?_
  unfold adr at *
  refine callsIn_of_wp_marks Try.func57 rfl trivial ?_ rfl
  refine wpIn_wide.2 ?_
  simp only [Try.ntmps57, List.size_toArray, List.length_cons, List.length_nil, Nat.reduceAdd, Nat.reduceSub, Array.replicate_succ, Array.replicate_zero, List.push_toArray, List.append_toArray, List.nil_append, List.cons_append]
  go_wp2_with (go_at_call 58; refine (HOF.out _).mono ?_; rintro e w' ⟨rfl, rfl⟩)
  obtain ⟨W0, hW0⟩ : ∃ W0, ((((w.alloc (.cells #[.int .u32 a.1, .int .i64 a.2] 36)).alloc (.cells #[.pointer none] 70)).alloc (.cells #[.pointer (some ⟨nb, 0, none⟩)] 50)).alloc (.cells #[.int .u32 a.1, .int .i64 a.2] 36)) = W0 := ⟨_, rfl⟩
  rw [hW0]
  have hsz : W0.heap.size = w.heap.size + 4 := by rw [← hW0]; simp
  have HB0 : Hid (Below w.heap.size w W0) := Lib.hid (by rw [← hW0]; exact ((((Below.refl _ w).alloc (Nat.le_refl _) _).alloc (by simp) _).alloc (by simp; omega) _).alloc (by simp; omega) _)
  have HR0 : Hid (Boxed W0 (w.heap.size + 1) 70 (.pointer none)) := Lib.hid (by
    rw [← hW0]
    have := (((Boxed.new (w.alloc (.cells #[.int .u32 a.1, .int .i64 a.2] 36)) 70 (.pointer none)).alloc (.cells #[.pointer (some ⟨nb, 0, none⟩)] 50)).alloc (.cells #[.int .u32 a.1, .int .i64 a.2] 36))
    rwa [World.size_alloc] at this)
  have hc2 : W0.cell? ⟨w.heap.size + 2, 0, none⟩ = some (.pointer (some ⟨nb, 0, none⟩)) := by rw [← hW0]; clear hW0; go_simp
  have hc3 : W0.cell? ⟨w.heap.size + 3, 0, none⟩ = some (.int .u32 a.1) := by rw [← hW0]; clear hW0; go_simp
  have hc4 : W0.cell? ⟨w.heap.size + 3, 1, none⟩ = some (.int .i64 a.2) := by rw [← hW0]; clear hW0; go_simp
  clear hW0
  have hN0 := H.out.below HB0.out
  have HN0 := Lib.hid hN0
  have hall : ∀ g ∈ blks (w.heap.size + 2) (w.heap.size + 3) nb kv L, g < W0.heap.size ∧ g ≠ w.heap.size + 1 := by
    have hft : ∀ k, Foot nb kv L k → k < W0.heap.size ∧ k ≠ w.heap.size + 1 := fun k hk => by have := H.out.foot_lt hk; omega
    exact blks_all (p := fun g => g < W0.heap.size ∧ g ≠ w.heap.size + 1) (by omega) (by omega) (hft _ (.inl rfl)) (fun g hg => hft _ (.inr (.inl hg))) (fun d hd => hft _ (.inr (.inr ⟨d, hd, .inl rfl⟩)))
  have hne : w.heap.size + 1 ∉ blks (w.heap.size + 2) (w.heap.size + 3) nb kv L := fun hm => (hall _ hm).2 rfl
  have hst := of1_tells 5 (by omega) (w.heap.size + 2) (w.heap.size + 3) nb (blks (w.heap.size + 2) (w.heap.size + 3) nb kv L) x now kv L a W0 (fun g hg => (hall g hg).1) hN0 hbig hc2 hc3 hc4 (by simp [blks]) (by simp [blks]) (by simp [blks]) blks_row blks_nd
  clear hN0 hc2 hc3 hc4
  refine (wpIn_wide (n := 6)).1 ?_
  apply range_told (F := Fence.wide) (n := 6) (f := 70) (own := #[.pointer (some ⟨w.heap.size + 2, 0, none⟩), .pointer (some ⟨w.heap.size + 3, 0, none⟩)]) ⟨rfl, by omega, trivial, enters_of Try.func70 (by kernel_rfl) rfl, hst⟩ rfl (Below.refl _ _) (fun g hg => (hall g hg).1) (fun _ => rfl)
    (IO (fun d => d.b.asked) (w.heap.size + 1) W0) (IX (fun d => d.b.asked) (w.heap.size + 1) W0) (io_lasts (by omega)) ⟨HR0.out, by simp, World.grownBy.refl _ _⟩
  case hassign =>
    intro l z W K hK
    simp only [encN]
    gi_wp2
    exact hK
  case hbody =>
    rintro l pre z W hWs ⟨bx, hpre, hg⟩ hok
    have hz := ok_mem hok
    have hcl := bx.cell
    have hfr := bx.frozen
    have hzl : z.p < W0.heap.size := (HN0.out.nds z hz).lt
    have c6 := (World.cell?_of_block (a := ⟨z.p, 6, none⟩) (hg.block z.p hzl (fun e => (hall _ (blks_nd z hz)).2 (Option.some.inj e)))).trans (HN0.out.nds z hz).cells.1.2.2.2.2.2.2
    have BX := Lib.hid bx; have HG := Lib.hid hg; have HPRE := Lib.hid hpre
    clear bx hg hpre hok
    cases hk : z.b.asked with
    | true =>
      rw [hk] at c6
      have HZ := Lib.hid hk; clear hk
      gi_wp2
      exact ⟨Kept.set' (by omega) hne _, rfl, pre, z, rfl, HPRE.out, HZ.out, BX.out.set _, grown_set HG.out _⟩
    | false =>
      rw [hk] at c6
      have HZ := Lib.hid hk; clear hk
      gi_wp2
      refine ⟨Kept.refl _ _ _ _, BX.out, fun d hd => ?_, HG.out⟩
      rcases List.mem_append.1 hd with h | h
      · exact HPRE.out d h
      · simp at h; rw [h]; exact HZ.out
  case hstop =>
    rintro D c pre W hD ⟨rest, hL⟩ ⟨rfl, pre', d, rfl, h1, h2, bx, hg⟩ hK
    have HV : Hid (L.find? (fun d => inF a d && d.b.asked) = some d) := Lib.hid (io_some hL h1 h2)
    have HK := Lib.hid hK
    have hcl := bx.cell
    have HB : Hid (Below w.heap.size w W) := Lib.hid (HB0.out.trans (grown_belw hg (by omega) (by omega)))
    clear hK bx hg hL h1 h2
    gi_wp2
    refine ⟨by simp, .inl ⟨_, _, rfl, run_takeDeferred HK.out, ?_⟩⟩
    have e0 := cell_kept hcl (grownBy_putObj' _ D (.deferred none)) (fun r e => by cases e; exact ⟨_, HK.out, rfl⟩)
    exact ⟨.pointer (some ⟨d.p, 0, none⟩), by simp [results, Try.results57, go_sem, e0], by rw [HV.out]; rfl, HB.out.trans (belowK_b (w := w) (Nat.le_refl _) _ D _ _ (by omega) HK.out rfl rfl)⟩
  case hdone =>
    rintro D xs W hD hxs ⟨bx, hpre, hg⟩ hK
    have hxs : xs = L.filter (inF a) := hxs
    subst hxs
    have HV : Hid (L.find? (fun d => inF a d && d.b.asked) = none) := Lib.hid (io_none hpre)
    have HK := Lib.hid hK
    have hcl := bx.cell
    have hfr := bx.frozen
    have HB : Hid (Below w.heap.size w W) := Lib.hid (HB0.out.trans (grown_belw hg (by omega) (by omega)))
    have BX := Lib.hid bx
    clear hK bx hg hpre
    go_wp2
    have HK2 : (W.setCell ⟨w.heap.size + 1, 0, none⟩ (.pointer none)).heap[D]? = some (.deferred (some [])) := (heap_setCell_other _ ⟨w.heap.size + 1, 0, none⟩ D _ (fun e => by have e2 : D = w.heap.size + 1 := e; omega)).trans HK.out
    refine ⟨by simp, .inl ⟨_, _, rfl, run_takeDeferred HK2, ?_⟩⟩
    have e0 := cell_kept (BX.out.set (.pointer none)).cell (grownBy_putObj' _ D (.deferred none)) (fun r e => by cases e; exact ⟨_, HK2, rfl⟩)
    exact ⟨.pointer none, by simp [results, Try.results57, go_sem, e0], by rw [HV.out]; rfl, (HB.out.setCell (p := ⟨w.heap.size + 1, 0, none⟩) (by show w.heap.size ≤ w.heap.size + 1; omega) _).trans (belowK_b (w := w) (Nat.le_refl _) _ D _ _ (by omega) HK2 rfl rfl)⟩
end Go.Proofs.Ytidhdgcmagpkgaa
