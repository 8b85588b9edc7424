/-
  The contract of embrasure/frame.Count: how many whole frames bytes begin with. Conditions: the slice reads as bytes.
-/
import Derived.Test.YtadbidgikgffhaaSeq
namespace Go.Proofs.Ytadbidgikgffhaa
open Go.RowKit Go.Shelf
attribute [local go_sem] Oper.semAt_some
set_option linter.unusedVariables false

theorem Kept.set {gs : List Nat} {t : Bool} {B b : Nat} {W : World} (hb : b < B) (hgs : b ∉ gs) (v : Value) : Kept gs t B W (W.setCell ⟨b, 0, none⟩ v) :=
  ⟨by simp, fun g hg => heap_setCell_other W ⟨b, 0, none⟩ g v (fun e => by have e : g = b := e; exact hgs (e ▸ hg)), fun k o h1 h2 _ => (heap_setCell_other W ⟨b, 0, none⟩ k v (fun e => by have : k = b := e; omega)).trans h2⟩
theorem grown_set {A W : World} {b : Nat} (h : A.grownBy W (some b)) (v : Value) : A.grownBy (W.setCell ⟨b, 0, none⟩ v) (some b) :=
  ⟨h.os, h.tape, h.output, by have := h.size; simp; omega, fun k hk hne => (heap_setCell_other W ⟨b, 0, none⟩ k v (fun e => hne (by rw [e]))).trans (h.block k hk hne)⟩
theorem grown_then {A W W' : World} {b : Nat} {row : Option Nat} (h : A.grownBy W (some b)) (hg : W.grownBy W' row) (hr : ∀ r, row = some r → A.heap.size ≤ r) : A.grownBy W' (some b) :=
  ⟨hg.os.trans h.os, hg.tape.trans h.tape, hg.output.trans h.output, Nat.le_trans h.size hg.size, fun k hk hne =>
    (hg.block k (Nat.lt_of_lt_of_le hk h.size) (fun e => by have := hr k e.symm; omega)).trans (h.block k hk hne)⟩
theorem Boxed.below {W W' : World} {B t : Nat} {v : Value} {n : Nat} (h : Boxed W B t v) (hb : Below n W W') (hB : B < n) : Boxed W' B t v := (hb.block B hB).trans h

/-- what Ok says of pieces is kept by turns of what is no cells -/
theorem okE_own (zs : List Int) (gs : List Nat) (B : Nat) (pre : List Item) (x : Item) (hgs : ∀ g ∈ gs, g < B) : OwnFrom B (fun (_ : Unit) W => OkE zs gs pre x W) := by
  rintro _ X Y row ⟨⟨A, n, c, e, hb, h3, h4, h5, h6⟩, hp⟩ hg hr
  refine ⟨⟨A, n, c, e, ?_, h3, h4, h5, h6⟩, hp⟩
  refine ⟨hb.1, hb.2.1, fun hn => ?_⟩
  obtain ⟨b, off, rfl, hlt, hc⟩ := hb.2.2 hn
  have hb2 := hgs _ (h6 _ rfl)
  exact ⟨b, off, rfl, Nat.lt_of_lt_of_le hlt hg.size, fun j hj => (World.cell?_of_block (w := X) (a := ⟨b, off + j, none⟩) (hg.block b hlt (fun e => by have := (hr b e.symm).1; simp only at hb2; omega))).trans (hc j hj)⟩

/-- rows and codes of what was handed -/
def rc (pre : List Item) : List (List Int × Int) := pre.map (fun x => x.2)
theorem rc_snoc (pre : List Item) (v : Value) (r : List Int) (c : Int) : rc (pre ++ [(v, r, c)]) = rc pre ++ [(r, c)] := by simp [rc]
def cnt (l : List (List Int × Int)) : Nat := (l.filter (fun x => decide (x.2 = 0))).length
theorem cnt_snoc (l : List (List Int × Int)) (r : List Int) (c : Int) : cnt (l ++ [(r, c)]) = cnt l + if c = 0 then 1 else 0 := by
  unfold cnt
  rw [List.filter_append]
  by_cases h : c = 0 <;> simp [h]
theorem cnt_each (zs : List Int) : cnt (Fr.each zs) = (Fr.rows zs).length := by
  unfold cnt Fr.each
  rw [List.filter_append, List.filter_eq_self.2 (by intro a ha; obtain ⟨r, _, rfl⟩ := List.mem_map.1 ha; simp)]
  by_cases h : Fr.stop zs = 0 <;> simp [h]

/-- the blocks in which an iterator's bytes lie -/
def blk (g : Nat) (A : Option Addr) (m : Nat) : List Nat := g :: if m = 0 then [] else A.toList.map (·.block)
theorem blk_self (g : Nat) (A : Option Addr) (m : Nat) : g ∈ blk g A m := by simp [blk]
theorem blk_addr (g : Nat) (A : Option Addr) (m : Nat) : 0 < m → ∀ ad, A = some ad → ad.block ∈ blk g A m := by
  rintro hm ad rfl
  simp [blk, show ¬ m = 0 by omega]
theorem blk_all {g : Nat} {A : Option Addr} {m : Nat} {p : Nat → Prop} (h1 : p g) (h2 : 0 < m → ∀ ad, A = some ad → p ad.block) : ∀ x ∈ blk g A m, p x := by
  intro x hx
  unfold blk at hx
  rcases List.mem_cons.1 hx with rfl | hx
  · exact h1
  · by_cases h0 : m = 0
    · simp [h0] at hx
    · rw [if_neg h0] at hx
      obtain ⟨ad, had, rfl⟩ := List.mem_map.1 hx
      exact h2 (by omega) ad (by simpa using had)
theorem Bts.lt {w : World} {A : Option Addr} {n : Nat} {zs : List Int} (h : Bts w A n zs) : 0 < n → ∀ ad, A = some ad → ad.block < w.heap.size := by
  rintro hn ad rfl
  obtain ⟨b, off, e, hlt, _⟩ := h.2.2 hn
  simp only [Option.some.injEq] at e
  subst e; exact hlt

set_option maxRecDepth 100000 in
set_option maxHeartbeats 2000000 in
theorem count_any (A : Option Addr) (m c : Nat) (zs : List Int) (w : World) (h : Bts w A m zs) (hmc : m ≤ c) (hc : c ≤ maxLen) (hm : m ≤ 1000000) :
    Calls Try.prog 17 #[.slice A m c] w fun e w' => e = .returned (.int .i64 ((Fr.rows zs).length : Nat)) ∧ Below w.heap.size w w' := by
  have HC := Lib.hid hc; clear hc
  have H := Lib.hid h; clear h
  refine (callsIn_wide (n := 6)).1 ?_
  refine callsIn_of_wp_marks Try.func17 rfl trivial ?_ rfl
  refine wpIn_wide.2 ?_
  simp only [Try.ntmps17, List.size_toArray, List.length_cons, List.length_nil, Nat.reduceAdd, Nat.reduceSub, Array.replicate_succ, Array.replicate_zero, List.push_toArray, List.append_toArray, List.nil_append, List.cons_append]
  go_wp2_with (go_at_call 25; refine (each_any _ _ _ _).mono ?_; rintro e w' ⟨rfl, rfl⟩)
  obtain ⟨W0, hW0⟩ : ∃ W0, (w.alloc (.cells #[.int .i64 0] 3)).alloc (.cells #[.slice A m c] 22) = W0 := ⟨_, rfl⟩
  rw [hW0]
  have hsz : W0.heap.size = w.heap.size + 2 := by rw [← hW0]; simp
  have HB0 : Hid (Below w.heap.size w W0) := Lib.hid (by rw [← hW0]; exact ((Below.refl _ w).alloc (Nat.le_refl _) _).alloc (by simp) _)
  have HN : Hid (Boxed W0 w.heap.size 3 (.int .i64 0)) := Lib.hid (by rw [← hW0]; exact (Boxed.new w 3 (.int .i64 0)).alloc _)
  have HBX : Hid (W0.cell? ⟨w.heap.size + 1, 0, none⟩ = some (.slice A m c)) := Lib.hid (by
    rw [← hW0]; have := (Boxed.new (w.alloc (.cells #[.int .i64 0] 3)) 22 (.slice A m c)).cell; rwa [World.size_alloc] at this)
  clear hW0
  have hlt : ∀ x ∈ blk (w.heap.size + 1) A m, x < W0.heap.size := blk_all (by omega) (fun h ad e => by have := H.out.lt h ad e; omega)
  have hne : w.heap.size ∉ blk (w.heap.size + 1) A m := fun hm => blk_all (p := fun x => x ≠ w.heap.size) (by omega) (fun h ad e => by have := H.out.lt h ad e; omega) _ hm rfl
  have hst := each_tells 5 (by omega) (w.heap.size + 1) (blk (w.heap.size + 1) A m) A m c zs W0 hlt HBX.out (blk_self _ _ _) (blk_addr _ _ _) (H.out.below HB0.out) hmc HC.out
  have HLE : Hid ((Fr.each zs).length ≤ 1000001) := Lib.hid (by have := Fr.each_len zs; have := H.out.len; omega)
  refine (wpIn_wide (n := 6)).1 ?_
  apply range_told (F := Fence.wide) (n := 6) (f := 29) (own := #[.pointer (some ⟨w.heap.size + 1, 0, none⟩)]) ⟨rfl, by omega, trivial, enters_of Try.func29 (by kernel_rfl) rfl, hst⟩ rfl (Below.refl _ _) hlt (fun _ => rfl)
    (fun (pre : List Item) W => Boxed W w.heap.size 3 (.int .i64 (cnt (rc pre) : Nat)) ∧ W0.grownBy W (some w.heap.size))
    (fun _ _ _ => False)
    ⟨(fun s X Y row hs hg hr => ⟨hs.1.kept hg (fun e => by have := (hr _ e.symm).1; omega), grown_then hs.2 hg (fun r e => (hr r e).1)⟩),
    (fun _ _ _ _ _ hs _ _ => hs),
    (fun pre x => okE_own zs _ _ pre x hlt)⟩
    ⟨HN.out, World.grownBy.refl _ _⟩
  case hassign =>
    intro l x W K hK
    simp only [encE]
    gi_wp2
    exact hK
  case hbody =>
    rintro l pre ⟨v, r, cd⟩ W hWs ⟨bx, hg⟩ ⟨hsl, hpre⟩
    have hcl := bx.cell
    have hfr := bx.frozen
    have hle : cnt (rc pre) ≤ 1000001 := by
      have h1 := hpre.length_le
      have h2 := HLE.out
      have h3 : cnt (rc pre) ≤ (rc pre).length := List.length_filter_le _ _
      rw [show (rc pre).length = pre.length by simp [rc]] at h3; simp at h1; omega
    have BX := Lib.hid bx; have HG := Lib.hid hg
    have HCN := Lib.hid (cnt_snoc (rc pre) r cd)
    have EM := rc_snoc pre v r cd
    have HEM := Lib.hid EM
    clear bx hg hsl hpre EM
    generalize cnt (rc pre) = q at *
    by_cases hcd : cd = 0
    · have t1 : (cd == 0) = true := by simp [hcd]
      have HCN2 := Lib.hid (HCN.out.trans (by rw [if_pos hcd]))
      clear hcd HCN
      gi_wp2
      exact ⟨Kept.set (by omega) hne _, by rw [HEM.out, HCN2.out]; exact BX.out.set (.int .i64 ((q : Int) + 1)), grown_set HG.out _⟩
    · have t1 : (cd == 0) = false := by simp [hcd]
      have HCN2 := Lib.hid (HCN.out.trans (by rw [if_neg hcd]))
      clear hcd HCN
      gi_wp2
      exact ⟨Kept.refl _ _ _ _, by rw [HEM.out, HCN2.out]; exact BX.out, HG.out⟩
  case hstop => rintro D c pre W _ _ hf; exact hf.elim
  case hdone =>
    rintro D xs W hD hxs ⟨bx, hg⟩ hK
    have hxs : rc xs = Fr.each zs := hxs
    rw [hxs, cnt_each] at bx
    have hcl := bx.cell
    have HB : Hid (Below w.heap.size w W) := Lib.hid (HB0.out.grown hg HB0.out.size (fun g e => by injection e; omega))
    have HK := Lib.hid hK
    clear hxs bx hg hK
    go_wp2
    refine ⟨by simp, .inl ⟨_, _, rfl, run_takeDeferred HK.out, ?_⟩⟩
    exact ⟨.int .i64 ((Fr.rows zs).length : Nat), by simp [results, Try.results17, go_sem], rfl, HB.out.trans (belowK_b (w := w) (Nat.le_refl _) _ D _ _ (by omega) HK.out rfl rfl)⟩

end Go.Proofs.Ytadbidgikgffhaa
