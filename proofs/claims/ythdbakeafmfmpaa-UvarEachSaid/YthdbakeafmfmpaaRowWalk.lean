/-
  The walk of the statement UvarRow: for whatever numbers and bytes behind them it answers true, and writes nothing that was there. Conditions: the slices read as numbers and as bytes.
-/
import Derived.Test.YthdbakeafmfmpaaRefEach
namespace Go.Proofs.Ythdbakeafmfmpaa
open Go.RowKit Go.Shelf
attribute [local go_sem] Oper.semAt_some
set_option linter.unusedVariables false

/-- the slice value '.slice A n c' reads, in w, as the uint64s vs -/
def Nts (w : World) (A : Option Addr) (n : Nat) (vs : List Nat) : Prop :=
  vs.length = n ∧ (∀ v ∈ vs, v < 18446744073709551616) ∧
  (0 < n → ∃ b off, A = some ⟨b, off, none⟩ ∧ b < w.heap.size ∧ ∀ j, j < n → w.cell? ⟨b, off + j, none⟩ = some (.int .u64 ((vs.getD j 0 : Nat) : Int)))
theorem nts_of_row {w : World} {a : Option Addr} {len cap : Nat} {zs : List Int} (h : IsRow .u64 w a len cap zs) : ∃ vs, Nts w a len vs ∧ len ≤ cap ∧ cap ≤ maxLen := by
  rcases h with ⟨rfl, rfl, rfl, rfl⟩ | ⟨x, rfl, h1, h2, h3, h4, h5⟩
  · exact ⟨[], ⟨rfl, by simp, fun h => by omega⟩, Nat.le_refl _, Nat.zero_le _⟩
  · refine ⟨(zs.take len).map Int.toNat, ⟨by simp; omega, fun v hv => ?_, fun hn => ?_⟩, h1, h2⟩
    · obtain ⟨z, hz, rfl⟩ := List.mem_map.1 hv
      have := bounds_u64 (h5 z (List.mem_of_mem_take hz))
      omega
    · obtain ⟨b, off, rfl, hc⟩ := ints_at h4 (by omega)
      refine ⟨b, off, rfl, lt_of_cell (hc 0 (by omega)), fun j hj => ?_⟩
      rw [hc j (by omega)]
      have hj2 : j < zs.length := by omega
      have := bounds_u64 (h5 zs[j] (List.getElem_mem hj2))
      simp [List.getD, hj, hj2]
      omega
theorem Nts.below {w w' : World} {A : Option Addr} {n : Nat} {vs : List Nat} (h : Nts w A n vs) (hb : Below w.heap.size w w') : Nts w' A n vs := by
  obtain ⟨h1, h2, h3⟩ := h
  refine ⟨h1, h2, fun hn => ?_⟩
  obtain ⟨b, off, rfl, hlt, hc⟩ := h3 hn
  exact ⟨b, off, rfl, Nat.lt_of_lt_of_le hlt hb.size, fun j hj => (hb.cell (p := ⟨b, off + j, none⟩) hlt).trans (hc j hj)⟩

theorem Boxed.below {W W' : World} {B t : Nat} {v : Value} {n : Nat} (h : Boxed W B t v) (hb : Below n W W') (hB : B < n) : Boxed W' B t v := (hb.block B hB).trans h
theorem Nts.alloc {w : World} {A : Option Addr} {n : Nat} {vs : List Nat} (h : Nts w A n vs) (o : Obj) : Nts (w.alloc o) A n vs := h.below ((Below.refl _ _).alloc (Nat.le_refl _) o)

theorem own_below' {w w' : World} {base n : Nat} {e : TypeId} {v : Value} {xs : List Value} (h : w.ownsRow base e 1 v n xs) (hb : Below w.heap.size w w') : w'.ownsRow base e 1 v n xs := by
  refine ⟨h.1, ?_⟩
  rcases h.2 with hn | ⟨g, cap, cur, rfl, h1, hgg, rest⟩
  · exact .inl hn
  · exact .inr ⟨g, cap, cur, rfl, h1, (hb.block g (Array.getElem?_eq_some_iff.1 hgg).1).trans hgg, rest⟩
theorem own_set_box {w : World} {base Bx n : Nat} {t e : TypeId} {u v : Value} {xs : List Value} (bx : Boxed w Bx t u) (h : w.ownsRow base e 1 v n xs) (hte : t ≠ e) (x : Value) : (w.setCell ⟨Bx, 0, none⟩ x).ownsRow base e 1 v n xs :=
  h.kept (grownBy_setCell' w Bx x) (.inr (Ne.symm (bx.not_row hte h)))
theorem box_grown {w w' : World} {base Bx n : Nat} {t e : TypeId} {u v : Value} {xs : List Value} (bx : Boxed w Bx t u) (h : w.ownsRow base e 1 v n xs) (hte : t ≠ e) (hg : w.grownBy w' v.ownBlock) : Boxed w' Bx t u :=
  bx.kept hg (bx.not_row hte h)
theorem and_mask (v : Nat) (hv : v < 18446744073709551616) : bits .and .u64 (v : Int) 9223372036854775807 = ((v % 9223372036854775808 : Nat) : Int) := by
  have h := u64_and_nat v 9223372036854775807 hv (by omega)
  rw [show ((9223372036854775807 : Nat) : Int) = 9223372036854775807 from rfl] at h
  rw [h, show (9223372036854775807 : Nat) = 2 ^ 63 - 1 from rfl, Nat.and_two_pow_sub_one_eq_mod]

/-- where the first k numbers begin -/
def Qs (ns : List Nat) (k : Nat) : List Value := (List.range k).map fun j => .int .i64 (((Uv.flat (ns.take j)).length : Nat) : Int)
theorem Qs_snoc (ns : List Nat) (k : Nat) : Qs ns (k + 1) = Qs ns k ++ [.int .i64 (((Uv.flat (ns.take k)).length : Nat) : Int)] := by
  simp [Qs, List.range_succ]
theorem flat_snoc (ns : List Nat) (k : Nat) (h : k < ns.length) : Uv.flat (ns.take (k + 1)) = Uv.flat (ns.take k) ++ Uv.enc (ns.getD k 0) := by
  rw [List.take_succ_eq_append_getElem h, Uv.flat_append]
  simp [Uv.flat, List.getD, h]
def mask (vs : List Nat) : List Nat := vs.map (· % 9223372036854775808)
theorem mask_length (vs : List Nat) : (mask vs).length = vs.length := by simp [mask]
theorem mask_getD (vs : List Nat) (k : Nat) : (mask vs).getD k 0 = vs.getD k 0 % 9223372036854775808 := by
  by_cases h : k < vs.length
  · simp [mask, List.getD, h]
  · simp [mask, List.getD, List.getElem?_eq_none (show vs.length ≤ k by omega)]
theorem mask_small (vs : List Nat) : ∀ v ∈ mask vs, v < 9223372036854775808 := by
  intro v hv
  obtain ⟨x, _, rfl⟩ := List.mem_map.1 hv
  omega
theorem Nts.cell {w : World} {A : Option Addr} {n k : Nat} {vs : List Nat} (h : Nts w A n vs) (hk : k < n) : ∃ b off, A = some ⟨b, off, none⟩ ∧ w.cell? ⟨b, off + k, none⟩ = some (.int .u64 ((vs.getD k 0 : Nat) : Int)) ∧ vs.getD k 0 < 18446744073709551616 := by
  obtain ⟨b, off, e, _, hc⟩ := h.2.2 (by omega)
  refine ⟨b, off, e, hc k hk, ?_⟩
  have hl := h.1
  have := h.2.1 (vs[k]'(by omega)) (List.getElem_mem _)
  simpa [List.getD, show k < vs.length by omega] using this

def Rel8 (W1 : World) (ns : List Nat) (k : Nat) (vb : Value) (wr : World) : Prop :=
  ∃ vat, Boxed wr W1.heap.size 34 vat ∧ wr.ownsRow W1.heap.size 3 1 vat k (Qs ns k) ∧ wr.ownsRow W1.heap.size 5 1 vb (Uv.flat (ns.take k)).length (B (Uv.flat (ns.take k))) ∧ Below W1.heap.size W1 wr

theorem enc_le9 (v : Nat) : (Uv.enc v).length ≤ 9 := by
  by_cases h : v < 9223372036854775808
  · rw [Uv.enc_length v h]; exact Uv.len_small v h
  · rw [Uv.enc_big v h]; simp
/-- what the call of Put and the second append of a round do -/
theorem rel_b {W1 wa w2 w3 : World} {k m n : Nat} {vat vb vb' : Value} {xs : List Value} {zs ys : List Int} (bx : Boxed wa W1.heap.size 34 vat) (ho3 : wa.ownsRow W1.heap.size 3 1 vat k xs) (ho5 : wa.ownsRow W1.heap.size 5 1 vb m (B zs))
    (hbel : Below W1.heap.size W1 wa) (hb : Below wa.heap.size wa w2) (hg : w2.grownBy w3 vb.ownBlock) (ho5' : w3.ownsRow W1.heap.size 5 1 vb' n (B ys)) :
    Boxed w3 W1.heap.size 34 vat ∧ w3.ownsRow W1.heap.size 3 1 vat k xs ∧ Below W1.heap.size W1 w3 := by
  have ho52 := own_below ho5 hb
  have ho32 := own_below' ho3 hb
  have bx2 := Boxed.below bx hb bx.lt
  have hb2 := hbel.trans (hb.mono hbel.size)
  exact ⟨box_grown bx2 ho52 (by decide) hg, other_kept ho52 ho32 (by decide) hg, hb2.grown hg hb2.size (fun g h => (ho52.lt g h).1)⟩
/-- what the first append and the store of a round do -/
theorem rel_at {W1 wr w1 : World} {k m : Nat} {vat vat' vb : Value} {xs ys : List Value} {zs : List Int} {o : Obj} (bx : Boxed wr W1.heap.size 34 vat) (ho3 : wr.ownsRow W1.heap.size 3 1 vat k xs) (ho5 : wr.ownsRow W1.heap.size 5 1 vb m (B zs))
    (hbel : Below W1.heap.size W1 wr) (hg : (wr.alloc o).grownBy w1 vat.ownBlock) (ho3' : w1.ownsRow W1.heap.size 3 1 vat' (k + 1) ys) :
    Boxed w1 W1.heap.size 34 vat ∧ Below W1.heap.size W1 w1 ∧ Boxed (w1.setCell ⟨W1.heap.size, 0, none⟩ vat') W1.heap.size 34 vat' ∧ (w1.setCell ⟨W1.heap.size, 0, none⟩ vat').ownsRow W1.heap.size 3 1 vat' (k + 1) ys ∧
      (w1.setCell ⟨W1.heap.size, 0, none⟩ vat').ownsRow W1.heap.size 5 1 vb m (B zs) ∧ Below W1.heap.size W1 (w1.setCell ⟨W1.heap.size, 0, none⟩ vat') := by
  have bx1 := box_grown (bx.alloc _) (ho3.alloc _) (by decide) hg
  have hb1 : Below W1.heap.size W1 w1 := (hbel.alloc hbel.size o).grown hg (by have := hbel.size; simp; omega) (fun g h => (ho3.lt g h).1)
  have ho5' := other_kept (ho3.alloc _) (ho5.alloc _) (by decide) hg
  exact ⟨bx1, hb1, bx1.set _, own_set_box bx1 ho3' (by decide) _, own_set_box bx1 ho5' (by decide) _, hb1.setCell (p := ⟨W1.heap.size, 0, none⟩) (Nat.le_refl _) _⟩

theorem lit_own' (W : World) (g : Nat) (hg : g = W.heap.size) : (W.alloc (.cells #[] 5)).ownsRow W.heap.size 5 1 (.slice (some ⟨g, 0, none⟩) 0 0) 0 (B []) := by subst hg; exact lit_own W
theorem own_grown_below' {W w w' : World} {n₀ : Nat} {v : Value} {n base : Nat} {xs : List Value} (hown : w.ownsRow base 5 1 v n xs) (hb : Below n₀ W w) (hW : n₀ ≤ base) (hs : n₀ ≤ w.heap.size) (hg : w.grownBy w' v.ownBlock) : Below n₀ W w' :=
  hb.grown hg hs (fun g h => Nat.le_trans hW (hown.lt g h).1)
theorem own_shape {w : World} {base n : Nat} {e : TypeId} {v : Value} {xs : List Value} (h : w.ownsRow base e 1 v n xs) : ∃ A c, v = .slice A n c ∧ n ≤ c ∧ c ≤ maxLen := by
  rcases h.2 with ⟨rfl, rfl⟩ | ⟨g, cap, cur, rfl, _, _, h2, h3, _⟩
  · exact ⟨none, 0, rfl, Nat.le_refl _, Nat.zero_le _⟩
  · exact ⟨_, cap, rfl, h2, h3⟩
theorem own_cell {w : World} {base n c : Nat} {e : TypeId} {A : Option Addr} {xs : List Value} (h : w.ownsRow base e 1 (.slice A n c) n xs) {j : Nat} (hj : j < n) : ∃ g, A = some ⟨g, 0, none⟩ ∧ base ≤ g ∧ g < w.heap.size ∧ w.cell? ⟨g, j, none⟩ = xs[j]? := by
  rcases h.2 with ⟨e, _⟩ | ⟨g, cap, cur, e, hb, hg, _⟩
  · simp only [Value.slice.injEq] at e; omega
  · simp only [Value.slice.injEq] at e
    obtain ⟨rfl, _, rfl⟩ := e
    exact ⟨g, rfl, hb, (Array.getElem?_eq_some_iff.1 hg).1, h.cellAt j (by omega)⟩

theorem grown_then {A W W' : World} {b : Nat} {row : Option Nat} (h : A.grownBy W (some b)) (hg : W.grownBy W' row) (hr : ∀ r, row = some r → A.heap.size ≤ r) : A.grownBy W' (some b) :=
  ⟨hg.os.trans h.os, hg.tape.trans h.tape, hg.output.trans h.output, Nat.le_trans h.size hg.size, fun k hk hne =>
    (hg.block k (Nat.lt_of_lt_of_le hk h.size) (fun e => by have := hr k e.symm; omega)).trans (h.block k hk hne)⟩
theorem grown_set {A W : World} {b : Nat} (h : A.grownBy W (some b)) (v : Value) : A.grownBy (W.setCell ⟨b, 0, none⟩ v) (some b) :=
  ⟨h.os, h.tape, h.output, by have := h.size; simp; omega, fun k hk hne => (heap_setCell_other W ⟨b, 0, none⟩ k v (fun e => hne (by rw [e]))).trans (h.block k hk hne)⟩
theorem grown_cell {A W : World} {b : Nat} (h : A.grownBy W (some b)) {a : Addr} {v : Value} (hc : A.cell? a = some v) (hb : a.block ≠ b) : W.cell? a = some v :=
  (World.cell?_of_block (w := A) (h.block a.block (lt_of_cell hc) (fun e => hb (by injection e)))).trans hc
theorem grown_box {A W : World} {b g t : Nat} {v : Value} (h : A.grownBy W (some b)) (hc : Boxed A g t v) (hb : g ≠ b) : Boxed W g t v := hc.kept h (fun e => hb (by injection e))

/-- the blocks in which a closure's bytes lie -/
def blocks (g : Nat) (A : Option Addr) : List Nat := g :: A.toList.map (·.block)
theorem blocks_self (g : Nat) (A : Option Addr) : g ∈ blocks g A := by simp [blocks]
theorem blocks_addr (g : Nat) (A : Option Addr) : ∀ ad, A = some ad → ad.block ∈ blocks g A := by rintro ad rfl; simp [blocks]
theorem blocks_all {g : Nat} {A : Option Addr} {p : Nat → Prop} (h1 : p g) (h2 : ∀ ad, A = some ad → p ad.block) : ∀ x ∈ blocks g A, p x := by
  intro x hx
  unfold blocks at hx
  rcases List.mem_cons.1 hx with rfl | hx
  · exact h1
  · obtain ⟨ad, had, rfl⟩ := List.mem_map.1 hx
    exact h2 ad (by simpa using had)
theorem same_set {gs : List Nat} {W : World} {b : Nat} (h : ∀ g ∈ gs, g ≠ b) (v : Value) : SameAt gs W (W.setCell ⟨b, 0, none⟩ v) := fun g hg => heap_setCell_other W ⟨b, 0, none⟩ g v (h g hg)

theorem E_length {ns : List Nat} {zs : List Int} (hs : ∀ v ∈ ns, v < 9223372036854775808) : (Uv.each 0 (Uv.flat ns ++ zs)).length = ns.length + (Uv.each 0 zs).length := by
  rw [Uv.each_flat 0 ns zs hs, List.length_append, Uv.places_length, Uv.each_shift _ 0]
theorem E_at {ns : List Nat} {zs : List Int} (hs : ∀ v ∈ ns, v < 9223372036854775808) {p : Nat} (hp : p < ns.length) : (Uv.each 0 (Uv.flat ns ++ zs))[p]? = some ((Uv.flat (ns.take p)).length, ((ns.getD p 0 : Nat) : Int)) := by
  rw [Uv.each_flat 0 ns zs hs, List.getElem?_append_left (by rw [Uv.places_length]; exact hp), Uv.places_at 0 ns p hs hp, Nat.zero_add]
theorem not_prefix {E pre : List (Nat × Int)} {x y : Nat × Int} (h : E[pre.length]? = some y) (hne : ¬ x = y) : ¬ (pre ++ [x]) <+: E := by
  rintro ⟨t, rfl⟩
  simp at h
  exact hne h
theorem Qs_at (ns : List Nat) (k p : Nat) (h : p < k) : (Qs ns k)[p]? = some (.int .i64 (((Uv.flat (ns.take p)).length : Nat) : Int)) := by
  simp [Qs, h]

theorem Bts.but {A W : World} {b n : Nat} {Av : Option Addr} {zs : List Int} (h : Bts A Av n zs) (hg : A.grownBy W (some b)) (hb : ∀ ad, Av = some ad → ad.block ≠ b) : Bts W Av n zs := by
  obtain ⟨h1, h2, h3⟩ := h
  refine ⟨h1, h2, fun hn => ?_⟩
  obtain ⟨g, off, rfl, hlt, hc⟩ := h3 hn
  exact ⟨g, off, rfl, Nat.lt_of_lt_of_le hlt hg.size, fun j hj => grown_cell hg (hc j hj) (show g ≠ b from hb ⟨g, off, none⟩ rfl)⟩
theorem got_flat5 (ns : List Nat) (hs : ∀ v ∈ ns, v < 9223372036854775808) : ∃ (v : Int) (n : Nat), Uv.got (Uv.flat ns ++ [5]) = (v, (n : Int), 0) ∧ 1 ≤ n := by
  cases ns with
  | nil => exact ⟨5, 1, by decide, by omega⟩
  | cons v vs =>
    refine ⟨(v : Int), Uv.len v, ?_, Uv.len_pos v⟩
    rw [Uv.flat, List.append_assoc, Uv.got_enc v _ (hs v (by simp))]

set_option maxRecDepth 100000 in
set_option maxHeartbeats 2000000 in
theorem row_walk (a0 : Option Addr) (len0 cap0 : Nat) (vs : List Nat) (a1 : Option Addr) (len1 cap1 : Nat) (zs : List Int) (w : World) (h0 : Nts w a0 len0 vs) (h1 : Bts w a1 len1 zs) (hc0 : len0 ≤ cap0) (hd0 : cap0 ≤ maxLen) (hc1 : len1 ≤ cap1) (hd1 : cap1 ≤ maxLen) (hnil : a1 = none → len1 = 0 ∧ cap1 = 0) :
    Calls Try.prog 8 #[.slice a0 len0 cap0, .slice a1 len1 cap1] w fun e w' => e = .returned (.bool true) ∧ Below w.heap.size w w' := by
  unfold maxLen at hd0
  have HN := Lib.hid h0; clear h0
  have HZ := Lib.hid h1; clear h1
  have HD1 := Lib.hid hd1; clear hd1
  have HNIL := Lib.hid hnil; clear hnil
  refine (callsIn_wide (n := 6)).1 ?_
  refine callsIn_of_wp_marks Try.func8 rfl trivial ?_ rfl
  refine wpIn_wide.2 ?_
  simp only [Try.ntmps8, List.size_toArray, List.length_cons, List.length_nil, Nat.reduceAdd, Nat.reduceSub, Array.replicate_succ, Array.replicate_zero, List.push_toArray, List.append_toArray, List.nil_append, List.cons_append]
  go_wp2_with fail
  refine (awake_any _).mono ?_
  rintro e W1 ⟨rfl, hb1⟩
  have bxL := Boxed.below ((Boxed.new w 33 (.slice a0 len0 cap0)).alloc (.cells #[.bool false] 4)) hb1 (by simp; omega)
  have bxR := Boxed.below (Boxed.new (w.alloc (.cells #[.slice a0 len0 cap0] 33)) 4 (.bool false)) hb1 (by simp)
  rw [World.size_alloc] at bxR
  have HN1 := Lib.hid (((HN.out.alloc _).alloc _).below hb1)
  have HZ1 := Lib.hid (((HZ.out.alloc _).alloc _).below hb1)
  have HB1 : Hid (Below w.heap.size w W1) := Lib.hid ((((Below.refl _ w).alloc (Nat.le_refl _) _).alloc (by simp) _).trans (hb1.mono (by simp; omega)))
  clear hb1 HN HZ
  have hcL := bxL.cell
  have hcR := bxR.cell
  have hfR := bxR.frozen
  have HL := Lib.hid bxL; have HR := Lib.hid bxR
  clear bxL bxR
  by_cases hlen : len0 ≤ 60 ∧ len1 ≤ 20
  · obtain ⟨hl0, hl1⟩ := hlen
    have t1 : decide ((60 : Int) < (len0 : Int)) = false := by simp; omega
    have t2 : decide ((20 : Int) < (len1 : Int)) = false := by simp; omega
    have hsz : w.heap.size + 2 ≤ W1.heap.size := HR.out.lt
    have HM := Lib.hid (mask_getD vs)
    have HML : Hid ((mask vs).length = len0) := Lib.hid ((mask_length vs).trans HN1.out.1)
    have HMS := Lib.hid (mask_small vs)
    generalize mask vs = ns at *
    obtain ⟨i3, hi3, hb0, hb1, hb2⟩ := info_parts int_info
    go_wp2
    go_loopw [7, 5] (fun p vb wr => ∃ k : Nat, p = .int .i64 (k : Int) ∧ k ≤ len0 ∧ Rel8 W1 ns k vb wr) (fun p _ _ => len0 - (intOf p).toNat)
    case atStart => exact ⟨0, rfl, by omega, _, Boxed.new W1 34 (.slice none 0 0), World.ownsRow_nil _ _ _ _, World.ownsRow_nil _ _ _ _, (Below.refl _ _).alloc (Nat.le_refl _) _⟩
    case round =>
      obtain ⟨k, rfl, hk, vat, bxA, ho3, ho5, hbel⟩ := hrel
      clear hcL hcR hfR
      have hcL := (Boxed.below HL.out hbel (by omega)).cell
      have hcA := bxA.cell
      have hszr := hbel.size
      have hfl : (Uv.flat (ns.take k)).length ≤ 540 := by
        have h1 := Uv.flat_len (ns.take k)
        have h2 : (ns.take k).length ≤ k := List.length_take_le _ _
        omega
      generalize hm : (Uv.flat (ns.take k)).length = m at *
      have HMM := Lib.hid hm; clear hm
      obtain ⟨Av, cv, rfl, hncv, hcv, htv⟩ := own_form ho5 (Uv.flat_bd _)
      by_cases hkn : k < len0
      · obtain ⟨b0, off0, rfl, hce0, hvv⟩ := HN1.out.cell hkn
        have hb0lt := lt_of_cell hce0
        have hNk := HM.out k
        generalize vs.getD k 0 = v0 at hce0 hvv hNk
        have e0 := and_mask v0 hvv
        rw [← hNk] at e0
        obtain ⟨N, hN⟩ : ∃ N, ns.getD k 0 = N := ⟨_, rfl⟩
        rw [hN] at e0
        have HNN := Lib.hid hN; clear hN hNk
        go_wp2_with (first
          | (at_builtin; refine wpList_append_own _ rfl (.tmp 32) (.tmp 35) 34 rfl W1.heap.size 3 i3 (.int .i64 0) 1 8 Try.underlying34 hi3 hb0 hb1 hb2 rfl (by decide) _ k (Qs ns k) rfl (ho3.alloc _) ⟨wr.heap.size, 0, none⟩ 1 1 [.int .i64 (m : Int)] rfl rfl (cell_one_new _ _ _) (by simp [Value.oneCell']) (by unfold maxLen; omega) (by omega) (by simp; omega) ?_; intro vat' w1 ho3' hg1 _; obtain ⟨g3, c3, rfl⟩ := ownsRow_succ ho3'; obtain ⟨bx1, hbw1, bx2, ho32, ho52, hb2'⟩ := rel_at bxA ho3 ho5 hbel hg1 ho3'; have hcA1 := bx1.cell; have hfA1 := bx1.frozen; have hcL2 := (Boxed.below HL.out hb2' (by omega)).cell; have hce2 := (hb2'.cell (p := ⟨b0, off0 + k, none⟩) hb0lt).trans hce0; have BX2 := Lib.hid bx2; have HO32 := Lib.hid ho32; have HO52 := Lib.hid ho52; have HB2 := Lib.hid hb2'; clear bx1 hbw1 bx2 ho32 ho52 hb2' ho3' hg1)
          | (go_at_call 12; refine (ref_put_any N _).mono ?_; rintro e w2 ⟨r, rfl, hor, hb2w⟩; obtain ⟨Ar, cr, rfl, hncr, hcr, htr⟩ := own_form hor (Uv.enc_mem N); have HRN := Lib.hid (own_nil hor); have HBT := Lib.hid htr; have HB3 := Lib.hid hb2w; clear hor hcr htr hb2w)
          | (at_builtin; refine wpList_append_bts rfl (.tmp 37) (.tmp 43) rfl W1.heap.size _ m (Uv.flat (ns.take k)) rfl (own_below HO52.out HB3.out) Ar _ cr (Uv.enc N) rfl HBT.out HRN.out (by have := enc_le9 N; omega) (Nat.le_trans HB2.out.size HB3.out.size) ?_; intro vb' w3 ho53 hg3; obtain ⟨bx4, ho34, hb4⟩ := rel_b BX2.out HO32.out HO52.out HB2.out HB3.out hg3 ho53; have BX4 := Lib.hid bx4; have HO34 := Lib.hid ho34; have HB4 := Lib.hid hb4; have HO54 := Lib.hid ho53; clear bx4 ho34 hb4 ho53 hg3))
        go_roundw
        case rel =>
          refine ⟨k + 1, by go_num, by omega, _, BX4.out, ?_, ?_, HB4.out⟩
          · rw [Qs_snoc, HMM.out]; exact HO34.out
          · rw [flat_snoc ns k (by have := HML.out; omega), HNN.out, List.length_append, HMM.out]
            exact HO54.out
        case measure => simp [intOf]; omega
      · obtain rfl : k = len0 := by omega
        have HO3 := Lib.hid ho3; have HO5 := Lib.hid ho5; have HBL := Lib.hid hbel; have BXA := Lib.hid bxA
        clear ho3 ho5 hbel bxA
        have HTV := Lib.hid htv; clear htv
        have HCV := Lib.hid hcv; clear hcv
        have htk : ns.take k = ns := List.take_of_length_le (by have := HML.out; omega)
        rw [htk] at HO5 HTV HMM
        clear htk
        go_wp2_with fail
        refine (ref_each_any a1 len1 cap1 zs wr (HZ1.out.below HBL.out) hc1 HD1.out (by omega)).mono ?_
        rintro e w2 ⟨v1, v2, rfl, hoV, hoP, hbE⟩
        obtain ⟨A8, c8, rfl, _, _⟩ := own_shape hoV
        clear hoV hoP
        have hcnt : (Uv.each 0 zs).length ≤ len1 := by have := Uv.each_len 0 zs; rw [HZ1.out.len] at this; exact this
        obtain ⟨Aa, ca, rfl, hka, hca⟩ := own_shape HO3.out
        clear hca
        obtain ⟨cnt, hct⟩ : ∃ n, (Uv.each 0 zs).length = n := ⟨_, rfl⟩
        rw [hct] at hcnt ⊢
        have HCT := Lib.hid hct; clear hct
        have HBE := Lib.hid hbE; clear hbE
        obtain ⟨Wl, hWl⟩ : ∃ Wl, (w2.alloc (.cells #[.slice A8 cnt c8] 33)).alloc (.cells #[.int .i64 0] 3) = Wl := ⟨_, rfl⟩
        have hWsz : Wl.heap.size = w2.heap.size + 2 := by rw [← hWl]; simp
        have HBW : Hid (Below wr.heap.size wr Wl) := Lib.hid (by rw [← hWl]; exact (HBE.out.alloc HBE.out.size _).alloc (by have := HBE.out.size; simp; omega) _)
        have F8 : Hid (Boxed Wl w2.heap.size 33 (.slice A8 cnt c8)) := Lib.hid (by rw [← hWl]; exact (Boxed.new w2 33 _).alloc _)
        have F10 : Hid (Boxed Wl (w2.heap.size + 1) 3 (.int .i64 0)) := Lib.hid (by rw [← hWl]; have := Boxed.new (w2.alloc (.cells #[.slice A8 cnt c8] 33)) 3 (.int .i64 0); rwa [World.size_alloc] at this)
        have HWL := Lib.hid hWl; clear hWl
        have HWS := Lib.hid hWsz; clear hWsz
        have FV := Lib.hid (HTV.out.below HBW.out)
        have FZ := Lib.hid ((HZ1.out.below HBL.out).below HBW.out)
        have HVN := Lib.hid (own_nil HO5.out)
        have HVB := Lib.hid HTV.out.bd
        go_wp2_with (first
          | (at_builtin; rw [HWL.out]; refine wpList_append_bts rfl (.tmp 50) (.tmp 51) rfl Wl.heap.size _ 0 [] rfl (lit_own' Wl _ HWS.out.symm) Av m cv (Uv.flat ns) rfl (FV.out.alloc _) HVN.out (by omega) (by simp) ?_; intro v5 w5 ho5 hg5; rw [List.nil_append, Nat.zero_add] at ho5; have HB5 := Lib.hid (own_grown_below (lit_own' Wl _ HWS.out.symm) ((Below.refl Wl.heap.size Wl).alloc (Nat.le_refl _) _) (Nat.le_refl _) hg5); clear hg5; have HO5' := Lib.hid ho5; clear ho5)
          | (at_builtin; refine wpList_append_bts rfl (.tmp 52) (.tmp 53) rfl Wl.heap.size _ m (Uv.flat ns) rfl HO5'.out a1 len1 cap1 zs rfl (FZ.out.below HB5.out) HNIL.out (by omega) HB5.out.size ?_; intro v6 w6 ho6 hg6; have HB6 := Lib.hid (own_grown_below HO5'.out HB5.out (Nat.le_refl _) hg6); clear hg6; obtain ⟨A6, c6, rfl, hnc6, hc6, ht6⟩ := own_form ho6 (mem_append_bd HVB.out FZ.out.bd); have HN6 := Lib.hid (own_nil ho6); clear ho6; have HT6 := Lib.hid ht6; clear ht6 hc6)
          | (go_at_call 17; refine (each_any A6 _ c6 (Uv.flat ns ++ zs) _ HT6.out HN6.out (by omega)).mono ?_; rintro e W7 ⟨g7, A7, c7, rfl, hbox7, ht7, hn7, hc7, ⟨hg7a, hg7b⟩, hA7, hb7⟩; have HBOX7 := Lib.hid hbox7; have HT7 := Lib.hid ht7; have HC7 := Lib.hid hc7; have HA7 := Lib.hid hA7; have HB7 := Lib.hid hb7; clear hbox7 ht7 hc7 hA7 hb7))
        obtain ⟨E, hE⟩ : ∃ E, Uv.each 0 (Uv.flat ns ++ zs) = E := ⟨_, rfl⟩
        have hlt : ∀ x ∈ blocks g7 A7, x < W7.heap.size := blocks_all hg7b (fun ad e => (HA7.out ad e).2)
        have h10 : w2.heap.size + 1 < w6.heap.size := by have := HB6.out.size; have := HWS.out; omega
        have hne : ∀ x ∈ blocks g7 A7, x ≠ w2.heap.size + 1 := blocks_all (p := fun x => x ≠ w2.heap.size + 1) (by omega) (fun ad e => by have := (HA7.out ad e).1; omega)
        have hst := each_stops 5 (by omega) g7 (blocks g7 A7) A7 (m + len1) c7 (Uv.flat ns ++ zs) W7 hlt HBOX7.out (blocks_self _ _) (blocks_addr _ _) HT7.out hn7 HC7.out
        rw [hE] at hst
        have HE := Lib.hid hE; clear hE
        have HBl7 : Hid (Below Wl.heap.size Wl W7) := Lib.hid (HB6.out.trans (HB7.out.mono HB6.out.size))
        have F10' := Lib.hid (Boxed.below F10.out HBl7.out (by have := HWS.out; omega))
        have HBr7 : Hid (Below wr.heap.size wr W7) := Lib.hid (HBW.out.trans (HBl7.out.mono HBW.out.size))
        have FL7 := Lib.hid (Boxed.below (Boxed.below HL.out HBL.out (by omega)) HBr7.out (by omega))
        have FR7 := Lib.hid (Boxed.below (Boxed.below HR.out HBL.out (by omega)) HBr7.out (by omega))
        have FA7 := Lib.hid (Boxed.below BXA.out HBr7.out BXA.out.lt)
        have F87 := Lib.hid (Boxed.below F8.out HBl7.out (by have := HWS.out; omega))
        have FN7 := Lib.hid ((HN1.out.below HBL.out).below HBr7.out)
        have FQ7 := Lib.hid (own_below' HO3.out HBr7.out)
        have hwr2 : wr.heap.size ≤ w2.heap.size := HBE.out.size
        have HEL : Hid (E.length = k + cnt) := Lib.hid (by rw [← HE.out, E_length HMS.out, HML.out, HCT.out])
        have HEA : Hid (∀ p, p < k → E[p]? = some ((Uv.flat (ns.take p)).length, ((ns.getD p 0 : Nat) : Int))) := Lib.hid (fun p hp => by rw [← HE.out]; exact E_at HMS.out (by have := HML.out; omega))
        refine (wpIn_wide (n := 6)).1 ?_
        apply wpIn_rangeFunc_ownF (F := Fence.wide) (n := 6) (gf := 20) (lb := #[.pointer (some ⟨g7, 0, none⟩)]) rfl (by omega) rfl trivial (enters_of Try.func20 (by kernel_rfl) rfl) hst SameAt.t (SameAt.b hlt) (Below.refl _ _) (fun _ => rfl)
          (fun pre W => Boxed W (w2.heap.size + 1) 3 (.int .i64 (pre.length : Int)) ∧ W7.grownBy W (some (w2.heap.size + 1)))
          (fun c pre _ => c = .ret ∧ ¬ pre <+: E)
          (fun s A B row hs hg hr => ⟨hs.1.kept hg (fun e => by have := (hr _ e.symm).1; omega), grown_then hs.2 hg (fun r e => (hr r e).1)⟩)
          (fun c s A B row hs hg hr => hs)
          ⟨F10'.out, World.grownBy.refl _ _⟩
        case hassign =>
          intro l x W K hK
          simp only [encs]
          gi_wp2
          exact hK
        case hbody =>
          rintro l pre ⟨xi, xv⟩ W ⟨bx, hg⟩ hlen
          have hel := HEL.out
          have hc10 := bx.cell
          have hf10 := bx.frozen
          have hcL := (grown_box hg FL7.out (by omega)).cell
          have hcA := (grown_box hg FA7.out (by omega)).cell
          have hc8 := (grown_box hg F87.out (by omega)).cell
          have bxR := grown_box hg FR7.out (by omega)
          have hcR := bxR.cell
          have hfR := bxR.frozen
          clear bxR
          obtain ⟨p, hp⟩ : ∃ p, pre.length = p := ⟨_, rfl⟩
          rw [hp] at hc10
          have hp2 : p < k + cnt := by omega
          have b4 : decide ((k : Int) + (cnt : Int) ≤ (p : Int)) = false := by simp; omega
          have HG := Lib.hid hg; have BX := Lib.hid bx; have HP := Lib.hid hp
          clear hg bx hp hlen hel
          by_cases hpk : p < k
          · have b1 : decide ((p : Int) < (k : Int)) = true := by simp; omega
            obtain ⟨b0, off0, rfl, hce0, hvv⟩ := HN1.out.cell hpk
            have hb0 := lt_of_cell hce0
            have hce := grown_cell HG.out ((HBr7.out.cell (p := ⟨b0, off0 + p, none⟩) (by exact Nat.lt_of_lt_of_le hb0 hszr)).trans ((HBL.out.cell (p := ⟨b0, off0 + p, none⟩) hb0).trans hce0)) (by show b0 ≠ _; simp only at hb0; omega)
            obtain ⟨ga, rfl, _, hga, hqa0⟩ := own_cell HO3.out hpk
            rw [Qs_at ns k p hpk] at hqa0
            have hqa := grown_cell HG.out ((HBr7.out.cell (p := ⟨ga, p, none⟩) hga).trans hqa0) (by show ga ≠ _; omega)
            have hea := HEA.out p hpk
            have hNk := HM.out p
            clear hce0 hqa0
            generalize vs.getD p 0 = v0 at hce hvv hNk
            have e0 := and_mask v0 hvv
            rw [← hNk] at e0
            generalize ns.getD p 0 = N at e0 hea
            generalize (Uv.flat (ns.take p)).length = q at hqa hea
            have HEA2 := Lib.hid hea; clear hea
            clear hNk
            by_cases hxi : (xi : Int) = (q : Int)
            · have b2 : ((xi : Int) != (q : Int)) = false := by simp [hxi]
              clear hxi
              by_cases hxv : xv = (N : Int)
              · have b3 : (xv != (N : Int)) = false := by simp [hxv]
                clear hxv
                gi_wp2
                exact ⟨KeepsOthers.setCell _ _ _, same_set hne _, by have := BX.out.set (.int .i64 ((p : Int) + 1)); rw [List.length_append, HP.out]; simpa using this, grown_set HG.out _⟩
              · have b3 : (xv != (N : Int)) = true := by simp [hxv]
                have HX := Lib.hid hxv; clear hxv
                gi_wp2
                exact ⟨KeepsOthers.setCell _ _ _, rfl, not_prefix (by rw [HP.out]; exact HEA2.out) (fun e => HX.out (by injection e))⟩
            · have b2 : ((xi : Int) != (q : Int)) = true := by simp [hxi]
              have HX := Lib.hid hxi; clear hxi
              gi_wp2
              exact ⟨KeepsOthers.setCell _ _ _, rfl, not_prefix (by rw [HP.out]; exact HEA2.out) (fun e => HX.out (by injection e with e; rw [e]))⟩
          · have b1 : decide ((p : Int) < (k : Int)) = false := by simp; omega
            gi_wp2
            exact ⟨KeepsOthers.setCell _ _ _, same_set hne _, by have := BX.out.set (.int .i64 ((p : Int) + 1)); rw [List.length_append, HP.out]; simpa using this, grown_set HG.out _⟩
        case hstop =>
          rintro D c pre W _ hpre ⟨_, hno⟩ _
          exact absurd hpre hno
        case hdone =>
          rintro D xs W hD hxs ⟨bx, hg⟩ hK
          have hxl : xs.length = k + cnt := by rw [hxs, HEL.out]
          rw [hxl] at bx
          clear hxs hxl
          have hc10 := bx.cell
          have hcL := (grown_box hg FL7.out (by omega)).cell
          have hc8 := (grown_box hg F87.out (by omega)).cell
          have bxR := grown_box hg FR7.out (by omega)
          have FVW := Lib.hid (((FV.out.below HBl7.out).but hg (fun ad e => by have := (own_block HO5.out ad e).2; omega)))
          have HBWW : Hid (Below w.heap.size w W) := Lib.hid (((HB1.out.trans (HBL.out.mono HB1.out.size)).trans (HBr7.out.mono (by have := HB1.out.size; omega))).grown hg (by have := HBr7.out.size; have := HB1.out.size; omega) (fun g e => by injection e; have := HB1.out.size; omega))
          obtain ⟨gv, gn, hgot, hgn⟩ := got_flat5 ns HMS.out
          have HGOT := Lib.hid hgot; clear hgot
          have HG := Lib.hid hg; have BXR := Lib.hid bxR; have HKK := Lib.hid hK
          clear hg bx bxR hK
          have t10 : decide ((1 : Int) ≤ (gn : Int)) = true := by simp; omega
          go_wp2_with (first
            | (at_builtin; refine wpList_append_bts rfl (.tmp 91) (.tmp 92) rfl W.heap.size _ 0 [] rfl (lit_own W) Av m cv (Uv.flat ns) rfl (FVW.out.alloc _) HVN.out (by omega) (by simp) ?_; intro v8 w8 ho8 hg8; rw [List.nil_append, Nat.zero_add] at ho8; have HB8 := Lib.hid (own_grown_below (lit_own W) ((Below.refl W.heap.size W).alloc (Nat.le_refl _) _) (Nat.le_refl _) hg8); clear hg8; have HO8 := Lib.hid ho8; clear ho8)
            | (at_builtin; refine wpList_append_bts rfl (.tmp 93) (.tmp 94) rfl W.heap.size _ m (Uv.flat ns) rfl (HO8.out.alloc _) (some ⟨_, 0, none⟩) 1 1 [5] rfl (lit1' _ 5 (by omega) _ (by simp)) (by intro h; cases h) (by omega) (by have := HB8.out.size; simp; omega) ?_; intro v9 w9 ho9 hg9; have HB9 := Lib.hid (own_grown_below (HO8.out.alloc _) (HB8.out.alloc HB8.out.size _) (Nat.le_refl _) hg9); clear hg9; obtain ⟨A9, c9, rfl, hnc9, hc9, ht9⟩ := own_form ho9 (mem_append_bd HVB.out (by simp)); clear ho9; have HT9 := Lib.hid ht9; clear ht9; have HC9 := Lib.hid hc9; clear hc9)
            | (go_at_call 14; refine (get_at _ _ _ (Uv.flat ns ++ [5]) _ _ _ _ HGOT.out hnc9 HC9.out HT9.out).mono ?_; rintro e w' ⟨rfl, rfl⟩; have hc10' := (HB9.out.cell (p := ⟨w2.heap.size + 1, 0, none⟩) (lt_of_cell hc10)).trans hc10; have hcL' := (HB9.out.cell (p := ⟨w.heap.size, 0, none⟩) (lt_of_cell hcL)).trans hcL; have hc8' := (HB9.out.cell (p := ⟨w2.heap.size, 0, none⟩) (lt_of_cell hc8)).trans hc8; have BXR9 := Boxed.below BXR.out HB9.out BXR.out.lt; have hcR9 := BXR9.cell; have hfR9 := BXR9.frozen; clear BXR9))
          have hlD : D < W.heap.size := (Array.getElem?_eq_some_iff.1 HKK.out).1
          have hKe : (w9.setCell ⟨w.heap.size + 1, 0, none⟩ (.bool true)).heap[D]? = some (.deferred (some [])) := (KeepsOthers.setCell w9 ⟨w.heap.size + 1, 0, none⟩ (.bool true)).same D _ ((HB9.out.block D hlD).trans HKK.out) rfl
          refine ⟨by simp, .inl ⟨_, _, rfl, run_takeDeferred hKe, ?_⟩⟩
          have hc5 := cell_kept (World.cell?_setCell_same' w9 ⟨w.heap.size + 1, 0, none⟩ (.bool true) (by rw [hcR9]; rfl)) (grownBy_putObj' _ D (.deferred none)) (fun r e => by cases e; exact ⟨_, hKe, rfl⟩)
          have hle : w.heap.size ≤ D := by have := HB1.out.size; have := HBr7.out.size; omega
          exact ⟨.bool true, by simp [results, Try.results8, go_sem, hc5], rfl, ((HBWW.out.trans (HB9.out.mono HBWW.out.size)).setCell (p := ⟨w.heap.size + 1, 0, none⟩) (Nat.le_succ _) _).trans (belowK_b (w := w) (Nat.le_refl _) _ D _ _ hle hKe rfl rfl)⟩
  · have hc5 : (W1.setCell ⟨w.heap.size + 1, 0, none⟩ (.bool true)).cell? ⟨w.heap.size + 1, 0, none⟩ = some (.bool true) := World.cell?_setCell_same' _ _ _ (by rw [hcR]; rfl)
    have HB2 := Lib.hid (HB1.out.setCell (p := ⟨w.heap.size + 1, 0, none⟩) (Nat.le_succ _) (.bool true))
    by_cases hl0 : len0 ≤ 60
    · have t1 : decide ((60 : Int) < (len0 : Int)) = false := by simp; omega
      have t2 : decide ((20 : Int) < (len1 : Int)) = true := by simp; omega
      go_wp2
      exact ⟨.bool true, by simp [results, Try.results8, go_sem, hc5], rfl, HB2.out⟩
    · have t1 : decide ((60 : Int) < (len0 : Int)) = true := by simp; omega
      go_wp2
      exact ⟨.bool true, by simp [results, Try.results8, go_sem, hc5], rfl, HB2.out⟩
end Go.Proofs.Ythdbakeafmfmpaa
