/-
  The contract of Due, and of the iterator that it hands back: those that are due, in order, each dropped ahead of being told. Conditions: the table stands for a list of timers between the rounds; the rounds keep the iterator's own blocks.
-/
import Derived.Test.YtahccfljgmleiaaFst
namespace Go.Proofs.Ytahccfljgmleiaa
open Go.RowKit Go.Shelf
attribute [local go_sem] Oper.semAt_some
set_option linter.unusedVariables false

theorem RoundIn.wideAny {m m' lr : Nat} {P : Program} {l : Nat} {f : FuncId} {tmps : Array Value} {assign body : Code} {w : World} {R : Ending → World → Prop}
    (h : RoundIn Fence.wide m P l f tmps assign body w R) : RoundIn (Fence.wide.inRound lr) m' P l f tmps assign body w R := ⟨h.1, fun c cs _ => h.2 c cs (room_wide _)⟩

theorem lt_of_cell {w : World} {b o : Nat} {v : Value} (h : w.cell? ⟨b, o, none⟩ = some v) : b < w.heap.size := by
  refine Nat.lt_of_not_le fun hn => ?_
  unfold World.cell? at h
  rw [Array.getElem?_eq_none hn] at h
  cases h
/-- what stays but for the map, and for what is no cells and was laid from B on -/
def Moves (B bm : Nat) (V V' : World) : Prop := Keeps (fun k => k = bm ∨ (B ≤ k ∧ ∃ o, V.heap[k]? = some o ∧ o.isCells = false)) V V'
theorem Moves.refl (B bm : Nat) (V : World) : Moves B bm V V := Keeps.refl _ V
theorem Moves.trans {B bm : Nat} {X Y Z : World} (h : Moves B bm X Y) (k : Moves B bm Y Z) : Moves B bm X Z := by
  refine ⟨k.os.trans h.os, k.tape.trans h.tape, k.output.trans h.output, Nat.le_trans h.size k.size, fun i hi hn => ?_⟩
  have h1 := h.block i hi hn
  refine (k.block i (Nat.lt_of_lt_of_le hi h.size) (fun hs => hn ?_)).trans h1
  rw [h1] at hs
  exact hs
theorem Moves.ofKeeps {B bm : Nat} {X Y : World} (h : Keeps (· = bm) X Y) : Moves B bm X Y := h.mono (fun k _ e => .inl e)
theorem Moves.ofGrown {B bm : Nat} {X Y : World} {row : Option Nat} (h : X.grownBy Y row) (hr : ∀ r, row = some r → B ≤ r ∧ ∃ o, X.heap[r]? = some o ∧ o.isCells = false) : Moves B bm X Y := Keeps.grown h (fun g e => .inr (hr g e))
theorem Moves.heap {B bm : Nat} {X Y : World} (h : Moves B bm X Y) {k : Nat} (hk : k < X.heap.size) (hn : k ≠ bm) (hB : k < B) : Y.heap[k]? = X.heap[k]? :=
  h.block k hk (fun e => by rcases e with e | ⟨e, _⟩ <;> omega)
theorem Moves.cell {B bm : Nat} {X Y : World} (h : Moves B bm X Y) {a : Addr} {v : Value} (hc : X.cell? a = some v) (hn : a.block ≠ bm) : Y.cell? a = some v := by
  have hlt : a.block < X.heap.size := by
    refine Nat.lt_of_not_le fun hn => ?_
    unfold World.cell? at hc
    rw [Array.getElem?_eq_none hn] at hc
    cases hc
  refine (World.cell?_of_block (w := X) (h.block a.block hlt (fun e => ?_))).trans hc
  rcases e with e | ⟨_, o, ho, hoc⟩
  · exact hn e
  · unfold World.cell? at hc
    rw [ho] at hc
    cases o <;> simp_all [Obj.isCells]
theorem cell_ne {V : World} {tb bm : Nat} {L : List En} (h : Du V tb bm L) {a : Addr} {v : Value} (hc : V.cell? a = some v) : a.block ≠ bm := by
  intro e
  obtain ⟨D, ⟨es, clock, h1, _⟩, hT⟩ := h.map
  unfold World.cell? at hc
  rw [e, h1] at hc
  cases hc

/-- between the rounds the table stands for some timers; at a yield the first of them, which is due, has been dropped -/
def Adm2 (tb bm : Nat) (now : Int) (B : Nat) (J : Stand) (M : Nat → En → World → Prop) : Prop := ∀ k V, J k V → ∃ L, Du V tb bm L ∧ ∀ e L' V', L = e :: L' → e.2 ≤ now → Moves B bm V V' → Du V' tb bm L' → M k e V'
/-- behind it none is due -/
def Fin2 (tb bm : Nat) (now : Int) (V : World) : Prop := ∃ L, Du V tb bm L ∧ ∀ e, L.head? = some e → now < e.2
theorem Du.turn {V V' : World} {tb bm B : Nat} {L : List En} {row : Option Nat} (h : Du V tb bm L) (hg : V.grownBy V' row) (hr : ∀ r, row = some r → B ≤ r) (h1 : tb < B) (h2 : bm < B) : Du V' tb bm L :=
  h.kept (hg.block _ h.lt.1 (fun e => by have := hr _ e.symm; omega)) (hg.block _ h.lt.2 (fun e => by have := hr _ e.symm; omega))
theorem drop_head {e : En} {L : List En} (h : Tbl (e :: L)) : dropL (e :: L) e.1 = L := by
  have hn := h.nodup
  simp only [List.map_cons, List.nodup_cons, List.mem_map, not_exists, not_and] at hn
  unfold dropL
  rw [List.filter_cons_of_neg (by simp), List.filter_eq_self]
  intro f hf
  have := hn.1 f hf
  simpa using this

/-- the boxes of the iterator -/
structure Bxs (V : World) (Y Bt Bn l tb : Nat) (now : Int) : Prop where
  y : V.cell? ⟨Y, 0, none⟩ = some (.func (.yield l) #[] #[])
  t : V.cell? ⟨Bt, 0, none⟩ = some (.pointer (some ⟨tb, 0, none⟩))
  n : V.cell? ⟨Bn, 0, none⟩ = some (.int .i64 now)
theorem Bxs.moves {V V' : World} {Y Bt Bn l tb bm B : Nat} {now : Int} (h : Bxs V Y Bt Bn l tb now) (hm : Moves B bm V V') (h1 : Y ≠ bm) (h2 : Bt ≠ bm) (h3 : Bn ≠ bm) : Bxs V' Y Bt Bn l tb now :=
  ⟨hm.cell h.y h1, hm.cell h.t h2, hm.cell h.n h3⟩

set_option maxRecDepth 100000 in
set_option maxHeartbeats 4000000 in
theorem due1_in (n : Nat) (l tb bm Bt Bn : Nat) (now : Int) (J : Stand) (M : Nat → En → World → Prop) (Jx : World → Prop) (W : World) (k0 : Nat) (hJ : OwnFrom W.heap.size J) (hJx : OwnFrom W.heap.size (fun (_ : Unit) V => Jx V)) (hA : Adm2 tb bm now W.heap.size J M)
    (hY : ∀ k z V1, M k z V1 → YieldAt Fence.wide (n - 1) Try.prog l (encE z) V1 (SaidN [Bt, Bn] W.heap.size V1 J Jx k))
    (ht : W.cell? ⟨Bt, 0, none⟩ = some (.pointer (some ⟨tb, 0, none⟩))) (hn : W.cell? ⟨Bn, 0, none⟩ = some (.int .i64 now)) (hd : ∃ L, Du W tb bm L) (h0 : J k0 W) :
    CallsIn Fence.wide n Try.prog 23 #[.func (.yield l) #[] #[], .pointer (some ⟨Bt, 0, none⟩), .pointer (some ⟨Bn, 0, none⟩)] W (CameN (Fin2 tb bm now) J Jx) := by
  obtain ⟨L0, hd0⟩ := hd
  have hlt := hd0.lt
  have htl := lt_of_cell ht
  have hnl := lt_of_cell hn
  have htb : Bt ≠ bm := cell_ne hd0 ht
  have hnb : Bn ≠ bm := cell_ne hd0 hn
  have HT := Lib.hid ht; have HN := Lib.hid hn; have HJ := Lib.hid hJ; have HJx := Lib.hid hJx; have HA := Lib.hid hA; have HY := Lib.hid hY; have H0 := Lib.hid h0
  have HTB := Lib.hid htb; have HNB := Lib.hid hnb
  clear hn hJ hJx hA hY h0 hd0 hnb htb
  refine callsIn_wide.2 ?_
  refine (callsIn_wide (n := 6)).1 ?_
  refine callsIn_of_wp_marks Try.func23 rfl trivial ?_ rfl
  refine wpIn_wide.2 ?_
  simp only [Try.ntmps23, List.size_toArray, List.length_cons, List.length_nil, Nat.reduceAdd, Nat.reduceSub, Array.replicate_succ, Array.replicate_zero, List.push_toArray, List.append_toArray, List.nil_append, List.cons_append]
  have htb2 : (W.alloc (.cells #[.func (.yield l) #[] #[]] 63)).cell? ⟨Bt, 0, none⟩ = some (.pointer (some ⟨tb, 0, none⟩)) := ((Below.refl _ W).alloc (Nat.le_refl _) _).cell (p := ⟨Bt, 0, none⟩) htl |>.trans ht
  clear ht
  go_wp2_with (go_at_call 24; refine (firsts_any _ _).mono ?_; rintro e w' ⟨rfl, rfl⟩)
  clear htb2
  obtain ⟨W0, hW0⟩ : ∃ W0, (W.alloc (.cells #[.func (.yield l) #[] #[]] 63)).alloc (.cells #[.pointer (some ⟨tb, 0, none⟩)] 25) = W0 := ⟨_, rfl⟩
  rw [hW0]
  have hsz : W0.heap.size = W.heap.size + 2 := by rw [← hW0]; simp
  have HB0 : Hid (Below W.heap.size W W0) := Lib.hid (by rw [← hW0]; exact ((Below.refl _ W).alloc (Nat.le_refl _) _).alloc (by simp) _)
  have HX0 : Hid (Bxs W0 W.heap.size Bt Bn l tb now) := Lib.hid ⟨by rw [← hW0]; exact ((Boxed.new W 63 (.func (.yield l) #[] #[])).alloc _).cell, (HB0.out.cell (p := ⟨Bt, 0, none⟩) htl).trans HT.out, (HB0.out.cell (p := ⟨Bn, 0, none⟩) hnl).trans HN.out⟩
  have HF : Hid (W0.cell? ⟨W.heap.size + 1, 0, none⟩ = some (.pointer (some ⟨tb, 0, none⟩))) := Lib.hid (by
    rw [← hW0]; have := (Boxed.new (W.alloc (.cells #[.func (.yield l) #[] #[]] 63)) 25 (.pointer (some ⟨tb, 0, none⟩))).cell; rwa [World.size_alloc] at this)
  clear hW0
  have hyb : W.heap.size ≠ bm := by omega
  have HG0 : Hid (W.grownBy W0 none) := Lib.hid (below_grown' HB0.out (Nat.le_refl _))
  refine (wpIn_wide (n := 6)).1 ?_
  apply range_stand (F := Fence.wide) (n := 6) (f := 28) (own := #[.pointer (some ⟨W.heap.size + 1, 0, none⟩)]) (k0 := k0) ⟨rfl, by omega, trivial, enters_of Try.func28 (by kernel_rfl) rfl, firsts_tells 5 (by omega) tb bm (W.heap.size + 1) W0 (by omega) HF.out⟩ rfl (Below.refl _ _) (by intro g hg; simp at hg; omega) (fun _ => rfl)
    (fun k V => J k V ∧ Bxs V W.heap.size Bt Bn l tb now)
    (fun k z V => J k V ∧ Bxs V W.heap.size Bt Bn l tb now ∧ ∃ L, Du V tb bm (z :: L) ∧ ∀ V', z.2 ≤ now → Moves W.heap.size bm V V' → Du V' tb bm L → M k z V')
    (fun c V => c = .ret ∧ ((∃ k, J k V ∧ Fin2 tb bm now V) ∨ Jx V))
    (by
      intro T hT k V ⟨⟨hj, hx⟩, hT0⟩
      obtain ⟨L, hD, hM⟩ := HA.out k V hj
      refine ⟨L, hD, fun e L' V' hL hg => ?_⟩
      subst hL
      have hm : Moves W.heap.size bm V V' := Moves.ofGrown hg (fun r e => by cases e)
      exact ⟨⟨HJ.out _ _ _ _ hj hg (fun r e => by cases e), hx.moves hm hyb HTB.out HNB.out, L', hD.kept (hg.block _ hD.lt.1 (by simp)) (hg.block _ hD.lt.2 (by simp)), fun V'' h1 h2 h3 => hM e L' V'' rfl h1 (hm.trans h2) h3⟩,
        hT V V' hT0 (fun k o _ _ h3 => (hg.block k (Array.getElem?_eq_some_iff.1 h3).1 (by simp)).trans h3)⟩)
    (fun s X Y row hs hg hr => ⟨HJ.out _ _ _ _ hs.1 hg (fun r e => ⟨by have := (hr r e).1; omega, (hr r e).2⟩), hs.2.moves (Moves.ofGrown (B := W0.heap.size) hg hr) hyb HTB.out HNB.out⟩)
    (fun k z s X Y row hs hg hr => by
      obtain ⟨hj, hx, L, hD, hM⟩ := hs
      have hr2 : ∀ r, row = some r → W.heap.size ≤ r ∧ ∃ o, X.heap[r]? = some o ∧ o.isCells = false := fun r e => ⟨by have := (hr r e).1; omega, (hr r e).2⟩
      exact ⟨HJ.out _ _ _ _ hj hg hr2, hx.moves (Moves.ofGrown (B := W0.heap.size) hg hr) hyb HTB.out HNB.out, L, hD.turn (B := W0.heap.size) hg (fun r e => (hr r e).1) (by omega) (by omega), fun V' h1 h2 h3 => hM V' h1 ((Moves.ofGrown hg hr2).trans h2) h3⟩)
    (fun c s X Y row hs hg hr => by
      have hr2 : ∀ r, row = some r → W.heap.size ≤ r ∧ ∃ o, X.heap[r]? = some o ∧ o.isCells = false := fun r e => ⟨by have := (hr r e).1; omega, (hr r e).2⟩
      obtain ⟨h1, ⟨k, h2, L, hD, h3⟩ | h2⟩ := hs
      · exact ⟨h1, .inl ⟨k, HJ.out _ _ _ _ h2 hg hr2, L, hD.turn (B := W0.heap.size) hg (fun r e => (hr r e).1) (by omega) (by omega), h3⟩⟩
      · exact ⟨h1, .inr (HJx.out () _ _ _ h2 hg hr2)⟩)
    (fun s X Y row hs hg hr => Du.turn (B := W0.heap.size) hs hg (fun r e => (hr r e).1) (by omega) (by omega))
    ⟨HJ.out _ _ _ _ H0.out HG0.out (fun r e => by cases e), HX0.out⟩
  case hassign =>
    intro l x W K hK
    simp only [encE]
    gi_wp2
    exact hK
  case hbody =>
    rintro lr k ⟨x, t⟩ V hVs ⟨hj, hx, L, hD, hM⟩
    have c1 := hx.y
    have c2 := hx.t
    have c3 := hx.n
    have HJk := Lib.hid hj; have HX := Lib.hid hx; have HD := Lib.hid hD; have HM := Lib.hid hM
    clear hj hx hD hM
    by_cases hnow : now < t
    · gi_wp2
      exact ⟨Kept.refl _ _ _ _, rfl, .inl ⟨⟨k, HJk.out⟩, (x, t) :: L, HD.out, fun e he => by simp at he; subst he; exact hnow⟩⟩
    · gi_wp2_with fail
      refine ⟨trivial, (CallsIn.inRound lr (callsIn_wide.2 (drop_any tb bm ((x, t) :: L) x V HD.out))).mono ?_⟩
      rintro e w1 ⟨rfl, hD1, hk1⟩
      rw [drop_head HD.out.tbl] at hD1
      have hx1 := HX.out.moves (Moves.ofKeeps (B := 0) hk1) hyb HTB.out HNB.out
      obtain ⟨fn, tmps, assign, body, hy, hR⟩ := HY.out k (x, t) w1 (HM.out w1 (by show t ≤ now; omega) (Moves.ofKeeps hk1) hD1)
      dsimp only [encE] at hy hR
      have d1 := hx1.y
      have HX1 := Lib.hid hx1; have HK1 := Lib.hid hk1; have HR := Lib.hid hR
      clear hx1 hk1 hR hD1 c1 c2 c3
      gi_wp2
      refine (RoundIn.wideAny HR.out).mono ?_
      rintro e W3 ⟨hk3, hor⟩
      have hsz1 : W0.heap.size < w1.heap.size := Nat.lt_of_lt_of_le hVs HK1.out.size
      have HKP : Hid (Kept [W.heap.size + 1] true W0.heap.size V W3) := Lib.hid ⟨Nat.le_trans HK1.out.size hk3.size, fun g hg => by
          simp only [List.mem_singleton] at hg
          subst hg
          obtain ⟨o, ho⟩ : ∃ o, w1.heap[W.heap.size + 1]? = some o := ⟨_, Array.getElem?_eq_getElem (by omega)⟩
          have e1 := HK1.out.block (W.heap.size + 1) (by omega) (by omega)
          rw [← e1, ho]
          exact hk3.new _ _ (by omega) ho (.inl rfl), fun i o h1 h2 h3 => by
          have hil := (Array.getElem?_eq_some_iff.1 h2).1
          have e1 := HK1.out.block i hil (by omega)
          exact hk3.new i o (by omega) (e1.trans h2) (.inl rfl)⟩
      have HX3 : Hid (Bxs W3 W.heap.size Bt Bn l tb now) := Lib.hid (by
        have hh := HX1.out
        refine ⟨?_, ?_, ?_⟩
        · obtain ⟨o, ho⟩ : ∃ o, w1.heap[W.heap.size]? = some o := ⟨_, Array.getElem?_eq_getElem (lt_of_cell hh.y)⟩
          exact (World.cell?_of_block (w := w1) (a := ⟨W.heap.size, 0, none⟩) ((hk3.new _ _ (Nat.le_refl _) ho (.inl rfl)).trans ho.symm)).trans hh.y
        · exact (World.cell?_of_block (w := w1) (a := ⟨Bt, 0, none⟩) (hk3.same Bt (by simp))).trans hh.t
        · exact (World.cell?_of_block (w := w1) (a := ⟨Bn, 0, none⟩) (hk3.same Bn (by simp))).trans hh.n)
      have HOR := Lib.hid hor
      clear hk3 hor
      rcases HOR.out with ⟨rfl, k', hk', hj3⟩ | ⟨rfl, hx3⟩
      · have HJ3 := Lib.hid hj3
        clear hj3
        gi_wp2
        exact ⟨HKP.out, k', hk', HJ3.out, HX3.out⟩
      · have HX4 := Lib.hid hx3
        clear hx3
        gi_wp2
        exact ⟨HKP.out, rfl, .inr HX4.out⟩
  case hdone =>
    rintro D k V hD ⟨hj, hx⟩ hf hK
    have HK := Lib.hid hK; have HJk := Lib.hid hj; have HFn : Hid (Du V tb bm []) := Lib.hid hf
    clear hK hj hx hf
    have HR : Hid (∀ r, some D = some r → W.heap.size ≤ r ∧ ∃ o : Obj, V.heap[r]? = some o ∧ o.isCells = false) := Lib.hid (fun r e => by cases e; exact ⟨by omega, _, HK.out, rfl⟩)
    go_wp2
    refine ⟨by simp, .inl ⟨_, _, rfl, run_takeDeferred HK.out, ?_⟩⟩
    refine ⟨_, results_none rfl _ _ _, ⟨_, rfl⟩, ?_⟩
    exact .inl ⟨k, HJ.out _ _ _ _ HJk.out (grownBy_putObj' _ D (.deferred none)) HR.out, [], HFn.out.turn (B := W0.heap.size) (grownBy_putObj' _ D (.deferred none)) (fun r e => by cases e; exact hD) (by omega) (by omega), fun e he => by cases he⟩
  case hstop =>
    rintro D c V hD ⟨rfl, hor⟩ hK
    have HOR := Lib.hid hor; have HK := Lib.hid hK
    clear hor hK
    have HR : Hid (∀ r, some D = some r → W.heap.size ≤ r ∧ ∃ o : Obj, V.heap[r]? = some o ∧ o.isCells = false) := Lib.hid (fun r e => by cases e; exact ⟨by omega, _, HK.out, rfl⟩)
    refine wpIn_wide.2 ?_
    go_wp2
    refine ⟨by simp, .inl ⟨_, _, rfl, run_takeDeferred HK.out, ?_⟩⟩
    refine ⟨_, results_none rfl _ _ _, ⟨_, rfl⟩, ?_⟩
    rcases HOR.out with ⟨k, h2, L, hDu, h3⟩ | h2
    · exact .inl ⟨k, HJ.out _ _ _ _ h2 (grownBy_putObj' _ D (.deferred none)) HR.out, L, hDu.turn (B := W0.heap.size) (grownBy_putObj' _ D (.deferred none)) (fun r e => by cases e; exact hD) (by omega) (by omega), h3⟩
    · exact .inr (HJx.out () _ _ _ h2 (grownBy_putObj' _ D (.deferred none)) HR.out)

/-- the iterator of Due, over its boxes -/
theorem due_tells (n : Nat) (tb bm Bt Bn : Nat) (now : Int) (w : World) (ht : w.cell? ⟨Bt, 0, none⟩ = some (.pointer (some ⟨tb, 0, none⟩))) (hn : w.cell? ⟨Bn, 0, none⟩ = some (.int .i64 now)) :
    TellsN Fence.wide n Try.prog 23 #[.pointer (some ⟨Bt, 0, none⟩), .pointer (some ⟨Bn, 0, none⟩)] encE (Adm2 tb bm now) (Fin2 tb bm now) [Bt, Bn] w := fun l J M Jx W k hW hJ hJx hA h0 hY =>
  due1_in n l tb bm Bt Bn now J M Jx W k hJ hJx hA hY ((hW.cell (p := ⟨Bt, 0, none⟩) (lt_of_cell ht)).trans ht) ((hW.cell (p := ⟨Bn, 0, none⟩) (lt_of_cell hn)).trans hn) (by obtain ⟨L, hD, _⟩ := hA k W h0; exact ⟨L, hD⟩) h0

set_option maxHeartbeats 400000 in
/-- Due hands back a closure over two boxes: the table, and the time -/
theorem due_any (a : Option Addr) (now : Int) (w : World) : Calls Try.prog 15 #[.pointer a, .int .i64 now] w fun e w' =>
    e = .returned (.func (.func 23) #[] #[.pointer (some ⟨w.heap.size, 0, none⟩), .pointer (some ⟨w.heap.size + 1, 0, none⟩)]) ∧ w' = (w.alloc (.cells #[.pointer a] 25)).alloc (.cells #[.int .i64 now] 3) := by
  go_enter Try.func15, Try.ntmps15
  go_wp2
  go_ret
  exact ⟨rfl, rfl⟩

end Go.Proofs.Ytahccfljgmleiaa
