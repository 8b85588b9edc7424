/-
  The contract of awake: true. Conditions: none.
-/
import Derived.Test.YtahccfljgmleiaaLoop
namespace Go.Proofs.Ytahccfljgmleiaa
open Go.RowKit Go.Shelf
attribute [local go_sem] Oper.semAt_some
set_option linter.unusedVariables false

/-- names of one letter -/
def ky (l : List UInt8) (h : l.length ≤ 1000) : Ky := ⟨l, by unfold maxLen; omega⟩
abbrev kA : Ky := ky [97] (by decide)
abbrev kB : Ky := ky [98] (by decide)
abbrev kC : Ky := ky [99] (by decide)
abbrev kD : Ky := ky [100] (by decide)
theorem aw3 : setL (setL (setL [] kA 5) kB 3) kC 9 = [(kB, 3), (kA, 5), (kC, 9)] := by decide +kernel
theorem aw0 : setCode [(kC, 9)] kD (-1) = 1 := by decide +kernel
theorem aw1 : inL [(kC, 9)] kA = false := by decide +kernel
/-- names one behind the other -/
def cat (d : List En) : ByteArray := d.foldl (fun s e => s ++ str e.1) ByteArray.empty
theorem cat_snoc (d : List En) (e : En) : cat (d ++ [e]) = cat d ++ str e.1 := by simp [cat]
theorem cat_size : ∀ (d : List En), (cat d).size = (d.map fun e => e.1.1.length).sum := by
  intro d
  suffices h : ∀ (d : List En) (s : ByteArray), (d.foldl (fun s e => s ++ str e.1) s).size = s.size + (d.map fun e => e.1.1.length).sum by
    have := h d ByteArray.empty
    simpa [cat] using this
  intro d
  induction d with
  | nil => intro s; simp
  | cons e d ih => intro s; simp only [List.foldl_cons, ih, ByteArray.size_append, str_size, List.map_cons, List.sum_cons]; omega

theorem bx_moves {V V' : World} {b t bm B : Nat} {v : Value} (h : Boxed V b t v) (hm : Moves B bm V V') (hn : b ≠ bm) : Boxed V' b t v := by
  have hc := h.cell
  have hlt := lt_of_cell hc
  have hb : V'.heap[b]? = V.heap[b]? := hm.block b hlt (fun e => by
    rcases e with e | ⟨_, o, ho, hoc⟩
    · exact hn e
    · unfold World.cell? at hc
      rw [ho] at hc
      cases o <;> simp_all [Obj.isCells])
  exact hb.trans h
theorem cat_le {m : Nat} : ∀ {d : List En}, (∀ e ∈ d, e.1.1.length ≤ m) → (cat d).size ≤ m * d.length := by
  intro d h
  rw [cat_size]
  induction d with
  | nil => simp
  | cons e d ih =>
    have h1 := ih (fun f hf => h f (List.mem_cons_of_mem _ hf))
    have h2 := h e (by simp)
    simp only [List.map_cons, List.sum_cons, List.length_cons, Nat.mul_add, Nat.mul_one]
    omega
theorem cat_part {m n : Nat} {all done rest : List En} {e : En} (h : all = done ++ e :: rest) (hm : ∀ f ∈ all, f.1.1.length ≤ m) (hn : all.length ≤ n) : (cat done).size + (str e.1).size ≤ m * n := by
  have h1 := cat_le (d := done) (m := m) (fun f hf => hm f (by rw [h]; simp [hf]))
  have h2 := hm e (by rw [h]; simp)
  have h3 : done.length + 1 ≤ n := by rw [h] at hn; simp at hn; omega
  have h4 := Nat.mul_le_mul_left m h3
  rw [Nat.mul_add, Nat.mul_one] at h4
  rw [str_size]; omega
/-- the cells of awake's loop: its answer's, and what has been told -/
def Paw (w0 : World) (r g : Nat) (d : List En) (V : World) : Prop := Boxed V r 4 (.bool false) ∧ Boxed V g 9 (.string (cat d)) ∧ Below w0.heap.size w0 V
theorem bx_keeps {V V' : World} {b t : Nat} {S : Nat → Prop} {v : Value} (h : Boxed V b t v) (hk : Keeps S V V') (hn : ¬ S b) : Boxed V' b t v := (hk.block b h.lt hn).trans h
theorem bx_after {V V' : World} {b t n : Nat} {v : Value} (h : Boxed V b t v) (hk : Below n V V') (hn : b < n) : Boxed V' b t v := (hk.block b hn).trans h
theorem below_moves {w0 V V' : World} {n B bm : Nat} (h : Below n w0 V) (hn : n ≤ V.heap.size) (hm : Moves B bm V V') (h1 : n ≤ bm) (h2 : n ≤ B) : Below n w0 V' :=
  h.trans ⟨hm.os, hm.tape, hm.output, hm.size, fun k hk => hm.heap (by omega) (by omega) (by omega)⟩
theorem paw_still {w w0 : World} {r g bm : Nat} (h1 : r ≠ bm) (h2 : g ≠ bm) (h3 : w0.heap.size ≤ bm) (h4 : w0.heap.size ≤ w.heap.size) : Still w bm (Paw w0 r g) :=
  ⟨fun d V V' B hB h hm => ⟨bx_moves h.1 hm h1, bx_moves h.2.1 hm h2, below_moves h.2.2 h.2.2.size hm h3 (by omega)⟩⟩
theorem add_bytes (a b : ByteArray) (h : a.size + b.size ≤ 1000000) (W : World) : (Op.stringOp .add a b).run Try.prog W = .ok (.string (a ++ b)) W := run_string_add_sum W a b (by omega)
theorem kept_set {gs : List Nat} {t : Bool} {B b o : Nat} {V : World} {v : Value} (h1 : b < B) (h2 : b ∉ gs) : Kept gs t B V (V.setCell ⟨b, o, none⟩ v) :=
  ⟨by simp, fun g hg => heap_setCell_other _ ⟨b, o, none⟩ g _ (fun e => h2 (by have e2 : g = b := e; rw [← e2]; exact hg)), fun k o' h3 h4 _ => (heap_setCell_other _ ⟨b, o, none⟩ k _ (by show k ≠ b; omega)).trans h4⟩
theorem Du.set {V : World} {tb bm b o : Nat} {L : List En} {v : Value} (h : Du V tb bm L) (h1 : b ≠ tb) (h2 : b ≠ bm) : Du (V.setCell ⟨b, o, none⟩ v) tb bm L :=
  h.kept (heap_setCell_other _ ⟨b, o, none⟩ _ _ (fun e => h1 e.symm)) (heap_setCell_other _ ⟨b, o, none⟩ _ _ (fun e => h2 e.symm))

set_option maxRecDepth 100000 in
set_option maxHeartbeats 4000000 in
theorem awake_any (w : World) : Calls Try.prog 8 #[] w fun e w' => e = .returned (.bool true) ∧ Below w.heap.size w w' := by
  refine (callsIn_wide (n := 8)).1 ?_
  refine callsIn_of_wp_marks Try.func8 rfl trivial ?_ rfl
  refine wpIn_wide.2 ?_
  simp only [Try.ntmps8, List.size_toArray, List.length_nil, Nat.reduceSub, Array.replicate_succ, Array.replicate_zero, List.push_toArray, List.append_toArray, List.nil_append, List.cons_append]
  go_wp2_with fail
  refine (new_any _).mono ?_
  rintro e w1 ⟨rfl, hD, hb⟩
  rw [World.size_alloc] at hD hb ⊢
  obtain ⟨tb, htb⟩ : ∃ tb, tb = w.heap.size + 1 + 1 := ⟨_, rfl⟩
  obtain ⟨bm, hbm⟩ : ∃ bm, bm = w.heap.size + 1 := ⟨_, rfl⟩
  have h0 : Boxed w1 w.heap.size 4 (.bool false) := bx_after (Boxed.new w 4 (.bool false)) hb (by simp)
  have HB1 : Hid (Below w.heap.size w w1) := Lib.hid (((Below.refl _ w).alloc (Nat.le_refl _) _).trans (hb.mono (by omega)))
  rw [← htb, ← hbm] at hD
  rw [← htb]
  have hbw : bm = w.heap.size + 1 ∧ tb = w.heap.size + 2 := ⟨hbm, htb⟩
  have HBW := Lib.hid hbw
  have HD1 := Lib.hid hD; have HC1 := Lib.hid h0
  clear hD hb h0 htb hbm hbw
  go_wp2_with fail
  refine (set_any tb bm [] kA 5 w1 HD1.out).mono ?_
  rintro e w2 ⟨rfl, hD, hk⟩
  have HD2 := Lib.hid hD; have HK2 := Lib.hid hk
  clear hD hk
  go_wp2_with fail
  refine (set_any tb bm _ kB 3 w2 HD2.out).mono ?_
  rintro e w3 ⟨rfl, hD, hk⟩
  have HD3 := Lib.hid hD; have HK3 := Lib.hid (HK2.out.trans hk)
  clear hD hk HK2
  go_wp2_with fail
  refine (set_any tb bm _ kC 9 w3 HD3.out).mono ?_
  rintro e w4 ⟨rfl, hD, hk⟩
  rw [aw3] at hD
  have HD4 := Lib.hid hD; have HK4 := Lib.hid (HK3.out.trans hk)
  clear hD hk HK3 HD2 HD3
  go_wp2_with fail
  refine (due_any _ _ _).mono ?_
  rintro e w5 ⟨rfl, rfl⟩
  go_wp2_with fail
  have h5 : Boxed (w4.alloc (.cells #[.string ByteArray.empty] 9)) w4.heap.size 9 (.string ByteArray.empty) := Boxed.new w4 9 _
  obtain ⟨W0, hW0⟩ : ∃ W0, W0 = ((w4.alloc (.cells #[.string ByteArray.empty] 9)).alloc (.cells #[.pointer (some ⟨tb, 0, none⟩)] 25)).alloc (.cells #[.int .i64 6] 3) := ⟨_, rfl⟩
  have hb4 : Below w4.heap.size w4 W0 := by rw [hW0]; exact (((Below.refl _ w4).alloc (Nat.le_refl _) _).alloc (by simp) _).alloc (by simp; omega) _
  have hs0 : W0.heap.size = w4.heap.size + 3 := by rw [hW0]; simp
  have hlt4 := HD4.out.lt
  have hne4 := HD4.out.ne
  have hr4 : w.heap.size + 3 ≤ w4.heap.size := by
    have e1 := HK4.out.size
    have e2 := HD1.out.lt
    have e3 := HBW.out
    omega
  have HB4 := Lib.hid hb4
  have HDW : Hid (Du W0 tb bm [(kB, 3), (kA, 5), (kC, 9)]) := Lib.hid (HD4.out.after hb4)
  have HP : Hid (Paw w w.heap.size w4.heap.size [] W0) := Lib.hid ⟨bx_after (bx_keeps HC1.out HK4.out (by have := HBW.out; omega)) hb4 (by omega), by rw [hW0]; exact (h5.alloc _).alloc _, HB1.out.trans ((HK4.out.below (fun k e => by have := HBW.out; omega) HB1.out.size).trans (hb4.mono (by omega)))⟩
  have HT : Hid (W0.cell? ⟨w4.heap.size + 1, 0, none⟩ = some (.pointer (some ⟨tb, 0, none⟩))) := Lib.hid (by
    rw [hW0]
    have := ((Boxed.new (w4.alloc (.cells #[.string ByteArray.empty] 9)) 25 (.pointer (some ⟨tb, 0, none⟩))).alloc (.cells #[.int .i64 6] 3)).cell
    rwa [World.size_alloc] at this)
  have HN : Hid (W0.cell? ⟨w4.heap.size + 1 + 1, 0, none⟩ = some (.int .i64 6)) := Lib.hid (by
    rw [hW0]
    have := (Boxed.new ((w4.alloc (.cells #[.string ByteArray.empty] 9)).alloc (.cells #[.pointer (some ⟨tb, 0, none⟩)] 25)) 3 (.int .i64 6)).cell
    rwa [World.size_alloc, World.size_alloc] at this)
  have HW := Lib.hid hW0.symm
  rw [show ((w4.alloc (.cells #[.string { data := #[] }] 9)).alloc (.cells #[.pointer (some ⟨tb, 0, none⟩)] 25)).alloc (.cells #[.int .i64 6] 3) = W0 from HW.out]
  have HS0 := Lib.hid hs0
  have hgs : ∀ g ∈ [w4.heap.size + 1, w4.heap.size + 1 + 1], g < W0.heap.size := by intro g hg; simp at hg; omega
  have HE : Hid (w.heap.size ≠ bm ∧ w.heap.size ≠ tb ∧ w4.heap.size ≠ bm ∧ w4.heap.size ≠ tb ∧ tb < W0.heap.size ∧ bm < W0.heap.size ∧ w.heap.size ≤ bm ∧ w.heap.size ≤ W0.heap.size) := Lib.hid (by have := HBW.out; omega)
  clear h5 hb4 hs0 hW0 hlt4 hne4 hr4
  refine (wpIn_wide (n := 8)).1 ?_
  apply range_stand (F := Fence.wide) (n := 8) (f := 23) (own := #[.pointer (some ⟨w4.heap.size + 1, 0, none⟩), .pointer (some ⟨w4.heap.size + 1 + 1, 0, none⟩)]) (k0 := 3)
    ⟨rfl, by omega, trivial, enters_of Try.func23 (by kernel_rfl) rfl, due_tells 7 tb bm (w4.heap.size + 1) (w4.heap.size + 1 + 1) 6 W0 HT.out HN.out⟩ rfl (Below.refl _ _) hgs (fun _ => rfl)
    (JS tb bm 6 [(kB, 3), (kA, 5), (kC, 9)] (Paw w w.heap.size w4.heap.size)) (MS tb bm 6 [(kB, 3), (kA, 5), (kC, 9)] (Paw w w.heap.size w4.heap.size)) (fun _ _ => False)
    (loop_adm (paw_still HE.out.1 HE.out.2.2.1 HE.out.2.2.2.2.2.2.1 HE.out.2.2.2.2.2.2.2) HE.out.2.2.2.2.2.1) (loop_own (paw_still HE.out.1 HE.out.2.2.1 HE.out.2.2.2.2.2.2.1 HE.out.2.2.2.2.2.2.2) HE.out.2.2.2.2.1 HE.out.2.2.2.2.2.1) (loop_ownM (paw_still HE.out.1 HE.out.2.2.1 HE.out.2.2.2.2.2.2.1 HE.out.2.2.2.2.2.2.2) HE.out.2.2.2.2.1 HE.out.2.2.2.2.2.1)
    (fun c s X Y row hs _ _ => hs) (loop_ownE HE.out.2.2.2.2.1 HE.out.2.2.2.2.2.1) (loop_start HDW.out HP.out)
  case hassign =>
    intro l x W K hK
    simp only [encE]
    gi_wp2
    exact hK
  case hbody =>
    rintro lr k ⟨x, t⟩ V hVs hm
    have HM := Lib.hid hm
    obtain ⟨done, rest, a1, a2, a3, a4, a5, b0, b1⟩ := hm
    have t6 : t ≤ 6 := a5
    have hadd := add_bytes (cat done) (str x) (Nat.le_trans (cat_part (m := 60) (n := 3) a1 (by decide) (by decide)) (by decide))
    have c0 := b1.1.cell
    have f0 := b1.1.frozen
    have HB0 := Lib.hid b0; have HB1 := Lib.hid b1.1
    clear a1 a2 a3 a4 a5 b0 b1
    gi_wp2
    refine ⟨kept_set (by have := HE.out; have := HS0.out; omega) (by simp; omega), loop_next HM.out (fun L h => h.set HE.out.2.2.2.1 HE.out.2.2.1) (fun d hp => ⟨hp.1.other (by have := HE.out; have := HB0.out.lt; have := HBW.out; have := HK4.out.size; have := HD1.out.lt; omega) _, ?_, hp.2.2.setCell (p := ⟨w4.heap.size, 0, none⟩) (by show w.heap.size ≤ w4.heap.size; have := HK4.out.size; have := HD1.out.lt; have := HBW.out; omega) _⟩)⟩
    have e1 := hp.2.1.cell
    rw [HB1.out.cell] at e1
    have e2 : cat done = cat d := by simpa using e1
    rw [cat_snoc, ← e2]
    exact HB1.out.set _
  case hdone =>
    rintro D k V hD hj hf hK
    obtain ⟨done, rest, e1, e2, hd, _, hp⟩ := loop_end hj hf
    have e3 : done = [(kB, 3), (kA, 5)] := by rw [e2]; decide +kernel
    subst e3
    obtain rfl : rest = [(kC, 9)] := by simpa using e1.symm
    have HD5 := Lib.hid hd; have HP5 := Lib.hid hp; have HK5 := Lib.hid hK
    clear e1 e2 hd hp hj hf hK
    go_wp2_with fail
    refine (next_any' tb bm _ V HD5.out).mono ?_
    rintro e w6 ⟨rfl, hb6⟩
    rw [show firstOf [(kC, 9)] = (kC, 9, true) from rfl]
    have hcat : cat [(kB, 3), (kA, 5)] = ⟨#[98, 97]⟩ := by decide +kernel
    have hg6 : Boxed w6 w4.heap.size 9 (.string ⟨#[98, 97]⟩) := by
      have := bx_after HP5.out.2.1 hb6 HP5.out.2.1.lt
      rwa [hcat] at this
    have hr6 := bx_after HP5.out.1 hb6 HP5.out.1.lt
    have HD6 : Hid (Du w6 tb bm [(kC, 9)]) := Lib.hid (HD5.out.after hb6)
    have HK6 : Hid (w6.heap[D]? = some (.deferred (some []))) := Lib.hid ((hb6.block D (Array.getElem?_eq_some_iff.1 HK5.out).1).trans HK5.out)
    have HB6 : Hid (Below w.heap.size w w6) := Lib.hid (HP5.out.2.2.trans (hb6.mono HP5.out.2.2.size))
    have hg7 := hg6.cell
    have HR6 := Lib.hid hr6
    have hq1 : (str kC).toList = [99] := str_list kC
    have hq2 : ((str kC).toList == ({ data := #[99] } : ByteArray).toList) = true := by decide +kernel
    have hq3 : (({ data := #[98, 97] } : ByteArray).toList == ({ data := #[98, 97] } : ByteArray).toList) = true := by decide +kernel
    clear hb6 hcat hg6 hr6
    go_wp2_with fail
    refine (set_any tb bm _ kD (-1) w6 HD6.out).mono ?_
    rintro e w7 ⟨rfl, hD, hk⟩
    rw [aw0]
    have HD7 : Hid (Du w7 tb bm [(kC, 9)]) := Lib.hid hD
    have HK7 := Lib.hid hk
    clear hD hk hg7
    go_wp2_with fail
    refine (drop_any tb bm _ kA w7 HD7.out).mono ?_
    rintro e w8 ⟨rfl, hD, hk⟩
    rw [aw1]
    have HK8 := Lib.hid (HK7.out.trans hk)
    have hr8 := bx_keeps HR6.out HK8.out HE.out.1
    have c8 := hr8.cell
    have f8 := hr8.frozen
    have HR8 := Lib.hid hr8
    clear hD hk HK7 hr8
    have hD8 : Hid ((w8.setCell ⟨w.heap.size, 0, none⟩ (.bool true)).heap[D]? = some (.deferred (some []))) := Lib.hid ((heap_setCell_other _ ⟨w.heap.size, 0, none⟩ D _ (by show D ≠ w.heap.size; have := HE.out; have := HR6.out.lt; omega)).trans ((HK8.out.block D (Array.getElem?_eq_some_iff.1 HK6.out).1 (by show ¬ D = bm; have := HE.out; omega)).trans HK6.out))
    have hB8 : Hid (Below w.heap.size w (w8.setCell ⟨w.heap.size, 0, none⟩ (.bool true))) := Lib.hid ((HB6.out.trans (HK8.out.below (fun k e => by have := HE.out; omega) HB6.out.size)).setCell (p := ⟨w.heap.size, 0, none⟩) (Nat.le_refl _) _)
    have hR9 : Hid (((w8.setCell ⟨w.heap.size, 0, none⟩ (.bool true)).putObj D (.deferred none)).cell? ⟨w.heap.size, 0, none⟩ = some (.bool true)) := Lib.hid (by
      have h1 := HR8.out.set (.bool true)
      refine (Boxed.kept h1 (grownBy_putObj' _ D (.deferred none)) (fun e => ?_)).cell
      have e2 := Option.some.inj e
      have := HE.out
      omega)
    go_wp2
    refine ⟨by simp, .inl ⟨_, _, rfl, run_takeDeferred hD8.out, ?_⟩⟩
    have c9 := hR9.out
    exact ⟨.bool true, by simp [results, Try.results8, go_sem, c9], rfl, hB8.out.trans (belowK_b (w := w) (Nat.le_refl _) _ D _ _ (by have := HE.out; omega) hD8.out rfl rfl)⟩
  case hstop =>
    rintro D c V hD h hK
    exact h.elim

end Go.Proofs.Ytahccfljgmleiaa
