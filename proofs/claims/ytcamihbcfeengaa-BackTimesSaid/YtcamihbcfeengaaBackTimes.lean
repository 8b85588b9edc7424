/-
  The statement BackTimes holds: of every plan, from whatever time on, the first times are what the document says, and no more are told than are asked for. Conditions: none beyond the row's own.
-/
import Derived.Test.YtcamihbcfeengaaTwoIn
import Derived.Test.YtcamihbcfeengaaRows
import Derived.WalkKit
import Derived.ProofKit
import Derived.OpenShut
import Derived.ShutString
import Derived.ChangeOld
import Derived.Below
namespace Go.Proofs.Ytcamihbcfeengaa.backTimes
open Go.ChangeShapes Go.WideShapes Go.ChangeAt Go.RowKit
open Go.ChangeMaps (open_string shut_string)
set_option linter.unusedVariables false

theorem own : ownKnob Try.prog.godebug = none := by kernel_rfl
theorem laidOut : laidOutB Try.prog = true := by kernel_rfl

attribute [local go_sem] Oper.semAt_some
theorem cnt_in {f m t : Int} {many kk z : Nat} (h : Bk.cnt f m t many kk) (hg : Bk.good f m t) (hz : z < many) (hle : ∀ i, i ≤ z → Bk.tm f m t i ≤ 1099511627776) : z < kk := by
  obtain ⟨h1, h2, h3⟩ := h.1 hg
  rcases h3 with rfl | h3
  · exact hz
  · rcases Nat.lt_or_ge z kk with h' | h'
    · exact h'
    · have := hle kk h'; omega
theorem cnt_all {f m t : Int} {many kk k : Nat} (h : Bk.cnt f m t many kk) (ha : Bk.all f m t k) (hk : k ≤ many) : k = kk := by
  by_cases hg : Bk.good f m t
  · obtain ⟨h1, h2, h3⟩ := h.1 hg
    obtain ⟨h4, h5⟩ := ha.1 hg
    rcases Nat.lt_trichotomy k kk with h' | h' | h'
    · have := h2 k h'; omega
    · exact h'
    · have := h4 kk h'
      rcases h3 with h3 | h3 <;> omega
  · rw [h.2 hg, ha.2 hg]

set_option maxRecDepth 100000 in
set_option maxHeartbeats 2000000 in
theorem walk (v0 : Value) (s0 : (Int × Int)) (a1 : Int) (a2 : Int) (w : World) (w0 : IsTwo w v0 s0) (w1 : (Lit.int .i64 a1).wf = true) (w2 : (Lit.int .u8 a2).wf = true) :
    Calls Try.prog 4 #[v0, .int .i64 a1, .int .u8 a2] w fun e w' => e = .returned (.bool true) ∧ Below w.heap.size w w' := by
  obtain ⟨f, m⟩ := s0
  obtain ⟨rfl, hf, hm⟩ := w0
  obtain ⟨q0, q1⟩ := bounds_u8 w2
  obtain ⟨p0, p1⟩ := bounds_i64 w1
  dsimp only at hf hm ⊢
  clear w1 w2
  obtain ⟨q, hq, hq2⟩ : ∃ n : Nat, a2 % 100 = (n : Int) ∧ n ≤ 99 := ⟨(a2 % 100).toNat, by omega, by omega⟩
  refine (callsIn_wide (n := 6)).1 ?_
  refine callsIn_of_wp_marks Try.func4 rfl trivial ?_ rfl
  refine wpIn_wide.2 ?_
  simp only [Try.ntmps4, List.size_toArray, List.length_cons, List.length_nil, Nat.reduceAdd, Nat.reduceSub, Array.replicate_succ, Array.replicate_zero, List.push_toArray, List.append_toArray, List.nil_append, List.cons_append]
  go_wp2_with fail
  refine (awake_any _).mono ?_; rintro e w' ⟨rfl, rfl⟩
  go_wp2_with fail
  obtain ⟨w3, hw3⟩ : ∃ w3, ((w.alloc (.cells #[.int .i64 f, .int .i64 m] 27)).alloc (.cells #[.bool false] 4)).alloc (.cells #[.int .i64 (1 + (q : Int))] 3) = w3 := ⟨_, rfl⟩
  rw [hw3]
  have s3 : w3.heap.size = w.heap.size + 3 := by rw [← hw3]; simp
  have F6 : Boxed w3 (w.heap.size + 1) 4 (.bool false) := by
    rw [← hw3]; have := (Boxed.new (w.alloc (.cells #[.int .i64 f, .int .i64 m] 27)) 4 (.bool false)).alloc (.cells #[.int .i64 (1 + (q : Int))] 3); rwa [World.size_alloc] at this
  have F9 : Boxed w3 (w.heap.size + 1 + 1) 3 (.int .i64 (1 + (q : Int))) := by
    rw [← hw3]; have := (Boxed.new ((w.alloc (.cells #[.int .i64 f, .int .i64 m] 27)).alloc (.cells #[.bool false] 4)) 3 (.int .i64 (1 + (q : Int)))); rwa [World.size_alloc, World.size_alloc] at this
  have HB3 : Hid (Below w.heap.size w w3) := Lib.hid (by rw [← hw3]; exact (((Below.refl _ w).alloc (Nat.le_refl _) _).alloc (by simp) _).alloc (by simp; omega) _)
  have HF6 := Lib.hid F6; have HF9 := Lib.hid F9
  clear hw3 F6 F9
  refine (rTimes_k f m a1 _ (q + 1) _ (by omega) (by omega)).mono ?_
  rintro e W1 ⟨A, kk, c, rfl, hcnt, hown, hb1⟩
  have hs1 := hb1.size
  have HCNT := Lib.hid hcnt; clear hcnt
  have HO := Lib.hid hown; clear hown
  have HB1 := Lib.hid hb1; clear hb1
  go_wp2_with fail
  refine (Times_any f m a1 _).mono ?_; rintro e w' ⟨rfl, rfl⟩
  go_wp2
  obtain ⟨W0, hW0⟩ : ∃ W0, (((((W1.alloc (.cells #[.slice A kk c] 28)).alloc (.cells #[.int .i64 0] 3)).alloc (.cells #[.int .i64 f] 3)).alloc (.cells #[.int .i64 m] 3)).alloc (.cells #[.int .i64 a1] 3)) = W0 := ⟨_, rfl⟩
  rw [hW0]
  have hsz : W0.heap.size = W1.heap.size + 5 := by rw [← hW0]; simp
  have hB0 : Below W1.heap.size W1 W0 := by
    rw [← hW0]; exact (((((Below.refl _ W1).alloc (Nat.le_refl _) _).alloc (by simp) _).alloc (by simp; omega) _).alloc (by simp; omega) _).alloc (by simp; omega) _
  have G10 : Boxed W0 W1.heap.size 28 (.slice A kk c) := by rw [← hW0]; exact ((((Boxed.new W1 28 _).alloc _).alloc _).alloc _).alloc _
  have G11 : Boxed W0 (W1.heap.size + 1) 3 (.int .i64 0) := by
    rw [← hW0]; have := (((Boxed.new (W1.alloc (.cells #[.slice A kk c] 28)) 3 (.int .i64 0)).alloc (.cells #[.int .i64 f] 3)).alloc (.cells #[.int .i64 m] 3)).alloc (.cells #[.int .i64 a1] 3); rwa [World.size_alloc] at this
  have C1 : W0.cell? ⟨W1.heap.size + 1 + 1, 0, none⟩ = some (.int .i64 f) := by
    rw [← hW0]; have := (((Boxed.new ((W1.alloc (.cells #[.slice A kk c] 28)).alloc (.cells #[.int .i64 0] 3)) 3 (.int .i64 f)).alloc (.cells #[.int .i64 m] 3)).alloc (.cells #[.int .i64 a1] 3)).cell; rwa [World.size_alloc, World.size_alloc] at this
  have C2 : W0.cell? ⟨W1.heap.size + 1 + 1 + 1, 0, none⟩ = some (.int .i64 m) := by
    rw [← hW0]; have := ((Boxed.new (((W1.alloc (.cells #[.slice A kk c] 28)).alloc (.cells #[.int .i64 0] 3)).alloc (.cells #[.int .i64 f] 3)) 3 (.int .i64 m)).alloc (.cells #[.int .i64 a1] 3)).cell; rwa [World.size_alloc, World.size_alloc, World.size_alloc] at this
  have C3 : W0.cell? ⟨W1.heap.size + 1 + 1 + 2, 0, none⟩ = some (.int .i64 a1) := by
    rw [← hW0]; have := (Boxed.new ((((W1.alloc (.cells #[.slice A kk c] 28)).alloc (.cells #[.int .i64 0] 3)).alloc (.cells #[.int .i64 f] 3)).alloc (.cells #[.int .i64 m] 3)) 3 (.int .i64 a1)).cell; rwa [World.size_alloc, World.size_alloc, World.size_alloc, World.size_alloc] at this
  have G6 := Boxed.below (Boxed.below HF6.out HB1.out (by omega)) hB0 (by omega)
  have G9 := Boxed.below (Boxed.below HF9.out HB1.out (by omega)) hB0 (by omega)
  have HB0 := Lib.hid hB0
  have HBW : Hid (Below w.heap.size w W0) := Lib.hid ((HB3.out.trans (HB1.out.mono (by omega))).trans (hB0.mono (by omega)))
  clear hW0 HF6 HF9 HB3
  obtain ⟨gs, hgs⟩ : ∃ gs, gs = [W1.heap.size + 1 + 1, W1.heap.size + 1 + 1 + 1, W1.heap.size + 1 + 1 + 2] := ⟨_, rfl⟩
  have hlt : ∀ g ∈ gs, g < W0.heap.size := by subst hgs; intro g hg; simp at hg; omega
  have hne : W1.heap.size + 1 ∉ gs := by subst hgs; simp
  have hst := times_tells 5 (by omega) (W1.heap.size + 1 + 1) (W1.heap.size + 1 + 1 + 1) (W1.heap.size + 1 + 1 + 2) gs f m a1 W0 hlt C1 C2 C3 (by subst hgs; simp) (by subst hgs; simp) (by subst hgs; simp)
  clear hgs C1 C2 C3
  have HG6 := Lib.hid G6; have HG9 := Lib.hid G9; have HG10 := Lib.hid G10; have HG11 := Lib.hid G11
  clear G6 G9 G10 G11 hB0
  refine (wpIn_wide (n := 6)).1 ?_
  apply range_told (F := Fence.wide) (n := 6) (f := 18) (own := #[.pointer (some ⟨W1.heap.size + 1 + 1, 0, none⟩), .pointer (some ⟨W1.heap.size + 1 + 1 + 1, 0, none⟩), .pointer (some ⟨W1.heap.size + 1 + 1 + 2, 0, none⟩)]) ⟨rfl, by omega, trivial, enters_of Try.func18 (by kernel_rfl) rfl, hst⟩ rfl (Below.refl _ _) hlt (fun _ => rfl)
    (fun (pre : List Nat) W => Boxed W (W1.heap.size + 1) 3 (.int .i64 (pre.length : Nat)) ∧ W0.grownBy W (some (W1.heap.size + 1)) ∧ pre.length < q + 1)
    (fun c (pre : List Nat) W => c = .exit 0 ∧ Boxed W (W1.heap.size + 1) 3 (.int .i64 (pre.length : Nat)) ∧ W0.grownBy W (some (W1.heap.size + 1)) ∧ pre.length = kk)
    ⟨(fun s X Y row hs hg hr => ⟨hs.1.kept hg (fun e => by have := (hr _ e.symm).1; omega), grown_then hs.2.1 hg (fun r e => (hr r e).1), hs.2.2⟩),
    (fun c s X Y row hs hg hr => ⟨hs.1, hs.2.1.kept hg (fun e => by have := (hr _ e.symm).1; omega), grown_then hs.2.2.1 hg (fun r e => (hr r e).1), hs.2.2.2⟩),
    (fun pre x s X Y row hs hg hr => hs)⟩
    ⟨HG11.out, World.grownBy.refl _ _, by simp⟩
  case hassign =>
    intro l x W K hK
    simp only [encT]
    gi_wp2
    exact hK
  case hbody =>
    rintro l pre z W hWs ⟨bx, hg, hlen⟩ ⟨hgood, hpre, htm⟩
    have hz : pre.length = z := by rw [hpre]; simp
    rw [hz] at bx hlen
    have hzk : z < kk := cnt_in HCNT.out hgood hlen htm
    have hkm : kk ≤ q + 1 := ((HCNT.out.1 hgood).1)
    have hce : W.cell? ⟨W1.heap.size + 1, 0, none⟩ = some (.int .i64 (z : Int)) := bx.cell
    have hfr := bx.frozen
    have hc9 := (grown_box hg HG9.out (by omega)).cell
    have hc10 := (grown_box hg HG10.out (by omega)).cell
    obtain ⟨ga, rfl, hga1, hga2, hca⟩ := own_cell HO.out hzk
    rw [Bk.Ts_at f m a1 kk z hzk] at hca
    have hc := grown_cell hg ((HB0.out.cell (p := ⟨ga, z, none⟩) hga2).trans hca) (by show ga ≠ _; omega)
    clear hca
    dsimp only
    generalize Bk.tm f m a1 z = x at *
    have t1 : (x != x) = false := by simp
    have t2 : ((z : Int) != (z : Int)) = false := by simp
    have t3 : decide ((kk : Int) ≤ (z : Int)) = false := by simp; omega
    have BX := Lib.hid bx; have HG := Lib.hid hg; have HZ := Lib.hid hz; have HT := Lib.hid htm
    clear bx hg hpre htm hz
    have hl2 : Hid ((pre ++ [z]).length = z + 1) := Lib.hid (by simp; exact HZ.out)
    by_cases hq1 : z = q
    · have t4 : ((z : Int) + 1 == 1 + (q : Int)) = true := by simp; omega
      have hk2 : z + 1 = kk := by omega
      have HK2 := Lib.hid hk2
      clear hq1 hk2 hkm
      gi_wp2
      exact ⟨Kept.set (by omega) hne _, rfl, by have := BX.out.set (.int .i64 ((z : Int) + 1)); rw [hl2.out]; exact this, grown_set HG.out _, by rw [hl2.out]; exact HK2.out⟩
    · have t4 : ((z : Int) + 1 == 1 + (q : Int)) = false := by simp; omega
      gi_wp2
      exact ⟨Kept.set (by omega) hne _, by have := BX.out.set (.int .i64 ((z : Int) + 1)); rw [hl2.out]; exact this, grown_set HG.out _, by rw [hl2.out]; omega⟩
  case hstop =>
    rintro D c pre W hD hsp ⟨rfl, bx, hg, hlen⟩ hK
    rw [hlen] at bx
    have bx6 := grown_box hg HG6.out (by omega)
    have hce := bx.cell
    have hc6 := bx6.cell
    have hf6 := bx6.frozen
    have hc10 := (grown_box hg HG10.out (by omega)).cell
    have t1 : ((kk : Int) == (kk : Int)) = true := by simp
    have HBWW : Hid (Below w.heap.size w W) := Lib.hid (HBW.out.grown hg (by omega) (fun g e => by injection e; omega))
    have HK := Lib.hid hK
    clear hK hg bx bx6 hsp hlen
    refine (wpIn_wide (n := 6)).2 ?_
    go_wp2
    have hKe : (W.setCell ⟨w.heap.size + 1, 0, none⟩ (.bool true)).heap[D]? = some (.deferred (some [])) := (KeepsOthers.setCell W ⟨w.heap.size + 1, 0, none⟩ (.bool true)).same D _ HK.out rfl
    refine ⟨by simp, .inl ⟨_, _, rfl, run_takeDeferred hKe, ?_⟩⟩
    have hc5 := cell_kept (World.cell?_setCell_same' W ⟨w.heap.size + 1, 0, none⟩ (.bool true) (by rw [hc6]; rfl)) (grownBy_putObj' _ D (.deferred none)) (fun r e => by cases e; exact ⟨_, hKe, rfl⟩)
    exact ⟨.bool true, by simp [results, Try.results4, go_sem, hc5], rfl, (HBWW.out.setCell (p := ⟨w.heap.size + 1, 0, none⟩) (Nat.le_succ _) _).trans (belowK_b (w := w) (Nat.le_refl _) _ D _ _ (by omega) hKe rfl rfl)⟩
  case hdone =>
    rintro D xs W hD ⟨k, rfl, hall⟩ ⟨bx, hg, hlen⟩ hK
    rw [List.length_range] at bx hlen
    obtain rfl := cnt_all HCNT.out hall (by omega)
    have bx6 := grown_box hg HG6.out (by omega)
    have hce := bx.cell
    have hc6 := bx6.cell
    have hf6 := bx6.frozen
    have hc10 := (grown_box hg HG10.out (by omega)).cell
    have t1 : ((k : Int) == (k : Int)) = true := by simp
    have HBWW : Hid (Below w.heap.size w W) := Lib.hid (HBW.out.grown hg (by omega) (fun g e => by injection e; omega))
    have HK := Lib.hid hK
    clear hK hg bx bx6 hall hlen
    go_wp2
    have hKe : (W.setCell ⟨w.heap.size + 1, 0, none⟩ (.bool true)).heap[D]? = some (.deferred (some [])) := (KeepsOthers.setCell W ⟨w.heap.size + 1, 0, none⟩ (.bool true)).same D _ HK.out rfl
    refine ⟨by simp, .inl ⟨_, _, rfl, run_takeDeferred hKe, ?_⟩⟩
    have hc5 := cell_kept (World.cell?_setCell_same' W ⟨w.heap.size + 1, 0, none⟩ (.bool true) (by rw [hc6]; rfl)) (grownBy_putObj' _ D (.deferred none)) (fun r e => by cases e; exact ⟨_, hKe, rfl⟩)
    exact ⟨.bool true, by simp [results, Try.results4, go_sem, hc5], rfl, (HBWW.out.setCell (p := ⟨w.heap.size + 1, 0, none⟩) (Nat.le_succ _) _).trans (belowK_b (w := w) (Nat.le_refl _) _ D _ _ (by omega) hKe rfl rfl)⟩

/-! ### THE ROW's STEP: WRITTEN OUT: LEAVE IT -/
set_option maxRecDepth 100000 in
theorem lifted (os : Os) (started : os.Started) (H : Type) (enc : TypeId × Value → H) :
    ReturnsInHanded {} Try.checked os 4 .any (Rows.backTimesSpec.pre6 enc Try.prog Try.f4 Rows.backTimesRow.domain false) (Rows.backTimesSpec.post enc Try.prog Try.f4 false true false false) := by
  refine returnsInHanded_of_change (C := Try.checked) own started (by kernel_rfl) Try.func4
    (ChangeSpec.witness6 (enc := enc) (C := Try.checked) false ⟨#[], #[.agg #[.int .i64 0, .int .i64 0], .int .i64 0, .int .u8 0], []⟩ 8 (by kernel_rfl) (by kernel_rfl) (by kernel_rfl) (by kernel_rfl)) ?_
  intro W base args ds gs before hval0 hW hcnd _
  have hval : ∀ (j : Nat) t v, Try.f4.params[j]? = some t → args[j]? = some v → Value.okWide Try.prog W .any base t v := hval0
  have hW' := hW
  obtain ⟨p, q, hA0, hV, rfl, hfz, hnd⟩ := hW
  have hA : DataW.TrodAll enc Try.prog W 0 (fun _ => true) true Try.f4.params.toList args.toList ds p := hA0
  rw [Try.params4] at hA hval
  obtain ⟨v0, vs0, d0, ds0, p0, q0, hargs, rfl, rfl, h0, r0⟩ := trodAll_cons hA
  obtain ⟨v1, vs1, d1, ds1, p1, q1, rfl, rfl, rfl, h1, r1⟩ := trodAll_cons r0
  obtain ⟨v2, vs2, d2, ds2, p2, q2, rfl, rfl, rfl, h2, r2⟩ := trodAll_cons r1
  obtain ⟨rfl, rfl, rfl⟩ := trodAll_nil r2
  obtain rfl : args = #[v0, v1, v2] := by cases args; simp_all
  obtain ⟨rfl, rfl⟩ := trodVars_none hV
  have k0 := h0
  have lt0 : ∀ x ∈ p0, x.block < W.heap.size := by obtain ⟨m, hm⟩ := k0; exact DataW.trod_lt m _ _ _ hm
  obtain ⟨s0, w0⟩ := open_two (hval 0 27 v0 rfl rfl) h0
  obtain ⟨a1, rfl, rfl, rfl, w1⟩ := open_int Try.underlying3 (hval 1 3 v1 rfl rfl) h1
  obtain ⟨a2, rfl, rfl, rfl, w2⟩ := open_int Try.underlying5 (hval 2 5 v2 rfl rfl) h2
  clear hA0 hval0
  refine (walk v0 s0 a1 a2 W w0 w1 w2).mono fun e W' ⟨he, bel⟩ => ?_
  subst he
  exact ⟨_, rfl, _, _, _, [], _, [], hW', trodAll_mk1 (shut_bool Try.underlying4 _), (trodAll_cons_mk (Below.trod laidOut (by kernel_rfl) (of_decide_eq_true (by kernel_rfl)) k0 bel lt0) (trodAll_cons_mk (shut_int Try.underlying3 w1) (trodAll_cons_mk (shut_int Try.underlying5 w2) trodAll_mk0))), rfl, bel.frame _, fun h => by cases h⟩

theorem over : Rows.backTimesRow.holds Try.pinned (OpenSpec.ofChange Rows.backTimesSpec) :=
  OpenClaim.holds_of_wide 4 Try.f4 rfl rfl rfl rfl rfl rfl rfl ⟨rfl, rfl, rfl, rfl, rfl⟩ rfl rfl rfl rfl rfl (by kernel_rfl) Try.func4 (by kernel_rfl)
    (of_decide_eq_true (by kernel_rfl)) (by unfold Func.isWrapper; first | (rw [if_pos (by decide +kernel)]; kernel_rfl) | (rw [if_neg (by decide +kernel)]; exact ⟨rfl, rfl⟩))
    (fun os started H enc _ => lifted os started H enc)

/-- ████ THE STATEMENT ████ -/
theorem proved : Rows.BackTimesSaid := over
#print axioms proved
end Go.Proofs.Ytcamihbcfeengaa.backTimes
