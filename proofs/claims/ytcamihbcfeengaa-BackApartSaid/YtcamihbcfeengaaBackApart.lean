/-
  The statement BackApart holds: times are apart by the waits, the first one from where it begins; they end by the greatest time. Conditions: none beyond the row's own.
-/
import Derived.Test.YtcamihbcfeengaaTwoIn
import Derived.Test.YtcamihbcfeengaaRows
import Derived.WalkKit
import Derived.ProofKit
import Derived.OpenShut
import Derived.ShutString
import Derived.ChangeOld
import Derived.Below
namespace Go.Proofs.Ytcamihbcfeengaa.backApart
open Go.ChangeShapes Go.WideShapes Go.ChangeAt Go.RowKit
open Go.ChangeMaps (open_string shut_string)
set_option linter.unusedVariables false

theorem own : ownKnob Try.prog.godebug = none := by kernel_rfl
theorem laidOut : laidOutB Try.prog = true := by kernel_rfl

attribute [local go_sem] Oper.semAt_some
/-- these blocks alone were turned, and new ones laid -/
structure But (bs : List Nat) (A W : World) : Prop where
  os : W.os = A.os
  tape : W.tape = A.tape
  output : W.output = A.output
  size : A.heap.size ≤ W.heap.size
  block : ∀ k, k < A.heap.size → k ∉ bs → W.heap[k]? = A.heap[k]?
theorem But.refl (bs : List Nat) (A : World) : But bs A A := ⟨rfl, rfl, rfl, Nat.le_refl _, fun _ _ _ => rfl⟩
theorem But.set {bs : List Nat} {A W : World} (h : But bs A W) {b : Nat} (hb : b ∈ bs) (v : Value) : But bs A (W.setCell ⟨b, 0, none⟩ v) :=
  ⟨h.os, h.tape, h.output, by have := h.size; simp; omega, fun k hk hne => (heap_setCell_other W ⟨b, 0, none⟩ k v (fun e => hne (by rw [e]; exact hb))).trans (h.block k hk hne)⟩
theorem But.grown {bs : List Nat} {A W W' : World} {row : Option Nat} (h : But bs A W) (hg : W.grownBy W' row) (hr : ∀ r, row = some r → A.heap.size ≤ r) : But bs A W' :=
  ⟨hg.os.trans h.os, hg.tape.trans h.tape, hg.output.trans h.output, Nat.le_trans h.size hg.size, fun k hk hne =>
    (hg.block k (Nat.lt_of_lt_of_le hk h.size) (fun e => by have := hr k e.symm; omega)).trans (h.block k hk hne)⟩
theorem But.box {bs : List Nat} {A W : World} {b t : Nat} {v : Value} (h : But bs A W) (hc : Boxed A b t v) (hb : b ∉ bs) : Boxed W b t v := (h.block b hc.lt hb).trans hc
theorem But.at {bs : List Nat} {A W : World} {a : Addr} {v : Value} (h : But bs A W) (hc : A.cell? a = some v) (hb : a.block ∉ bs) : W.cell? a = some v :=
  (World.cell?_of_block (w := A) (h.block a.block (lt_of_cell hc) hb)).trans hc
theorem But.below {bs : List Nat} {w A W : World} (h : But bs A W) (hb : Below w.heap.size w A) (hbs : ∀ b ∈ bs, w.heap.size ≤ b) : Below w.heap.size w W :=
  ⟨h.os.trans hb.os, h.tape.trans hb.tape, h.output.trans hb.output, Nat.le_trans hb.size h.size, fun k hk => (h.block k (Nat.lt_of_lt_of_le hk hb.size) (fun hm => by have := hbs k hm; omega)).trans (hb.block k hk)⟩
theorem kept_set {gs : List Nat} {B b : Nat} {W W' : World} {t : Bool} (h : Kept gs t B W W') (hb : b < B) (hgs : b ∉ gs) (v : Value) : Kept gs t B W (W'.setCell ⟨b, 0, none⟩ v) := h.trans (Kept.set hb hgs v)

theorem box_other {W : World} {B b t : Nat} {u : Value} (h : Boxed W B t u) (hne : B ≠ b) (v : Value) : Boxed (W.setCell ⟨b, 0, none⟩ v) B t u := (heap_setCell_other W ⟨b, 0, none⟩ B v (fun e => hne (by rw [e]))).trans h
theorem good_wait {f m t : Int} (hg : Bk.good f m t) (z : Nat) : Bk.wc f m z = 0 ∧ 0 ≤ Bk.wv f m z ∧ Bk.tm f m t z = (t + (Bk.S f.toNat m.toNat z : Nat)) + Bk.wv f m z := by
  have hp := hg.1
  unfold Bk.wc Bk.wv Bk.tm
  rw [if_pos ⟨hp, by omega⟩, if_pos ⟨hp, by omega⟩, Bk.S]
  simp only [Int.toNat_natCast]
  refine ⟨trivial, by omega, by omega⟩
theorem bad_wait {f m t : Int} (hg : ¬ Bk.good f m t) (ht : 0 ≤ t ∧ t ≤ 1099511627776) : Bk.wc f m 0 = 1 := by
  have hp : ¬ Bk.plan f m = true := fun h => hg ⟨h, (Bk.time_iff t).2 ht⟩
  unfold Bk.wc
  rw [if_neg (fun h => hp h.1)]

set_option maxRecDepth 100000 in
set_option maxHeartbeats 2000000 in
theorem walk (v0 : Value) (s0 : (Int × Int)) (a1 : Int) (w : World) (w0 : IsTwo w v0 s0) (w1 : (Lit.int .i64 a1).wf = true) :
    Calls Try.prog 6 #[v0, .int .i64 a1] w fun e w' => e = .returned (.bool true) ∧ Below w.heap.size w w' := by
  obtain ⟨f, m⟩ := s0
  obtain ⟨rfl, hf, hm⟩ := w0
  obtain ⟨p0, p1⟩ := bounds_i64 w1
  dsimp only at hf hm ⊢
  clear w1
  refine (callsIn_wide (n := 6)).1 ?_
  refine callsIn_of_wp_marks Try.func6 rfl trivial ?_ rfl
  refine wpIn_wide.2 ?_
  simp only [Try.ntmps6, List.size_toArray, List.length_cons, List.length_nil, Nat.reduceAdd, Nat.reduceSub, Array.replicate_succ, Array.replicate_zero, List.push_toArray, List.append_toArray, List.nil_append, List.cons_append]
  go_wp2_with fail
  refine (awake_any _).mono ?_; rintro e w' ⟨rfl, rfl⟩
  by_cases hin : ¬ 1099511627776 < m ∧ ¬ a1 < 0 ∧ ¬ 1099511627776 < a1
  · obtain ⟨i1, i2, i3⟩ := hin
    go_wp2_with fail
    refine (Times_any f m a1 _).mono ?_; rintro e w' ⟨rfl, rfl⟩
    go_wp2
    have F4 : Boxed ((w.alloc (.cells #[.int .i64 f, .int .i64 m] 27)).alloc (.cells #[.bool false] 4)) (w.heap.size + 1) 4 (.bool false) := by
      have := (Boxed.new (w.alloc (.cells #[.int .i64 f, .int .i64 m] 27)) 4 (.bool false)); rwa [World.size_alloc] at this
    have D0 : ((w.alloc (.cells #[.int .i64 f, .int .i64 m] 27)).alloc (.cells #[.bool false] 4)).cell? ⟨w.heap.size, 0, none⟩ = some (.int .i64 f) := by go_simp
    have D1 : ((w.alloc (.cells #[.int .i64 f, .int .i64 m] 27)).alloc (.cells #[.bool false] 4)).cell? ⟨w.heap.size, 1, none⟩ = some (.int .i64 m) := by go_simp
    obtain ⟨W2, hW2⟩ : ∃ W2, (w.alloc (.cells #[.int .i64 f, .int .i64 m] 27)).alloc (.cells #[.bool false] 4) = W2 := ⟨_, rfl⟩
    have s2 : W2.heap.size = w.heap.size + 2 := by rw [← hW2]; simp
    have HB2 : Hid (Below w.heap.size w W2) := Lib.hid (by rw [← hW2]; exact ((Below.refl _ w).alloc (Nat.le_refl _) _).alloc (by simp) _)
    rw [hW2] at F4 D0 D1 ⊢
    clear hW2
    obtain ⟨W0, hW0⟩ : ∃ W0, (((((W2.alloc (.cells #[.int .i64 a1] 3)).alloc (.cells #[.int .i64 0] 3)).alloc (.cells #[.int .i64 f] 3)).alloc (.cells #[.int .i64 m] 3)).alloc (.cells #[.int .i64 a1] 3)) = W0 := ⟨_, rfl⟩
    rw [hW0]
    have hsz : W0.heap.size = w.heap.size + 7 := by rw [← hW0]; simp; omega
    have hB0 : Below W2.heap.size W2 W0 := by
      rw [← hW0]; exact (((((Below.refl _ W2).alloc (Nat.le_refl _) _).alloc (by simp) _).alloc (by simp; omega) _).alloc (by simp; omega) _).alloc (by simp; omega) _
    have e1 : w.heap.size + 1 + 1 = W2.heap.size := by omega
    have GL : Boxed W0 (w.heap.size + 1 + 1) 3 (.int .i64 a1) := by rw [← hW0, e1]; exact ((((Boxed.new W2 3 _).alloc _).alloc _).alloc _).alloc _
    have GN : Boxed W0 (w.heap.size + 1 + 1 + 1) 3 (.int .i64 0) := by
      rw [← hW0, e1]; have := (((Boxed.new (W2.alloc (.cells #[.int .i64 a1] 3)) 3 (.int .i64 0)).alloc (.cells #[.int .i64 f] 3)).alloc (.cells #[.int .i64 m] 3)).alloc (.cells #[.int .i64 a1] 3); rwa [World.size_alloc] at this
    have C1 : W0.cell? ⟨w.heap.size + 1 + 1 + 1 + 1, 0, none⟩ = some (.int .i64 f) := by
      rw [← hW0, e1]; have := (((Boxed.new ((W2.alloc (.cells #[.int .i64 a1] 3)).alloc (.cells #[.int .i64 0] 3)) 3 (.int .i64 f)).alloc (.cells #[.int .i64 m] 3)).alloc (.cells #[.int .i64 a1] 3)).cell; rwa [World.size_alloc, World.size_alloc] at this
    have C2 : W0.cell? ⟨w.heap.size + 1 + 1 + 1 + 1 + 1, 0, none⟩ = some (.int .i64 m) := by
      rw [← hW0, e1]; have := ((Boxed.new (((W2.alloc (.cells #[.int .i64 a1] 3)).alloc (.cells #[.int .i64 0] 3)).alloc (.cells #[.int .i64 f] 3)) 3 (.int .i64 m)).alloc (.cells #[.int .i64 a1] 3)).cell; rwa [World.size_alloc, World.size_alloc, World.size_alloc] at this
    have C3 : W0.cell? ⟨w.heap.size + 1 + 1 + 1 + 1 + 2, 0, none⟩ = some (.int .i64 a1) := by
      rw [← hW0, e1]; have := (Boxed.new ((((W2.alloc (.cells #[.int .i64 a1] 3)).alloc (.cells #[.int .i64 0] 3)).alloc (.cells #[.int .i64 f] 3)).alloc (.cells #[.int .i64 m] 3)) 3 (.int .i64 a1)).cell; rwa [World.size_alloc, World.size_alloc, World.size_alloc, World.size_alloc] at this
    have G4 : Boxed W0 (w.heap.size + 1) 4 (.bool false) := Boxed.below F4 hB0 (by omega)
    have E0 := (hB0.cell (p := ⟨w.heap.size, 0, none⟩) (by show w.heap.size < _; omega)).trans D0
    have E1 := (hB0.cell (p := ⟨w.heap.size, 1, none⟩) (by show w.heap.size < _; omega)).trans D1
    have HBW : Hid (Below w.heap.size w W0) := Lib.hid (HB2.out.trans (hB0.mono (by omega)))
    clear hW0 HB2 F4 D0 D1 hB0 e1
    obtain ⟨gs, hgs⟩ : ∃ gs, gs = [w.heap.size + 1 + 1 + 1 + 1, w.heap.size + 1 + 1 + 1 + 1 + 1, w.heap.size + 1 + 1 + 1 + 1 + 2] := ⟨_, rfl⟩
    have hlt : ∀ g ∈ gs, g < W0.heap.size := by subst hgs; intro g hg; simp at hg; omega
    have hne1 : w.heap.size + 1 ∉ gs := by subst hgs; simp
    have hne2 : w.heap.size + 1 + 1 ∉ gs := by subst hgs; simp
    have hne3 : w.heap.size + 1 + 1 + 1 ∉ gs := by subst hgs; simp
    have hst := times_tells 5 (by omega) (w.heap.size + 1 + 1 + 1 + 1) (w.heap.size + 1 + 1 + 1 + 1 + 1) (w.heap.size + 1 + 1 + 1 + 1 + 2) gs f m a1 W0 hlt C1 C2 C3 (by subst hgs; simp) (by subst hgs; simp) (by subst hgs; simp)
    clear hgs C1 C2 C3
    obtain ⟨bs, hbs⟩ : ∃ bs, bs = [w.heap.size + 1, w.heap.size + 1 + 1, w.heap.size + 1 + 1 + 1] := ⟨_, rfl⟩
    have hb1 : w.heap.size + 1 ∈ bs := by subst hbs; simp
    have hb2 : w.heap.size + 1 + 1 ∈ bs := by subst hbs; simp
    have hb3 : w.heap.size + 1 + 1 + 1 ∈ bs := by subst hbs; simp
    have hb0 : w.heap.size ∉ bs := by subst hbs; simp; omega
    have HBS : Hid (∀ b ∈ bs, w.heap.size ≤ b ∧ b < W0.heap.size) := Lib.hid (by subst hbs; intro b hb; simp at hb; omega)
    clear hbs
    have HG4 := Lib.hid G4; have HGL := Lib.hid GL; have HGN := Lib.hid GN; have HE0 := Lib.hid E0; have HE1 := Lib.hid E1
    clear G4 GL GN E0 E1
    refine (wpIn_wide (n := 6)).1 ?_
    apply range_told (F := Fence.wide) (n := 6) (f := 18) (own := #[.pointer (some ⟨w.heap.size + 1 + 1 + 1 + 1, 0, none⟩), .pointer (some ⟨w.heap.size + 1 + 1 + 1 + 1 + 1, 0, none⟩), .pointer (some ⟨w.heap.size + 1 + 1 + 1 + 1 + 2, 0, none⟩)]) ⟨rfl, by omega, trivial, enters_of Try.func18 (by kernel_rfl) rfl, hst⟩ rfl (Below.refl _ _) hlt (fun _ => rfl)
      (fun (pre : List Nat) W => (Boxed W (w.heap.size + 1) 4 (.bool false) ∧ Boxed W (w.heap.size + 1 + 1) 3 (.int .i64 (a1 + (Bk.S f.toNat m.toNat pre.length : Nat))) ∧ Boxed W (w.heap.size + 1 + 1 + 1) 3 (.int .i64 (pre.length : Nat))) ∧ But bs W0 W ∧ pre.length < 100 ∧ (0 ≤ a1 + (Bk.S f.toNat m.toNat pre.length : Nat) ∧ a1 + (Bk.S f.toNat m.toNat pre.length : Nat) ≤ 1099511627776))
      (fun c (_ : List Nat) W => c = .ret ∧ Boxed W (w.heap.size + 1) 4 (.bool true) ∧ But bs W0 W)
      ⟨(fun s X Y row hs hg hr => ⟨⟨hs.1.1.kept hg (fun e => by have := (hr _ e.symm).1; omega), hs.1.2.1.kept hg (fun e => by have := (hr _ e.symm).1; omega), hs.1.2.2.kept hg (fun e => by have := (hr _ e.symm).1; omega)⟩, hs.2.1.grown hg (fun r e => (hr r e).1), hs.2.2⟩),
      (fun c s X Y row hs hg hr => ⟨hs.1, hs.2.1.kept hg (fun e => by have := (hr _ e.symm).1; omega), hs.2.2.grown hg (fun r e => (hr r e).1)⟩),
      (fun pre x s X Y row hs hg hr => hs)⟩
      ⟨⟨HG4.out, by simpa [Bk.S] using HGL.out, HGN.out⟩, But.refl _ _, by simp, by simp [Bk.S]; omega⟩
    case hassign =>
      intro l x W K hK
      simp only [encT]
      gi_wp2
      exact hK
    case hbody =>
      rintro l pre z W hWs ⟨⟨bx4, bxl, bxn⟩, hbut, hlen, hl0, hl1⟩ ⟨hgood, hpre, htm⟩
      have hz : pre.length = z := by rw [hpre]; simp
      rw [hz] at bxl bxn hlen hl0 hl1
      obtain ⟨hw1, hw2, hw3⟩ := good_wait hgood z
      have htz := htm z (Nat.le_refl _)
      have hl2 : Hid ((pre ++ [z]).length = z + 1) := Lib.hid (by simp; exact hz)
      have htz2 : Hid (a1 + (Bk.S f.toNat m.toNat (z + 1) : Nat) = Bk.tm f m a1 z) := Lib.hid rfl
      have c4 := bx4.cell
      have f4 := bx4.frozen
      have cl := bxl.cell
      have fl := bxl.frozen
      have cn := bxn.cell
      have fn := bxn.frozen
      have c0 := hbut.at HE0.out hb0
      have c1 := hbut.at HE1.out hb0
      dsimp only
      have HWA : Hid (∀ W, Calls Try.prog 9 #[.int .i64 f, .int .i64 m, .int .i64 (z : Int)] W fun e w' => e = .returned (.tuple #[.int .i64 (Bk.wv f m z), .int .i64 0]) ∧ W = w') := Lib.hid (fun W => by
        have := Wait_any f m z W (by omega); rw [hw1] at this; exact this)
      have BXL := Lib.hid bxl; have BXN := Lib.hid bxn; have BX4 := Lib.hid bx4; have HBT := Lib.hid hbut
      clear hw1 hgood hpre htm hz bx4 bxl bxn hbut
      generalize Bk.wv f m z = y at *
      generalize Bk.tm f m a1 z = x at *
      generalize a1 + (Bk.S f.toNat m.toNat z : Nat) = L at *
      subst hw3
      have t1 : (L + y != L + y) = false := by simp
      have t2 : ((z : Int) != (z : Int)) = false := by simp
      by_cases hq1 : z = 99
      · have t4 : ((z : Int) + 1 == 100) = true := by simp; omega
        clear hq1
        gi_wp2_with (refine ⟨trivial, ?_⟩; gi_at_call 9; refine (CallsIn.inRound l (callsIn_wide.2 (HWA.out _))).mono ?_; rintro e w' ⟨rfl, rfl⟩)
        exact ⟨kept_set (kept_set (Kept.set (by omega) hne2 _) (by omega) hne3 _) (by omega) hne1 _, rfl, (box_other (box_other BX4.out (by omega) _) (by omega) _).set (.bool true), ((HBT.out.set hb2 _).set hb3 _).set hb1 _⟩
      · have t4 : ((z : Int) + 1 == 100) = false := by simp; omega
        gi_wp2_with (refine ⟨trivial, ?_⟩; gi_at_call 9; refine (CallsIn.inRound l (callsIn_wide.2 (HWA.out _))).mono ?_; rintro e w' ⟨rfl, rfl⟩)
        exact ⟨kept_set (Kept.set (by omega) hne2 _) (by omega) hne3 _, ⟨box_other (box_other BX4.out (by omega) _) (by omega) _, by rw [hl2.out, htz2.out]; exact box_other (b := w.heap.size + 1 + 1 + 1) (BXL.out.set (.int .i64 (L + y))) (by omega) _, by have := (box_other (b := w.heap.size + 1 + 1) BXN.out (by omega) (.int .i64 (L + y))).set (.int .i64 ((z : Int) + 1)); rw [hl2.out]; exact this⟩, (HBT.out.set hb2 _).set hb3 _, by rw [hl2.out]; omega, by rw [hl2.out, htz2.out]; omega⟩
    case hstop =>
      rintro D c pre W hD hsp ⟨rfl, bx, hg⟩ hK
      have hc5 := cell_kept bx.cell (grownBy_putObj' W D (.deferred none)) (fun r e => by cases e; exact ⟨_, hK, rfl⟩)
      have HBWW := hg.below HBW.out (fun b hb => (HBS.out b hb).1)
      refine (wpIn_wide (n := 6)).2 ?_
      have HK := Lib.hid hK
      clear hK hg bx hsp
      go_wp2
      refine ⟨by simp, .inl ⟨_, _, rfl, run_takeDeferred HK.out, ?_⟩⟩
      exact ⟨.bool true, by simp [results, Try.results6, go_sem, hc5], rfl, HBWW.trans (belowK_b (w := w) (Nat.le_refl _) _ D _ _ (by omega) HK.out rfl rfl)⟩
    case hdone =>
      rintro D xs W hD ⟨k, rfl, hall⟩ ⟨⟨bx4, bxl, bxn⟩, hbut, hlen, hl0, hl1⟩ hK
      rw [List.length_range] at bxl bxn hlen hl0 hl1
      have c4 := bx4.cell
      have f4 := bx4.frozen
      have cl := bxl.cell
      have cn := bxn.cell
      have c0 := hbut.at HE0.out hb0
      have c1 := hbut.at HE1.out hb0
      have HBWW := Lib.hid (hbut.below HBW.out (fun b hb => (HBS.out b hb).1))
      have HK := Lib.hid hK
      clear hK hbut bx4 bxl bxn
      by_cases hg : Bk.good f m a1
      · obtain ⟨hw1, hw2, hw3⟩ := good_wait hg k
        have hmax := (hall.1 hg).2
        have hyk : Bk.wv f m k ≤ 1099511627776 := by
          have h1 := wait_cases f m k
          rw [hw1] at h1
          omega
        have HWA : Hid (∀ W, Calls Try.prog 9 #[.int .i64 f, .int .i64 m, .int .i64 (k : Int)] W fun e w' => e = .returned (.tuple #[.int .i64 (Bk.wv f m k), .int .i64 0]) ∧ W = w') := Lib.hid (fun W => by
          have := Wait_any f m k W (by omega); rw [hw1] at this; exact this)
        clear hw1 hg hall
        generalize Bk.wv f m k = y at *
        generalize Bk.tm f m a1 k = x at *
        generalize a1 + (Bk.S f.toNat m.toNat k : Nat) = L at *
        subst hw3
        go_wp2_with (go_at_call 9; refine (HWA.out _).mono ?_; rintro e w' ⟨rfl, rfl⟩)
        have hKe : (W.setCell ⟨w.heap.size + 1, 0, none⟩ (.bool true)).heap[D]? = some (.deferred (some [])) := (KeepsOthers.setCell W ⟨w.heap.size + 1, 0, none⟩ (.bool true)).same D _ HK.out rfl
        refine ⟨by simp, .inl ⟨_, _, rfl, run_takeDeferred hKe, ?_⟩⟩
        have hc5 := cell_kept (World.cell?_setCell_same' W ⟨w.heap.size + 1, 0, none⟩ (.bool true) (by rw [c4]; rfl)) (grownBy_putObj' _ D (.deferred none)) (fun r e => by cases e; exact ⟨_, hKe, rfl⟩)
        exact ⟨.bool true, by simp [results, Try.results6, go_sem, hc5], rfl, (HBWW.out.setCell (p := ⟨w.heap.size + 1, 0, none⟩) (Nat.le_succ _) _).trans (belowK_b (w := w) (Nat.le_refl _) _ D _ _ (by omega) hKe rfl rfl)⟩
      · have hk0 : k = 0 := hall.2 hg
        subst hk0
        have hw1 := bad_wait hg ⟨by omega, by omega⟩
        have HWA : Hid (∀ W, Calls Try.prog 9 #[.int .i64 f, .int .i64 m, .int .i64 0] W fun e w' => e = .returned (.tuple #[.int .i64 (Bk.wv f m 0), .int .i64 1]) ∧ W = w') := Lib.hid (fun W => by
          have := Wait_any f m 0 W (by omega); rw [hw1] at this; exact this)
        clear hw1 hg hall
        generalize Bk.wv f m 0 = y at *
        go_wp2_with (go_at_call 9; refine (HWA.out _).mono ?_; rintro e w' ⟨rfl, rfl⟩)
        have hKe : (W.setCell ⟨w.heap.size + 1, 0, none⟩ (.bool true)).heap[D]? = some (.deferred (some [])) := (KeepsOthers.setCell W ⟨w.heap.size + 1, 0, none⟩ (.bool true)).same D _ HK.out rfl
        refine ⟨by simp, .inl ⟨_, _, rfl, run_takeDeferred hKe, ?_⟩⟩
        have hc5 := cell_kept (World.cell?_setCell_same' W ⟨w.heap.size + 1, 0, none⟩ (.bool true) (by rw [c4]; rfl)) (grownBy_putObj' _ D (.deferred none)) (fun r e => by cases e; exact ⟨_, hKe, rfl⟩)
        exact ⟨.bool true, by simp [results, Try.results6, go_sem, hc5], rfl, (HBWW.out.setCell (p := ⟨w.heap.size + 1, 0, none⟩) (Nat.le_succ _) _).trans (belowK_b (w := w) (Nat.le_refl _) _ D _ _ (by omega) hKe rfl rfl)⟩
  · go_wp2
    all_goals exact ⟨.bool true, by simp [results, Try.results6, go_sem], rfl, ((Below.refl _ w).alloc (Nat.le_refl _) _).alloc (by simp) _⟩

/-! ### THE ROW's STEP: WRITTEN OUT: LEAVE IT -/
set_option maxRecDepth 100000 in
theorem lifted (os : Os) (started : os.Started) (H : Type) (enc : TypeId × Value → H) :
    ReturnsInHanded {} Try.checked os 6 .any (Rows.backApartSpec.pre6 enc Try.prog Try.f6 Rows.backApartRow.domain false) (Rows.backApartSpec.post enc Try.prog Try.f6 false true false false) := by
  refine returnsInHanded_of_change (C := Try.checked) own started (by kernel_rfl) Try.func6
    (ChangeSpec.witness6 (enc := enc) (C := Try.checked) false ⟨#[], #[.agg #[.int .i64 0, .int .i64 0], .int .i64 0], []⟩ 8 (by kernel_rfl) (by kernel_rfl) (by kernel_rfl) (by kernel_rfl)) ?_
  intro W base args ds gs before hval0 hW hcnd _
  have hval : ∀ (j : Nat) t v, Try.f6.params[j]? = some t → args[j]? = some v → Value.okWide Try.prog W .any base t v := hval0
  have hW' := hW
  obtain ⟨p, q, hA0, hV, rfl, hfz, hnd⟩ := hW
  have hA : DataW.TrodAll enc Try.prog W 0 (fun _ => true) true Try.f6.params.toList args.toList ds p := hA0
  rw [Try.params6] at hA hval
  obtain ⟨v0, vs0, d0, ds0, p0, q0, hargs, rfl, rfl, h0, r0⟩ := trodAll_cons hA
  obtain ⟨v1, vs1, d1, ds1, p1, q1, rfl, rfl, rfl, h1, r1⟩ := trodAll_cons r0
  obtain ⟨rfl, rfl, rfl⟩ := trodAll_nil r1
  obtain rfl : args = #[v0, v1] := by cases args; simp_all
  obtain ⟨rfl, rfl⟩ := trodVars_none hV
  have k0 := h0
  have lt0 : ∀ x ∈ p0, x.block < W.heap.size := by obtain ⟨m, hm⟩ := k0; exact DataW.trod_lt m _ _ _ hm
  obtain ⟨s0, w0⟩ := open_two (hval 0 27 v0 rfl rfl) h0
  obtain ⟨a1, rfl, rfl, rfl, w1⟩ := open_int Try.underlying3 (hval 1 3 v1 rfl rfl) h1
  clear hA0 hval0
  refine (walk v0 s0 a1 W w0 w1).mono fun e W' ⟨he, bel⟩ => ?_
  subst he
  exact ⟨_, rfl, _, _, _, [], _, [], hW', trodAll_mk1 (shut_bool Try.underlying4 _), (trodAll_cons_mk (Below.trod laidOut (by kernel_rfl) (of_decide_eq_true (by kernel_rfl)) k0 bel lt0) (trodAll_cons_mk (shut_int Try.underlying3 w1) trodAll_mk0)), rfl, bel.frame _, fun h => by cases h⟩

theorem over : Rows.backApartRow.holds Try.pinned (OpenSpec.ofChange Rows.backApartSpec) :=
  OpenClaim.holds_of_wide 6 Try.f6 rfl rfl rfl rfl rfl rfl rfl ⟨rfl, rfl, rfl, rfl, rfl⟩ rfl rfl rfl rfl rfl (by kernel_rfl) Try.func6 (by kernel_rfl)
    (of_decide_eq_true (by kernel_rfl)) (by unfold Func.isWrapper; first | (rw [if_pos (by decide +kernel)]; kernel_rfl) | (rw [if_neg (by decide +kernel)]; exact ⟨rfl, rfl⟩))
    (fun os started H enc _ => lifted os started H enc)

/-- ████ THE STATEMENT ████ -/
theorem proved : Rows.BackApartSaid := over
#print axioms proved
end Go.Proofs.Ytcamihbcfeengaa.backApart
