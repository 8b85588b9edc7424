/-
  The statement AddrTurned holds: an address's bytes with any of them turned are another address's, or none's; two addresses have the same bytes just if they are the same. Conditions: none beyond the row's own (package-level variables that the row lists, tied to the program's text by the card).
-/

import Derived.BigQuiet
import Derived.Deep.RegionWith
import Derived.StillTailTactics
import Derived.Deep.RegionHeld3
import Derived.Test.YtkemkbaomhjnbaaDoorTurn
import Derived.Test.YtkemkbaomhjnbaaDoorRows
import Derived.Test.YtkemkbaomhjnbaaDoorCards
import Derived.Test.YtkemkbaomhjnbaaDoorTie
import Derived.WalkKit
import Derived.ProofKit
import Derived.OpenShut
import Derived.ShutString
import Derived.ChangeOld
import Derived.Below
import Derived.Lay
import Derived.LaidMore
import Derived.LaidOnce
import Derived.SevenTiedAt
namespace Go.Proofs.YtkemkbaomhjnbaaDoor.addrTurned
open Go.ChangeShapes Go.WideShapes Go.ChangeAt Go.RowKit
open Go.ChangeMaps (open_string shut_string)
set_option linter.unusedVariables false

theorem own : ownKnob Tryd.prog.godebug = none := by kernel_rfl
theorem laidOut : laidOutB Tryd.prog = true := by kernel_rfl

/-- two addresses' boxes, the turn's, and what was below -/
structure T3 (w W : World) (a b c : Int × Int) : Prop where
  a0 : W.cell? ⟨w.heap.size, 0, none⟩ = some (.int .u32 a.1)
  a1 : W.cell? ⟨w.heap.size, 1, none⟩ = some (.int .i64 a.2)
  b0 : W.cell? ⟨w.heap.size + 1, 0, none⟩ = some (.int .u32 b.1)
  b1 : W.cell? ⟨w.heap.size + 1, 1, none⟩ = some (.int .i64 b.2)
  c0 : W.cell? ⟨w.heap.size + 1 + 1, 0, none⟩ = some (.int .u8 c.1)
  c1 : W.cell? ⟨w.heap.size + 1 + 1, 1, none⟩ = some (.int .u8 c.2)
  lt : w.heap.size + 2 < W.heap.size
  below : Below w.heap.size w W
theorem T3.start (w : World) (a b c : Int × Int) : T3 w (((w.alloc (.cells #[.int .u32 a.1, .int .i64 a.2] 24)).alloc (.cells #[.int .u32 b.1, .int .i64 b.2] 24)).alloc (.cells #[.int .u8 c.1, .int .u8 c.2] 46)) a b c :=
  ⟨by go_simp, by go_simp, by go_simp, by go_simp, by go_simp, by go_simp, by simp, (((Below.refl _ _).alloc (Nat.le_refl _) _).alloc (by simp) _).alloc (by simp; omega) _⟩
theorem T3.to {w W W' : World} {a b c : Int × Int} (h : T3 w W a b c) (k : Below (w.heap.size + 3) W W') : T3 w W' a b c :=
  ⟨(k.cell (p := ⟨w.heap.size, 0, none⟩) (by simp)).trans h.a0, (k.cell (p := ⟨w.heap.size, 1, none⟩) (by simp)).trans h.a1, (k.cell (p := ⟨w.heap.size + 1, 0, none⟩) (by simp)).trans h.b0, (k.cell (p := ⟨w.heap.size + 1, 1, none⟩) (by simp)).trans h.b1, (k.cell (p := ⟨w.heap.size + 1 + 1, 0, none⟩) (by simp)).trans h.c0, (k.cell (p := ⟨w.heap.size + 1 + 1, 1, none⟩) (by simp)).trans h.c1, Nat.lt_of_lt_of_le h.lt k.size, h.below.trans (k.mono (by omega))⟩
theorem T3.call {w W W' : World} {a b c : Int × Int} (h : T3 w W a b c) (k : Below W.heap.size W W') : T3 w W' a b c := h.to (k.mono (by have := h.lt; omega))
/-- .. and the row of six bytes -/
structure T4 (w W : World) (a b c : Int × Int) (g : Nat) : Prop where
  t3 : T3 w W a b c
  row : W.heap[g]? = some (.cells ((bytesA a.1 a.2).map (Value.int .u8)).toArray 5 (0, 0))
  ge : w.heap.size + 3 ≤ g
theorem T4.call {w W W' : World} {a b c : Int × Int} {g : Nat} (h : T4 w W a b c g) (k : Below W.heap.size W W') : T4 w W' a b c g :=
  ⟨h.t3.call k, (k.block g (Array.getElem?_eq_some_iff.1 h.row).1).trans h.row, h.ge⟩
theorem T4.drewN {w W : World} {a b c : Int × Int} {g : Nat} (h : T4 w W a b c g) (q : Nat) : T4 w (W.drewN q) a b c g := h.call ⟨rfl, rfl, rfl, Nat.le_refl _, fun _ _ => rfl⟩
/-- S of the first region -/
def S6 (w : World) (a b c : Int × Int) (g : Nat) (W : World) : Prop := T4 w W a b c g
theorem T4.five {w W : World} {a b c : Int × Int} {g : Nat} (h : T4 w W a b c g) : W.cell? ⟨w.heap.size, 0, none⟩ = some (.int .u32 a.1) ∧ W.cell? ⟨w.heap.size, 1, none⟩ = some (.int .i64 a.2) ∧ W.cell? ⟨w.heap.size + 1, 0, none⟩ = some (.int .u32 b.1) ∧ W.cell? ⟨w.heap.size + 1, 1, none⟩ = some (.int .i64 b.2) ∧ T4 w W a b c g := ⟨h.t3.a0, h.t3.a1, h.t3.b0, h.t3.b1, h⟩
theorem same_rows (w : World) (g g' : Nat) (zs ys : List Int) (q : Bool) (hl : zs.length = 6) (hl2 : ys.length = 6) (hb : ∀ z ∈ zs, 0 ≤ z ∧ z ≤ 255) (hb2 : ∀ z ∈ ys, 0 ≤ z ∧ z ≤ 255) (hg : w.heap[g]? = some (.cells (zs.map (Value.int .u8)).toArray 5 (0, 0))) (hg' : w.heap[g']? = some (.cells (ys.map (Value.int .u8)).toArray 5 (0, 0))) (hq : decide (zs = ys) = q) :
    Calls Tryd.prog 15 #[.slice (some ⟨g, 0, none⟩) 6 6, .slice (some ⟨g', 0, none⟩) 6 6] w fun e w' => e = .returned (.bool q) ∧ Below w.heap.size w w' := by
  have h1 := bts_block hg hb; have h2 := bts_block hg' hb2
  rw [hl] at h1; rw [hl2] at h2
  refine (same_any _ _ 6 6 6 6 zs ys w (by decide) h1 h2).mono fun e w' h => ?_
  obtain ⟨e1, q', rfl⟩ := h
  exact ⟨by rw [e1, ← hq], below_drewN' (Below.refl _ _) _⟩

theorem turn_facts {h p t : Int} {m : Nat} (h0 : 0 ≤ h) (h1 : h < 4294967296) (hm : mayA h p = true) (hm6 : m < 6) (t0 : 0 ≤ t) (t1 : t ≤ 255) :
    (mayA (hostUp (turnRow (bytesA h p) m t) 4) (portUp (turnRow (bytesA h p) m t) 2) = true → decide (hostUp (turnRow (bytesA h p) m t) 4 = h ∧ portUp (turnRow (bytesA h p) m t) 2 = p) = (t == 0)) ∧
    (mayA (hostUp (turnRow (bytesA h p) m t) 4) (portUp (turnRow (bytesA h p) m t) 2) = false → (t == 0) = false) := by
  have hb := bytesA_bd h0 h1 hm
  have hb2 := turnRow_bd (m := m) hb ⟨t0, t1⟩
  have hl2 : (turnRow (bytesA h p) m t).length = 6 := by simp [turnRow, bytesA]
  have hu := up_bytes hl2 hb2
  have ho := up_of h0 h1 hm
  have he := turnRow_eq (zs := bytesA h p) (m := m) (by simpa [bytesA] using hm6) hb ⟨t0, t1⟩
  constructor
  · intro _
    rw [Bool.eq_iff_iff]
    simp only [decide_eq_true_eq, beq_iff_eq]
    rw [← he]
    constructor
    · rintro ⟨a, b⟩
      rw [← hu, a, b]
    · intro e
      rw [e]
      exact ho
  · intro hn
    rw [beq_eq_false_iff_ne]
    intro e
    rw [he.2 e, ho.1, ho.2, hm] at hn
    cases hn

set_option maxRecDepth 100000 in
set_option maxHeartbeats 4000000 in
theorem walk (v0 : Value) (s0 : Int × Int) (v1 : Value) (s1 : Int × Int) (v2 : Value) (s2 : Int × Int) (w : World) (w0 : IsAdr w v0 s0) (w1 : IsAdr w v1 s1) (w2 : IsPair w v2 s2) :
    Calls Tryd.prog 8 #[v0, v1, v2] w fun e w' => e = .returned (.bool true) ∧ Below w.heap.size w w' := by
  obtain ⟨rfl, p00, p01, _, _⟩ := w0
  obtain ⟨rfl, p10, p11, _, _⟩ := w1
  obtain ⟨rfl, p20, p21, p22, p23⟩ := w2
  have HM0 := Lib.hid (fun W => may_any s0.1 s0.2 W p00 p01)
  have HM1 := Lib.hid (fun W => may_any s1.1 s1.2 W p10 p11)
  have HB0 := Lib.hid (fun W => bytes_ok s0.1 s0.2 W p00 p01)
  have HB1 := Lib.hid (fun W => bytes_ok s1.1 s1.2 W p10 p11)
  cases hm0 : mayA s0.1 s0.2 with
  | false =>
    rw [hm0] at HM0
    clear HB0 HB1 HM1 hm0
    unfold adr at *
    go_enter Tryd.func8, Tryd.ntmps8
    go_wp2_with fail
    have hB := T3.start w s0 s1 s2
    generalize ((w.alloc (.cells #[.int .u32 s0.1, .int .i64 s0.2] 24)).alloc (.cells #[.int .u32 s1.1, .int .i64 s1.2] 24)).alloc (.cells #[.int .u8 s2.1, .int .u8 s2.2] 46) = W0 at *
    refine (awake_any _).mono ?_
    rintro e w1 ⟨rfl, hb1⟩
    have hB1 := hB.call hb1
    have B1 := Lib.hid hB1
    obtain ⟨a0, a1, b0, b1, c0, c1, _, _⟩ := hB1
    clear hB hb1
    go_wp2_with fail
    refine (HM0.out _).mono ?_
    rintro e w2 ⟨rfl, hb2⟩
    have B2 := Lib.hid (B1.out.call hb2)
    clear hb2
    go_wp2
    go_ret
    exact ⟨rfl, B2.out.below⟩
  | true =>
    cases hm1 : mayA s1.1 s1.2 with
    | false =>
      rw [hm0] at HM0
      rw [hm1] at HM1
      clear HB0 HB1 hm0 hm1
      unfold adr at *
      go_enter Tryd.func8, Tryd.ntmps8
      go_wp2_with fail
      have hB := T3.start w s0 s1 s2
      generalize ((w.alloc (.cells #[.int .u32 s0.1, .int .i64 s0.2] 24)).alloc (.cells #[.int .u32 s1.1, .int .i64 s1.2] 24)).alloc (.cells #[.int .u8 s2.1, .int .u8 s2.2] 46) = W0 at *
      refine (awake_any _).mono ?_
      rintro e w1 ⟨rfl, hb1⟩
      have hB1 := hB.call hb1
      have B1 := Lib.hid hB1
      obtain ⟨a0, a1, b0, b1, c0, c1, _, _⟩ := hB1
      clear hB hb1
      go_wp2_with fail
      refine (HM0.out _).mono ?_
      rintro e w2 ⟨rfl, hb2⟩
      have hB2 := B1.out.call hb2
      have B2 := Lib.hid hB2
      clear hb2 a0 a1 b0 b1 c0 c1
      obtain ⟨a0, a1, b0, b1, c0, c1, _, _⟩ := hB2
      go_wp2_with fail
      refine (HM1.out _).mono ?_
      rintro e w3 ⟨rfl, hb3⟩
      have B3 := Lib.hid (B2.out.call hb3)
      clear hb3
      go_wp2
      go_ret
      exact ⟨rfl, B3.out.below⟩
    | true =>
      have HB0' := Lib.hid (fun W => HB0.out W hm0)
      have HB1' := Lib.hid (fun W => HB1.out W hm1)
      have HBD0 := Lib.hid (bytesA_bd p00 p01 hm0); have HBD1 := Lib.hid (bytesA_bd p10 p11 hm1)
      obtain ⟨q, hq⟩ : ∃ q, decide (s0.1 = s1.1 ∧ s0.2 = s1.2) = q := ⟨_, rfl⟩
      have HQ : Hid (decide (bytesA s0.1 s0.2 = bytesA s1.1 s1.2) = q) := Lib.hid (by rw [← hq, decide_eq_decide]; exact up_inj p00 p01 hm0 p10 p11 hm1)
      have ke := eql_adr s0.1 s0.2 s1.1 s1.2 q hq
      have HMM := Lib.hid hm0
      rw [hm0] at HM0
      rw [hm1] at HM1
      clear HB0 HB1 hm0 hm1 hq
      have kq : (q != q) = false := by simp
      unfold adr at *
      go_enter Tryd.func8, Tryd.ntmps8
      go_wp2_with fail
      have hB := T3.start w s0 s1 s2
      generalize ((w.alloc (.cells #[.int .u32 s0.1, .int .i64 s0.2] 24)).alloc (.cells #[.int .u32 s1.1, .int .i64 s1.2] 24)).alloc (.cells #[.int .u8 s2.1, .int .u8 s2.2] 46) = W0 at *
      refine (awake_any _).mono ?_
      rintro e w1 ⟨rfl, hb1⟩
      have hB1 := hB.call hb1
      have B1 := Lib.hid hB1
      obtain ⟨a0, a1, b0, b1, c0, c1, _, _⟩ := hB1
      clear hB hb1
      go_wp2_with fail
      refine (HM0.out _).mono ?_
      rintro e w2 ⟨rfl, hb2⟩
      have hB2 := B1.out.call hb2
      have B2 := Lib.hid hB2
      clear hb2 a0 a1 b0 b1 c0 c1
      obtain ⟨a0, a1, b0, b1, c0, c1, _, _⟩ := hB2
      go_wp2_with fail
      refine (HM1.out _).mono ?_
      rintro e w3 ⟨rfl, hb3⟩
      have hB3 := B2.out.call hb3
      have B3 := Lib.hid hB3
      clear hb3 a0 a1 b0 b1 c0 c1
      obtain ⟨a0, a1, b0, b1, c0, c1, _, _⟩ := hB3
      go_wp2_with fail
      refine (HB0'.out _).mono ?_
      rintro e w4 ⟨g, rfl, hg, hge, hb4⟩
      have hB4 : T4 w w4 s0 s1 s2 g := ⟨B3.out.call hb4, hg, by have := B3.out.lt; omega⟩
      have B4 := Lib.hid hB4
      clear hb4 hge hg a0 a1 b0 b1 c0 c1 hB4
      have HF : T4 w w4.drew s0 s1 s2 g := B4.out.drewN 1
      have H5 := HF.five
      go_wp2
      go_region_held3 (fun W => W.cell? ⟨w.heap.size, 0, none⟩ = some (.int .u32 s0.1) ∧ W.cell? ⟨w.heap.size, 1, none⟩ = some (.int .i64 s0.2) ∧ W.cell? ⟨w.heap.size + 1, 0, none⟩ = some (.int .u32 s1.1) ∧ W.cell? ⟨w.heap.size + 1, 1, none⟩ = some (.int .i64 s1.2) ∧ T4 w W s0 s1 s2 g) (first | exact H5 | exact (T4.call (by assumption : _ ∧ _ ∧ _ ∧ _ ∧ T4 w _ s0 s1 s2 g).2.2.2.2 hb5).five | exact (T4.call (by assumption : _ ∧ _ ∧ _ ∧ _ ∧ T4 w _ s0 s1 s2 g).2.2.2.2 hb6).five) (first | (go_at_call 10; refine (HB1'.out _).mono ?_; rintro e w5 ⟨g5, rfl, hg5, _, hb5⟩) | (go_at_call 15; refine (same_rows _ g g5 _ _ q rfl rfl HBD0.out HBD1.out (by assumption : _ ∧ _ ∧ _ ∧ _ ∧ T4 w _ s0 s1 s2 g).2.2.2.2.row hg5 HQ.out).mono ?_; rintro e w6 ⟨rfl, hb6⟩))
      rename_i hX
      have X6 := Lib.hid hX.2.2.2.2
      have hX4 := hX.2.2.2.2
      clear hX H5 HF
      obtain ⟨m, hmm, hm6⟩ : ∃ m : Nat, s2.1 % 6 = (m : Int) ∧ m < 6 := ⟨(s2.1 % 6).toNat, by omega, by omega⟩
      have hmt : s2.1.tmod 6 = (m : Int) := by rw [Int.tmod_eq_emod_of_nonneg p20]; exact hmm
      obtain ⟨z, hz⟩ : ∃ z, (bytesA s0.1 s0.2).getD m 0 = z := ⟨_, rfl⟩
      have y0 := hX4.t3.c0
      have y1 := hX4.t3.c1
      have y2 := (cells_of hX4.row m).1
      have y3 := (cells_of hX4.row m).2
      have y2' : (((bytesA s0.1 s0.2).map (Value.int .u8)).toArray)[m]? = some (.int .u8 z) := by
        rw [← hz]
        simp [List.getD, List.getElem?_eq_getElem (show m < (bytesA s0.1 s0.2).length by simpa [bytesA] using hm6)]
      rw [y2'] at y2
      have HZ := Lib.hid hz
      have hw : IntKind.i64.wrap s2.1 = s2.1 := by rw [IntKind.wrap_i64]; omega
      have hwm : IntKind.i64.wrap (m : Int) = (m : Int) := by rw [IntKind.wrap_i64]; omega
      have hm7 : (m : Int) < 6 := by omega
      clear y2' hz hX4
      go_wp2
      have y0' : w6.drew.cell? ⟨w.heap.size + 1 + 1, 0, none⟩ = some (.int .u8 s2.1) := y0
      have y1' : w6.drew.cell? ⟨w.heap.size + 1 + 1, 1, none⟩ = some (.int .u8 s2.2) := y1
      have y2' : w6.drew.cell? ⟨g, m, none⟩ = some (.int .u8 z) := y2
      have y3' : w6.drew.frozen? ⟨g, m, none⟩ = false := y3
      have X7 : Hid (T4 w w6.drew s0 s1 s2 g) := Lib.hid (X6.out.drewN 1)
      refine wp_region_still_tail 16 (by kernel_rfl) (by kernel_rfl) ?_
      change wpStill _ _ w6.drew (fun a => wpList _ _ _ _ a w6.drew) _ _
      generalize w6.drew = w7 at *
      simp only [List.take_succ_cons, List.take_zero, List.drop_succ_cons, List.drop_zero]
      repeat still_step
      refine wpStill_nil ?_
      change wpList _ _ _ _ _ w7
      obtain ⟨H, hH⟩ : ∃ H, hostUp (turnRow (bytesA s0.1 s0.2) m s2.2) 4 = H := ⟨_, rfl⟩
      obtain ⟨P, hP⟩ : ∃ P, portUp (turnRow (bytesA s0.1 s0.2) m s2.2) 2 = P := ⟨_, rfl⟩
      have FT := from_turned w7 g m (bytesA s0.1 s0.2) s2.2 rfl HBD0.out ⟨p22, p23⟩ hm6 X7.out.row
      have FM := turn_facts p00 p01 HMM.out hm6 p22 p23
      rw [hH, hP] at FT FM
      rw [HZ.out] at FT
      unfold turned at FT
      have FT' := Lib.hid FT
      have FM' := Lib.hid FM
      have X8 : Hid (T3 w (w7.setCell ⟨g, m, none⟩ (.int .u8 (bits .xor .u8 z s2.2))) s0 s1 s2) := Lib.hid (X7.out.t3.to ((Below.refl _ _).setCell X7.out.ge _))
      have HS8 : Hid ((w7.setCell ⟨g, m, none⟩ (.int .u8 (bits .xor .u8 z s2.2))).heap.size = w7.heap.size) := Lib.hid (by simp [World.setCell])
      clear FT FM hH hP hmm hmt hw hwm ke
      cases hmh : mayA H P with
      | true =>
        have HG : gaveOr H P = .tuple #[.agg #[.int .u32 H, .int .i64 P], .int .i64 0] := by unfold gaveOr; rw [if_pos hmh]; rfl
        obtain ⟨r, hr⟩ : ∃ r, decide (H = s0.1 ∧ P = s0.2) = r := ⟨_, rfl⟩
        have hr2 := FM'.out.1 hmh
        rw [hr] at hr2
        have ke := eql_adr H P s0.1 s0.2 r hr
        have kr : (r == r) = true := by simp
        rw [HG] at FT'
        clear hmh HG hr
        go_wp2_with fail
        refine FT'.out.mono ?_
        rintro e w9 ⟨rfl, hb9⟩
        have X9 : Hid (T3 w (w9.alloc (.cells #[.int .u32 H, .int .i64 P] 24)) s0 s1 s2) := Lib.hid ((X8.out.call (by rw [HS8.out]; exact hb9)).call ((Below.refl _ _).alloc (Nat.le_refl _) _))
        have x0 := X9.out.a0
        have x1 := X9.out.a1
        have x2 := X9.out.c1
        clear hb9 y0' y1' y2' y3'
        go_wp2
        go_quiet (fail)
        go_wp2
        go_ret
        exact ⟨ret_b' (by simp), below_drewN' X9.out.below _⟩
      | false =>
        have HG : gaveOr H P = .tuple #[.agg #[.int .u32 0, .int .i64 0], .int .i64 3] := by unfold gaveOr; rw [if_neg (by rw [hmh]; simp)]; rfl
        have hr2 := FM'.out.2 hmh
        rw [HG] at FT'
        clear hmh HG
        go_wp2_with fail
        refine FT'.out.mono ?_
        rintro e w9 ⟨rfl, hb9⟩
        have X9 : Hid (T3 w (w9.alloc (.cells #[.int .u32 0, .int .i64 0] 24)) s0 s1 s2) := Lib.hid ((X8.out.call (by rw [HS8.out]; exact hb9)).call ((Below.refl _ _).alloc (Nat.le_refl _) _))
        have x0 := X9.out.a0
        have x1 := X9.out.a1
        have x2 := X9.out.c1
        clear hb9 y0' y1' y2' y3'
        go_wp2
        go_quiet (fail)
        go_wp2
        go_ret
        exact ⟨ret_b' (by simp), below_drewN' X9.out.below _⟩


/-! ### the row, under what it lists -/
set_option maxRecDepth 100000 in
theorem lifted (os : Os) (started : os.Started) (H : Type) (enc : TypeId × Value → H) :
    ReturnsInHanded {} Tryd.checked os 8 .any (fun w args => (Rows.addrTurnedSpec.pre enc Tryd.prog Tryd.f8 [] false w args ∧ laidMetH Tryd.prog Rows.addrTurnedRow.laid w) ∧ sizedMet enc Tryd.prog Tryd.f8 (OpenSpec.ofChange Rows.addrTurnedSpec) false w args)
      (Rows.addrTurnedSpec.post enc Tryd.prog Tryd.f8 false true false false) := by
  refine returnsInHanded_of_change_and (C := Tryd.checked) (X := fun w _ => laidMetH Tryd.prog Rows.addrTurnedRow.laid w) (fun _ _ _ hh h => h.of_heap hh) own started (by kernel_rfl) Tryd.func8
    (ChangeSpec.witness_shaped (enc := enc) (C := Tryd.checked) (os := os) (X := fun w _ => laidMetH Tryd.prog Rows.addrTurnedRow.laid w) false (World.laidAll Tryd.prog os Rows.addrTurnedRow.laid) #[.agg #[.int .u32 0, .int .i64 0], .agg #[.int .u32 0, .int .i64 0], .agg #[.int .u8 0, .int .u8 0]] 8 (World.laidAll_os _ _ _)
      (World.shaped_of_ZipB (by kernel_rfl) (by kernel_rfl)) (by kernel_rfl) (by kernel_rfl) (by kernel_rfl)
      (by rw [MakeChecks.laidMetH_plain _ _ _ (by kernel_rfl)]; exact laidMet_laidAll _ (by kernel_rfl) (by kernel_rfl))) ?_
  intro W base args ds gs before hval0 hW _ _ hL _
  have hval : ∀ (j : Nat) t v, Tryd.f8.params[j]? = some t → args[j]? = some v → Value.okWide Tryd.prog W .any base t v := hval0
  have hW' := hW
  obtain ⟨p, q, hA0, hV, rfl, hfz, hnd⟩ := hW
  have hA : DataW.TrodAll enc Tryd.prog W 0 (fun _ => true) true Tryd.f8.params.toList args.toList ds p := hA0
  rw [Tryd.params8] at hA hval
  obtain ⟨v0, vs0, d0, ds0, p0, q0, hargs, rfl, rfl, h0, r0⟩ := trodAll_cons hA
  obtain ⟨v1, vs1, d1, ds1, p1, q1, rfl, rfl, rfl, h1, r1⟩ := trodAll_cons r0
  obtain ⟨v2, vs2, d2, ds2, p2, q2, rfl, rfl, rfl, h2, r2⟩ := trodAll_cons r1
  obtain ⟨rfl, rfl, rfl⟩ := trodAll_nil r2
  obtain rfl : args = #[v0, v1, v2] := by cases args; simp_all
  obtain ⟨rfl, rfl⟩ := trodVars_none hV
  rw [MakeChecks.laidMetH_plain _ _ _ (by kernel_rfl)] at hL
  have k0 := h0
  have lt0 : ∀ x ∈ p0, x.block < W.heap.size := by obtain ⟨m, hm⟩ := k0; exact DataW.trod_lt m _ _ _ hm
  obtain ⟨s0, w0⟩ := open_adr (hval 0 24 v0 rfl rfl) h0
  have k1 := h1
  have lt1 : ∀ x ∈ p1, x.block < W.heap.size := by obtain ⟨m, hm⟩ := k1; exact DataW.trod_lt m _ _ _ hm
  obtain ⟨s1, w1⟩ := open_adr (hval 1 24 v1 rfl rfl) h1
  have k2 := h2
  have lt2 : ∀ x ∈ p2, x.block < W.heap.size := by obtain ⟨m, hm⟩ := k2; exact DataW.trod_lt m _ _ _ hm
  obtain ⟨s2, w2⟩ := open_pair (hval 2 46 v2 rfl rfl) h2
  clear hA0 hval0
  refine (walk v0 s0 v1 s1 v2 s2 W w0 w1 w2).mono fun e W' ⟨he, bel⟩ => ?_
  subst he
  exact ⟨_, rfl, _, _, _, [], _, [], hW', trodAll_mk1 (shut_bool Tryd.underlying4 _), (trodAll_cons_mk (Below.trod laidOut (by kernel_rfl) (of_decide_eq_true (by kernel_rfl)) k0 bel lt0) (trodAll_cons_mk (Below.trod laidOut (by kernel_rfl) (of_decide_eq_true (by kernel_rfl)) k1 bel lt1) (trodAll_cons_mk (Below.trod laidOut (by kernel_rfl) (of_decide_eq_true (by kernel_rfl)) k2 bel lt2) trodAll_mk0))), rfl, bel.frame _, fun h => by cases h⟩

theorem over : Rows.AddrTurnedSaid :=
  OpenClaim.holds_of_wide 8 Tryd.f8 rfl rfl rfl rfl rfl rfl rfl ⟨rfl, rfl, rfl, rfl, rfl⟩ rfl rfl rfl rfl rfl (by kernel_rfl) Tryd.func8 (by kernel_rfl)
    (of_decide_eq_true (by kernel_rfl)) (by unfold Func.isWrapper; first | (rw [if_pos (by decide +kernel)]; kernel_rfl) | (rw [if_neg (by decide +kernel)]; exact ⟨rfl, rfl⟩))
    (fun os started H enc _ => lifted os started H enc)

/-- ████ THE STATEMENT ████ -/
theorem proved : Rows.AddrTurnedCardSaid :=
  Claim7.holds_tied_plain_at .later [] [.data, .data, .data, .data, .pinned] true (true, "6600dbd36e6c3681de327bc575fdf2ac5dfcb119ea77f8ab8ad1fdcf17430c65") false
    over (fun _ h => by cases h) (by kernel_rfl) (fun _ h => by cases h) addrTurned_row_tie rfl ⟨rfl, rfl⟩ (by kernel_rfl) rfl
    (fun f fn hf hfn => by
      obtain rfl : f = 8 := Option.some.inj ((show Tryd.prog.funcNamed "embrasure/embrasurelaw03.AddrTurned" = some 8 by kernel_rfl).symm.trans hf) |>.symm
      obtain rfl : fn = Tryd.f8 := (Option.some.inj (Tryd.func8.symm.trans hfn)).symm
      exact ⟨by kernel_rfl, fun j t ht => by
        rw [Tryd.params8] at ht
        have hm : t ∈ [24, 24, 46] := by simpa using Array.mem_of_getElem? ht
        have hall : ([24, 24, 46].all fun u => !Tryd.prog.wantsStandIn u) = true := by kernel_rfl
        exact (show Tryd.prog.wantsStandIn t = false by simpa using List.all_eq_true.1 hall t hm)⟩)
    (by kernel_rfl)
#print axioms proved
end Go.Proofs.YtkemkbaomhjnbaaDoor.addrTurned
