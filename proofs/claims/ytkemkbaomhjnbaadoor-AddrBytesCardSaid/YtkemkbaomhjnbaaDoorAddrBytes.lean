/-
  The statement AddrBytes holds: every address as bytes is what the document says, and is read again; any other bytes are refused, or are one; how two stand is by hosts, then by ports. Conditions: none beyond the row's own (package-level variables that the row lists, tied to the program's text by the card).
-/

import Derived.Deep.RegionHeld3
import Derived.Test.YtkemkbaomhjnbaaDoorBytes
import Derived.Test.YtkemkbaomhjnbaaDoorRows
import Derived.Test.YtkemkbaomhjnbaaDoorCards
import Derived.Test.YtkemkbaomhjnbaaDoorTie
import Derived.WalkKit
import Derived.ProofKit
import Derived.OpenShut
import Derived.ShutString
import Derived.ChangeOld
import Derived.Below
import Derived.Lay
import Derived.LaidMore
import Derived.LaidOnce
import Derived.SevenTiedAt
namespace Go.Proofs.YtkemkbaomhjnbaaDoor.addrBytes
open Go.ChangeShapes Go.WideShapes Go.ChangeAt Go.RowKit
open Go.ChangeMaps (open_string shut_string)
set_option linter.unusedVariables false

theorem own : ownKnob Tryd.prog.godebug = none := by kernel_rfl
theorem laidOut : laidOutB Tryd.prog = true := by kernel_rfl

/-- two addresses' boxes, and what was below -/
structure U2 (w W : World) (a b : Int × Int) : Prop where
  a0 : W.cell? ⟨w.heap.size, 0, none⟩ = some (.int .u32 a.1)
  a1 : W.cell? ⟨w.heap.size, 1, none⟩ = some (.int .i64 a.2)
  b0 : W.cell? ⟨w.heap.size + 1, 0, none⟩ = some (.int .u32 b.1)
  b1 : W.cell? ⟨w.heap.size + 1, 1, none⟩ = some (.int .i64 b.2)
  lt : w.heap.size + 1 < W.heap.size
  below : Below w.heap.size w W
theorem U2.start (w : World) (a b : Int × Int) : U2 w ((w.alloc (.cells #[.int .u32 a.1, .int .i64 a.2] 24)).alloc (.cells #[.int .u32 b.1, .int .i64 b.2] 24)) a b :=
  ⟨by go_simp, by go_simp, by go_simp, by go_simp, by simp, ((Below.refl _ _).alloc (Nat.le_refl _) _).alloc (by simp) _⟩
theorem U2.call {w W W' : World} {a b : Int × Int} (h : U2 w W a b) (k : Below W.heap.size W W') : U2 w W' a b :=
  ⟨(k.cell (p := ⟨w.heap.size, 0, none⟩) (by have := h.lt; simp; omega)).trans h.a0, (k.cell (p := ⟨w.heap.size, 1, none⟩) (by have := h.lt; simp; omega)).trans h.a1, (k.cell (p := ⟨w.heap.size + 1, 0, none⟩) h.lt).trans h.b0, (k.cell (p := ⟨w.heap.size + 1, 1, none⟩) h.lt).trans h.b1, Nat.lt_of_lt_of_le h.lt k.size, h.below.trans (k.mono h.below.size)⟩
/-- a box of an address -/
structure Bx (W : World) (g : Nat) (h p : Int) : Prop where
  c0 : W.cell? ⟨g, 0, none⟩ = some (.int .u32 h)
  c1 : W.cell? ⟨g, 1, none⟩ = some (.int .i64 p)
theorem Bx.call {W W' : World} {g : Nat} {h p : Int} (b : Bx W g h p) (k : Below W.heap.size W W') : Bx W' g h p :=
  ⟨(k.cell (p := ⟨g, 0, none⟩) (lt_of_cell b.c0)).trans b.c0, (k.cell (p := ⟨g, 1, none⟩) (lt_of_cell b.c1)).trans b.c1⟩
theorem Bx.new (W : World) (h p : Int) : Bx (W.alloc (.cells #[.int .u32 h, .int .i64 p] 24)) W.heap.size h p := ⟨by go_simp, by go_simp⟩
structure U5 (w W : World) (a b : Int × Int) (A : Option Addr) (n : Nat) (xs : List Int) (yb zb : Nat) (H P : Int) : Prop where
  u : U2 w W a b
  x : Bts W A n xs
  y : Bx W yb H P
  z : Bx W zb H P
theorem U5.call {w W W' : World} {a b : Int × Int} {A : Option Addr} {n : Nat} {xs : List Int} {yb zb : Nat} {H P : Int} (h : U5 w W a b A n xs yb zb H P) (k : Below W.heap.size W W') : U5 w W' a b A n xs yb zb H P :=
  ⟨h.u.call k, h.x.below k, h.y.call k, h.z.call k⟩
theorem U5.six {w W : World} {a b : Int × Int} {A : Option Addr} {n : Nat} {xs : List Int} {yb zb : Nat} {H P : Int} (h : U5 w W a b A n xs yb zb H P) : W.cell? ⟨w.heap.size, 0, none⟩ = some (.int .u32 a.1) ∧ W.cell? ⟨w.heap.size, 1, none⟩ = some (.int .i64 a.2) ∧ W.cell? ⟨yb, 0, none⟩ = some (.int .u32 H) ∧ W.cell? ⟨yb, 1, none⟩ = some (.int .i64 P) ∧ W.cell? ⟨zb, 0, none⟩ = some (.int .u32 H) ∧ W.cell? ⟨zb, 1, none⟩ = some (.int .i64 P) ∧ U5 w W a b A n xs yb zb H P := ⟨h.u.a0, h.u.a1, h.y.c0, h.y.c1, h.z.c0, h.z.c1, h⟩
theorem cv_at (h p h' p' x : Int) (hx : cv h p h' p' = x) (w : World) : Calls Tryd.prog 17 #[.agg #[.int .u32 h, .int .i64 p], .agg #[.int .u32 h', .int .i64 p']] w fun e w' => e = .returned (.int .i64 x) ∧ Below w.heap.size w w' := by
  subst hx
  exact compare_any h p h' p' w
/-- an address's bytes; none, if it isn't one -/
def rowOf (h p : Int) : List Int := if mayA h p = true then bytesA h p else []
theorem rowOf_bd {h p : Int} (h0 : 0 ≤ h) (h1 : h < 4294967296) : ∀ z ∈ rowOf h p, 0 ≤ z ∧ z ≤ 255 := by
  unfold rowOf
  split
  · exact bytesA_bd h0 h1 (by assumption)
  · simp
theorem bytes_gen (h p : Int) (h0 : 0 ≤ h) (h1 : h < 4294967296) (w : World) : Calls Tryd.prog 10 #[.agg #[.int .u32 h, .int .i64 p]] w fun e w' => ∃ A c, e = .returned (.slice A (rowOf h p).length c) ∧ Bts w' A (rowOf h p).length (rowOf h p) ∧ (rowOf h p).length ≤ c ∧ c ≤ maxLen ∧ Below w.heap.size w w' := by
  cases hm : mayA h p with
  | true =>
    have e : rowOf h p = bytesA h p := by unfold rowOf; rw [if_pos hm]
    rw [e]
    refine (bytes_ok h p w h0 h1 hm).mono ?_
    rintro e w' ⟨g, rfl, hg, _, hb⟩
    exact ⟨_, _, rfl, bts_block hg (bytesA_bd h0 h1 hm), Nat.le_refl _, by decide, hb⟩
  | false =>
    have e : rowOf h p = [] := by unfold rowOf; rw [if_neg (by rw [hm]; simp)]
    rw [e]
    refine (bytes_no h p w h0 h1 hm).mono ?_
    rintro e w' ⟨rfl, hb⟩
    exact ⟨_, _, rfl, ⟨rfl, by simp, fun h => by simp at h⟩, Nat.le_refl _, Nat.zero_le _, hb⟩
theorem rbytes_gen (h p : Int) (h0 : 0 ≤ h) (h1 : h < 4294967296) (w : World) : Calls Tryd.prog 16 #[.agg #[.int .u32 h, .int .i64 p]] w fun e w' => ∃ A c, e = .returned (.slice A (rowOf h p).length c) ∧ Bts w' A (rowOf h p).length (rowOf h p) ∧ Below w.heap.size w w' := by
  cases hm : mayA h p with
  | true =>
    have e : rowOf h p = bytesA h p := by unfold rowOf; rw [if_pos hm]
    rw [e]
    refine (rbytes_ok h p w h0 h1 hm).mono ?_
    rintro e w' ⟨g, rfl, hg, _, hb⟩
    exact ⟨_, _, rfl, bts_block hg (bytesA_bd h0 h1 hm), hb⟩
  | false =>
    have e : rowOf h p = [] := by unfold rowOf; rw [if_neg (by rw [hm]; simp)]
    rw [e]
    refine (rbytes_no h p w h0 h1 hm).mono ?_
    rintro e w' ⟨rfl, hb⟩
    exact ⟨_, _, rfl, ⟨rfl, by simp, fun h => by simp at h⟩, hb⟩
theorem same_at (A A' : Option Addr) (n c c' : Nat) (xs : List Int) (w : World) (hn : n ≤ 1000) (h1 : Bts w A n xs) (h2 : Bts w A' n xs) : Calls Tryd.prog 15 #[.slice A n c, .slice A' n c'] w fun e w' => e = .returned (.bool true) ∧ Below w.heap.size w w' := by
  refine (same_self A A' n c c' xs w (by unfold maxLen; omega) h1 h2).mono fun e w' h => ?_
  obtain ⟨e1, q', rfl⟩ := h
  exact ⟨e1, below_drewN' (Below.refl _ _) _⟩
theorem may_at (h p : Int) (h0 : 0 ≤ h) (h1 : h < 4294967296) (M : Bool) (hm : mayA h p = M) (w : World) : Calls Tryd.prog 13 #[.agg #[.int .u32 h, .int .i64 p]] w fun e w' => e = .returned (.bool M) ∧ Below w.heap.size w w' := by
  subst hm; exact may_any h p w h0 h1
theorem rmay_at (h p : Int) (h0 : 0 ≤ h) (h1 : h < 4294967296) (M : Bool) (hm : mayA h p = M) (w : World) : Calls Tryd.prog 14 #[.agg #[.int .u32 h, .int .i64 p]] w fun e w' => e = .returned (.bool M) ∧ Below w.heap.size w w' := by
  subst hm; exact rmay_any h p w h0 h1
theorem less_at (h p h' p' : Int) (q : Bool) (hq : lessA h p h' p' = q) (w : World) : Calls Tryd.prog 18 #[.agg #[.int .u32 h, .int .i64 p], .agg #[.int .u32 h', .int .i64 p']] w fun e w' => e = .returned (.bool q) ∧ Below w.heap.size w w' := by
  subst hq; exact rless_any h p h' p' w
theorem from_at (A : Option Addr) (n c : Nat) (zs : List Int) (H P E : Int) (hr : readA zs = (H, P, E)) (w : World) (h : Bts w A n zs) (hnc : n ≤ c) (hc : c ≤ maxLen) : Calls Tryd.prog 11 #[.slice A n c] w fun e w' => e = .returned (.tuple #[.agg #[.int .u32 H, .int .i64 P], .int .i64 E]) ∧ Below w.heap.size w w' := by
  have := from_any A n c zs w h hnc hc
  rw [hr] at this
  exact this
theorem rfrom_at (A : Option Addr) (n c : Nat) (zs : List Int) (H P E : Int) (hr : readA zs = (H, P, E)) (w : World) (h : Bts w A n zs) (hnc : n ≤ c) (hc : c ≤ maxLen) : Calls Tryd.prog 12 #[.slice A n c] w fun e w' => e = .returned (.tuple #[.agg #[.int .u32 H, .int .i64 P], .int .i64 E]) ∧ Below w.heap.size w w' := by
  have := rfrom_any A n c zs w h hnc hc
  rw [hr] at this
  exact this

set_option maxRecDepth 100000 in
set_option maxHeartbeats 4000000 in
theorem walk (v0 : Value) (s0 : Int × Int) (v1 : Value) (s1 : Int × Int) (v2 : Value) (s2 : List Int) (w : World) (w0 : IsAdr w v0 s0) (w1 : IsAdr w v1 s1) (w2 : IsTxt w v2 s2) :
    Calls Tryd.prog 3 #[v0, v1, v2] w fun e w' => e = .returned (.bool true) ∧ Below w.heap.size w w' := by
  obtain ⟨rfl, p00, p01, _, _⟩ := w0
  obtain ⟨rfl, p10, p11, _, _⟩ := w1
  obtain ⟨A2, n2, c2, rfl, hbt, hnc, hcm, _⟩ := w2
  have HBT := Lib.hid hbt; have HCM := Lib.hid hcm; clear hbt hcm
  have hc3 : c2 ≤ 9223372036854775807 := HCM.out
  unfold adr
  by_cases h40 : 40 < n2
  · go_enter Tryd.func3, Tryd.ntmps3
    go_wp2_with fail
    have hB := U2.start w s0 s1
    generalize (w.alloc (.cells #[.int .u32 s0.1, .int .i64 s0.2] 24)).alloc (.cells #[.int .u32 s1.1, .int .i64 s1.2] 24) = W0 at *
    refine (awake_any _).mono ?_
    rintro e w1 ⟨rfl, hb1⟩
    have B1 := Lib.hid (hB.call hb1)
    clear hB hb1
    go_wp2
    go_ret
    exact ⟨rfl, B1.out.below⟩
  · obtain ⟨M, hM⟩ : ∃ M, mayA s0.1 s0.2 = M := ⟨_, rfl⟩
    obtain ⟨X, hX⟩ : ∃ X, cv s0.1 s0.2 s1.1 s1.2 = X := ⟨_, rfl⟩
    obtain ⟨xs, hxs⟩ : ∃ xs, rowOf s0.1 s0.2 = xs := ⟨_, rfl⟩
    obtain ⟨⟨H, P, E⟩, hr⟩ : ∃ t, readA s2 = t := ⟨_, rfl⟩
    have hl := less_cv s0.1 s0.2 s1.1 s1.2
    rw [hX] at hl
    have C1 := Lib.hid (may_at s0.1 s0.2 p00 p01 M hM); have C2 := Lib.hid (rmay_at s0.1 s0.2 p00 p01 M hM)
    have C3 := Lib.hid (bytes_gen s0.1 s0.2 p00 p01); have C4 := Lib.hid (rbytes_gen s0.1 s0.2 p00 p01)
    have C5 := Lib.hid (cv_at _ _ _ _ X hX); have C6 := Lib.hid (less_at _ _ _ _ _ hl.1); have C7 := Lib.hid (less_at _ _ _ _ _ hl.2.1)
    have k1 := eql_adr s0.1 s0.2 s1.1 s1.2 _ hl.2.2
    have k2 := neq_adr H P H P true (by simp)
    have k3 := eql_adr s0.1 s0.2 s0.1 s0.2 true (by simp)
    have C8 := Lib.hid (fun W (h : Bts W A2 n2 s2) => from_at A2 n2 c2 s2 H P E hr W h hnc HCM.out)
    have C9 := Lib.hid (fun W (h : Bts W A2 n2 s2) => rfrom_at A2 n2 c2 s2 H P E hr W h hnc HCM.out)
    obtain ⟨nx, hnx⟩ : ∃ nx, xs.length = nx := ⟨_, rfl⟩
    rw [hxs, hnx] at C3 C4
    have hx1 : nx ≤ 1000 := by rw [← hnx, ← hxs]; unfold rowOf; split <;> simp [bytesA]
    have HX0 : Hid (M = false → nx = 0) := Lib.hid (fun h => by rw [← hnx, ← hxs]; unfold rowOf; rw [if_neg (by rw [hM, h]; simp)]; rfl)
    have HX1 : Hid (M = true → readA xs = (s0.1, s0.2, 0)) := Lib.hid (fun h => by rw [← hxs]; unfold rowOf; rw [if_pos (by rw [hM, h])]; exact readA_of p00 p01 (by rw [hM, h]))
    have m1 : (M != M) = false := by simp
    have m2 : (E != E) = false := by simp
    have m3 : ∀ q : Bool, (q != q) = false := by simp
    have m4 : (X == 0) = decide (X = 0) := by rw [Bool.eq_iff_iff]; simp
    clear hM hX hxs hr hl hnx
    go_enter Tryd.func3, Tryd.ntmps3
    go_wp2_with fail
    have hB := U2.start w s0 s1
    have hT : Bts ((w.alloc (.cells #[.int .u32 s0.1, .int .i64 s0.2] 24)).alloc (.cells #[.int .u32 s1.1, .int .i64 s1.2] 24)) A2 n2 s2 := (HBT.out.alloc _).alloc _
    generalize (w.alloc (.cells #[.int .u32 s0.1, .int .i64 s0.2] 24)).alloc (.cells #[.int .u32 s1.1, .int .i64 s1.2] 24) = W0 at *
    refine (awake_any _).mono ?_
    rintro e w1 ⟨rfl, hb1⟩
    have hB1 := hB.call hb1
    have B1 := Lib.hid hB1
    have T1 := Lib.hid (hT.below hb1)
    obtain ⟨a0, a1, _, _, _, _⟩ := hB1
    clear hB hb1 hT
    go_wp2_with fail
    refine (C3.out _).mono ?_
    rintro e w2 ⟨AX, cx, rfl, hx, hcx, hcx2, hb2⟩
    have B2 := Lib.hid (B1.out.call hb2)
    have T2 := Lib.hid (T1.out.below hb2)
    have X2 := Lib.hid hx
    clear hb2 hx a0 a1
    go_wp2_with fail
    refine (C8.out _ T2.out).mono ?_
    rintro e w3 ⟨rfl, hb3⟩
    have B3 := Lib.hid (B2.out.call hb3)
    have T3 := Lib.hid (T2.out.below hb3)
    have X3 := Lib.hid (X2.out.below hb3)
    clear hb3
    go_wp2_with fail
    refine (C9.out _ (T3.out.alloc _)).mono ?_
    rintro e w4 ⟨rfl, hb4⟩
    have q1 : Below w3.heap.size w3 ((w3.alloc (.cells #[.int .u32 H, .int .i64 P] 24))) := (Below.refl _ _).alloc (Nat.le_refl _) _
    have hU : U5 w ((w4.alloc (.cells #[.int .u32 H, .int .i64 P] 24))) s0 s1 AX nx xs w3.heap.size w4.heap.size H P := by
      have q2 : Below w4.heap.size w4 (w4.alloc (.cells #[.int .u32 H, .int .i64 P] 24)) := (Below.refl _ _).alloc (Nat.le_refl _) _
      exact ⟨((B3.out.call q1).call hb4).call q2, ((X3.out.below q1).below hb4).below q2, ((Bx.new w3 H P).call hb4).call q2, Bx.new w4 H P⟩
    clear hb4 q1
    have hU' : U5 w ((w4.alloc (.cells #[.int .u32 H, .int .i64 P] 24))).drew s0 s1 AX nx xs w3.heap.size w4.heap.size H P := hU.call ⟨rfl, rfl, rfl, Nat.le_refl _, fun _ _ => rfl⟩
    have H6 := hU'.six
    go_wp2
    go_region_held3 (fun W => W.cell? ⟨w.heap.size, 0, none⟩ = some (.int .u32 s0.1) ∧ W.cell? ⟨w.heap.size, 1, none⟩ = some (.int .i64 s0.2) ∧ W.cell? ⟨w3.heap.size, 0, none⟩ = some (.int .u32 H) ∧ W.cell? ⟨w3.heap.size, 1, none⟩ = some (.int .i64 P) ∧ W.cell? ⟨w4.heap.size, 0, none⟩ = some (.int .u32 H) ∧ W.cell? ⟨w4.heap.size, 1, none⟩ = some (.int .i64 P) ∧ U5 w W s0 s1 AX nx xs w3.heap.size w4.heap.size H P) (first | exact H6 | exact (U5.call (by assumption : _ ∧ _ ∧ _ ∧ _ ∧ _ ∧ _ ∧ U5 w _ s0 s1 AX nx xs w3.heap.size w4.heap.size H P).2.2.2.2.2.2 hb5).six | exact (U5.call (by assumption : _ ∧ _ ∧ _ ∧ _ ∧ _ ∧ _ ∧ U5 w _ s0 s1 AX nx xs w3.heap.size w4.heap.size H P).2.2.2.2.2.2 hb6).six | exact (U5.call (by assumption : _ ∧ _ ∧ _ ∧ _ ∧ _ ∧ _ ∧ U5 w _ s0 s1 AX nx xs w3.heap.size w4.heap.size H P).2.2.2.2.2.2 hb7).six | exact (U5.call (by assumption : _ ∧ _ ∧ _ ∧ _ ∧ _ ∧ _ ∧ U5 w _ s0 s1 AX nx xs w3.heap.size w4.heap.size H P).2.2.2.2.2.2 hb8).six) (first | (go_at_call 13; refine (C1.out _).mono ?_; rintro e w5 ⟨rfl, hb5⟩) | (go_at_call 14; refine (C2.out _).mono ?_; rintro e w6 ⟨rfl, hb6⟩) | (go_at_call 16; refine (C4.out _).mono ?_; rintro e w7 ⟨A7, c7, rfl, hx7, hb7⟩) | (go_at_call 15; refine (same_at AX A7 nx cx c7 xs _ hx1 (by assumption : _ ∧ _ ∧ _ ∧ _ ∧ _ ∧ _ ∧ U5 w _ s0 s1 AX nx xs w3.heap.size w4.heap.size H P).2.2.2.2.2.2.x hx7).mono ?_; rintro e w8 ⟨rfl, hb8⟩))
    rename_i hX
    have U8 := Lib.hid hX.2.2.2.2.2.2
    have a0 := U8.out.u.a0
    have a1 := U8.out.u.a1
    have b0 := U8.out.u.b0
    have b1 := U8.out.u.b1
    clear hX H6 hU hU' k2
    go_wp2_with fail
    refine (C5.out _).mono ?_
    rintro e w9 ⟨rfl, hb9⟩
    have U9 := Lib.hid (U8.out.call hb9)
    clear hb9 a0 a1 b0 b1
    have a0 := U9.out.u.a0
    have a1 := U9.out.u.a1
    have b0 := U9.out.u.b0
    have b1 := U9.out.u.b1
    go_wp2_with fail
    refine (C6.out _).mono ?_
    rintro e w10 ⟨rfl, hb10⟩
    have U10 := Lib.hid (U9.out.call hb10)
    clear hb10 a0 a1 b0 b1
    have a0 := U10.out.u.a0
    have a1 := U10.out.u.a1
    have b0 := U10.out.u.b0
    have b1 := U10.out.u.b1
    go_wp2_with fail
    refine (C7.out _).mono ?_
    rintro e w11 ⟨rfl, hb11⟩
    have U11 := Lib.hid (U10.out.call hb11)
    clear hb11 a0 a1 b0 b1
    have a0 := U11.out.u.a0
    have a1 := U11.out.u.a1
    have b0 := U11.out.u.b0
    have b1 := U11.out.u.b1
    go_wp2_with fail
    refine (C2.out _).mono ?_
    rintro e w12 ⟨rfl, hb12⟩
    have U12 := Lib.hid (U11.out.call hb12)
    clear hb12 a0 a1 b0 b1
    have a0 := U12.out.u.a0
    have a1 := U12.out.u.a1
    cases M with
    | false =>
      obtain rfl := HX0.out rfl
      go_wp2
      go_ret
      exact ⟨rfl, U12.out.u.below⟩
    | true =>
      have hr := HX1.out rfl
      have C13 := Lib.hid (fun W h => from_at AX nx cx xs s0.1 s0.2 0 hr W h hcx hcx2)
      clear hr
      go_wp2_with fail
      refine (C13.out _ U12.out.x).mono ?_
      rintro e w13 ⟨rfl, hb13⟩
      have U13 : Hid (U5 w (w13.alloc (.cells #[.int .u32 s0.1, .int .i64 s0.2] 24)) s0 s1 AX nx xs w3.heap.size w4.heap.size H P) := Lib.hid ((U12.out.call hb13).call ((Below.refl _ _).alloc (Nat.le_refl _) _))
      clear hb13 a0 a1
      have a0 := U13.out.u.a0
      have a1 := U13.out.u.a1
      go_wp2
      go_ret
      exact ⟨rfl, U13.out.u.below⟩


/-! ### the row, under what it lists -/
set_option maxRecDepth 100000 in
theorem lifted (os : Os) (started : os.Started) (H : Type) (enc : TypeId × Value → H) :
    ReturnsInHanded {} Tryd.checked os 3 .any (fun w args => (Rows.addrBytesSpec.pre enc Tryd.prog Tryd.f3 [] false w args ∧ laidMetH Tryd.prog Rows.addrBytesRow.laid w) ∧ sizedMet enc Tryd.prog Tryd.f3 (OpenSpec.ofChange Rows.addrBytesSpec) false w args)
      (Rows.addrBytesSpec.post enc Tryd.prog Tryd.f3 false true false false) := by
  refine returnsInHanded_of_change_and (C := Tryd.checked) (X := fun w _ => laidMetH Tryd.prog Rows.addrBytesRow.laid w) (fun _ _ _ hh h => h.of_heap hh) own started (by kernel_rfl) Tryd.func3
    (ChangeSpec.witness_shaped (enc := enc) (C := Tryd.checked) (os := os) (X := fun w _ => laidMetH Tryd.prog Rows.addrBytesRow.laid w) false (World.laidAll Tryd.prog os Rows.addrBytesRow.laid) #[.agg #[.int .u32 0, .int .i64 0], .agg #[.int .u32 0, .int .i64 0], .slice none 0 0] 8 (World.laidAll_os _ _ _)
      (World.shaped_of_ZipB (by kernel_rfl) (by kernel_rfl)) (by kernel_rfl) (by kernel_rfl) (by kernel_rfl)
      (by rw [MakeChecks.laidMetH_plain _ _ _ (by kernel_rfl)]; exact laidMet_laidAll _ (by kernel_rfl) (by kernel_rfl))) ?_
  intro W base args ds gs before hval0 hW _ _ hL _
  have hval : ∀ (j : Nat) t v, Tryd.f3.params[j]? = some t → args[j]? = some v → Value.okWide Tryd.prog W .any base t v := hval0
  have hW' := hW
  obtain ⟨p, q, hA0, hV, rfl, hfz, hnd⟩ := hW
  have hA : DataW.TrodAll enc Tryd.prog W 0 (fun _ => true) true Tryd.f3.params.toList args.toList ds p := hA0
  rw [Tryd.params3] at hA hval
  obtain ⟨v0, vs0, d0, ds0, p0, q0, hargs, rfl, rfl, h0, r0⟩ := trodAll_cons hA
  obtain ⟨v1, vs1, d1, ds1, p1, q1, rfl, rfl, rfl, h1, r1⟩ := trodAll_cons r0
  obtain ⟨v2, vs2, d2, ds2, p2, q2, rfl, rfl, rfl, h2, r2⟩ := trodAll_cons r1
  obtain ⟨rfl, rfl, rfl⟩ := trodAll_nil r2
  obtain rfl : args = #[v0, v1, v2] := by cases args; simp_all
  obtain ⟨rfl, rfl⟩ := trodVars_none hV
  rw [MakeChecks.laidMetH_plain _ _ _ (by kernel_rfl)] at hL
  have k0 := h0
  have lt0 : ∀ x ∈ p0, x.block < W.heap.size := by obtain ⟨m, hm⟩ := k0; exact DataW.trod_lt m _ _ _ hm
  obtain ⟨s0, w0⟩ := open_adr (hval 0 24 v0 rfl rfl) h0
  have k1 := h1
  have lt1 : ∀ x ∈ p1, x.block < W.heap.size := by obtain ⟨m, hm⟩ := k1; exact DataW.trod_lt m _ _ _ hm
  obtain ⟨s1, w1⟩ := open_adr (hval 1 24 v1 rfl rfl) h1
  have k2 := h2
  have lt2 : ∀ x ∈ p2, x.block < W.heap.size := by obtain ⟨m, hm⟩ := k2; exact DataW.trod_lt m _ _ _ hm
  obtain ⟨s2, w2⟩ := open_txt (hval 2 25 v2 rfl rfl) h2
  clear hA0 hval0
  refine (walk v0 s0 v1 s1 v2 s2 W w0 w1 w2).mono fun e W' ⟨he, bel⟩ => ?_
  subst he
  exact ⟨_, rfl, _, _, _, [], _, [], hW', trodAll_mk1 (shut_bool Tryd.underlying4 _), (trodAll_cons_mk (Below.trod laidOut (by kernel_rfl) (of_decide_eq_true (by kernel_rfl)) k0 bel lt0) (trodAll_cons_mk (Below.trod laidOut (by kernel_rfl) (of_decide_eq_true (by kernel_rfl)) k1 bel lt1) (trodAll_cons_mk (Below.trod laidOut (by kernel_rfl) (of_decide_eq_true (by kernel_rfl)) k2 bel lt2) trodAll_mk0))), rfl, bel.frame _, fun h => by cases h⟩

theorem over : Rows.AddrBytesSaid :=
  OpenClaim.holds_of_wide 3 Tryd.f3 rfl rfl rfl rfl rfl rfl rfl ⟨rfl, rfl, rfl, rfl, rfl⟩ rfl rfl rfl rfl rfl (by kernel_rfl) Tryd.func3 (by kernel_rfl)
    (of_decide_eq_true (by kernel_rfl)) (by unfold Func.isWrapper; first | (rw [if_pos (by decide +kernel)]; kernel_rfl) | (rw [if_neg (by decide +kernel)]; exact ⟨rfl, rfl⟩))
    (fun os started H enc _ => lifted os started H enc)

/-- ████ THE STATEMENT ████ -/
theorem proved : Rows.AddrBytesCardSaid :=
  Claim7.holds_tied_plain_at .later [] [.data, .data, .data, .data, .pinned] true (true, "6600dbd36e6c3681de327bc575fdf2ac5dfcb119ea77f8ab8ad1fdcf17430c65") false
    over (fun _ h => by cases h) (by kernel_rfl) (fun _ h => by cases h) addrBytes_row_tie rfl ⟨rfl, rfl⟩ (by kernel_rfl) rfl
    (fun f fn hf hfn => by
      obtain rfl : f = 3 := Option.some.inj ((show Tryd.prog.funcNamed "embrasure/embrasurelaw03.AddrBytes" = some 3 by kernel_rfl).symm.trans hf) |>.symm
      obtain rfl : fn = Tryd.f3 := (Option.some.inj (Tryd.func3.symm.trans hfn)).symm
      exact ⟨by kernel_rfl, fun j t ht => by
        rw [Tryd.params3] at ht
        have hm : t ∈ [24, 24, 25] := by simpa using Array.mem_of_getElem? ht
        have hall : ([24, 24, 25].all fun u => !Tryd.prog.wantsStandIn u) = true := by kernel_rfl
        exact (show Tryd.prog.wantsStandIn t = false by simpa using List.all_eq_true.1 hall t hm)⟩)
    (by kernel_rfl)
#print axioms proved
end Go.Proofs.YtkemkbaomhjnbaaDoor.addrBytes
