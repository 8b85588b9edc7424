/-
  The statement AddrReads holds: every text is the place that the document says, or refused; what is read has just that text. Conditions: none beyond the row's own (package-level variables that the row lists, tied to the program's text by the card).
-/

import Derived.Test.YtkemkbaomhjnbaaDoorReadC
import Derived.Test.YtkemkbaomhjnbaaDoorRows
import Derived.Test.YtkemkbaomhjnbaaDoorCards
import Derived.Test.YtkemkbaomhjnbaaDoorTie
import Derived.WalkKit
import Derived.ProofKit
import Derived.OpenShut
import Derived.ShutString
import Derived.ChangeOld
import Derived.Below
import Derived.Lay
import Derived.LaidMore
import Derived.LaidOnce
import Derived.SevenTiedAt
namespace Go.Proofs.YtkemkbaomhjnbaaDoor.addrReads
open Go.ChangeShapes Go.WideShapes Go.ChangeAt Go.RowKit
open Go.ChangeMaps (open_string shut_string)
set_option linter.unusedVariables false

theorem own : ownKnob Tryd.prog.godebug = none := by kernel_rfl
theorem laidOut : laidOutB Tryd.prog = true := by kernel_rfl

/-- a place's box -/
structure Bx4 (W : World) (g : Nat) (h p i : Int) (v : Bool) : Prop where
  c0 : W.cell? ⟨g, 0, none⟩ = some (.int .u32 h)
  c1 : W.cell? ⟨g, 1, none⟩ = some (.int .i64 p)
  c2 : W.cell? ⟨g, 2, none⟩ = some (.int .i64 i)
  c3 : W.cell? ⟨g, 3, none⟩ = some (.bool v)
theorem Bx4.call {W W' : World} {g : Nat} {h p i : Int} {v : Bool} (b : Bx4 W g h p i v) (k : Below W.heap.size W W') : Bx4 W' g h p i v :=
  ⟨(k.cell (p := ⟨g, 0, none⟩) (lt_of_cell b.c0)).trans b.c0, (k.cell (p := ⟨g, 1, none⟩) (lt_of_cell b.c1)).trans b.c1, (k.cell (p := ⟨g, 2, none⟩) (lt_of_cell b.c2)).trans b.c2, (k.cell (p := ⟨g, 3, none⟩) (lt_of_cell b.c3)).trans b.c3⟩
theorem Bx4.new (W : World) (h p i : Int) (v : Bool) : Bx4 (W.alloc (.cells #[.int .u32 h, .int .i64 p, .int .i64 i, .bool v] 37)) W.heap.size h p i v := ⟨by go_simp, by go_simp, by go_simp, by go_simp⟩
theorem noGuard37 : Tryd.prog.eqGuardType Tryd.prog.depth 37 = false := by kernel_rfl
theorem eql_plc (h p i : Int) (v : Bool) (h' p' i' : Int) (v' : Bool) (b : Bool) (hb : decide (h = h' ∧ p = p' ∧ i = i' ∧ v = v') = b) (W : World) : (binOp .eql 37 (.agg #[.int .u32 h, .int .i64 p, .int .i64 i, .bool v]) (.agg #[.int .u32 h', .int .i64 p', .int .i64 i', .bool v'])).run Tryd.prog W = .ok (.bool b) W := by
  subst hb
  have hm := noGuard37
  have hm2 := noGuard24
  by_cases h1 : h = h' <;> by_cases h2 : p = p' <;> by_cases h3 : i = i' <;> by_cases h4 : v = v' <;> go_simp <;> simp [h1, h2, h3, h4]
theorem text_at (s : Plc) (h0 : 0 ≤ s.h) (h1 : s.h < 4294967296) (W : World) (hT : Lib.TabIs Tryd.prog W "internal/strconv.uint64pow10" .u64 Lib.pow10Tab) :
    Calls Tryd.prog 19 #[.agg #[.int .u32 s.h, .int .i64 s.p, .int .i64 s.i, .bool s.v]] W fun e w' => e = .returned (.string (st s.text)) ∧ Below W.heap.size W w' := text_any s W h0 h1 hT
theorem rparse_at (l : List UInt8) (A : Value) (hA : ansR l = A) (hl : l.length ≤ 1000) (w : World) : Calls Tryd.prog 24 #[.string (st l)] w fun e w' => e = .returned A ∧ Below w.heap.size w w' := by
  subst hA; exact rparse_any l w hl
theorem parse_some (l : List UInt8) (t : PS) (h : parseL l = some t) (hl : l.length ≤ 1000) (w : World) : Calls Tryd.prog 23 #[.string (st l)] w fun e w' => e = .returned (.tuple #[.agg #[.int .u32 (t.h : Int), .int .i64 t.p, .int .i64 t.i, .bool t.v], .int .i64 0]) ∧ Below w.heap.size w w' := by
  have := parse_any l w (by omega)
  rw [h] at this
  exact this
theorem parse_none (l : List UInt8) (h : parseL l = none) (hl : l.length ≤ 1000) (w : World) : Calls Tryd.prog 23 #[.string (st l)] w fun e w' => e = .returned (.tuple #[.agg #[.int .u32 0, .int .i64 0, .int .i64 0, .bool false], .int .i64 3]) ∧ Below w.heap.size w w' := by
  have := parse_any l w (by omega)
  rw [h] at this
  exact this

set_option maxRecDepth 100000 in
set_option maxHeartbeats 4000000 in
theorem walk (v0 : Value) (s0 : List UInt8) (w : World) (w0 : IsStr w v0 s0) (hL : laidMet Tryd.prog Rows.addrReadsRow.laid w) :
    Calls Tryd.prog 5 #[v0] w fun e w' => e = .returned (.bool true) ∧ Below w.heap.size w w' := by
  obtain rfl := w0
  have HTB := Lib.hid (tab_laid hL)
  clear hL
  have hsz := st_size s0
  by_cases h300 : 300 < s0.length
  · obtain ⟨S, hS⟩ : ∃ S, st s0 = S := ⟨_, rfl⟩
    rw [hS] at hsz ⊢
    have h3 : 300 < S.size := by omega
    go_enter Tryd.func5, Tryd.ntmps5
    go_wp2_with fail
    refine (awake_any _).mono ?_
    rintro e w1 ⟨rfl, hb1⟩
    have HB1 := Lib.hid hb1; clear hb1
    go_wp2
    go_ret
    exact ⟨rfl, HB1.out⟩
  · rcases ansR_is s0 with ⟨t, hp, ha⟩ | ⟨hp, ha⟩
    · obtain ⟨hm, ht, hlt⟩ := parse_is hp
      have C1 := Lib.hid (parse_some s0 t hp (by omega))
      have C2 := Lib.hid (rparse_at s0 _ ha (by omega))
      have htx : (⟨(t.h : Int), t.p, t.i, t.v⟩ : Plc).text = s0 := by unfold Plc.text Plc.may; rw [if_pos hm]; exact ht
      have C3 := Lib.hid (text_at ⟨(t.h : Int), t.p, t.i, t.v⟩ (by show (0 : Int) ≤ (t.h : Int); omega) (by show (t.h : Int) < 4294967296; omega))
      rw [htx] at C3
      have k1 := eql_plc (t.h : Int) t.p t.i t.v (t.h : Int) t.p t.i t.v true (by simp)
      clear hp ha hm ht hlt htx
      obtain ⟨S, hS⟩ : ∃ S, st s0 = S := ⟨_, rfl⟩
      rw [hS] at C1 C2 C3 hsz ⊢
      have h3 : ¬ 300 < S.size := by omega
      clear h300 hsz hS
      generalize (t.h : Int) = H at *
      generalize t.p = P at *
      generalize t.i = I at *
      generalize t.v = V at *
      go_enter Tryd.func5, Tryd.ntmps5
      go_wp2_with fail
      refine (awake_any _).mono ?_
      rintro e w1 ⟨rfl, hb1⟩
      have HB1 := Lib.hid hb1; clear hb1
      go_wp2_with fail
      refine (C1.out _).mono ?_
      rintro e w2 ⟨rfl, hb2⟩
      have HB2 := Lib.hid (HB1.out.trans (hb2.mono HB1.out.size)); clear hb2
      go_wp2_with fail
      refine (C2.out _).mono ?_
      rintro e w3 ⟨rfl, hb3⟩
      have q1 : Below w2.heap.size w2 (w2.alloc (.cells #[.int .u32 H, .int .i64 P, .int .i64 I, .bool V] 37)) := (Below.refl _ _).alloc (Nat.le_refl _) _
      have q2 : Below w3.heap.size w3 (w3.alloc (.cells #[.int .u32 H, .int .i64 P, .int .i64 I, .bool V] 37)) := (Below.refl _ _).alloc (Nat.le_refl _) _
      have hX := ((Bx4.new w2 H P I V).call hb3).call q2
      have hY := Bx4.new w3 H P I V
      have HB3 : Hid (Below w.heap.size w (w3.alloc (.cells #[.int .u32 H, .int .i64 P, .int .i64 I, .bool V] 37))) := Lib.hid (by
        have z1 := HB2.out.trans (q1.mono HB2.out.size)
        have z2 := z1.trans (hb3.mono z1.size)
        exact z2.trans (q2.mono z2.size))
      clear hb3 q1 q2
      obtain ⟨x0, x1, x2, x3⟩ := hX
      obtain ⟨y0, y1, y2, y3⟩ := hY
      go_wp2_with fail
      refine (C3.out _ (tab_below HTB.out HB3.out)).mono ?_
      rintro e w4 ⟨rfl, hb4⟩
      have HB4 := Lib.hid (HB3.out.trans (hb4.mono HB3.out.size)); clear hb4
      go_wp2
      go_ret
      exact ⟨ret_b' (by simp), HB4.out⟩
    · have C1 := Lib.hid (parse_none s0 hp (by omega))
      have C2 := Lib.hid (rparse_at s0 _ ha (by omega))
      have k1 := eql_plc 0 0 0 false 0 0 0 false true (by simp)
      clear hp ha
      obtain ⟨S, hS⟩ : ∃ S, st s0 = S := ⟨_, rfl⟩
      rw [hS] at C1 C2 hsz ⊢
      have h3 : ¬ 300 < S.size := by omega
      clear h300 hsz hS
      go_enter Tryd.func5, Tryd.ntmps5
      go_wp2_with fail
      refine (awake_any _).mono ?_
      rintro e w1 ⟨rfl, hb1⟩
      have HB1 := Lib.hid hb1; clear hb1
      go_wp2_with fail
      refine (C1.out _).mono ?_
      rintro e w2 ⟨rfl, hb2⟩
      have HB2 := Lib.hid (HB1.out.trans (hb2.mono HB1.out.size)); clear hb2
      go_wp2_with fail
      refine (C2.out _).mono ?_
      rintro e w3 ⟨rfl, hb3⟩
      have q1 : Below w2.heap.size w2 (w2.alloc (.cells #[.int .u32 0, .int .i64 0, .int .i64 0, .bool false] 37)) := (Below.refl _ _).alloc (Nat.le_refl _) _
      have q2 : Below w3.heap.size w3 (w3.alloc (.cells #[.int .u32 0, .int .i64 0, .int .i64 0, .bool false] 37)) := (Below.refl _ _).alloc (Nat.le_refl _) _
      have hX := ((Bx4.new w2 0 0 0 false).call hb3).call q2
      have hY := Bx4.new w3 0 0 0 false
      have HB3 : Hid (Below w.heap.size w (w3.alloc (.cells #[.int .u32 0, .int .i64 0, .int .i64 0, .bool false] 37))) := Lib.hid (by
        have z1 := HB2.out.trans (q1.mono HB2.out.size)
        have z2 := z1.trans (hb3.mono z1.size)
        exact z2.trans (q2.mono z2.size))
      clear hb3 q1 q2
      obtain ⟨x0, x1, x2, x3⟩ := hX
      obtain ⟨y0, y1, y2, y3⟩ := hY
      go_wp2
      go_ret
      exact ⟨rfl, HB3.out⟩


/-! ### the row, under what it lists -/
set_option maxRecDepth 100000 in
theorem lifted (os : Os) (started : os.Started) (H : Type) (enc : TypeId × Value → H) :
    ReturnsInHanded {} Tryd.checked os 5 .any (fun w args => (Rows.addrReadsSpec.pre enc Tryd.prog Tryd.f5 [] false w args ∧ laidMetH Tryd.prog Rows.addrReadsRow.laid w) ∧ sizedMet enc Tryd.prog Tryd.f5 (OpenSpec.ofChange Rows.addrReadsSpec) false w args)
      (Rows.addrReadsSpec.post enc Tryd.prog Tryd.f5 false true false false) := by
  refine returnsInHanded_of_change_and (C := Tryd.checked) (X := fun w _ => laidMetH Tryd.prog Rows.addrReadsRow.laid w) (fun _ _ _ hh h => h.of_heap hh) own started (by kernel_rfl) Tryd.func5
    (ChangeSpec.witness_shaped (enc := enc) (C := Tryd.checked) (os := os) (X := fun w _ => laidMetH Tryd.prog Rows.addrReadsRow.laid w) false (World.laidAll Tryd.prog os Rows.addrReadsRow.laid) #[.string ⟨#[]⟩] 8 (World.laidAll_os _ _ _)
      (World.shaped_of_ZipB (by kernel_rfl) (by kernel_rfl)) (by kernel_rfl) (by kernel_rfl) (by kernel_rfl)
      (by rw [MakeChecks.laidMetH_plain _ _ _ (by kernel_rfl)]; exact laidMet_laidAll _ (by kernel_rfl) (by kernel_rfl))) ?_
  intro W base args ds gs before hval0 hW _ _ hL _
  have hval : ∀ (j : Nat) t v, Tryd.f5.params[j]? = some t → args[j]? = some v → Value.okWide Tryd.prog W .any base t v := hval0
  have hW' := hW
  obtain ⟨p, q, hA0, hV, rfl, hfz, hnd⟩ := hW
  have hA : DataW.TrodAll enc Tryd.prog W 0 (fun _ => true) true Tryd.f5.params.toList args.toList ds p := hA0
  rw [Tryd.params5] at hA hval
  obtain ⟨v0, vs0, d0, ds0, p0, q0, hargs, rfl, rfl, h0, r0⟩ := trodAll_cons hA
  obtain ⟨rfl, rfl, rfl⟩ := trodAll_nil r0
  obtain rfl : args = #[v0] := by cases args; simp_all
  obtain ⟨rfl, rfl⟩ := trodVars_none hV
  rw [MakeChecks.laidMetH_plain _ _ _ (by kernel_rfl)] at hL
  have k0 := h0
  have lt0 : ∀ x ∈ p0, x.block < W.heap.size := by obtain ⟨m, hm⟩ := k0; exact DataW.trod_lt m _ _ _ hm
  obtain ⟨s0, w0⟩ := open_str (hval 0 9 v0 rfl rfl) h0
  clear hA0 hval0
  refine (walk v0 s0 W w0 hL).mono fun e W' ⟨he, bel⟩ => ?_
  subst he
  exact ⟨_, rfl, _, _, _, [], _, [], hW', trodAll_mk1 (shut_bool Tryd.underlying4 _), (trodAll_cons_mk (Below.trod laidOut (by kernel_rfl) (of_decide_eq_true (by kernel_rfl)) k0 bel lt0) trodAll_mk0), rfl, bel.frame _, fun h => by cases h⟩

theorem over : Rows.AddrReadsSaid :=
  OpenClaim.holds_of_wide 5 Tryd.f5 rfl rfl rfl rfl rfl rfl rfl ⟨rfl, rfl, rfl, rfl, rfl⟩ rfl rfl rfl rfl rfl (by kernel_rfl) Tryd.func5 (by kernel_rfl)
    (of_decide_eq_true (by kernel_rfl)) (by unfold Func.isWrapper; first | (rw [if_pos (by decide +kernel)]; kernel_rfl) | (rw [if_neg (by decide +kernel)]; exact ⟨rfl, rfl⟩))
    (fun os started H enc _ => lifted os started H enc)

/-- ████ THE STATEMENT ████ -/
theorem proved : Rows.AddrReadsCardSaid :=
  Claim7.holds_tied_plain_at .later [] [.data, .data, .data, .data, .pinned] true (true, "6600dbd36e6c3681de327bc575fdf2ac5dfcb119ea77f8ab8ad1fdcf17430c65") false
    over (fun _ h => by cases h) (by kernel_rfl) (fun _ h => by cases h) addrReads_row_tie rfl ⟨rfl, rfl⟩ (by kernel_rfl) rfl
    (fun f fn hf hfn => by
      obtain rfl : f = 5 := Option.some.inj ((show Tryd.prog.funcNamed "embrasure/embrasurelaw03.AddrReads" = some 5 by kernel_rfl).symm.trans hf) |>.symm
      obtain rfl : fn = Tryd.f5 := (Option.some.inj (Tryd.func5.symm.trans hfn)).symm
      exact ⟨by kernel_rfl, fun j t ht => by
        rw [Tryd.params5] at ht
        have hm : t ∈ [9] := by simpa using Array.mem_of_getElem? ht
        have hall : ([9].all fun u => !Tryd.prog.wantsStandIn u) = true := by kernel_rfl
        exact (show Tryd.prog.wantsStandIn t = false by simpa using List.all_eq_true.1 hall t hm)⟩)
    (by kernel_rfl)
#print axioms proved
end Go.Proofs.YtkemkbaomhjnbaaDoor.addrReads
