/-
  PmpApart: two leases are told by the same request just if they are the same, and are about the same; a request is never an answer. Conditions: none.
-/
import Derived.Deep.QuietTactic
import Derived.Test.YtabokjhimpmiiaaEqs
import Derived.Test.YtabokjhimpmiiaaLw
import Derived.Test.YtabokjhimpmiiaaLin
import Derived.Test.YtabokjhimpmiiaaRows
import Derived.WalkKit
import Derived.ProofKit
import Derived.OpenShut
import Derived.ShutString
import Derived.ChangeOld
import Derived.Below
namespace Go.Proofs.Ytabokjhimpmiiaa.pmpApart
open Go.ChangeShapes Go.WideShapes Go.ChangeAt Go.RowKit
open Go.ChangeMaps (open_string shut_string)
set_option linter.unusedVariables false

theorem own : ownKnob Try.prog.godebug = none := by kernel_rfl
theorem laidOut : laidOutB Try.prog = true := by kernel_rfl

attribute [local go_sem] Oper.semAt_some
theorem lay35 (W : World) (a b : Bool) : (W.alloc (.cells #[.bool a, .bool b] 35)).cell? ⟨W.heap.size, 0, none⟩ = some (.bool a) ∧ (W.alloc (.cells #[.bool a, .bool b] 35)).cell? ⟨W.heap.size, 1, none⟩ = some (.bool b) := by
  have n4 : (W.alloc (.cells #[.bool a, .bool b] 35)).heap[W.heap.size]? = some (.cells #[.bool a, .bool b] 35 (0, 0)) := by
    show (W.heap.push _)[W.heap.size]? = _
    simp
  exact ⟨(cells_of n4 0).1, (cells_of n4 1).1⟩
/-- the three inputs' boxes -/
structure S3 (w W : World) (la lb : Le) (ha hb : Bool) : Prop where
  low : Below w.heap.size w W
  a : LeAt W w.heap.size la
  b : LeAt W (w.heap.size + 1) lb
  h : W.cell? ⟨w.heap.size + 2, 0, none⟩ = some (.bool ha) ∧ W.cell? ⟨w.heap.size + 2, 1, none⟩ = some (.bool hb)
theorem S3.below {w W W' : World} {la lb : Le} {ha hb : Bool} (h : S3 w W la lb ha hb) (hbl : Below W.heap.size W W') : S3 w W' la lb ha hb :=
  ⟨h.low.trans (hbl.mono h.low.size), h.a.below hbl h.a.lt, h.b.below hbl h.b.lt, (hbl.cell (p := ⟨w.heap.size + 2, 0, none⟩) (lt_of_cell h.h.1)).trans h.h.1, (hbl.cell (p := ⟨w.heap.size + 2, 1, none⟩) (lt_of_cell h.h.2)).trans h.h.2⟩
theorem S3.start (w : World) (la lb : Le) (ha hb : Bool) : S3 w (((w.alloc (.cells (leA la) 25)).alloc (.cells (leA lb) 25)).alloc (.cells #[.bool ha, .bool hb] 35)) la lb ha hb := by
  have a1 : Below w.heap.size w (w.alloc (.cells (leA la) 25)) := (Below.refl _ w).alloc (Nat.le_refl _) _
  have b2 : Below (w.heap.size + 1) (w.alloc (.cells (leA la) 25)) ((w.alloc (.cells (leA la) 25)).alloc (.cells (leA lb) 25)) := (Below.refl _ _).alloc (by simp) _
  have b3 : Below (w.heap.size + 2) ((w.alloc (.cells (leA la) 25)).alloc (.cells (leA lb) 25)) (((w.alloc (.cells (leA la) 25)).alloc (.cells (leA lb) 25)).alloc (.cells #[.bool ha, .bool hb] 35)) := (Below.refl _ _).alloc (by simp) _
  have n2 := LeAt.new (w.alloc (.cells (leA la) 25)) lb
  rw [World.size_alloc] at n2
  have n3 := lay35 ((w.alloc (.cells (leA la) 25)).alloc (.cells (leA lb) 25)) ha hb
  have e : ((w.alloc (.cells (leA la) 25)).alloc (.cells (leA lb) 25)).heap.size = w.heap.size + 2 := by simp
  rw [e] at n3
  exact ⟨(a1.alloc (by simp) _).alloc (by simp; omega) _, ((LeAt.new w la).below b2 (by omega)).below b3 (by omega), n2.below b3 (by omega), n3⟩
theorem back_eq {l l' : Le} {h h' : Bool} (h1 : askB l h = true) (h2 : askB l' h' = true) (e : askR l h = askR l' h') : l = l' ∧ h = h' := by
  have a := (back_ask h1).1
  have b := (back_ask h2).1
  rw [e] at a
  exact ⟨a.a.symm.trans b.a, a.b.symm.trans b.b⟩
theorem len_of {l : Le} {h : Bool} (hl : 0 < (askR l h).length) : askB l h = true := by
  cases hb : askB l h with
  | true => rfl
  | false => rw [ask_no_len hb] at hl; simp at hl
set_option maxRecDepth 100000 in
set_option maxHeartbeats 8000000 in
theorem walk (v0 : Value) (s0 : Le) (v1 : Value) (s1 : Le) (v2 : Value) (s2 : (Bool × Bool)) (w : World) (w0 : IsLe w v0 s0) (w1 : IsLe w v1 s1) (w2 : IsFlags w v2 s2) :
    Calls Try.prog 5 #[v0, v1, v2] w fun e w' => e = .returned (.bool true) ∧ Below w.heap.size w w' := by
  obtain ⟨rfl, hl⟩ := w0
  obtain ⟨rfl, hl'⟩ := w1
  obtain ⟨ha, hb0⟩ := s2
  unfold IsFlags at w2
  subst w2
  dsimp only
  obtain ⟨lx, hx, ex, cx, _, fx⟩ := read_ans (askR s0 ha)
  obtain ⟨ly, hy, ey, cy, _, fy⟩ := read_ask (ansR s0 ha)
  have e1 : ex = 3 := by
    rcases fx with ⟨_, h⟩ | ⟨h, _⟩
    · cases hb : askB s0 ha with
      | true => exact (ask_ans ⟨hb, rfl⟩ h).elim
      | false => rw [ask_no_len hb] at h; exact absurd h ans_empty
    · exact h
  have e2 : ey = 3 := by
    rcases fy with ⟨_, h⟩ | ⟨h, _⟩
    · cases hb : ansB s0 ha with
      | true => exact (ask_ans h ⟨hl, hb, rfl⟩).elim
      | false => rw [ans_no_len hb] at h; exact absurd h ask_empty
    · exact h
  subst e1
  subst e2
  have CX := Lib.hid cx
  have CY := Lib.hid cy
  have CA := Lib.hid (fun W => tell_ask s0 ha W hl)
  have CB := Lib.hid (fun W => tell_ask s1 hb0 W hl')
  have CC := Lib.hid (fun W => tell_ans s0 ha W hl)
  have HS0 := Lib.hid (S3.start w s0 s1 ha hb0)
  clear hl hl' fx fy cx cy
  unfold ansV leV leA at CX CY
  unfold leV leA at CA CB CC ⊢
  unfold leA at HS0
  have HEQ : Hid (0 < (askR s0 ha).length → 0 < (askR s1 hb0).length → (decide (askR s0 ha = askR s1 hb0) = (decide (s0 = s1) && (ha == hb0)))) := Lib.hid (fun h1 h2 => by
    rw [Bool.eq_iff_iff]
    simp only [decide_eq_true_eq, Bool.and_eq_true, beq_iff_eq]
    exact ⟨back_eq (len_of h1) (len_of h2), fun ⟨e1, e2⟩ => by rw [e1, e2]⟩)
  go_enter Try.func5, Try.ntmps5
  go_wp2_with fail
  refine (awake_any _).mono ?_
  rintro e w1 ⟨rfl, hb⟩
  have HS1 := Lib.hid (HS0.out.below hb)
  obtain ⟨x0, x1, x2, x3, x4, x5, x6, x7⟩ := HS1.out.a.cells
  obtain ⟨y0, y1⟩ := HS1.out.h
  clear hb HS0
  go_wp2_with fail
  refine (CA.out _).mono ?_
  rintro e w2 ⟨V2, rfl, hr, hb⟩
  have HS2 := Lib.hid (HS1.out.below hb)
  have HR2 := Lib.hid hr
  clear hb hr x0 x1 x2 x3 x4 x5 x6 x7 y0 y1
  obtain ⟨x0, x1, x2, x3, x4, x5, x6, x7⟩ := HS2.out.b.cells
  obtain ⟨y0, y1⟩ := HS2.out.h
  go_wp2_with fail
  refine (CB.out _).mono ?_
  rintro e w3 ⟨V3, rfl, hr, hb⟩
  have HS3 := Lib.hid (HS2.out.below hb)
  have HA3 := Lib.hid (HR2.out.below hb)
  have HR3 := Lib.hid hr
  clear hb hr x0 x1 x2 x3 x4 x5 x6 x7 y0 y1 HS1 HS2 HR2
  obtain ⟨x0, x1, x2, x3, x4, x5, x6, x7⟩ := HS3.out.a.cells
  obtain ⟨z0, z1, z2, z3, z4, z5, z6, z7⟩ := HS3.out.b.cells
  obtain ⟨y0, y1⟩ := HS3.out.h
  obtain ⟨A2, c2, rfl, v1, v2, v3, _⟩ := HA3.out
  obtain ⟨A3, c3, rfl, u1, u2, u3, _⟩ := HR3.out
  have CQ : Hid (∀ n, Calls Try.prog 14 #[.slice A2 (askR s0 ha).length c2, .slice A3 (askR s1 hb0).length c3] (w3.drewN n) fun e w' => e = .returned (.bool (decide (askR s0 ha = askR s1 hb0))) ∧ ∃ q, w' = (w3.drewN n).drewN q) := Lib.hid (fun n => same_any A2 A3 _ _ c2 c3 _ _ (w3.drewN n) (by omega) v1 u1)
  clear v1 v2 v3 u1 u2 u3
  generalize hR2 : askR s0 ha = r2 at *
  generalize hR3 : askR s1 hb0 = r3 at *
  generalize hn2 : r2.length = n2 at *
  generalize hn3 : r3.length = n3 at *
  have HN := Lib.hid (show r2.length = n2 ∧ r3.length = n3 from ⟨hn2, hn3⟩)
  clear hR2 hR3 hn2 hn3
  have hq := fun W => eq_le s0 s1 W
  unfold leA at hq
  generalize decide (s0 = s1) = dd at *
  by_cases h2 : n2 = 0
  · subst h2
    go_wp2_with fail
    go_quiet (fail)
    go_wp2_with fail
    have HSd : Hid (S3 w (w3.drewN nq) s0 s1 ha hb0) := Lib.hid (HS3.out.below (below_drewN' (Below.refl _ _) nq))
    refine (CX.out _ _ (HA3.out.drew nq)).mono ?_
    rintro e w4 ⟨rfl, hb⟩
    obtain ⟨k1, k2⟩ := lay w4 lx
    have HS4 := Lib.hid ((HSd.out.below hb).below k1)
    unfold leA at HS4
    clear hb k1 k2 HSd
    clear x0 x1 x2 x3 x4 x5 x6 x7 y0 y1 z0 z1 z2 z3 z4 z5 z6 z7
    obtain ⟨x0, x1, x2, x3, x4, x5, x6, x7⟩ := (HS3.out.below (below_drewN' (Below.refl _ _) nq)).a.cells
    clear x0 x1 x2 x3 x4 x5 x6 x7
    obtain ⟨x0, x1, x2, x3, x4, x5, x6, x7⟩ := HS4.out.a.cells
    obtain ⟨y0, y1⟩ := HS4.out.h
    go_wp2_with fail
    refine (CC.out _).mono ?_
    rintro e w5 ⟨V5, rfl, hr, hb⟩
    have HS5 := Lib.hid (HS4.out.below hb)
    have HR5 := Lib.hid hr
    clear hb hr x0 x1 x2 x3 x4 x5 x6 x7 y0 y1
    go_wp2_with fail
    refine (CY.out _ _ HR5.out).mono ?_
    rintro e w6 ⟨rfl, hb⟩
    have HF : Hid (Below w.heap.size w (w6.alloc (.cells (leA ly) 25))) := Lib.hid ((HS5.out.below hb).low.alloc (HS5.out.below hb).low.size _)
    unfold leA at HF
    clear hb
    go_wp2
    go_ret
    exact ⟨rfl, HF.out⟩
  · have t2 : decide (0 < n2) = true := by simp; omega
    by_cases h3 : n3 = 0
    · subst h3
      go_wp2_with fail
      go_quiet (fail)
      go_wp2_with fail
      have HSd : Hid (S3 w (w3.drewN nq) s0 s1 ha hb0) := Lib.hid (HS3.out.below (below_drewN' (Below.refl _ _) nq))
      refine (CX.out _ _ (HA3.out.drew nq)).mono ?_
      rintro e w4 ⟨rfl, hb⟩
      obtain ⟨k1, k2⟩ := lay w4 lx
      have HS4 := Lib.hid ((HSd.out.below hb).below k1)
      unfold leA at HS4
      clear hb k1 k2 HSd
      clear x0 x1 x2 x3 x4 x5 x6 x7 y0 y1 z0 z1 z2 z3 z4 z5 z6 z7
      obtain ⟨x0, x1, x2, x3, x4, x5, x6, x7⟩ := (HS3.out.below (below_drewN' (Below.refl _ _) nq)).a.cells
      clear x0 x1 x2 x3 x4 x5 x6 x7
      obtain ⟨x0, x1, x2, x3, x4, x5, x6, x7⟩ := HS4.out.a.cells
      obtain ⟨y0, y1⟩ := HS4.out.h
      go_wp2_with fail
      refine (CC.out _).mono ?_
      rintro e w5 ⟨V5, rfl, hr, hb⟩
      have HS5 := Lib.hid (HS4.out.below hb)
      have HR5 := Lib.hid hr
      clear hb hr x0 x1 x2 x3 x4 x5 x6 x7 y0 y1
      go_wp2_with fail
      refine (CY.out _ _ HR5.out).mono ?_
      rintro e w6 ⟨rfl, hb⟩
      have HF : Hid (Below w.heap.size w (w6.alloc (.cells (leA ly) 25))) := Lib.hid ((HS5.out.below hb).low.alloc (HS5.out.below hb).low.size _)
      unfold leA at HF
      clear hb
      go_wp2
      go_ret
      exact ⟨rfl, HF.out⟩
    · have t3 : decide (0 < n3) = true := by simp; omega
      have hE := HEQ.out (by omega) (by omega)
      rw [hE] at CQ
      clear hE
      cases dd with
      | false =>
        rw [Bool.false_and] at CQ
        go_wp2_with fail
        go_quiet ((go_at_call 14; refine Calls.quiet_of (CQ.out _)))
        go_wp2_with fail
        have HSd : Hid (S3 w (w3.drewN nq) s0 s1 ha hb0) := Lib.hid (HS3.out.below (below_drewN' (Below.refl _ _) nq))
        refine (CX.out _ _ (HA3.out.drew nq)).mono ?_
        rintro e w4 ⟨rfl, hb⟩
        obtain ⟨k1, k2⟩ := lay w4 lx
        have HS4 := Lib.hid ((HSd.out.below hb).below k1)
        unfold leA at HS4
        clear hb k1 k2 HSd
        clear x0 x1 x2 x3 x4 x5 x6 x7 y0 y1 z0 z1 z2 z3 z4 z5 z6 z7
        obtain ⟨x0, x1, x2, x3, x4, x5, x6, x7⟩ := (HS3.out.below (below_drewN' (Below.refl _ _) nq)).a.cells
        clear x0 x1 x2 x3 x4 x5 x6 x7
        obtain ⟨x0, x1, x2, x3, x4, x5, x6, x7⟩ := HS4.out.a.cells
        obtain ⟨y0, y1⟩ := HS4.out.h
        go_wp2_with fail
        refine (CC.out _).mono ?_
        rintro e w5 ⟨V5, rfl, hr, hb⟩
        have HS5 := Lib.hid (HS4.out.below hb)
        have HR5 := Lib.hid hr
        clear hb hr x0 x1 x2 x3 x4 x5 x6 x7 y0 y1
        go_wp2_with fail
        refine (CY.out _ _ HR5.out).mono ?_
        rintro e w6 ⟨rfl, hb⟩
        have HF : Hid (Below w.heap.size w (w6.alloc (.cells (leA ly) 25))) := Lib.hid ((HS5.out.below hb).low.alloc (HS5.out.below hb).low.size _)
        unfold leA at HF
        clear hb
        go_wp2
        go_ret
        exact ⟨rfl, HF.out⟩
      | true =>
        rw [Bool.true_and] at CQ
        generalize hee : (ha == hb0) = ee at *
        cases ee with
        | false =>
          go_wp2_with fail
          go_quiet ((go_at_call 14; refine Calls.quiet_of (CQ.out _)))
          go_wp2_with fail
          have HSd : Hid (S3 w (w3.drewN nq) s0 s1 ha hb0) := Lib.hid (HS3.out.below (below_drewN' (Below.refl _ _) nq))
          refine (CX.out _ _ (HA3.out.drew nq)).mono ?_
          rintro e w4 ⟨rfl, hb⟩
          obtain ⟨k1, k2⟩ := lay w4 lx
          have HS4 := Lib.hid ((HSd.out.below hb).below k1)
          unfold leA at HS4
          clear hb k1 k2 HSd
          clear x0 x1 x2 x3 x4 x5 x6 x7 y0 y1 z0 z1 z2 z3 z4 z5 z6 z7
          obtain ⟨x0, x1, x2, x3, x4, x5, x6, x7⟩ := (HS3.out.below (below_drewN' (Below.refl _ _) nq)).a.cells
          clear x0 x1 x2 x3 x4 x5 x6 x7
          obtain ⟨x0, x1, x2, x3, x4, x5, x6, x7⟩ := HS4.out.a.cells
          obtain ⟨y0, y1⟩ := HS4.out.h
          go_wp2_with fail
          refine (CC.out _).mono ?_
          rintro e w5 ⟨V5, rfl, hr, hb⟩
          have HS5 := Lib.hid (HS4.out.below hb)
          have HR5 := Lib.hid hr
          clear hb hr x0 x1 x2 x3 x4 x5 x6 x7 y0 y1
          go_wp2_with fail
          refine (CY.out _ _ HR5.out).mono ?_
          rintro e w6 ⟨rfl, hb⟩
          have HF : Hid (Below w.heap.size w (w6.alloc (.cells (leA ly) 25))) := Lib.hid ((HS5.out.below hb).low.alloc (HS5.out.below hb).low.size _)
          unfold leA at HF
          clear hb
          go_wp2
          go_ret
          exact ⟨rfl, HF.out⟩
        | true =>
          go_wp2_with fail
          go_quiet ((go_at_call 14; refine Calls.quiet_of (CQ.out _)))
          go_wp2_with fail
          have HSd : Hid (S3 w (w3.drewN nq) s0 s1 ha hb0) := Lib.hid (HS3.out.below (below_drewN' (Below.refl _ _) nq))
          refine (CX.out _ _ (HA3.out.drew nq)).mono ?_
          rintro e w4 ⟨rfl, hb⟩
          obtain ⟨k1, k2⟩ := lay w4 lx
          have HS4 := Lib.hid ((HSd.out.below hb).below k1)
          unfold leA at HS4
          clear hb k1 k2 HSd
          clear x0 x1 x2 x3 x4 x5 x6 x7 y0 y1 z0 z1 z2 z3 z4 z5 z6 z7
          obtain ⟨x0, x1, x2, x3, x4, x5, x6, x7⟩ := (HS3.out.below (below_drewN' (Below.refl _ _) nq)).a.cells
          clear x0 x1 x2 x3 x4 x5 x6 x7
          obtain ⟨x0, x1, x2, x3, x4, x5, x6, x7⟩ := HS4.out.a.cells
          obtain ⟨y0, y1⟩ := HS4.out.h
          go_wp2_with fail
          refine (CC.out _).mono ?_
          rintro e w5 ⟨V5, rfl, hr, hb⟩
          have HS5 := Lib.hid (HS4.out.below hb)
          have HR5 := Lib.hid hr
          clear hb hr x0 x1 x2 x3 x4 x5 x6 x7 y0 y1
          go_wp2_with fail
          refine (CY.out _ _ HR5.out).mono ?_
          rintro e w6 ⟨rfl, hb⟩
          have HF : Hid (Below w.heap.size w (w6.alloc (.cells (leA ly) 25))) := Lib.hid ((HS5.out.below hb).low.alloc (HS5.out.below hb).low.size _)
          unfold leA at HF
          clear hb
          go_wp2
          go_ret
          exact ⟨rfl, HF.out⟩

/-! ### THE ROW's STEP: WRITTEN OUT: LEAVE IT -/
set_option maxRecDepth 100000 in
theorem lifted (os : Os) (started : os.Started) (H : Type) (enc : TypeId × Value → H) :
    ReturnsInHanded {} Try.checked os 5 .any (Rows.pmpApartSpec.pre6 enc Try.prog Try.f5 Rows.pmpApartRow.domain false) (Rows.pmpApartSpec.post enc Try.prog Try.f5 false true false false) := by
  refine returnsInHanded_of_change (C := Try.checked) own started (by kernel_rfl) Try.func5
    (ChangeSpec.witness6 (enc := enc) (C := Try.checked) false ⟨#[], #[.agg #[.int .i64 0, .int .i64 0, .int .i64 0, .int .i64 0, .int .u64 0, .int .i64 0, .int .i64 0, .int .u32 0], .agg #[.int .i64 0, .int .i64 0, .int .i64 0, .int .i64 0, .int .u64 0, .int .i64 0, .int .i64 0, .int .u32 0], .agg #[.bool false, .bool false]], []⟩ 8 (by kernel_rfl) (by kernel_rfl) (by kernel_rfl) (by kernel_rfl)) ?_
  intro W base args ds gs before hval0 hW hcnd _
  have hval : ∀ (j : Nat) t v, Try.f5.params[j]? = some t → args[j]? = some v → Value.okWide Try.prog W .any base t v := hval0
  have hW' := hW
  obtain ⟨p, q, hA0, hV, rfl, hfz, hnd⟩ := hW
  have hA : DataW.TrodAll enc Try.prog W 0 (fun _ => true) true Try.f5.params.toList args.toList ds p := hA0
  rw [Try.params5] at hA hval
  obtain ⟨v0, vs0, d0, ds0, p0, q0, hargs, rfl, rfl, h0, r0⟩ := trodAll_cons hA
  obtain ⟨v1, vs1, d1, ds1, p1, q1, rfl, rfl, rfl, h1, r1⟩ := trodAll_cons r0
  obtain ⟨v2, vs2, d2, ds2, p2, q2, rfl, rfl, rfl, h2, r2⟩ := trodAll_cons r1
  obtain ⟨rfl, rfl, rfl⟩ := trodAll_nil r2
  obtain rfl : args = #[v0, v1, v2] := by cases args; simp_all
  obtain ⟨rfl, rfl⟩ := trodVars_none hV
  have k0 := h0
  have lt0 : ∀ x ∈ p0, x.block < W.heap.size := by obtain ⟨m, hm⟩ := k0; exact DataW.trod_lt m _ _ _ hm
  obtain ⟨s0, w0⟩ := open_le (hval 0 25 v0 rfl rfl) h0
  have k1 := h1
  have lt1 : ∀ x ∈ p1, x.block < W.heap.size := by obtain ⟨m, hm⟩ := k1; exact DataW.trod_lt m _ _ _ hm
  obtain ⟨s1, w1⟩ := open_le (hval 1 25 v1 rfl rfl) h1
  have k2 := h2
  have lt2 : ∀ x ∈ p2, x.block < W.heap.size := by obtain ⟨m, hm⟩ := k2; exact DataW.trod_lt m _ _ _ hm
  obtain ⟨s2, w2⟩ := open_flags (hval 2 35 v2 rfl rfl) h2
  clear hA0 hval0
  refine (walk v0 s0 v1 s1 v2 s2 W w0 w1 w2).mono fun e W' ⟨he, bel⟩ => ?_
  subst he
  exact ⟨_, rfl, _, _, _, [], _, [], hW', trodAll_mk1 (shut_bool Try.underlying4 _), (trodAll_cons_mk (Below.trod laidOut (by kernel_rfl) (of_decide_eq_true (by kernel_rfl)) k0 bel lt0) (trodAll_cons_mk (Below.trod laidOut (by kernel_rfl) (of_decide_eq_true (by kernel_rfl)) k1 bel lt1) (trodAll_cons_mk (Below.trod laidOut (by kernel_rfl) (of_decide_eq_true (by kernel_rfl)) k2 bel lt2) trodAll_mk0))), rfl, bel.frame _, fun h => by cases h⟩

theorem over : Rows.pmpApartRow.holds Try.pinned (OpenSpec.ofChange Rows.pmpApartSpec) :=
  OpenClaim.holds_of_wide 5 Try.f5 rfl rfl rfl rfl rfl rfl rfl ⟨rfl, rfl, rfl, rfl, rfl⟩ rfl rfl rfl rfl rfl (by kernel_rfl) Try.func5 (by kernel_rfl)
    (of_decide_eq_true (by kernel_rfl)) (by unfold Func.isWrapper; first | (rw [if_pos (by decide +kernel)]; kernel_rfl) | (rw [if_neg (by decide +kernel)]; exact ⟨rfl, rfl⟩))
    (fun os started H enc _ => lifted os started H enc)

/-- ████ THE STATEMENT ████ -/
theorem proved : Rows.PmpApartSaid := over
#print axioms proved
end Go.Proofs.Ytabokjhimpmiiaa.pmpApart
