/-
  A way at a time that may not be, or of a host that there isn't, or to no address, is refused, and makes no binding. Condition: none beyond the statement's own.
-/
import Derived.Deep.Cut
import Derived.Test.YtidhdgcmagpkgaaWq
import Derived.Test.YtidhdgcmagpkgaaRows
import Derived.WalkKit
import Derived.ProofKit
import Derived.OpenShut
import Derived.ShutString
import Derived.ChangeOld
import Derived.Below
namespace Go.Proofs.Ytidhdgcmagpkgaa.worldTime
open Go.ChangeShapes Go.WideShapes Go.ChangeAt Go.RowKit
open Go.ChangeMaps (open_string shut_string)
set_option linter.unusedVariables false

theorem own : ownKnob Try.prog.godebug = none := by kernel_rfl
theorem laidOut : laidOutB Try.prog = true := by kernel_rfl

set_option maxRecDepth 100000 in
set_option maxHeartbeats 8000000 in
theorem walk (v0 : Value) (s0 : Pn) (v1 : Value) (s1 : Gs) (a2 : Int) (w : World) (w0 : IsPlan w v0 s0) (w1 : IsGo w v1 s1) (w2 : (Lit.int .i64 a2).wf = true) :
    Calls Try.prog 5 #[v0, v1, .int .i64 a2] w fun e w' => e = .returned (.bool true) ∧ Below w.heap.size w w' := by
  obtain ⟨A0, A1, A2, c0, c1, c2, rfl, PV⟩ := w0
  obtain ⟨gw, gh, gp, ⟨t1, t2⟩, gb⟩ := s1
  obtain ⟨rfl, hg⟩ := w1
  unfold gsCells
  dsimp only
  have hm38 := noGuard38
  have hs0 := ((Hs.nil w).box (k := w.heap.size) #[.slice A0 s0.bx.length c0, .slice A1 s0.bh.length c1, .slice A2 s0.hs.length c2] 26 rfl).box (k := w.heap.size + 1) #[.int .i64 gw, .int .i64 gh, .int .i64 gp, .int .u32 t1, .int .i64 t2, .bool gb] 38 (by simp)
  have h26 : Hid ((w.heap.size, Obj.cells #[.slice A0 s0.bx.length c0, .slice A1 s0.bh.length c1, .slice A2 s0.hs.length c2] 26 (0, 0)) ∈ [(w.heap.size + 1, Obj.cells #[.int .i64 gw, .int .i64 gh, .int .i64 gp, .int .u32 t1, .int .i64 t2, .bool gb] 38 (0, 0)), (w.heap.size, Obj.cells #[.slice A0 s0.bx.length c0, .slice A1 s0.bh.length c1, .slice A2 s0.hs.length c2] 26 (0, 0))]) := Lib.hid (by simp)
  have h38 : Hid ((w.heap.size + 1, Obj.cells #[.int .i64 gw, .int .i64 gh, .int .i64 gp, .int .u32 t1, .int .i64 t2, .bool gb] 38 (0, 0)) ∈ [(w.heap.size + 1, Obj.cells #[.int .i64 gw, .int .i64 gh, .int .i64 gp, .int .u32 t1, .int .i64 t2, .bool gb] 38 (0, 0)), (w.heap.size, Obj.cells #[.slice A0 s0.bx.length c0, .slice A1 s0.bh.length c1, .slice A2 s0.hs.length c2] 26 (0, 0))]) := Lib.hid (by simp)
  have HS0 := Lib.hid hs0
  have HPV := Lib.hid PV
  have HG := Lib.hid hg
  clear hs0 PV hg w2
  go_enter Try.func5, Try.ntmps5
  go_wp2_with fail
  refine (awake_wd _).mono ?_
  rintro e V1 ⟨rfl, hb1⟩
  have HS1 := Lib.hid (HS0.out.below hb1)
  obtain ⟨os, hos⟩ : ∃ os, [(w.heap.size + 1, Obj.cells #[.int .i64 gw, .int .i64 gh, .int .i64 gp, .int .u32 t1, .int .i64 t2, .bool gb] 38 (0, 0)), (w.heap.size, Obj.cells #[.slice A0 s0.bx.length c0, .slice A1 s0.bh.length c1, .slice A2 s0.hs.length c2] 26 (0, 0))] = os := ⟨_, rfl⟩
  rw [hos] at HS1 h26 h38
  clear hb1 HS0 hos
  have f0 := (HS1.out.cells h26.out 0).1
  have f1 := (HS1.out.cells h26.out 1).1
  have f2 := (HS1.out.cells h26.out 2).1
  simp at f0 f1 f2
  go_wp2_with fail
  refine (small_wd HPV.out _).mono ?_
  rintro e V2 ⟨rfl, hb2⟩
  have HS2 := Lib.hid (HS1.out.below hb2)
  have HLOW := Lib.hid HS2.out.low
  clear hb2 HS1 f0 f1 f2
  cases hsm : smallP s0 with
  | false =>
    clear hsm
    go_wp2
    go_ret
    exact ⟨rfl, HLOW.out⟩
  | true =>
    clear hsm
    have f0 := (HS2.out.cells h26.out 0).1
    have f1 := (HS2.out.cells h26.out 1).1
    have f2 := (HS2.out.cells h26.out 2).1
    simp at f0 f1 f2
    have HPV2 := Lib.hid (HPV.out.below HS2.out.low)
    have HNEW := Lib.hid HPV2.out.new
    go_wp2_with fail
    refine HNEW.out.mono ?_
    intro e V3 hm
    clear f0 f1 f2 HNEW
    rcases hm with ⟨_, rfl, hb3⟩ | ⟨hok, wb, bv, sv, hv, rfl, hp⟩
    · have HE := Lib.hid (HLOW.out.trans (hb3.mono HLOW.out.size))
      clear hb3
      go_wp2
      go_ret
      exact ⟨rfl, HE.out⟩
    · have HOK := Lib.hid (okNew_parts hok HPV.out.ib HPV.out.is)
      have HW := Lib.hid (hp.rebase HLOW.out HS2.out.held)
      clear hp hok HPV2 HLOW HS2
      have HLOW := Lib.hid HW.out.low
      obtain ⟨n, hn⟩ : ∃ n, s0.hs.length = n := ⟨_, rfl⟩
      have hn16 : n ≤ 16 := by have := HOK.out.h16; omega
      have HN := Lib.hid hn
      obtain ⟨r, hr⟩ : ∃ r, rightB s0.hs ⟨gw, gh, gp, (t1, t2), gb⟩ a2 = r := ⟨_, rfl⟩
      have HR := Lib.hid hr
      clear hn hr
      go_upto_region 8 with fail
      go_cut [9] from 34 (fun v9 wc => v9 = .bool r ∧ wc = V3)
      case first =>
        have f2 := (HW.out.cells h26.out 2).1
        simp at f2
        rw [HN.out] at f2
        have q1 := (HW.out.cells h38.out 1).1
        have q2 := (HW.out.cells h38.out 2).1
        have q3 := (HW.out.cells h38.out 3).1
        have q4 := (HW.out.cells h38.out 4).1
        simp at q1 q2 q3 q4
        by_cases c1 : 0 ≤ a2
        case neg =>
          have er : r = false := by
            rw [← HR.out]
            unfold rightB
            rw [decide_eq_false_iff_not]
            rintro ⟨h1, h2, h3, h4, h5, h6, h7, h8, h9⟩
            dsimp only at h1 h2 h3 h4 h5 h6 h7 h8 h9
            have := HN.out
            omega
          subst er
          go_wp2
          go_meet
          case rel => exact ⟨rfl, rfl⟩
        by_cases c2 : a2 ≤ 1099511627776
        case neg =>
          have er : r = false := by
            rw [← HR.out]
            unfold rightB
            rw [decide_eq_false_iff_not]
            rintro ⟨h1, h2, h3, h4, h5, h6, h7, h8, h9⟩
            dsimp only at h1 h2 h3 h4 h5 h6 h7 h8 h9
            have := HN.out
            omega
          subst er
          go_wp2
          go_meet
          case rel => exact ⟨rfl, rfl⟩
        by_cases c3 : 0 ≤ gh
        case neg =>
          have er : r = false := by
            rw [← HR.out]
            unfold rightB
            rw [decide_eq_false_iff_not]
            rintro ⟨h1, h2, h3, h4, h5, h6, h7, h8, h9⟩
            dsimp only at h1 h2 h3 h4 h5 h6 h7 h8 h9
            have := HN.out
            omega
          subst er
          go_wp2
          go_meet
          case rel => exact ⟨rfl, rfl⟩
        by_cases c4 : gh < (n : Int)
        case neg =>
          have er : r = false := by
            rw [← HR.out]
            unfold rightB
            rw [decide_eq_false_iff_not]
            rintro ⟨h1, h2, h3, h4, h5, h6, h7, h8, h9⟩
            dsimp only at h1 h2 h3 h4 h5 h6 h7 h8 h9
            have := HN.out
            omega
          subst er
          go_wp2
          go_meet
          case rel => exact ⟨rfl, rfl⟩
        by_cases c5 : 1 ≤ gp
        case neg =>
          have er : r = false := by
            rw [← HR.out]
            unfold rightB
            rw [decide_eq_false_iff_not]
            rintro ⟨h1, h2, h3, h4, h5, h6, h7, h8, h9⟩
            dsimp only at h1 h2 h3 h4 h5 h6 h7 h8 h9
            have := HN.out
            omega
          subst er
          go_wp2
          go_meet
          case rel => exact ⟨rfl, rfl⟩
        by_cases c6 : gp ≤ 65535
        case neg =>
          have er : r = false := by
            rw [← HR.out]
            unfold rightB
            rw [decide_eq_false_iff_not]
            rintro ⟨h1, h2, h3, h4, h5, h6, h7, h8, h9⟩
            dsimp only at h1 h2 h3 h4 h5 h6 h7 h8 h9
            have := HN.out
            omega
          subst er
          go_wp2
          go_meet
          case rel => exact ⟨rfl, rfl⟩
        by_cases c7 : t1 = 0
        case pos =>
          subst c7
          have er : r = false := by
            rw [← HR.out]
            unfold rightB
            rw [decide_eq_false_iff_not]
            rintro ⟨h1, h2, h3, h4, h5, h6, h7, h8, h9⟩
            dsimp only at h1 h2 h3 h4 h5 h6 h7 h8 h9
            have := HN.out
            omega
          subst er
          go_wp2
          go_meet
          case rel => exact ⟨rfl, rfl⟩
        have c7b : (t1 != (0 : Int)) = true := by simpa using c7
        by_cases c8 : 1 ≤ t2
        case neg =>
          have er : r = false := by
            rw [← HR.out]
            unfold rightB
            rw [decide_eq_false_iff_not]
            rintro ⟨h1, h2, h3, h4, h5, h6, h7, h8, h9⟩
            dsimp only at h1 h2 h3 h4 h5 h6 h7 h8 h9
            have := HN.out
            omega
          subst er
          go_wp2
          go_meet
          case rel => exact ⟨rfl, rfl⟩
        by_cases c9 : t2 ≤ 65535
        case neg =>
          have er : r = false := by
            rw [← HR.out]
            unfold rightB
            rw [decide_eq_false_iff_not]
            rintro ⟨h1, h2, h3, h4, h5, h6, h7, h8, h9⟩
            dsimp only at h1 h2 h3 h4 h5 h6 h7 h8 h9
            have := HN.out
            omega
          subst er
          go_wp2
          go_meet
          case rel => exact ⟨rfl, rfl⟩
        have er : r = true := by
          rw [← HR.out]
          unfold rightB
          rw [decide_eq_true_eq]
          have := HN.out
          exact ⟨c1, c2, c3, by dsimp only; omega, c5, c6, c7, c8, c9⟩
        subst er
        go_wp2
        go_meet
        case rel => exact ⟨by simp, rfl⟩
      case rest =>
        obtain ⟨rfl, rfl⟩ := hcut
        have q1 := (HW.out.cells h38.out 1).1
        have q2 := (HW.out.cells h38.out 2).1
        have q3 := (HW.out.cells h38.out 3).1
        have q4 := (HW.out.cells h38.out 4).1
        simp at q1 q2 q3 q4
        have hway := way_wp HW.out HOK.out.okS HOK.out.ok HOK.out.len HOK.out.s16 HOK.out.h16 HOK.out.okH a2 gh gp (t1, t2) ⟨HG.out.2.2.1.1, HG.out.2.2.1.2⟩ HG.out.2.2.2
        unfold adr at hway
        cases r with
        | true =>
          have hc := way_right HOK.out (fun b hb => ⟨HOK.out.ok b hb, by obtain ⟨x, _, rfl⟩ := List.mem_map.1 hb; exact Int.le_refl _⟩) HG.out HR.out
          dsimp only at hc
          obtain ⟨⟨⟨h', ⟨f1, f2⟩, ⟨g1, g2⟩, c'⟩, bs', now'⟩, hR⟩ : ∃ R, wayM (sitesOf s0.bx s0.bh) s0.hs (s0.bx.map freshP) 0 a2 gh gp (t1, t2) = R := ⟨_, rfl⟩
          rw [hR] at hway hc
          dsimp only at hway hc
          have hcb : (c' != 1) = true := by simpa using hc
          have HWAY := Lib.hid hway
          clear hway hR
          go_wp2_with fail
          refine HWAY.out.mono ?_
          rintro e V4 ⟨rfl, hw5⟩
          have HLOW6 := Lib.hid ((hw5.box (k := V4.heap.size) #[.int .u32 f1, .int .i64 f2] 36 rfl).box (k := V4.heap.size + 1) #[.int .u32 g1, .int .i64 g2] 36 (by simp)).low
          clear hw5 HWAY q1 q2 q3 q4
          go_wp2
          go_ret
          exact ⟨rfl, HLOW6.out⟩
        | false =>
          have e0 := way_wrong HOK.out HR.out
          dsimp only at e0
          rw [e0] at hway
          unfold noWay at hway
          dsimp only at hway
          have HWAY := Lib.hid hway
          clear hway e0
          go_wp2_with fail
          refine HWAY.out.mono ?_
          rintro e V4 ⟨rfl, hw5⟩
          have HW6 := Lib.hid ((hw5.box (k := V4.heap.size) #[.int .u32 0, .int .i64 0] 36 rfl).box (k := V4.heap.size + 1) #[.int .u32 0, .int .i64 0] 36 (by simp))
          clear hw5 HWAY q1 q2 q3 q4
          obtain ⟨nb, hnb⟩ : ∃ nb, s0.bx.length = nb := ⟨_, rfl⟩
          have HNB := Lib.hid hnb
          have hnb16 : nb ≤ 16 := by have h9 := HOK.out.len; rw [List.length_map] at h9; have := HOK.out.s16; omega
          clear hnb
          go_upto_region 10 with fail
          obtain ⟨VB, hVB⟩ : ∃ VB, (V4.alloc (.cells #[.int .u32 0, .int .i64 0] 36)).alloc (.cells #[.int .u32 0, .int .i64 0] 36) = VB := ⟨_, rfl⟩
          rw [hVB] at HW6 ⊢
          clear hVB
          go_wp2
          go_loopg [14] nb (fun gg s14 wr => ∃ (k : Nat) (bs' : List Bp), k ≤ nb ∧ nb - k ≤ gg ∧ s14 = .int .i64 (k : Int) ∧ Hid (Wp w wb bv sv hv (sitesOf s0.bx s0.bh) s0.hs bs' 0 ((V4.heap.size + 1, .cells #[.int .u32 0, .int .i64 0] 36 (0, 0)) :: (V4.heap.size, .cells #[.int .u32 0, .int .i64 0] 36 (0, 0)) :: os) wr) ∧ Hid (bs'.length = nb ∧ ∀ b ∈ bs', b.M = []))
          case atStart => exact ⟨0, _, by omega, by omega, rfl, HW6, Lib.hid ⟨by rw [List.length_map]; exact HNB.out, fun b hb => by obtain ⟨x, _, rfl⟩ := List.mem_map.1 hb; rfl⟩⟩
          case round =>
            obtain ⟨k, bs', hk, hkg, rfl, HWR, HBS⟩ := hrel
            have f0 := (HWR.out.cells (List.mem_cons_of_mem _ (List.mem_cons_of_mem _ h26.out)) 0).1
            simp at f0
            rw [HNB.out] at f0
            by_cases hkn : k < nb
            · have hkz : (k : Int) < (nb : Int) := by omega
              obtain ⟨b, hb⟩ : ∃ b, bs'[k]? = some b := ⟨_, List.getElem?_eq_getElem (by have := HBS.out.1; omega)⟩
              obtain ⟨p, hbox, hall⟩ := box_all HWR.out (by have := HBS.out.1; omega) hb (HBS.out.2 b (List.mem_of_getElem? hb)) 1099511627776
              have HBOX := Lib.hid hbox; have HALL := Lib.hid hall
              clear hbox hall hb
              go_wp2_with fail
              refine HBOX.out.mono ?_
              rintro e V5 ⟨rfl, rfl⟩
              go_wp2_with fail
              refine HALL.out.mono ?_
              rintro e V6 ⟨A, c, t', rfl, hw7⟩
              have HW7 := Lib.hid hw7
              clear hw7 f0
              go_wp2
              go_roundg (nb - (k + 1))
              case measure => omega
              case rel => exact ⟨k + 1, _, by omega, by omega, by go_num, HW7, Lib.hid ⟨by rw [List.length_set]; exact HBS.out.1, fun d hd => (List.mem_or_eq_of_mem_set hd).elim (HBS.out.2 d) (fun e => by rw [e])⟩⟩
            · obtain rfl : k = nb := by omega
              obtain ⟨u00, u01, -⟩ := HWR.out.c2 (k := V4.heap.size) (u := .int .u32 0) (v := .int .i64 0) (t := 36) (by simp)
              obtain ⟨v00, v01, -⟩ := HWR.out.c2 (k := V4.heap.size + 1) (u := .int .u32 0) (v := .int .i64 0) (t := 36) (by simp)
              go_wp2
              go_ret
              exact ⟨rfl, HWR.out.low⟩

/-! ### THE ROW's STEP: WRITTEN OUT: LEAVE IT -/
set_option maxRecDepth 100000 in
theorem lifted (os : Os) (started : os.Started) (H : Type) (enc : TypeId × Value → H) :
    ReturnsInHanded {} Try.checked os 5 .any (Rows.worldTimeSpec.pre6 enc Try.prog Try.f5 Rows.worldTimeRow.domain false) (Rows.worldTimeSpec.post enc Try.prog Try.f5 false true false false) := by
  refine returnsInHanded_of_change (C := Try.checked) own started (by kernel_rfl) Try.func5
    (ChangeSpec.witness6 (enc := enc) (C := Try.checked) false ⟨#[], #[.agg #[.slice none 0 0, .slice none 0 0, .slice none 0 0], .agg #[.int .i64 0, .int .i64 0, .int .i64 0, .int .u32 0, .int .i64 0, .bool false], .int .i64 0], []⟩ 8 (by kernel_rfl) (by kernel_rfl) (by kernel_rfl) (by kernel_rfl)) ?_
  intro W base args ds gs before hval0 hW hcnd _
  have hval : ∀ (j : Nat) t v, Try.f5.params[j]? = some t → args[j]? = some v → Value.okWide Try.prog W .any base t v := hval0
  have hW' := hW
  obtain ⟨p, q, hA0, hV, rfl, hfz, hnd⟩ := hW
  have hA : DataW.TrodAll enc Try.prog W 0 (fun _ => true) true Try.f5.params.toList args.toList ds p := hA0
  rw [Try.params5] at hA hval
  obtain ⟨v0, vs0, d0, ds0, p0, q0, hargs, rfl, rfl, h0, r0⟩ := trodAll_cons hA
  obtain ⟨v1, vs1, d1, ds1, p1, q1, rfl, rfl, rfl, h1, r1⟩ := trodAll_cons r0
  obtain ⟨v2, vs2, d2, ds2, p2, q2, rfl, rfl, rfl, h2, r2⟩ := trodAll_cons r1
  obtain ⟨rfl, rfl, rfl⟩ := trodAll_nil r2
  obtain rfl : args = #[v0, v1, v2] := by cases args; simp_all
  obtain ⟨rfl, rfl⟩ := trodVars_none hV
  have k0 := h0
  have lt0 : ∀ x ∈ p0, x.block < W.heap.size := by obtain ⟨m, hm⟩ := k0; exact DataW.trod_lt m _ _ _ hm
  obtain ⟨s0, w0⟩ := open_plan (hval 0 26 v0 rfl rfl) h0
  have k1 := h1
  have lt1 : ∀ x ∈ p1, x.block < W.heap.size := by obtain ⟨m, hm⟩ := k1; exact DataW.trod_lt m _ _ _ hm
  obtain ⟨s1, w1⟩ := open_go (hval 1 38 v1 rfl rfl) h1
  obtain ⟨a2, rfl, rfl, rfl, w2⟩ := open_int Try.underlying3 (hval 2 3 v2 rfl rfl) h2
  clear hA0 hval0
  refine (walk v0 s0 v1 s1 a2 W w0 w1 w2).mono fun e W' ⟨he, bel⟩ => ?_
  subst he
  exact ⟨_, rfl, _, _, _, [], _, [], hW', trodAll_mk1 (shut_bool Try.underlying4 _), (trodAll_cons_mk (Below.trod laidOut (by kernel_rfl) (of_decide_eq_true (by kernel_rfl)) k0 bel lt0) (trodAll_cons_mk (Below.trod laidOut (by kernel_rfl) (of_decide_eq_true (by kernel_rfl)) k1 bel lt1) (trodAll_cons_mk (shut_int Try.underlying3 w2) trodAll_mk0))), rfl, bel.frame _, fun h => by cases h⟩

theorem over : Rows.worldTimeRow.holds Try.pinned (OpenSpec.ofChange Rows.worldTimeSpec) :=
  OpenClaim.holds_of_wide 5 Try.f5 rfl rfl rfl rfl rfl rfl rfl ⟨rfl, rfl, rfl, rfl, rfl⟩ rfl rfl rfl rfl rfl (by kernel_rfl) Try.func5 (by kernel_rfl)
    (of_decide_eq_true (by kernel_rfl)) (by unfold Func.isWrapper; first | (rw [if_pos (by decide +kernel)]; kernel_rfl) | (rw [if_neg (by decide +kernel)]; exact ⟨rfl, rfl⟩))
    (fun os started H enc _ => lifted os started H enc)

/-- ████ THE STATEMENT ████ -/
theorem proved : Rows.WorldTimeSaid := over
#print axioms proved
end Go.Proofs.Ytidhdgcmagpkgaa.worldTime
