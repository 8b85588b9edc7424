/-
  A law of the box: who asks for a port has it until its end, whoever sends there reaches them, and asked again it is the same. Conditions: none.
-/
import Derived.Deep.RegionWith
import Derived.Deep.Cut
import Derived.Test.YtcfbnepcinlheaaAsd
import Derived.Test.YtcfbnepcinlheaaRows
import Derived.WalkKit
import Derived.ProofKit
import Derived.OpenShut
import Derived.ShutString
import Derived.ChangeOld
import Derived.Below
namespace Go.Proofs.Ytcfbnepcinlheaa.natAsked
open Go.ChangeShapes Go.WideShapes Go.ChangeAt Go.RowKit
open Go.ChangeMaps (open_string shut_string)
set_option linter.unusedVariables false

theorem own : ownKnob Try.prog.godebug = none := by kernel_rfl
theorem laidOut : laidOutB Try.prog = true := by kernel_rfl

set_option maxRecDepth 100000 in
set_option maxHeartbeats 8000000 in
theorem walk (a0 : Int) (v1 : Value) (s1 : A2) (v2 : Value) (s2 : List A2) (w : World) (w0 : (Lit.int .u8 a0).wf = true) (w1 : IsAdr w v1 s1) (w2 : IsAdrs w v2 s2) :
    Calls Try.prog 6 #[.int .u8 a0, v1, v2] w fun e w' => e = .returned (.bool true) ∧ Below w.heap.size w w' := by
  obtain ⟨q0, q1⟩ := bounds_u8 w0
  obtain ⟨n, rfl⟩ := Int.eq_ofNat_of_zero_le q0
  obtain ⟨a, ha2⟩ : ∃ a, a = s1 := ⟨_, rfl⟩
  obtain ⟨rfl, ha⟩ := w1
  rw [← ha2] at ha ⊢
  obtain ⟨A, cap, rfl, hnc, hcm, hads, haz⟩ := w2
  unfold maxLen at hcm
  have HADS := Lib.hid hads; have HAZ := Lib.hid haz; have HA := Lib.hid ha
  have hg38 := noGuard38
  obtain ⟨x, hx⟩ : ∃ x, x = bxC n := ⟨_, rfl⟩
  have HX := Lib.hid hx
  have HOK : Hid (OkB x) := Lib.hid (by rw [hx]; exact bxC_ok n)
  have HMOST : Hid (1 ≤ x.most) := Lib.hid (by rw [hx]; unfold bxC; simp)
  have HWISH : Hid (wish0 x 40005 = 40005) := Lib.hid (by rw [hx]; unfold wish0 bxC; simp)
  have H25 := Lib.hid (fun W => box25 n (by omega) W)
  have HNEW : Hid (∀ (os : List (Nat × Obj)) V, Hs w os V → Calls Try.prog 10 #[.agg (boxCells x)] V fun e V' => ∃ g, e = .returned (.tuple #[.pointer (some ⟨g, 0, none⟩), .int .i64 0]) ∧ Pl w g x 0 [] os V') := Lib.hid (fun os V h => new_hs x (by rw [hx]; exact bxC_is n) (by rw [hx]; exact bxC_2 n) h)
  rw [← hx] at H25
  clear w0 hads haz ha ha2 hx q0 q1
  have hs0 := (Hs.nil w).box #[.int .u32 a.1, .int .i64 a.2] 38 rfl
  unfold adr
  go_enter Try.func6, Try.ntmps6
  go_wp2_with fail
  refine (awake_any _).mono ?_
  rintro e w1 ⟨rfl, hb1⟩
  have hs1 := hs0.below hb1
  clear hs0 hb1
  go_wp2_with fail
  refine (H25.out _).mono ?_
  rintro e w2 ⟨rfl, hb2⟩
  have hs3 := hs1.below hb2
  clear hs1 hb2
  have hN := HNEW.out _ _ hs3
  clear hs3
  unfold boxCells at hN ⊢
  go_wp2_with fail
  refine hN.mono ?_
  rintro e V ⟨g, rfl, hp⟩
  have HP := Lib.hid hp
  clear hN hp
  by_cases hlen : s2.length ≤ 20
  · have hlz : ¬ (20 : Int) < (s2.length : Int) := by omega
    obtain ⟨p0, p1⟩ := HP.out.c2 (k := w.heap.size) (u := .int .u32 a.1) (v := .int .i64 a.2) (by simp)
    have HC := Lib.hid (ask_pl HP.out HOK.out ok_nil 0 a 40005 50 HA.out)
    by_cases hm : mayA a = true
    · have HM := Lib.hid hm
      rw [askA_new HOK.out HMOST.out HWISH.out hm] at HC
      unfold ansI adr at HC
      dsimp only at HC
      clear hm HP
      go_wp2_with fail
      refine HC.out.mono ?_
      rintro e V2 ⟨rfl, hp2⟩
      have HP2 := Lib.hid hp2
      clear hp2 HC p0 p1
      go_wp2
      go_loopw [11] (fun i wr => ∃ (k : Nat) (now : Int) (l : List A2), k ≤ s2.length ∧ i = .int .i64 (k : Int) ∧ Hid ((now = 0 ∨ now = 1) ∧ l.length ≤ 16) ∧ Hid (Pl w g x now [bA a 50 l] [(w.heap.size, .cells #[.int .u32 a.1, .int .i64 a.2] 38 (0, 0))] wr)) (fun i _ => s2.length - (intOf i).toNat)
      case atStart => exact ⟨0, 0, [], by omega, rfl, Lib.hid ⟨.inl rfl, by simp⟩, HP2⟩
      case round =>
        obtain ⟨k, now, l, hk, rfl, HNL, HPR⟩ := hrel
        clear HP2
        by_cases hkl : k < s2.length
        · have hkz : (k : Int) < (s2.length : Int) := by omega
          obtain ⟨b, hz⟩ : ∃ b, s2[k]? = some b := ⟨_, List.getElem?_eq_getElem hkl⟩
          have HB := Lib.hid (HAZ.out b (List.mem_of_getElem? hz))
          obtain ⟨bb, off, rfl, hbl, hbc⟩ := HADS.out (by omega)
          obtain ⟨d0, d1⟩ := hbc k b hz
          have d2 := (HPR.out.low.cell (p := ⟨bb, off + k * 2, none⟩) hbl).trans d0
          have d3 := (HPR.out.low.cell (p := ⟨bb, off + k * 2 + 1, none⟩) hbl).trans d1
          obtain ⟨p0, p1⟩ := HPR.out.c2 (k := w.heap.size) (u := .int .u32 a.1) (v := .int .i64 a.2) (by simp)
          have hbl2 := World.block_lt_of_cell? wr _ d2
          have hwl2 := World.block_lt_of_cell? wr _ p0
          dsimp only at hbl2 hwl2
          have hn0 : 0 ≤ now := by rcases HNL.out.1 with h | h <;> omega
          have HG1 : Hid (goes now 1 = true) := Lib.hid (by rcases HNL.out.1 with rfl | rfl <;> decide)
          have HKEEP : Hid (∀ W, Below w.heap.size w W → W.cell? ⟨bb, off + k * 2, none⟩ = some (.int .u32 b.1) ∧ W.cell? ⟨bb, off + k * 2 + 1, none⟩ = some (.int .i64 b.2)) := Lib.hid (fun W hW => ⟨(hW.cell (p := ⟨bb, off + k * 2, none⟩) hbl).trans d0, (hW.cell (p := ⟨bb, off + k * 2 + 1, none⟩) hbl).trans d1⟩)
          clear d0 d1 hbc hz
          have HCW := Lib.hid (fun os W (hp : Pl w g x now [bA a 50 l] os W) => out_pl hp HOK.out (ok_bA HNL.out.2) 1 a b HA.out HB.out hn0)
          obtain ⟨R, hR⟩ : ∃ R, R = outS x now [bA a 50 l] 1 a b := ⟨_, rfl⟩
          rw [← hR] at HCW
          have HR := Lib.hid hR
          obtain ⟨⟨r1, r2⟩, rc, rn, rM⟩ := R
          unfold ansA adr at HCW
          dsimp only at HCW
          clear hR hn0
          have HPA := Lib.hid (HPR.out.drewN 1)
          have HPB := Lib.hid ((HPR.out.drewN 1).hold' (.cells #[.int .u32 0, .int .i64 0] 38 (0, 0)) ⟨_, _, rfl⟩)
          have hwne : w.heap.size ≠ wr.heap.size := by omega
          clear HPR
          go_upto_region 12 with (fail)
          go_cut [12, 13] from 1000 (fun v12 v13 wc => ∃ q : Nat, v12 = .pointer (some ⟨q, 0, none⟩) ∧ v13 = .int .i64 rc ∧ Hid (Pl w g x rn rM [(q, .cells #[.int .u32 r1, .int .i64 r2] 38 (0, 0)), (w.heap.size, .cells #[.int .u32 a.1, .int .i64 a.2] 38 (0, 0))] wc))
          case first =>
            have HCA := Lib.hid (HCW.out [(w.heap.size, .cells #[.int .u32 a.1, .int .i64 a.2] 38 (0, 0))])
            have HCB := Lib.hid (HCW.out [(wr.heap.size, .cells #[.int .u32 0, .int .i64 0] 38 (0, 0)), (w.heap.size, .cells #[.int .u32 a.1, .int .i64 a.2] 38 (0, 0))])
            clear HCW HKEEP
            go_region_with (go_at_call 13; first
              | (refine (HCA.out _ ?_).mono ?_; exact HPA.out; rintro e V3 ⟨rfl, hp3⟩; have HP3 := Lib.hid hp3; clear hp3)
              | (refine (HCB.out _ ?_).mono ?_; exact HPB.out; rintro e V3 ⟨rfl, hp3⟩; have HP3 := Lib.hid hp3; obtain ⟨t0, t1⟩ := hp3.cells (b := wr.heap.size) (C := #[.int .u32 0, .int .i64 0]) (t := 38) (by simp) 0; obtain ⟨t2, t3⟩ := hp3.cells (b := wr.heap.size) (C := #[.int .u32 0, .int .i64 0]) (t := 38) (by simp) 1; clear hp3))
            all_goals go_wp2
            all_goals (try simp only [Act.put, List.getElem_toArray, List.getElem_cons_zero, List.getElem_cons_succ, List.setIfInBounds_toArray, List.set_cons_zero, List.set_cons_succ])
            all_goals (go_meet; case rel => first | exact ⟨_, rfl, rfl, Lib.hid (HP3.out.box _ 38 rfl)⟩ | exact ⟨_, rfl, rfl, Lib.hid ((HP3.out.store (j := 0) (v := .int .u32 r1) (by simp; omega) (by omega)).store (j := 1) (v := .int .i64 r2) (by simp; omega) (by omega))⟩)
          case rest =>
            obtain ⟨q, rfl, rfl, HPC⟩ := hcut
            clear HPA HPB p0 p1 d2 d3 hbl2 hwl2 hwne
            by_cases hb : mayA b = true
            · have hR := HR.out
              rw [outA HG1.out HM.out hb] at hR
              simp only [Prod.mk.injEq] at hR
              obtain ⟨⟨rfl, rfl⟩, rfl, rfl, rfl⟩ := hR
              have HBM := Lib.hid hb
              have HNL2 : Hid ((seeL l b).length ≤ 16) := Lib.hid (seeL_len HNL.out.2 b)
              generalize seeL l b = l2 at *
              clear hb HR HCW HNL HG1
              obtain ⟨d2, d3⟩ := HKEEP.out _ HPC.out.low
              have hbl2 := World.block_lt_of_cell? wc _ d2
              dsimp only at hbl2
              have HCW := Lib.hid (fun os W (hp : Pl w g x 1 [bA a 50 l2] os W) => in_pl hp (ok_bA HNL2.out) 1 40005 b HB.out)
              rw [inA (by decide) HBM.out (by decide)] at HCW
              unfold ansA adr at HCW
              dsimp only at HCW
              obtain ⟨p0, p1⟩ := HPC.out.c2 (k := q) (u := .int .u32 x.host) (v := .int .i64 40005) (by simp)
              have hql := World.block_lt_of_cell? wc _ p0
              dsimp only at hql
              obtain ⟨s0, s1'⟩ := HPC.out.c2 (k := w.heap.size) (u := .int .u32 a.1) (v := .int .i64 a.2) (by simp)
              have hwl := World.block_lt_of_cell? wc _ s0
              dsimp only at hwl
              have hqn : w.heap.size ≠ wc.heap.size := by omega
              have hqm : q ≠ wc.heap.size := by omega
              have hwq : w.heap.size ≤ wc.heap.size := HPC.out.low.size
              have HC2 := Lib.hid (HCW.out _ _ HPC.out)
              clear HCW HPC HKEEP
              go_wp2_with fail
              refine HC2.out.mono ?_
              rintro e wd ⟨rfl, hpd⟩
              have hpd2 := hpd.box #[.int .u32 a.1, .int .i64 a.2] 38 rfl
              obtain ⟨f0, f1⟩ := hpd.c2 (k := w.heap.size) (u := .int .u32 a.1) (v := .int .i64 a.2) (by simp)
              obtain ⟨f2, f3⟩ := hpd.c2 (k := q) (u := .int .u32 x.host) (v := .int .i64 40005) (by simp)
              have f4 := World.block_lt_of_cell? wd _ f0
              have f5 := World.block_lt_of_cell? wd _ f2
              dsimp only at f4 f5
              have HP5 := Lib.hid (hpd2.sub (os' := [(w.heap.size, .cells #[.int .u32 a.1, .int .i64 a.2] 38 (0, 0))]) (by simp))
              clear hpd hpd2 d2 d3 p0 p1 s0 s1' HC2 hqn hqm hwq hql hwl hbl2
              go_wp2
              go_roundw
              case rel => exact ⟨k + 1, 1, l2, by omega, by go_num, Lib.hid ⟨.inr rfl, HNL2.out⟩, HP5⟩
              case measure => simp [intOf]; omega
            · have hb1 : mayA b = false := by simpa using hb
              have hR := HR.out
              rw [outA_bad HG1.out hb1] at hR
              simp only [Prod.mk.injEq] at hR
              obtain ⟨⟨rfl, rfl⟩, rfl, rfl, rfl⟩ := hR
              have HP3 := Lib.hid (HPC.out.sub (os' := [(w.heap.size, .cells #[.int .u32 a.1, .int .i64 a.2] 38 (0, 0))]) (by simp))
              clear hb hb1 HR HCW HPC HG1
              go_wp2
              go_roundw
              case rel => exact ⟨k + 1, 1, l, by omega, by go_num, Lib.hid ⟨.inr rfl, HNL.out.2⟩, HP3⟩
              case measure => simp [intOf]; omega
        · have hkz : ¬ (k : Int) < (s2.length : Int) := by omega
          obtain ⟨p0, p1⟩ := HPR.out.c2 (k := w.heap.size) (u := .int .u32 a.1) (v := .int .i64 a.2) (by simp)
          have HC := Lib.hid (ask_pl HPR.out HOK.out (ok_bA HNL.out.2) 2 a 40009 60 HA.out)
          rw [askA_again (by rcases HNL.out.1 with rfl | rfl <;> decide) HM.out] at HC
          unfold ansI adr at HC
          dsimp only at HC
          clear HPR
          go_wp2_with fail
          refine HC.out.mono ?_
          rintro e V3 ⟨rfl, hp3⟩
          have h55 : isA (5, 5) := ⟨⟨by decide, by decide⟩, by decide, by decide⟩
          have m55 : mayA (5, 5) = true := by decide
          have HI := Lib.hid (in_pl hp3 (ok_bA HNL.out.2) 59 40005 (5, 5) h55)
          rw [inA (by decide) m55 (by decide)] at HI
          obtain ⟨e0, e1⟩ := hp3.c2 (k := w.heap.size) (u := .int .u32 a.1) (v := .int .i64 a.2) (by simp)
          clear hp3 HC p0 p1
          unfold ansA adr at HI
          dsimp only at HI
          go_wp2_with fail
          refine HI.out.mono ?_
          rintro e V4 ⟨rfl, hp4⟩
          have hp5 := hp4.box #[.int .u32 a.1, .int .i64 a.2] 38 rfl
          have HI2 := Lib.hid (in_pl hp5 (ok_bA HNL.out.2) 60 40005 (5, 5) h55)
          rw [inA_gone (by decide) m55 (by decide)] at HI2
          obtain ⟨f0, f1⟩ := hp5.c2 (k := w.heap.size) (u := .int .u32 a.1) (v := .int .i64 a.2) (by simp)
          clear hp4 hp5 HI e0 e1
          unfold ansA adr at HI2
          dsimp only at HI2
          go_wp2_with fail
          refine HI2.out.mono ?_
          rintro e V5 ⟨rfl, hp6⟩
          have HALL := Lib.hid (all_pl (hp6.alloc (.cells #[.int .u32 0, .int .i64 0] 38)) ok_nil 60 (by decide))
          obtain ⟨g0, g1⟩ := hp6.c2 (k := w.heap.size) (u := .int .u32 a.1) (v := .int .i64 a.2) (by simp)
          obtain ⟨g2, g3⟩ := hp6.c2 (k := V4.heap.size) (u := .int .u32 a.1) (v := .int .i64 a.2) (by simp)
          have g4 := World.block_lt_of_cell? V5 _ g0
          have g5 := World.block_lt_of_cell? V5 _ g2
          dsimp only at g4 g5
          clear hp6 HI2 f0 f1
          go_wp2_with fail
          refine HALL.out.mono ?_
          rintro e V6 ⟨⟨v, l', rfl, hpm, -, ⟨A9, c9, rfl, -⟩⟩, hp7⟩
          have hll : l'.length = 0 := by rw [hpm.length_eq]; rfl
          rw [hll]
          have HE := Lib.hid hp7.low
          clear hp7 hpm hll HALL
          go_wp2
          go_ret
          exact ⟨rfl, HE.out⟩
    · have hm1 : mayA a = false := by simpa using hm
      rw [askA_bad hm1] at HC
      unfold ansI adr at HC
      dsimp only at HC
      clear hm hm1 HP
      go_wp2_with fail
      refine HC.out.mono ?_
      rintro e V2 ⟨rfl, hp2⟩
      have HE := Lib.hid hp2.low
      clear hp2 HC p0 p1
      go_wp2
      go_ret
      exact ⟨rfl, HE.out⟩
  · have hlz : (20 : Int) < (s2.length : Int) := by omega
    have HE := Lib.hid HP.out.low
    clear HP
    go_wp2
    go_ret
    exact ⟨rfl, HE.out⟩

/-! ### THE ROW's STEP: WRITTEN OUT: LEAVE IT -/
set_option maxRecDepth 100000 in
theorem lifted (os : Os) (started : os.Started) (H : Type) (enc : TypeId × Value → H) :
    ReturnsInHanded {} Try.checked os 6 .any (Rows.natAskedSpec.pre6 enc Try.prog Try.f6 Rows.natAskedRow.domain false) (Rows.natAskedSpec.post enc Try.prog Try.f6 false true false false) := by
  refine returnsInHanded_of_change (C := Try.checked) own started (by kernel_rfl) Try.func6
    (ChangeSpec.witness6 (enc := enc) (C := Try.checked) false ⟨#[], #[.int .u8 0, .agg #[.int .u32 0, .int .i64 0], .slice none 0 0], []⟩ 8 (by kernel_rfl) (by kernel_rfl) (by kernel_rfl) (by kernel_rfl)) ?_
  intro W base args ds gs before hval0 hW hcnd _
  have hval : ∀ (j : Nat) t v, Try.f6.params[j]? = some t → args[j]? = some v → Value.okWide Try.prog W .any base t v := hval0
  have hW' := hW
  obtain ⟨p, q, hA0, hV, rfl, hfz, hnd⟩ := hW
  have hA : DataW.TrodAll enc Try.prog W 0 (fun _ => true) true Try.f6.params.toList args.toList ds p := hA0
  rw [Try.params6] at hA hval
  obtain ⟨v0, vs0, d0, ds0, p0, q0, hargs, rfl, rfl, h0, r0⟩ := trodAll_cons hA
  obtain ⟨v1, vs1, d1, ds1, p1, q1, rfl, rfl, rfl, h1, r1⟩ := trodAll_cons r0
  obtain ⟨v2, vs2, d2, ds2, p2, q2, rfl, rfl, rfl, h2, r2⟩ := trodAll_cons r1
  obtain ⟨rfl, rfl, rfl⟩ := trodAll_nil r2
  obtain rfl : args = #[v0, v1, v2] := by cases args; simp_all
  obtain ⟨rfl, rfl⟩ := trodVars_none hV
  obtain ⟨a0, rfl, rfl, rfl, w0⟩ := open_int Try.underlying5 (hval 0 5 v0 rfl rfl) h0
  have k1 := h1
  have lt1 : ∀ x ∈ p1, x.block < W.heap.size := by obtain ⟨m, hm⟩ := k1; exact DataW.trod_lt m _ _ _ hm
  obtain ⟨s1, w1⟩ := open_adr (hval 1 38 v1 rfl rfl) h1
  have k2 := h2
  have lt2 : ∀ x ∈ p2, x.block < W.heap.size := by obtain ⟨m, hm⟩ := k2; exact DataW.trod_lt m _ _ _ hm
  obtain ⟨s2, w2⟩ := open_adrs (hval 2 56 v2 rfl rfl) h2
  clear hA0 hval0
  refine (walk a0 v1 s1 v2 s2 W w0 w1 w2).mono fun e W' ⟨he, bel⟩ => ?_
  subst he
  exact ⟨_, rfl, _, _, _, [], _, [], hW', trodAll_mk1 (shut_bool Try.underlying4 _), (trodAll_cons_mk (shut_int Try.underlying5 w0) (trodAll_cons_mk (Below.trod laidOut (by kernel_rfl) (of_decide_eq_true (by kernel_rfl)) k1 bel lt1) (trodAll_cons_mk (Below.trod laidOut (by kernel_rfl) (of_decide_eq_true (by kernel_rfl)) k2 bel lt2) trodAll_mk0))), rfl, bel.frame _, fun h => by cases h⟩

theorem over : Rows.natAskedRow.holds Try.pinned (OpenSpec.ofChange Rows.natAskedSpec) :=
  OpenClaim.holds_of_wide 6 Try.f6 rfl rfl rfl rfl rfl rfl rfl ⟨rfl, rfl, rfl, rfl, rfl⟩ rfl rfl rfl rfl rfl (by kernel_rfl) Try.func6 (by kernel_rfl)
    (of_decide_eq_true (by kernel_rfl)) (by unfold Func.isWrapper; first | (rw [if_pos (by decide +kernel)]; kernel_rfl) | (rw [if_neg (by decide +kernel)]; exact ⟨rfl, rfl⟩))
    (fun os started H enc _ => lifted os started H enc)

/-- ████ THE STATEMENT ████ -/
theorem proved : Rows.NatAskedSaid := over
#print axioms proved
end Go.Proofs.Ytcfbnepcinlheaa.natAsked
