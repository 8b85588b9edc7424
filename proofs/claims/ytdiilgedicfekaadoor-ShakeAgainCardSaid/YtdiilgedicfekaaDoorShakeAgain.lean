/-
  A Hello that comes again, as long as nothing else does, is answered by the very same; what is sent again is what was sent. Conditions: none but what the card says.
-/

import Derived.Deep.RegionHeld
import Derived.Test.YtdiilgedicfekaaDoorMh15
import Derived.Test.YtdiilgedicfekaaDoorRows
import Derived.Test.YtdiilgedicfekaaDoorCards
import Derived.Test.YtdiilgedicfekaaDoorTie
import Derived.WalkKit
import Derived.ProofKit
import Derived.OpenShut
import Derived.ShutString
import Derived.ChangeOld
import Derived.Below
import Derived.Lay
import Derived.LaidMore
import Derived.LaidOnce
import Derived.SevenTiedAt
namespace Go.Proofs.YtdiilgedicfekaaDoor.shakeAgain
open Go.ChangeShapes Go.WideShapes Go.ChangeAt Go.RowKit
open Go.ChangeMaps (open_string shut_string)
set_option linter.unusedVariables false

theorem own : ownKnob Tryd.prog.godebug = none := by kernel_rfl
theorem laidOut : laidOutB Tryd.prog = true := by kernel_rfl

set_option maxRecDepth 100000 in
set_option maxHeartbeats 80000000 in
theorem walk (v0 : Value) (s0 : Tq) (a1 : Int) (w : World) (w0 : IsTwo w v0 s0) (w1 : (Lit.int .u8 a1).wf = true) (hL : laidMet Tryd.prog Rows.shakeAgainRow.laid w) :
    Calls Tryd.prog 8 #[v0, .int .u8 a1] w fun e w' => e = .returned (.bool true) ∧ Below w.heap.size w w' := by
  have hbn := wf_u8 w1
  obtain ⟨u, hu⟩ : ∃ u : Nat, a1 = (u : Int) := ⟨a1.toNat, by omega⟩
  subst hu
  obtain ⟨r, hr⟩ : ∃ r, u % 20 = r := ⟨_, rfl⟩
  have hr20 : r < 20 := by omega
  have m1 : (u : Int) % 20 = (r : Int) := by omega
  have m2 : (u : Int).tmod 20 = (r : Int) := by rw [Int.tmod_eq_emod_of_nonneg (by omega)]; exact m1
  clear hr w1
  obtain ⟨rfl, i0, i1, i2, i3⟩ := w0
  obtain ⟨tA, tB, tNA, tNB⟩ := s0
  have HT := Lib.hid (tb_laid hL)
  clear hL
  simp only at i0 i1 i2 i3 ⊢
  obtain ⟨sa, ca, CA, ha⟩ := new_two tA tB tNA
  obtain ⟨sb, cb, CB, hb⟩ := new_two tB tA tNB
  have CA := Lib.hid CA; have CB := Lib.hid CB; have HA := Lib.hid ha; have HB := Lib.hid hb
  clear ha hb
  have hz0 : w.heap.size < (w.alloc (.cells #[.int .i64 tA, .int .i64 tB, .int .u64 (tNA : Int), .int .u64 (tNB : Int)] 24)).heap.size := by simp
  have HV0 : Hid (Below w.heap.size w (w.alloc (.cells #[.int .i64 tA, .int .i64 tB, .int .u64 (tNA : Int), .int .u64 (tNB : Int)] 24))) := Lib.hid ((Below.refl _ _).alloc (Nat.le_refl _) _)
  have HK0 : Hid ((w.alloc (.cells #[.int .i64 tA, .int .i64 tB, .int .u64 (tNA : Int), .int .u64 (tNB : Int)] 24)).heap[w.heap.size]? = some (.cells #[.int .i64 tA, .int .i64 tB, .int .u64 (tNA : Int), .int .u64 (tNB : Int)] 24 (0, 0))) := Lib.hid (alloc_at _ _ _)
  go_enter Tryd.func8, Tryd.ntmps8
  go_wp2_with fail
  refine (sawake_any _ (HT.out.below HV0.out)).mono ?_
  rintro e w1 ⟨rfl, hb1⟩
  have HK1 := Lib.hid ((hb1.block _ hz0).trans HK0.out)
  have HV1 := Lib.hid (HV0.out.trans (hb1.mono HV0.out.size))
  have hz1 : w.heap.size < w1.heap.size := Nat.lt_of_lt_of_le hz0 hb1.size
  clear hb1 hz0
  obtain ⟨⟨p0, _⟩, ⟨p1, _⟩, ⟨p2, _⟩, ⟨p3, _⟩, pl⟩ := four HK1.out
  go_wp2_with fail
  refine (CA.out _).mono ?_
  rintro e w2 ⟨rfl, hb2⟩
  have HK2 := Lib.hid ((hb2.block _ hz1).trans HK1.out)
  have HV2 := Lib.hid (HV1.out.trans (hb2.mono HV1.out.size))
  have hz2 : w.heap.size < w2.heap.size := Nat.lt_of_lt_of_le hz1 hb2.size
  clear hb2 p0 p1 p2 p3 pl
  obtain ⟨⟨p0, _⟩, ⟨p1, _⟩, ⟨p2, _⟩, ⟨p3, _⟩, pl⟩ := four HK2.out
  have HKA2 : Hid ((w2.alloc (.cells #[.int .i64 sa.st, .int .i64 sa.own, .int .i64 sa.oth, .int .u64 (sa.non : Int), .int .u64 (sa.ech : Int)] 29)).heap[w2.heap.size]? = some (sko sa)) := Lib.hid (alloc_at _ _ _)
  go_wp2_with fail
  refine (CB.out _).mono ?_
  rintro e w3 ⟨rfl, hb3⟩
  have hz3 : w2.heap.size < w3.heap.size := by have := hb3.size; simp at this; omega
  have HKA3 : Hid (w3.heap[w2.heap.size]? = some (sko sa)) := Lib.hid ((hb3.block _ (by simp)).trans HKA2.out)
  have HV3 : Hid (Below w.heap.size w w3) := Lib.hid ((HV2.out.alloc (Nat.le_of_lt hz2) _).trans (hb3.mono (by simp; omega)))
  have HV4 : Hid (Below w.heap.size w (w3.alloc (.cells #[.int .i64 sb.st, .int .i64 sb.own, .int .i64 sb.oth, .int .u64 (sb.non : Int), .int .u64 (sb.ech : Int)] 29))) := Lib.hid (HV3.out.alloc (by omega) _)
  have HKA4 : Hid ((w3.alloc (.cells #[.int .i64 sb.st, .int .i64 sb.own, .int .i64 sb.oth, .int .u64 (sb.non : Int), .int .u64 (sb.ech : Int)] 29)).heap[w2.heap.size]? = some (sko sa)) := Lib.hid ((Below.heap_alloc _ _ _ hz3).trans HKA3.out)
  have HKB4 : Hid ((w3.alloc (.cells #[.int .i64 sb.st, .int .i64 sb.own, .int .i64 sb.oth, .int .u64 (sb.non : Int), .int .u64 (sb.ech : Int)] 29)).heap[w3.heap.size]? = some (sko sb)) := Lib.hid (alloc_at _ _ _)
  have HTB4 := Lib.hid (HT.out.below HV4.out)
  clear hb3 p0 p1 p2 p3 pl
  rcases HA.out with ⟨rfl, ha, oa⟩ | ⟨rfl, hx, hy⟩
  case inr =>
    clear hx hy
    go_wp2
    go_ret
    exact ⟨rfl, HV4.out⟩
  rcases HB.out with ⟨rfl, hb, ob⟩ | ⟨rfl, hx, hy⟩
  case inr =>
    clear hx hy
    go_wp2
    go_ret
    exact ⟨rfl, HV4.out⟩
  subst ha hb
  obtain ⟨x, y, L1, L2, f1, f2, f3, f4, f5, l1, l2, n1, n2, o1, o2⟩ := again_facts oa ob
  have hst : (stB (newS tB tA tNB) tNA).st = 2 := rfl
  obtain ⟨sa, ea⟩ : ∃ s, newS tA tB tNA = s := ⟨_, rfl⟩
  obtain ⟨sb, eb⟩ : ∃ s, newS tB tA tNB = s := ⟨_, rfl⟩
  rw [ea] at oa f1 f5 o1 HKA4 ⊢
  rw [eb] at ob f2 f3 f4 o2 hst HKA4 HKB4 HTB4 HV4 ⊢
  obtain ⟨a1, e1⟩ : ∃ s, stA sa = s := ⟨_, rfl⟩
  obtain ⟨b1, e2⟩ : ∃ s, stB sb tNA = s := ⟨_, rfl⟩
  rw [e1] at f1 f5 o1
  rw [e2] at f2 f3 f4 o2 hst
  have HF3 := Lib.hid f3; have HF4 := Lib.hid f4; have HF5 := Lib.hid f5
  clear f3 f4 f5 ea eb e1 e2 HA HB
  go_wp2_with fail
  refine (new_s _ HTB4.out).mono ?_
  rintro e w5 ⟨nb, rfl, h5⟩
  have HT5 : Hid (Tw2 w nb [] none w2.heap.size w3.heap.size (w3.heap.size + 1) sa sb [] w5) := Lib.hid (Tw2.start h5 HV4.out HT.out HKA4.out HKB4.out (Nat.le_of_lt hz2) hz3)
  clear h5
  have hab : ¬ (w2.heap.size = w3.heap.size) := by omega
  have hba : ¬ (w3.heap.size = w2.heap.size) := by omega
  obtain ⟨⟨u0, uf0⟩, ⟨u1, uf1⟩, ⟨u2, uf2⟩, ⟨u3, uf3⟩, ⟨u4, uf4⟩, ul⟩ := HT5.out.fiveA
  obtain ⟨⟨v0, vf0⟩, ⟨v1, vf1⟩, ⟨v2, vf2⟩, ⟨v3, vf3⟩, ⟨v4, vf4⟩, vl⟩ := HT5.out.fiveB
  go_wp2_with fail
  clear u0 uf0 u1 uf1 u2 uf2 u3 uf3 u4 uf4 ul
  clear v0 vf0 v1 vf1 v2 vf2 v3 vf3 v4 vf4 vl
  refine (call_2 HT5.out sa oa (by simp) _ f1).mono ?_
  rintro e w6 ⟨v6, rfl, A0, c0, ho0, rfl, p0, r0, hn0, hq0, ht0⟩
  have HN0 := Lib.hid hn0; have HQ0 := Lib.hid hq0; have HK0' := Lib.hid ht0
  have HT6 : Hid (Tw2 w nb L1 none w2.heap.size w3.heap.size (w3.heap.size + 1) a1 sb (ho0 ++ []) ((((((w6).setCell ⟨w2.heap.size, 0, none⟩ (.int .i64 a1.st)).setCell ⟨w2.heap.size, 1, none⟩ (.int .i64 a1.own)).setCell ⟨w2.heap.size, 2, none⟩ (.int .i64 a1.oth)).setCell ⟨w2.heap.size, 3, none⟩ (.int .u64 (a1.non : Int))).setCell ⟨w2.heap.size, 4, none⟩ (.int .u64 (a1.ech : Int)))) := Lib.hid (ht0.putA a1)
  clear hn0 hq0 ht0
  obtain ⟨⟨u0, uf0⟩, ⟨u1, uf1⟩, ⟨u2, uf2⟩, ⟨u3, uf3⟩, ⟨u4, uf4⟩, ul⟩ := HK0'.out.fiveA
  obtain ⟨⟨v0, vf0⟩, ⟨v1, vf1⟩, ⟨v2, vf2⟩, ⟨v3, vf3⟩, ⟨v4, vf4⟩, vl⟩ := HK0'.out.fiveB
  go_wp2_with fail
  obtain ⟨W6, hW6⟩ : ∃ W6, (((((w6).setCell ⟨w2.heap.size, 0, none⟩ (.int .i64 a1.st)).setCell ⟨w2.heap.size, 1, none⟩ (.int .i64 a1.own)).setCell ⟨w2.heap.size, 2, none⟩ (.int .i64 a1.oth)).setCell ⟨w2.heap.size, 3, none⟩ (.int .u64 (a1.non : Int))).setCell ⟨w2.heap.size, 4, none⟩ (.int .u64 (a1.ech : Int)) = W6 := ⟨_, rfl⟩
  rw [hW6] at HT6 ⊢
  clear hW6
  clear u0 uf0 u1 uf1 u2 uf2 u3 uf3 u4 uf4 ul
  clear v0 vf0 v1 vf1 v2 vf2 v3 vf3 v4 vf4 vl
  have hbt := HQ0.out _ (fun p hp => HT6.out.sd.held p (by simp [hp]))
  refine (hear_2 HT6.out sb ob (by omega) A0 _ c0 _ hbt p0 r0 HN0.out (by omega) _ f2).mono ?_
  rintro e w7 ⟨v7, rfl, A1, c1, ho1, rfl, p1, r1, hn1, hq1, ht1⟩
  have HQ1 := Lib.hid hq1; have HK1' := Lib.hid ht1
  have HT7 : Hid (Tw2 w nb L2 none w2.heap.size w3.heap.size (w3.heap.size + 1) a1 b1 (ho1 ++ (ho0 ++ [])) ((((((w7).setCell ⟨w3.heap.size, 0, none⟩ (.int .i64 b1.st)).setCell ⟨w3.heap.size, 1, none⟩ (.int .i64 b1.own)).setCell ⟨w3.heap.size, 2, none⟩ (.int .i64 b1.oth)).setCell ⟨w3.heap.size, 3, none⟩ (.int .u64 (b1.non : Int))).setCell ⟨w3.heap.size, 4, none⟩ (.int .u64 (b1.ech : Int)))) := Lib.hid (ht1.putB b1)
  clear hn1 hq1 ht1 hbt
  obtain ⟨⟨u0, uf0⟩, ⟨u1, uf1⟩, ⟨u2, uf2⟩, ⟨u3, uf3⟩, ⟨u4, uf4⟩, ul⟩ := HK1'.out.fiveA
  obtain ⟨⟨v0, vf0⟩, ⟨v1, vf1⟩, ⟨v2, vf2⟩, ⟨v3, vf3⟩, ⟨v4, vf4⟩, vl⟩ := HK1'.out.fiveB
  obtain ⟨lx, hlx⟩ : ∃ n, x.length = n := ⟨_, rfl⟩
  obtain ⟨ly, hly⟩ : ∃ n, y.length = n := ⟨_, rfl⟩
  have HLX := Lib.hid hlx; have HLY := Lib.hid hly
  rw [hlx] at n1 p0 HQ0 HN0 ⊢
  rw [hly] at n2 p1 HQ1 ⊢
  clear hlx hly f1 f2
  have d2 : ((ly : Int) == 0) = false := by rw [beq_eq_false_iff_ne]; omega
  rw [hst] at HT7
  obtain ⟨W7, hW7⟩ : ∃ W7, (((((w7).setCell ⟨w3.heap.size, 0, none⟩ (.int .i64 2)).setCell ⟨w3.heap.size, 1, none⟩ (.int .i64 b1.own)).setCell ⟨w3.heap.size, 2, none⟩ (.int .i64 b1.oth)).setCell ⟨w3.heap.size, 3, none⟩ (.int .u64 (b1.non : Int))).setCell ⟨w3.heap.size, 4, none⟩ (.int .u64 (b1.ech : Int)) = W7 := ⟨_, rfl⟩
  have HK7 : Hid ((((((w7).setCell ⟨w3.heap.size, 0, none⟩ (.int .i64 2)).setCell ⟨w3.heap.size, 1, none⟩ (.int .i64 b1.own)).setCell ⟨w3.heap.size, 2, none⟩ (.int .i64 b1.oth)).setCell ⟨w3.heap.size, 3, none⟩ (.int .u64 (b1.non : Int))).setCell ⟨w3.heap.size, 4, none⟩ (.int .u64 (b1.ech : Int)) = W7) := Lib.hid hW7
  clear hW7
  go_wp2
  rw [HK7.out] at HT7 ⊢
  clear hst
  clear HK7
  clear u0 uf0 u1 uf1 u2 uf2 u3 uf3 u4 uf4 ul
  clear v0 vf0 v1 vf1 v2 vf2 v3 vf3 v4 vf4 vl
  go_loopw [12] (fun i wr => ∃ k : Nat, k ≤ r ∧ i = .int .i64 k ∧ Hid (Tw2 w nb L2 none w2.heap.size w3.heap.size (w3.heap.size + 1) a1 b1 (ho1 ++ (ho0 ++ [])) wr)) (fun i _ => r - (intOf i).toNat)
  case atStart => exact ⟨0, by omega, rfl, HT7⟩
  case round =>
    obtain ⟨k, hk, rfl, HR⟩ := hrel
    by_cases hkr : k < r
    · have k1 : (k : Int) < (r : Int) := by omega
      obtain ⟨⟨u0, uf0⟩, ⟨u1, uf1⟩, ⟨u2, uf2⟩, ⟨u3, uf3⟩, ⟨u4, uf4⟩, ul⟩ := HR.out.fiveA
      obtain ⟨⟨v0, vf0⟩, ⟨v1, vf1⟩, ⟨v2, vf2⟩, ⟨v3, vf3⟩, ⟨v4, vf4⟩, vl⟩ := HR.out.fiveB
      go_wp2_with fail
      clear u0 uf0 u1 uf1 u2 uf2 u3 uf3 u4 uf4 ul
      clear v0 vf0 v1 vf1 v2 vf2 v3 vf3 v4 vf4 vl
      have hbt := HQ0.out _ (fun p hp => HR.out.sd.held p (by simp [hp]))
      refine (hear_2 HR.out b1 o2 (by omega) A0 _ c0 _ hbt p0 r0 HN0.out (by have := HLX.out; omega) _ HF3.out).mono ?_
      rintro e w8 ⟨v8, rfl, A8, c8, ho8, rfl, p8, r8, hn8, hq8, ht8⟩
      rw [HLY.out] at hq8 ⊢
      have HQ8 := Lib.hid hq8
      have HS9 := Lib.hid (ht8.box b1 rfl)
      clear hn8 hq8 ht8 hbt
      go_wp2
      obtain ⟨W9, hW9⟩ : ∃ W9, w8.alloc (.cells #[.int .i64 b1.st, .int .i64 b1.own, .int .i64 b1.oth, .int .u64 (b1.non : Int), .int .u64 (b1.ech : Int)] 29) = W9 := ⟨_, rfl⟩
      rw [hW9] at HS9 ⊢
      clear hW9
      have nq := neq_sk b1.st b1.own b1.oth (b1.non : Int) (b1.ech : Int)
      have ny := neq_st (str y)
      have nx := neq_st (str x)
      refine wp_region_held_drew (S := fun W => Tw2 w nb L2 none w2.heap.size w3.heap.size (w3.heap.size + 1) a1 b1 ((w8.heap.size, sko b1) :: (ho8 ++ (ho1 ++ (ho0 ++ [])))) W) (by kernel_rfl) HS9.out.drew (fun hHeld => ?_)
      refine wpAnyH_take (i := 0) (oi := _) (v := ?_) rfl (by kernel_rfl) (by kernel_rfl) (by kernel_rfl) (fun _ _ _ h => h) (Or.inl ⟨by rfl, ?_⟩) (by assumption) ?_
      case refine_2 => intro w hSw; (try dsimp only at hSw); obtain ⟨⟨z0, _⟩, ⟨z1, _⟩, ⟨z2, _⟩, ⟨z3, _⟩, ⟨z4, _⟩, zl⟩ := hSw.five (k := w8.heap.size) (s := b1) (by simp); obtain ⟨⟨x0, _⟩, ⟨x1, _⟩, ⟨x2, _⟩, ⟨x3, _⟩, ⟨x4, _⟩, xl⟩ := hSw.fiveA; obtain ⟨⟨y0, _⟩, ⟨y1, _⟩, ⟨y2, _⟩, ⟨y3, _⟩, ⟨y4, _⟩, yl⟩ := hSw.fiveB; have cv8 := conv_str (c := c8) (HQ8.out _ (fun p hp => hSw.sd.held p (by simp [hp]))); have cv1 := conv_str (c := c1) (HQ1.out _ (fun p hp => hSw.sd.held p (by simp [hp]))); have cv0 := conv_str (c := c0) (HQ0.out _ (fun p hp => hSw.sd.held p (by simp [hp]))); clear hSw; go_simp; first | done | (with_reducible rfl)
      try simp only [Act.put, List.getElem_toArray, List.getElem_cons_zero, List.setIfInBounds_toArray, List.set_cons_zero, List.set_cons_succ]
      refine wpAnyH_take (i := 1) (oi := _) (v := ?_) rfl (by kernel_rfl) (by kernel_rfl) (by kernel_rfl) (fun _ _ _ h => h) (Or.inl ⟨by rfl, ?_⟩) (by assumption) ?_
      case refine_2 => intro w hSw; (try dsimp only at hSw); obtain ⟨⟨z0, _⟩, ⟨z1, _⟩, ⟨z2, _⟩, ⟨z3, _⟩, ⟨z4, _⟩, zl⟩ := hSw.five (k := w8.heap.size) (s := b1) (by simp); obtain ⟨⟨x0, _⟩, ⟨x1, _⟩, ⟨x2, _⟩, ⟨x3, _⟩, ⟨x4, _⟩, xl⟩ := hSw.fiveA; obtain ⟨⟨y0, _⟩, ⟨y1, _⟩, ⟨y2, _⟩, ⟨y3, _⟩, ⟨y4, _⟩, yl⟩ := hSw.fiveB; have cv8 := conv_str (c := c8) (HQ8.out _ (fun p hp => hSw.sd.held p (by simp [hp]))); have cv1 := conv_str (c := c1) (HQ1.out _ (fun p hp => hSw.sd.held p (by simp [hp]))); have cv0 := conv_str (c := c0) (HQ0.out _ (fun p hp => hSw.sd.held p (by simp [hp]))); clear hSw; go_simp; first | done | (with_reducible rfl)
      try simp only [Act.put, List.getElem_toArray, List.getElem_cons_zero, List.getElem_cons_succ, List.setIfInBounds_toArray, List.set_cons_zero, List.set_cons_succ]
      refine wpAnyH_take (i := 2) (oi := _) (v := ?_) rfl (by kernel_rfl) (by kernel_rfl) (by kernel_rfl) (fun _ _ _ h => h) (Or.inl ⟨by rfl, ?_⟩) (by assumption) ?_
      case refine_2 => intro w hSw; (try dsimp only at hSw); obtain ⟨⟨z0, _⟩, ⟨z1, _⟩, ⟨z2, _⟩, ⟨z3, _⟩, ⟨z4, _⟩, zl⟩ := hSw.five (k := w8.heap.size) (s := b1) (by simp); obtain ⟨⟨x0, _⟩, ⟨x1, _⟩, ⟨x2, _⟩, ⟨x3, _⟩, ⟨x4, _⟩, xl⟩ := hSw.fiveA; obtain ⟨⟨y0, _⟩, ⟨y1, _⟩, ⟨y2, _⟩, ⟨y3, _⟩, ⟨y4, _⟩, yl⟩ := hSw.fiveB; have cv8 := conv_str (c := c8) (HQ8.out _ (fun p hp => hSw.sd.held p (by simp [hp]))); have cv1 := conv_str (c := c1) (HQ1.out _ (fun p hp => hSw.sd.held p (by simp [hp]))); have cv0 := conv_str (c := c0) (HQ0.out _ (fun p hp => hSw.sd.held p (by simp [hp]))); clear hSw; go_simp; first | done | (with_reducible rfl)
      try simp only [Act.put, List.getElem_toArray, List.getElem_cons_zero, List.getElem_cons_succ, List.setIfInBounds_toArray, List.set_cons_zero, List.set_cons_succ]
      refine wpAnyH_take (i := 3) (oi := _) (v := ?_) rfl (by kernel_rfl) (by kernel_rfl) (by kernel_rfl) (fun _ _ _ h => h) (Or.inl ⟨by rfl, ?_⟩) (by assumption) ?_
      case refine_2 => intro w hSw; (try dsimp only at hSw); obtain ⟨⟨z0, _⟩, ⟨z1, _⟩, ⟨z2, _⟩, ⟨z3, _⟩, ⟨z4, _⟩, zl⟩ := hSw.five (k := w8.heap.size) (s := b1) (by simp); obtain ⟨⟨x0, _⟩, ⟨x1, _⟩, ⟨x2, _⟩, ⟨x3, _⟩, ⟨x4, _⟩, xl⟩ := hSw.fiveA; obtain ⟨⟨y0, _⟩, ⟨y1, _⟩, ⟨y2, _⟩, ⟨y3, _⟩, ⟨y4, _⟩, yl⟩ := hSw.fiveB; have cv8 := conv_str (c := c8) (HQ8.out _ (fun p hp => hSw.sd.held p (by simp [hp]))); have cv1 := conv_str (c := c1) (HQ1.out _ (fun p hp => hSw.sd.held p (by simp [hp]))); have cv0 := conv_str (c := c0) (HQ0.out _ (fun p hp => hSw.sd.held p (by simp [hp]))); clear hSw; go_simp; first | done | (with_reducible rfl)
      try simp only [Act.put, List.getElem_toArray, List.getElem_cons_zero, List.getElem_cons_succ, List.setIfInBounds_toArray, List.set_cons_zero, List.set_cons_succ]
      refine wpAnyH_take (i := 4) (oi := _) (v := ?_) rfl (by kernel_rfl) (by kernel_rfl) (by kernel_rfl) (fun _ _ _ h => h) (Or.inl ⟨by rfl, ?_⟩) (by assumption) ?_
      case refine_2 => intro w hSw; (try dsimp only at hSw); obtain ⟨⟨z0, _⟩, ⟨z1, _⟩, ⟨z2, _⟩, ⟨z3, _⟩, ⟨z4, _⟩, zl⟩ := hSw.five (k := w8.heap.size) (s := b1) (by simp); obtain ⟨⟨x0, _⟩, ⟨x1, _⟩, ⟨x2, _⟩, ⟨x3, _⟩, ⟨x4, _⟩, xl⟩ := hSw.fiveA; obtain ⟨⟨y0, _⟩, ⟨y1, _⟩, ⟨y2, _⟩, ⟨y3, _⟩, ⟨y4, _⟩, yl⟩ := hSw.fiveB; have cv8 := conv_str (c := c8) (HQ8.out _ (fun p hp => hSw.sd.held p (by simp [hp]))); have cv1 := conv_str (c := c1) (HQ1.out _ (fun p hp => hSw.sd.held p (by simp [hp]))); have cv0 := conv_str (c := c0) (HQ0.out _ (fun p hp => hSw.sd.held p (by simp [hp]))); clear hSw; go_simp; first | done | (with_reducible rfl)
      try simp only [Act.put, List.getElem_toArray, List.getElem_cons_zero, List.getElem_cons_succ, List.setIfInBounds_toArray, List.set_cons_zero, List.set_cons_succ]
      refine wpAnyH_take (i := 5) (oi := _) (v := ?_) rfl (by kernel_rfl) (by kernel_rfl) (by kernel_rfl) (fun _ _ _ h => h) (Or.inl ⟨by rfl, ?_⟩) (by assumption) ?_
      case refine_2 => intro w hSw; (try dsimp only at hSw); obtain ⟨⟨z0, _⟩, ⟨z1, _⟩, ⟨z2, _⟩, ⟨z3, _⟩, ⟨z4, _⟩, zl⟩ := hSw.five (k := w8.heap.size) (s := b1) (by simp); obtain ⟨⟨x0, _⟩, ⟨x1, _⟩, ⟨x2, _⟩, ⟨x3, _⟩, ⟨x4, _⟩, xl⟩ := hSw.fiveA; obtain ⟨⟨y0, _⟩, ⟨y1, _⟩, ⟨y2, _⟩, ⟨y3, _⟩, ⟨y4, _⟩, yl⟩ := hSw.fiveB; have cv8 := conv_str (c := c8) (HQ8.out _ (fun p hp => hSw.sd.held p (by simp [hp]))); have cv1 := conv_str (c := c1) (HQ1.out _ (fun p hp => hSw.sd.held p (by simp [hp]))); have cv0 := conv_str (c := c0) (HQ0.out _ (fun p hp => hSw.sd.held p (by simp [hp]))); clear hSw; go_simp; first | done | (with_reducible rfl)
      try simp only [Act.put, List.getElem_toArray, List.getElem_cons_zero, List.getElem_cons_succ, List.setIfInBounds_toArray, List.set_cons_zero, List.set_cons_succ]
      refine wpAnyH_take (i := 6) (oi := _) (v := ?_) rfl (by kernel_rfl) (by kernel_rfl) (by kernel_rfl) (fun _ _ _ h => h) (Or.inl ⟨by rfl, ?_⟩) (by assumption) ?_
      case refine_2 => intro w hSw; (try dsimp only at hSw); obtain ⟨⟨z0, _⟩, ⟨z1, _⟩, ⟨z2, _⟩, ⟨z3, _⟩, ⟨z4, _⟩, zl⟩ := hSw.five (k := w8.heap.size) (s := b1) (by simp); obtain ⟨⟨x0, _⟩, ⟨x1, _⟩, ⟨x2, _⟩, ⟨x3, _⟩, ⟨x4, _⟩, xl⟩ := hSw.fiveA; obtain ⟨⟨y0, _⟩, ⟨y1, _⟩, ⟨y2, _⟩, ⟨y3, _⟩, ⟨y4, _⟩, yl⟩ := hSw.fiveB; have cv8 := conv_str (c := c8) (HQ8.out _ (fun p hp => hSw.sd.held p (by simp [hp]))); have cv1 := conv_str (c := c1) (HQ1.out _ (fun p hp => hSw.sd.held p (by simp [hp]))); have cv0 := conv_str (c := c0) (HQ0.out _ (fun p hp => hSw.sd.held p (by simp [hp]))); clear hSw; go_simp; first | done | (with_reducible rfl)
      try simp only [Act.put, List.getElem_toArray, List.getElem_cons_zero, List.getElem_cons_succ, List.setIfInBounds_toArray, List.set_cons_zero, List.set_cons_succ]
      refine wpAnyH_take (i := 7) (oi := _) (v := ?_) rfl (by kernel_rfl) (by kernel_rfl) (by kernel_rfl) (fun _ _ _ h => h) (Or.inl ⟨by rfl, ?_⟩) (by assumption) ?_
      case refine_2 => intro w hSw; (try dsimp only at hSw); obtain ⟨⟨z0, _⟩, ⟨z1, _⟩, ⟨z2, _⟩, ⟨z3, _⟩, ⟨z4, _⟩, zl⟩ := hSw.five (k := w8.heap.size) (s := b1) (by simp); obtain ⟨⟨x0, _⟩, ⟨x1, _⟩, ⟨x2, _⟩, ⟨x3, _⟩, ⟨x4, _⟩, xl⟩ := hSw.fiveA; obtain ⟨⟨y0, _⟩, ⟨y1, _⟩, ⟨y2, _⟩, ⟨y3, _⟩, ⟨y4, _⟩, yl⟩ := hSw.fiveB; have cv8 := conv_str (c := c8) (HQ8.out _ (fun p hp => hSw.sd.held p (by simp [hp]))); have cv1 := conv_str (c := c1) (HQ1.out _ (fun p hp => hSw.sd.held p (by simp [hp]))); have cv0 := conv_str (c := c0) (HQ0.out _ (fun p hp => hSw.sd.held p (by simp [hp]))); clear hSw; go_simp; first | done | (with_reducible rfl)
      try simp only [Act.put, List.getElem_toArray, List.getElem_cons_zero, List.getElem_cons_succ, List.setIfInBounds_toArray, List.set_cons_zero, List.set_cons_succ]
      refine wpAnyH_take (i := 8) (oi := _) (v := ?_) rfl (by kernel_rfl) (by kernel_rfl) (by kernel_rfl) (fun _ _ _ h => h) (Or.inl ⟨by rfl, ?_⟩) (by assumption) ?_
      case refine_2 => intro w hSw; (try dsimp only at hSw); obtain ⟨⟨z0, _⟩, ⟨z1, _⟩, ⟨z2, _⟩, ⟨z3, _⟩, ⟨z4, _⟩, zl⟩ := hSw.five (k := w8.heap.size) (s := b1) (by simp); obtain ⟨⟨x0, _⟩, ⟨x1, _⟩, ⟨x2, _⟩, ⟨x3, _⟩, ⟨x4, _⟩, xl⟩ := hSw.fiveA; obtain ⟨⟨y0, _⟩, ⟨y1, _⟩, ⟨y2, _⟩, ⟨y3, _⟩, ⟨y4, _⟩, yl⟩ := hSw.fiveB; have cv8 := conv_str (c := c8) (HQ8.out _ (fun p hp => hSw.sd.held p (by simp [hp]))); have cv1 := conv_str (c := c1) (HQ1.out _ (fun p hp => hSw.sd.held p (by simp [hp]))); have cv0 := conv_str (c := c0) (HQ0.out _ (fun p hp => hSw.sd.held p (by simp [hp]))); clear hSw; go_simp; first | done | (with_reducible rfl)
      try simp only [Act.put, List.getElem_toArray, List.getElem_cons_zero, List.getElem_cons_succ, List.setIfInBounds_toArray, List.set_cons_zero, List.set_cons_succ]
      refine wpAnyH_take (i := 9) (oi := _) (v := ?_) rfl (by kernel_rfl) (by kernel_rfl) (by kernel_rfl) (fun _ _ _ h => h) (Or.inl ⟨by rfl, ?_⟩) (by assumption) ?_
      case refine_2 => intro w hSw; (try dsimp only at hSw); obtain ⟨⟨z0, _⟩, ⟨z1, _⟩, ⟨z2, _⟩, ⟨z3, _⟩, ⟨z4, _⟩, zl⟩ := hSw.five (k := w8.heap.size) (s := b1) (by simp); obtain ⟨⟨x0, _⟩, ⟨x1, _⟩, ⟨x2, _⟩, ⟨x3, _⟩, ⟨x4, _⟩, xl⟩ := hSw.fiveA; obtain ⟨⟨y0, _⟩, ⟨y1, _⟩, ⟨y2, _⟩, ⟨y3, _⟩, ⟨y4, _⟩, yl⟩ := hSw.fiveB; have cv8 := conv_str (c := c8) (HQ8.out _ (fun p hp => hSw.sd.held p (by simp [hp]))); have cv1 := conv_str (c := c1) (HQ1.out _ (fun p hp => hSw.sd.held p (by simp [hp]))); have cv0 := conv_str (c := c0) (HQ0.out _ (fun p hp => hSw.sd.held p (by simp [hp]))); clear hSw; go_simp; first | done | (with_reducible rfl)
      try simp only [Act.put, List.getElem_toArray, List.getElem_cons_zero, List.getElem_cons_succ, List.setIfInBounds_toArray, List.set_cons_zero, List.set_cons_succ]
      refine wpAnyH_take (i := 10) (oi := _) (v := ?_) rfl (by kernel_rfl) (by kernel_rfl) (by kernel_rfl) (fun _ _ _ h => h) (Or.inl ⟨by rfl, ?_⟩) (by assumption) ?_
      case refine_2 => intro w hSw; (try dsimp only at hSw); obtain ⟨⟨z0, _⟩, ⟨z1, _⟩, ⟨z2, _⟩, ⟨z3, _⟩, ⟨z4, _⟩, zl⟩ := hSw.five (k := w8.heap.size) (s := b1) (by simp); obtain ⟨⟨x0, _⟩, ⟨x1, _⟩, ⟨x2, _⟩, ⟨x3, _⟩, ⟨x4, _⟩, xl⟩ := hSw.fiveA; obtain ⟨⟨y0, _⟩, ⟨y1, _⟩, ⟨y2, _⟩, ⟨y3, _⟩, ⟨y4, _⟩, yl⟩ := hSw.fiveB; have cv8 := conv_str (c := c8) (HQ8.out _ (fun p hp => hSw.sd.held p (by simp [hp]))); have cv1 := conv_str (c := c1) (HQ1.out _ (fun p hp => hSw.sd.held p (by simp [hp]))); have cv0 := conv_str (c := c0) (HQ0.out _ (fun p hp => hSw.sd.held p (by simp [hp]))); clear hSw; go_simp; first | done | (with_reducible rfl)
      try simp only [Act.put, List.getElem_toArray, List.getElem_cons_zero, List.getElem_cons_succ, List.setIfInBounds_toArray, List.set_cons_zero, List.set_cons_succ]
      refine wpAnyH_take (i := 11) (oi := _) (v := ?_) rfl (by kernel_rfl) (by kernel_rfl) (by kernel_rfl) (fun _ _ _ h => h) (Or.inl ⟨by rfl, ?_⟩) (by assumption) ?_
      case refine_2 => intro w hSw; (try dsimp only at hSw); obtain ⟨⟨z0, _⟩, ⟨z1, _⟩, ⟨z2, _⟩, ⟨z3, _⟩, ⟨z4, _⟩, zl⟩ := hSw.five (k := w8.heap.size) (s := b1) (by simp); obtain ⟨⟨x0, _⟩, ⟨x1, _⟩, ⟨x2, _⟩, ⟨x3, _⟩, ⟨x4, _⟩, xl⟩ := hSw.fiveA; obtain ⟨⟨y0, _⟩, ⟨y1, _⟩, ⟨y2, _⟩, ⟨y3, _⟩, ⟨y4, _⟩, yl⟩ := hSw.fiveB; have cv8 := conv_str (c := c8) (HQ8.out _ (fun p hp => hSw.sd.held p (by simp [hp]))); have cv1 := conv_str (c := c1) (HQ1.out _ (fun p hp => hSw.sd.held p (by simp [hp]))); have cv0 := conv_str (c := c0) (HQ0.out _ (fun p hp => hSw.sd.held p (by simp [hp]))); clear hSw; go_simp; first | done | (with_reducible rfl)
      try simp only [Act.put, List.getElem_toArray, List.getElem_cons_zero, List.getElem_cons_succ, List.setIfInBounds_toArray, List.set_cons_zero, List.set_cons_succ]
      refine wpAnyH_take (i := 12) (oi := _) (v := ?_) rfl (by kernel_rfl) (by kernel_rfl) (by kernel_rfl) (fun _ _ _ h => h) (Or.inl ⟨by rfl, ?_⟩) (by assumption) ?_
      case refine_2 => intro w hSw; (try dsimp only at hSw); obtain ⟨⟨z0, _⟩, ⟨z1, _⟩, ⟨z2, _⟩, ⟨z3, _⟩, ⟨z4, _⟩, zl⟩ := hSw.five (k := w8.heap.size) (s := b1) (by simp); obtain ⟨⟨x0, _⟩, ⟨x1, _⟩, ⟨x2, _⟩, ⟨x3, _⟩, ⟨x4, _⟩, xl⟩ := hSw.fiveA; obtain ⟨⟨y0, _⟩, ⟨y1, _⟩, ⟨y2, _⟩, ⟨y3, _⟩, ⟨y4, _⟩, yl⟩ := hSw.fiveB; have cv8 := conv_str (c := c8) (HQ8.out _ (fun p hp => hSw.sd.held p (by simp [hp]))); have cv1 := conv_str (c := c1) (HQ1.out _ (fun p hp => hSw.sd.held p (by simp [hp]))); have cv0 := conv_str (c := c0) (HQ0.out _ (fun p hp => hSw.sd.held p (by simp [hp]))); clear hSw; go_simp; first | done | (with_reducible rfl)
      try simp only [Act.put, List.getElem_toArray, List.getElem_cons_zero, List.getElem_cons_succ, List.setIfInBounds_toArray, List.set_cons_zero, List.set_cons_succ]
      refine wpAnyH_take (i := 15) (oi := _) (v := ?_) rfl (by kernel_rfl) (by kernel_rfl) (by kernel_rfl) (fun _ _ _ h => h) (Or.inl ⟨by rfl, ?_⟩) (by assumption) ?_
      case refine_2 => intro w hSw; (try dsimp only at hSw); obtain ⟨⟨z0, _⟩, ⟨z1, _⟩, ⟨z2, _⟩, ⟨z3, _⟩, ⟨z4, _⟩, zl⟩ := hSw.five (k := w8.heap.size) (s := b1) (by simp); obtain ⟨⟨x0, _⟩, ⟨x1, _⟩, ⟨x2, _⟩, ⟨x3, _⟩, ⟨x4, _⟩, xl⟩ := hSw.fiveA; obtain ⟨⟨y0, _⟩, ⟨y1, _⟩, ⟨y2, _⟩, ⟨y3, _⟩, ⟨y4, _⟩, yl⟩ := hSw.fiveB; have cv8 := conv_str (c := c8) (HQ8.out _ (fun p hp => hSw.sd.held p (by simp [hp]))); have cv1 := conv_str (c := c1) (HQ1.out _ (fun p hp => hSw.sd.held p (by simp [hp]))); have cv0 := conv_str (c := c0) (HQ0.out _ (fun p hp => hSw.sd.held p (by simp [hp]))); clear hSw; go_simp; first | done | (with_reducible rfl)
      try simp only [Act.put, List.getElem_toArray, List.getElem_cons_zero, List.getElem_cons_succ, List.setIfInBounds_toArray, List.set_cons_zero, List.set_cons_succ]
      refine wpAnyH_take (i := 16) (oi := _) (v := ?_) rfl (by kernel_rfl) (by kernel_rfl) (by kernel_rfl) (fun _ _ _ h => h) (Or.inl ⟨by rfl, ?_⟩) (by assumption) ?_
      case refine_2 => intro w hSw; (try dsimp only at hSw); obtain ⟨⟨z0, _⟩, ⟨z1, _⟩, ⟨z2, _⟩, ⟨z3, _⟩, ⟨z4, _⟩, zl⟩ := hSw.five (k := w8.heap.size) (s := b1) (by simp); obtain ⟨⟨x0, _⟩, ⟨x1, _⟩, ⟨x2, _⟩, ⟨x3, _⟩, ⟨x4, _⟩, xl⟩ := hSw.fiveA; obtain ⟨⟨y0, _⟩, ⟨y1, _⟩, ⟨y2, _⟩, ⟨y3, _⟩, ⟨y4, _⟩, yl⟩ := hSw.fiveB; have cv8 := conv_str (c := c8) (HQ8.out _ (fun p hp => hSw.sd.held p (by simp [hp]))); have cv1 := conv_str (c := c1) (HQ1.out _ (fun p hp => hSw.sd.held p (by simp [hp]))); have cv0 := conv_str (c := c0) (HQ0.out _ (fun p hp => hSw.sd.held p (by simp [hp]))); clear hSw; go_simp; first | done | (with_reducible rfl)
      try simp only [Act.put, List.getElem_toArray, List.getElem_cons_zero, List.getElem_cons_succ, List.setIfInBounds_toArray, List.set_cons_zero, List.set_cons_succ]
      refine wpAnyH_ready (rs := [13]) (by kernel_rfl) (by simp) ?_
      refine AllReadyH.cons rfl (fun K hK => ?_) AllReadyH.nil
      go_simp
      go_at_call 18
      refine (again_2 hHeld b1 o2 (by omega) _ HF4.out).mono ?_
      rintro e w10 ⟨v10, rfl, A10, c10, ho10, rfl, p10, r10, hn10, hq10, ht10⟩
      rw [HLY.out] at hq10 ⊢
      have cv10 := conv_str (c := c10) (hq10 _ (fun p hp => ht10.sd.held p (by simp [hp])))
      have HS10 := Lib.hid (ht10.subh (hs' := (w8.heap.size, sko b1) :: (ho8 ++ (ho1 ++ (ho0 ++ [])))) (fun p hp => List.mem_append_right _ hp))
      clear hq10 ht10 hn10
      refine hK.out _ _ HS10.out (fun hHeld => ?_)
      clear hK K
      try simp only [Act.put, List.getElem_toArray, List.getElem_cons_zero, List.getElem_cons_succ, List.setIfInBounds_toArray, List.set_cons_zero, List.set_cons_succ]
      refine wpAnyH_ready (rs := [14]) (by kernel_rfl) (by simp) ?_
      refine AllReadyH.cons rfl (fun K hK => ?_) AllReadyH.nil
      go_simp
      refine hK.out _ _ HS10.out (fun hHeld => ?_)
      clear hK K
      try simp only [Act.put, List.getElem_toArray, List.getElem_cons_zero, List.getElem_cons_succ, List.setIfInBounds_toArray, List.set_cons_zero, List.set_cons_succ]
      refine wpAnyH_take (i := 17) (oi := _) (v := ?_) rfl (by kernel_rfl) (by kernel_rfl) (by kernel_rfl) (fun _ _ _ h => h) (Or.inl ⟨by rfl, ?_⟩) (by assumption) ?_
      case refine_2 => intro w hSw; (try dsimp only at hSw); obtain ⟨⟨z0, _⟩, ⟨z1, _⟩, ⟨z2, _⟩, ⟨z3, _⟩, ⟨z4, _⟩, zl⟩ := hSw.five (k := w8.heap.size) (s := b1) (by simp); obtain ⟨⟨x0, _⟩, ⟨x1, _⟩, ⟨x2, _⟩, ⟨x3, _⟩, ⟨x4, _⟩, xl⟩ := hSw.fiveA; obtain ⟨⟨y0, _⟩, ⟨y1, _⟩, ⟨y2, _⟩, ⟨y3, _⟩, ⟨y4, _⟩, yl⟩ := hSw.fiveB; have cv8 := conv_str (c := c8) (HQ8.out _ (fun p hp => hSw.sd.held p (by simp [hp]))); have cv1 := conv_str (c := c1) (HQ1.out _ (fun p hp => hSw.sd.held p (by simp [hp]))); have cv0 := conv_str (c := c0) (HQ0.out _ (fun p hp => hSw.sd.held p (by simp [hp]))); clear hSw; go_simp; first | done | (with_reducible rfl)
      try simp only [Act.put, List.getElem_toArray, List.getElem_cons_zero, List.getElem_cons_succ, List.setIfInBounds_toArray, List.set_cons_zero, List.set_cons_succ]
      refine wpAnyH_take (i := 18) (oi := _) (v := ?_) rfl (by kernel_rfl) (by kernel_rfl) (by kernel_rfl) (fun _ _ _ h => h) (Or.inl ⟨by rfl, ?_⟩) (by assumption) ?_
      case refine_2 => intro w hSw; (try dsimp only at hSw); obtain ⟨⟨z0, _⟩, ⟨z1, _⟩, ⟨z2, _⟩, ⟨z3, _⟩, ⟨z4, _⟩, zl⟩ := hSw.five (k := w8.heap.size) (s := b1) (by simp); obtain ⟨⟨x0, _⟩, ⟨x1, _⟩, ⟨x2, _⟩, ⟨x3, _⟩, ⟨x4, _⟩, xl⟩ := hSw.fiveA; obtain ⟨⟨y0, _⟩, ⟨y1, _⟩, ⟨y2, _⟩, ⟨y3, _⟩, ⟨y4, _⟩, yl⟩ := hSw.fiveB; have cv8 := conv_str (c := c8) (HQ8.out _ (fun p hp => hSw.sd.held p (by simp [hp]))); have cv1 := conv_str (c := c1) (HQ1.out _ (fun p hp => hSw.sd.held p (by simp [hp]))); have cv0 := conv_str (c := c0) (HQ0.out _ (fun p hp => hSw.sd.held p (by simp [hp]))); clear hSw; go_simp; first | done | (with_reducible rfl)
      try simp only [Act.put, List.getElem_toArray, List.getElem_cons_zero, List.getElem_cons_succ, List.setIfInBounds_toArray, List.set_cons_zero, List.set_cons_succ]
      refine wpAnyH_take (i := 19) (oi := _) (v := ?_) rfl (by kernel_rfl) (by kernel_rfl) (by kernel_rfl) (fun _ _ _ h => h) (Or.inl ⟨by rfl, ?_⟩) (by assumption) ?_
      case refine_2 => intro w hSw; (try dsimp only at hSw); obtain ⟨⟨z0, _⟩, ⟨z1, _⟩, ⟨z2, _⟩, ⟨z3, _⟩, ⟨z4, _⟩, zl⟩ := hSw.five (k := w8.heap.size) (s := b1) (by simp); obtain ⟨⟨x0, _⟩, ⟨x1, _⟩, ⟨x2, _⟩, ⟨x3, _⟩, ⟨x4, _⟩, xl⟩ := hSw.fiveA; obtain ⟨⟨y0, _⟩, ⟨y1, _⟩, ⟨y2, _⟩, ⟨y3, _⟩, ⟨y4, _⟩, yl⟩ := hSw.fiveB; have cv8 := conv_str (c := c8) (HQ8.out _ (fun p hp => hSw.sd.held p (by simp [hp]))); have cv1 := conv_str (c := c1) (HQ1.out _ (fun p hp => hSw.sd.held p (by simp [hp]))); have cv0 := conv_str (c := c0) (HQ0.out _ (fun p hp => hSw.sd.held p (by simp [hp]))); clear hSw; go_simp; first | done | (with_reducible rfl)
      try simp only [Act.put, List.getElem_toArray, List.getElem_cons_zero, List.getElem_cons_succ, List.setIfInBounds_toArray, List.set_cons_zero, List.set_cons_succ]
      refine wpAnyH_take (i := 20) (oi := _) (v := ?_) rfl (by kernel_rfl) (by kernel_rfl) (by kernel_rfl) (fun _ _ _ h => h) (Or.inl ⟨by rfl, ?_⟩) (by assumption) ?_
      case refine_2 => intro w hSw; (try dsimp only at hSw); obtain ⟨⟨z0, _⟩, ⟨z1, _⟩, ⟨z2, _⟩, ⟨z3, _⟩, ⟨z4, _⟩, zl⟩ := hSw.five (k := w8.heap.size) (s := b1) (by simp); obtain ⟨⟨x0, _⟩, ⟨x1, _⟩, ⟨x2, _⟩, ⟨x3, _⟩, ⟨x4, _⟩, xl⟩ := hSw.fiveA; obtain ⟨⟨y0, _⟩, ⟨y1, _⟩, ⟨y2, _⟩, ⟨y3, _⟩, ⟨y4, _⟩, yl⟩ := hSw.fiveB; have cv8 := conv_str (c := c8) (HQ8.out _ (fun p hp => hSw.sd.held p (by simp [hp]))); have cv1 := conv_str (c := c1) (HQ1.out _ (fun p hp => hSw.sd.held p (by simp [hp]))); have cv0 := conv_str (c := c0) (HQ0.out _ (fun p hp => hSw.sd.held p (by simp [hp]))); clear hSw; go_simp; first | done | (with_reducible rfl)
      try simp only [Act.put, List.getElem_toArray, List.getElem_cons_zero, List.getElem_cons_succ, List.setIfInBounds_toArray, List.set_cons_zero, List.set_cons_succ]
      refine wpAnyH_take (i := 21) (oi := _) (v := ?_) rfl (by kernel_rfl) (by kernel_rfl) (by kernel_rfl) (fun _ _ _ h => h) (Or.inl ⟨by rfl, ?_⟩) (by assumption) ?_
      case refine_2 => intro w hSw; (try dsimp only at hSw); obtain ⟨⟨z0, _⟩, ⟨z1, _⟩, ⟨z2, _⟩, ⟨z3, _⟩, ⟨z4, _⟩, zl⟩ := hSw.five (k := w8.heap.size) (s := b1) (by simp); obtain ⟨⟨x0, _⟩, ⟨x1, _⟩, ⟨x2, _⟩, ⟨x3, _⟩, ⟨x4, _⟩, xl⟩ := hSw.fiveA; obtain ⟨⟨y0, _⟩, ⟨y1, _⟩, ⟨y2, _⟩, ⟨y3, _⟩, ⟨y4, _⟩, yl⟩ := hSw.fiveB; have cv8 := conv_str (c := c8) (HQ8.out _ (fun p hp => hSw.sd.held p (by simp [hp]))); have cv1 := conv_str (c := c1) (HQ1.out _ (fun p hp => hSw.sd.held p (by simp [hp]))); have cv0 := conv_str (c := c0) (HQ0.out _ (fun p hp => hSw.sd.held p (by simp [hp]))); clear hSw; go_simp; first | done | (with_reducible rfl)
      try simp only [Act.put, List.getElem_toArray, List.getElem_cons_zero, List.getElem_cons_succ, List.setIfInBounds_toArray, List.set_cons_zero, List.set_cons_succ]
      refine wpAnyH_take (i := 24) (oi := _) (v := ?_) rfl (by kernel_rfl) (by kernel_rfl) (by kernel_rfl) (fun _ _ _ h => h) (Or.inl ⟨by rfl, ?_⟩) (by assumption) ?_
      case refine_2 => intro w hSw; (try dsimp only at hSw); obtain ⟨⟨z0, _⟩, ⟨z1, _⟩, ⟨z2, _⟩, ⟨z3, _⟩, ⟨z4, _⟩, zl⟩ := hSw.five (k := w8.heap.size) (s := b1) (by simp); obtain ⟨⟨x0, _⟩, ⟨x1, _⟩, ⟨x2, _⟩, ⟨x3, _⟩, ⟨x4, _⟩, xl⟩ := hSw.fiveA; obtain ⟨⟨y0, _⟩, ⟨y1, _⟩, ⟨y2, _⟩, ⟨y3, _⟩, ⟨y4, _⟩, yl⟩ := hSw.fiveB; have cv8 := conv_str (c := c8) (HQ8.out _ (fun p hp => hSw.sd.held p (by simp [hp]))); have cv1 := conv_str (c := c1) (HQ1.out _ (fun p hp => hSw.sd.held p (by simp [hp]))); have cv0 := conv_str (c := c0) (HQ0.out _ (fun p hp => hSw.sd.held p (by simp [hp]))); clear hSw; go_simp; first | done | (with_reducible rfl)
      try simp only [Act.put, List.getElem_toArray, List.getElem_cons_zero, List.getElem_cons_succ, List.setIfInBounds_toArray, List.set_cons_zero, List.set_cons_succ]
      refine wpAnyH_take (i := 25) (oi := _) (v := ?_) rfl (by kernel_rfl) (by kernel_rfl) (by kernel_rfl) (fun _ _ _ h => h) (Or.inl ⟨by rfl, ?_⟩) (by assumption) ?_
      case refine_2 => intro w hSw; (try dsimp only at hSw); obtain ⟨⟨z0, _⟩, ⟨z1, _⟩, ⟨z2, _⟩, ⟨z3, _⟩, ⟨z4, _⟩, zl⟩ := hSw.five (k := w8.heap.size) (s := b1) (by simp); obtain ⟨⟨x0, _⟩, ⟨x1, _⟩, ⟨x2, _⟩, ⟨x3, _⟩, ⟨x4, _⟩, xl⟩ := hSw.fiveA; obtain ⟨⟨y0, _⟩, ⟨y1, _⟩, ⟨y2, _⟩, ⟨y3, _⟩, ⟨y4, _⟩, yl⟩ := hSw.fiveB; have cv8 := conv_str (c := c8) (HQ8.out _ (fun p hp => hSw.sd.held p (by simp [hp]))); have cv1 := conv_str (c := c1) (HQ1.out _ (fun p hp => hSw.sd.held p (by simp [hp]))); have cv0 := conv_str (c := c0) (HQ0.out _ (fun p hp => hSw.sd.held p (by simp [hp]))); clear hSw; go_simp; first | done | (with_reducible rfl)
      try simp only [Act.put, List.getElem_toArray, List.getElem_cons_zero, List.getElem_cons_succ, List.setIfInBounds_toArray, List.set_cons_zero, List.set_cons_succ]
      refine wpAnyH_ready (rs := [22]) (by kernel_rfl) (by simp) ?_
      refine AllReadyH.cons rfl (fun K hK => ?_) AllReadyH.nil
      go_simp
      go_at_call 18
      refine (again_2 hHeld a1 o1 (by omega) _ HF5.out).mono ?_
      rintro e w11 ⟨v11, rfl, A11, c11, ho11, rfl, p11, r11, hn11, hq11, ht11⟩
      rw [HLX.out] at hq11 ⊢
      have cv11 := conv_str (c := c11) (hq11 _ (fun p hp => ht11.sd.held p (by simp [hp])))
      have HS11 := Lib.hid (ht11.subh (hs' := (w8.heap.size, sko b1) :: (ho8 ++ (ho1 ++ (ho0 ++ [])))) (fun p hp => List.mem_append_right _ hp))
      clear hq11 ht11 hn11
      refine hK.out _ _ HS11.out (fun hHeld => ?_)
      clear hK K
      try simp only [Act.put, List.getElem_toArray, List.getElem_cons_zero, List.getElem_cons_succ, List.setIfInBounds_toArray, List.set_cons_zero, List.set_cons_succ]
      refine wpAnyH_ready (rs := [23]) (by kernel_rfl) (by simp) ?_
      refine AllReadyH.cons rfl (fun K hK => ?_) AllReadyH.nil
      go_simp
      refine hK.out _ _ HS11.out (fun hHeld => ?_)
      clear hK K
      try simp only [Act.put, List.getElem_toArray, List.getElem_cons_zero, List.getElem_cons_succ, List.setIfInBounds_toArray, List.set_cons_zero, List.set_cons_succ]
      refine wpAnyH_take (i := 26) (oi := _) (v := ?_) rfl (by kernel_rfl) (by kernel_rfl) (by kernel_rfl) (fun _ _ _ h => h) (Or.inl ⟨by rfl, ?_⟩) (by assumption) ?_
      case refine_2 => intro w hSw; (try dsimp only at hSw); obtain ⟨⟨z0, _⟩, ⟨z1, _⟩, ⟨z2, _⟩, ⟨z3, _⟩, ⟨z4, _⟩, zl⟩ := hSw.five (k := w8.heap.size) (s := b1) (by simp); obtain ⟨⟨x0, _⟩, ⟨x1, _⟩, ⟨x2, _⟩, ⟨x3, _⟩, ⟨x4, _⟩, xl⟩ := hSw.fiveA; obtain ⟨⟨y0, _⟩, ⟨y1, _⟩, ⟨y2, _⟩, ⟨y3, _⟩, ⟨y4, _⟩, yl⟩ := hSw.fiveB; have cv8 := conv_str (c := c8) (HQ8.out _ (fun p hp => hSw.sd.held p (by simp [hp]))); have cv1 := conv_str (c := c1) (HQ1.out _ (fun p hp => hSw.sd.held p (by simp [hp]))); have cv0 := conv_str (c := c0) (HQ0.out _ (fun p hp => hSw.sd.held p (by simp [hp]))); clear hSw; go_simp; first | done | (with_reducible rfl)
      try simp only [Act.put, List.getElem_toArray, List.getElem_cons_zero, List.getElem_cons_succ, List.setIfInBounds_toArray, List.set_cons_zero, List.set_cons_succ]
      refine wpAnyH_take (i := 27) (oi := _) (v := ?_) rfl (by kernel_rfl) (by kernel_rfl) (by kernel_rfl) (fun _ _ _ h => h) (Or.inl ⟨by rfl, ?_⟩) (by assumption) ?_
      case refine_2 => intro w hSw; (try dsimp only at hSw); obtain ⟨⟨z0, _⟩, ⟨z1, _⟩, ⟨z2, _⟩, ⟨z3, _⟩, ⟨z4, _⟩, zl⟩ := hSw.five (k := w8.heap.size) (s := b1) (by simp); obtain ⟨⟨x0, _⟩, ⟨x1, _⟩, ⟨x2, _⟩, ⟨x3, _⟩, ⟨x4, _⟩, xl⟩ := hSw.fiveA; obtain ⟨⟨y0, _⟩, ⟨y1, _⟩, ⟨y2, _⟩, ⟨y3, _⟩, ⟨y4, _⟩, yl⟩ := hSw.fiveB; have cv8 := conv_str (c := c8) (HQ8.out _ (fun p hp => hSw.sd.held p (by simp [hp]))); have cv1 := conv_str (c := c1) (HQ1.out _ (fun p hp => hSw.sd.held p (by simp [hp]))); have cv0 := conv_str (c := c0) (HQ0.out _ (fun p hp => hSw.sd.held p (by simp [hp]))); clear hSw; go_simp; first | done | (with_reducible rfl)
      try simp only [Act.put, List.getElem_toArray, List.getElem_cons_zero, List.getElem_cons_succ, List.setIfInBounds_toArray, List.set_cons_zero, List.set_cons_succ]
      refine wpAnyH_done (by kernel_rfl) ?_ _
      have HSE := Lib.hid (HS11.out.subh (hs' := ho1 ++ (ho0 ++ [])) (fun p hp => by simp only [List.mem_cons, List.mem_append] at hp ⊢; exact .inr (.inr hp)))
      clear hHeld nq ny nx cv10 cv11
      go_wp2
      go_roundw
      case rel => exact ⟨k + 1, by omega, by go_num, HSE⟩
      case measure => simp [intOf]; omega
    · obtain rfl : k = r := by omega
      go_wp2_with fail
      refine (count_s HR.out.sd (by omega)).mono ?_
      rintro e w9 ⟨rfl, rfl⟩
      rw [l2]
      have HLOW := Lib.hid HR.out.sd.low
      go_wp2
      go_ret
      exact ⟨rfl, HLOW.out⟩


/-! ### the row, under what it lists -/
set_option maxRecDepth 100000 in
theorem lifted (os : Os) (started : os.Started) (H : Type) (enc : TypeId × Value → H) :
    ReturnsInHanded {} Tryd.checked os 8 .any (fun w args => (Rows.shakeAgainSpec.pre enc Tryd.prog Tryd.f8 [] false w args ∧ laidMetH Tryd.prog Rows.shakeAgainRow.laid w) ∧ sizedMet enc Tryd.prog Tryd.f8 (OpenSpec.ofChange Rows.shakeAgainSpec) false w args)
      (Rows.shakeAgainSpec.post enc Tryd.prog Tryd.f8 false true false false) := by
  refine returnsInHanded_of_change_and (C := Tryd.checked) (X := fun w _ => laidMetH Tryd.prog Rows.shakeAgainRow.laid w) (fun _ _ _ hh h => h.of_heap hh) own started (by kernel_rfl) Tryd.func8
    (ChangeSpec.witness_shaped (enc := enc) (C := Tryd.checked) (os := os) (X := fun w _ => laidMetH Tryd.prog Rows.shakeAgainRow.laid w) false (World.laidAll Tryd.prog os Rows.shakeAgainRow.laid) #[.agg #[.int .i64 0, .int .i64 0, .int .u64 0, .int .u64 0], .int .u8 0] 8 (World.laidAll_os _ _ _)
      (World.shaped_of_ZipB (by kernel_rfl) (by kernel_rfl)) (by kernel_rfl) (by kernel_rfl) (by kernel_rfl)
      (by rw [MakeChecks.laidMetH_plain _ _ _ (by kernel_rfl)]; exact laidMet_laidAll _ (by kernel_rfl) (by kernel_rfl))) ?_
  intro W base args ds gs before hval0 hW _ _ hL _
  have hval : ∀ (j : Nat) t v, Tryd.f8.params[j]? = some t → args[j]? = some v → Value.okWide Tryd.prog W .any base t v := hval0
  have hW' := hW
  obtain ⟨p, q, hA0, hV, rfl, hfz, hnd⟩ := hW
  have hA : DataW.TrodAll enc Tryd.prog W 0 (fun _ => true) true Tryd.f8.params.toList args.toList ds p := hA0
  rw [Tryd.params8] at hA hval
  obtain ⟨v0, vs0, d0, ds0, p0, q0, hargs, rfl, rfl, h0, r0⟩ := trodAll_cons hA
  obtain ⟨v1, vs1, d1, ds1, p1, q1, rfl, rfl, rfl, h1, r1⟩ := trodAll_cons r0
  obtain ⟨rfl, rfl, rfl⟩ := trodAll_nil r1
  obtain rfl : args = #[v0, v1] := by cases args; simp_all
  obtain ⟨rfl, rfl⟩ := trodVars_none hV
  rw [MakeChecks.laidMetH_plain _ _ _ (by kernel_rfl)] at hL
  have k0 := h0
  have lt0 : ∀ x ∈ p0, x.block < W.heap.size := by obtain ⟨m, hm⟩ := k0; exact DataW.trod_lt m _ _ _ hm
  obtain ⟨s0, w0⟩ := open_two (hval 0 24 v0 rfl rfl) h0
  obtain ⟨a1, rfl, rfl, rfl, w1⟩ := open_int Tryd.underlying5 (hval 1 5 v1 rfl rfl) h1
  clear hA0 hval0
  refine (walk v0 s0 a1 W w0 w1 hL).mono fun e W' ⟨he, bel⟩ => ?_
  subst he
  exact ⟨_, rfl, _, _, _, [], _, [], hW', trodAll_mk1 (shut_bool Tryd.underlying4 _), (trodAll_cons_mk (Below.trod laidOut (by kernel_rfl) (of_decide_eq_true (by kernel_rfl)) k0 bel lt0) (trodAll_cons_mk (shut_int Tryd.underlying5 w1) trodAll_mk0)), rfl, bel.frame _, fun h => by cases h⟩

theorem over : Rows.ShakeAgainSaid :=
  OpenClaim.holds_of_wide 8 Tryd.f8 rfl rfl rfl rfl rfl rfl rfl ⟨rfl, rfl, rfl, rfl, rfl⟩ rfl rfl rfl rfl rfl (by kernel_rfl) Tryd.func8 (by kernel_rfl)
    (of_decide_eq_true (by kernel_rfl)) (by unfold Func.isWrapper; first | (rw [if_pos (by decide +kernel)]; kernel_rfl) | (rw [if_neg (by decide +kernel)]; exact ⟨rfl, rfl⟩))
    (fun os started H enc _ => lifted os started H enc)

/-- ████ THE STATEMENT ████ -/
theorem proved : Rows.ShakeAgainCardSaid :=
  Claim7.holds_tied_plain_at .later [] [.data] true (true, "c99dd33ff23ae40eba11b9db5a9bc5dd074ff793e965781493bbe41fb132a972") false
    over (fun _ h => by cases h) (by kernel_rfl) (fun _ h => by cases h) shakeAgain_row_tie rfl ⟨rfl, rfl⟩ (by kernel_rfl) rfl
    (fun f fn hf hfn => by
      obtain rfl : f = 8 := Option.some.inj ((show Tryd.prog.funcNamed "embrasure/embrasurelaw15.ShakeAgain" = some 8 by kernel_rfl).symm.trans hf) |>.symm
      obtain rfl : fn = Tryd.f8 := (Option.some.inj (Tryd.func8.symm.trans hfn)).symm
      exact ⟨by kernel_rfl, fun j t ht => by
        rw [Tryd.params8] at ht
        have hm : t ∈ [24, 5] := by simpa using Array.mem_of_getElem? ht
        have hall : ([24, 5].all fun u => !Tryd.prog.wantsStandIn u) = true := by kernel_rfl
        exact (show Tryd.prog.wantsStandIn t = false by simpa using List.all_eq_true.1 hall t hm)⟩)
    (by kernel_rfl)
#print axioms proved
end Go.Proofs.YtdiilgedicfekaaDoor.shakeAgain
