/-
  Two whose messages all come, the one calling, or both at once, are both Open, with one another's nonces; and so is one whose messages are lost so many times, and sent again. Conditions: none but what the card says.
-/

import Derived.Deep.CutRange
import Derived.Test.YtdiilgedicfekaaDoorNSms
import Derived.Test.YtdiilgedicfekaaDoorNSme
import Derived.Test.YtdiilgedicfekaaDoorRows
import Derived.Test.YtdiilgedicfekaaDoorCards
import Derived.Test.YtdiilgedicfekaaDoorTie
import Derived.WalkKit
import Derived.ProofKit
import Derived.OpenShut
import Derived.ShutString
import Derived.ChangeOld
import Derived.Below
import Derived.Lay
import Derived.LaidMore
import Derived.LaidOnce
import Derived.SevenTiedAt
namespace Go.Proofs.YtdiilgedicfekaaDoor.shakeMeets
open Go.ChangeShapes Go.WideShapes Go.ChangeAt Go.RowKit
open Go.ChangeMaps (open_string shut_string)
set_option linter.unusedVariables false

theorem own : ownKnob Tryd.prog.godebug = none := by kernel_rfl
theorem laidOut : laidOutB Tryd.prog = true := by kernel_rfl

set_option maxRecDepth 100000 in
set_option maxHeartbeats 80000000 in
theorem walk (v0 : Value) (s0 : Tq) (v1 : Value) (s1 : Bool) (v2 : Value) (s2 : List Bool) (w : World) (w0 : IsTwo w v0 s0) (w1 : IsFlag w v1 s1) (w2 : IsBits w v2 s2) (hL : laidMet Tryd.prog Rows.shakeMeetsRow.laid w) :
    Calls Tryd.prog 4 #[v0, v1, v2] w fun e w' => e = .returned (.bool true) ∧ Below w.heap.size w w' := by
  obtain ⟨rfl, i0, i1, i2, i3⟩ := w0
  obtain ⟨tA, tB, tNA, tNB⟩ := s0
  obtain rfl : v1 = .bool s1 := w1
  have HTW := Lib.hid (tb_laid hL)
  clear hL
  simp only at i0 i1 i2 i3 ⊢
  obtain ⟨AB, cB, rfl, hd1, hd2, hd3⟩ := w2
  have HD3 := Lib.hid hd3
  clear hd3
  obtain ⟨nB, hnB⟩ : ∃ n, s2.length = n := ⟨_, rfl⟩
  have HNB := Lib.hid hnB
  rw [hnB] at hd1 ⊢
  clear hnB
  obtain ⟨sa, ca, CA, ha⟩ := new_two tA tB tNA
  obtain ⟨sb, cb, CB, hb⟩ := new_two tB tA tNB
  have CA := Lib.hid CA; have CB := Lib.hid CB; have HA := Lib.hid ha; have HB := Lib.hid hb
  clear ha hb
  obtain ⟨W0, hW0⟩ : ∃ W0, w.alloc (.cells #[.int .i64 tA, .int .i64 tB, .int .u64 (tNA : Int), .int .u64 (tNB : Int)] 24) = W0 := ⟨_, rfl⟩
  have HW0 := Lib.hid hW0
  have HV0 : Hid (Below w.heap.size w W0) := Lib.hid (by rw [← hW0]; exact (Below.refl _ _).alloc (Nat.le_refl _) _)
  have HK0 : Hid (W0.heap[w.heap.size]? = some (.cells #[.int .i64 tA, .int .i64 tB, .int .u64 (tNA : Int), .int .u64 (tNB : Int)] 24 (0, 0))) := Lib.hid (by rw [← hW0]; exact alloc_at _ _ _)
  have hz0 : w.heap.size < W0.heap.size := by rw [← hW0]; simp
  have HT : Hid (Tb W0) := Lib.hid (HTW.out.below HV0.out)
  have HTC : Hid (∀ V, Below W0.heap.size W0 V → (V.cell? ⟨w.heap.size, 0, none⟩ = some (.int .i64 tA) ∧ V.cell? ⟨w.heap.size, 1, none⟩ = some (.int .i64 tB) ∧ V.cell? ⟨w.heap.size, 2, none⟩ = some (.int .u64 (tNA : Int)) ∧ V.cell? ⟨w.heap.size, 3, none⟩ = some (.int .u64 (tNB : Int)) ∧ w.heap.size < V.heap.size)) := Lib.hid (fun V hV => by
    obtain ⟨⟨p0, _⟩, ⟨p1, _⟩, ⟨p2, _⟩, ⟨p3, _⟩, pl⟩ := four ((hV.block _ hz0).trans HK0.out)
    exact ⟨p0, p1, p2, p3, pl⟩)
  clear hW0
  go_enter Tryd.func4, Tryd.ntmps4
  go_wp2_with fail
  rw [HW0.out]
  refine (sawake_any _ HT.out).mono ?_
  rintro e w1 ⟨rfl, hb1⟩
  have HU1 := Lib.hid hb1
  have HV1 := Lib.hid (HV0.out.trans (hb1.mono HV0.out.size))
  clear hb1
  obtain ⟨p0, p1, p2, p3, pl⟩ := HTC.out _ HU1.out
  go_wp2_with fail
  clear p0 p1 p2 p3 pl
  refine (CA.out _).mono ?_
  rintro e w2 ⟨rfl, hb2⟩
  have HU2 := Lib.hid (HU1.out.trans (hb2.mono HU1.out.size))
  have HU3 : Hid (Below W0.heap.size W0 (w2.alloc (.cells #[.int .i64 sa.st, .int .i64 sa.own, .int .i64 sa.oth, .int .u64 (sa.non : Int), .int .u64 (sa.ech : Int)] 29))) := Lib.hid (HU2.out.alloc HU2.out.size _)
  have HKA : Hid ((w2.alloc (.cells #[.int .i64 sa.st, .int .i64 sa.own, .int .i64 sa.oth, .int .u64 (sa.non : Int), .int .u64 (sa.ech : Int)] 29)).heap[w2.heap.size]? = some (sko sa)) := Lib.hid (alloc_at _ _ _)
  have hwa : W0.heap.size ≤ w2.heap.size := HU2.out.size
  clear hb2
  obtain ⟨p0, p1, p2, p3, pl⟩ := HTC.out _ HU3.out
  go_wp2_with fail
  clear p0 p1 p2 p3 pl
  refine (CB.out _).mono ?_
  rintro e w3 ⟨rfl, hb3⟩
  have hz3 : w2.heap.size < w3.heap.size := by have := hb3.size; simp at this; omega
  have HU4 : Hid (Below W0.heap.size W0 (w3.alloc (.cells #[.int .i64 sb.st, .int .i64 sb.own, .int .i64 sb.oth, .int .u64 (sb.non : Int), .int .u64 (sb.ech : Int)] 29))) := Lib.hid ((HU3.out.trans (hb3.mono HU3.out.size)).alloc (by omega) _)
  have HKA4 : Hid ((w3.alloc (.cells #[.int .i64 sb.st, .int .i64 sb.own, .int .i64 sb.oth, .int .u64 (sb.non : Int), .int .u64 (sb.ech : Int)] 29)).heap[w2.heap.size]? = some (sko sa)) := Lib.hid ((Below.heap_alloc _ _ _ hz3).trans ((hb3.block _ (by simp)).trans HKA.out))
  have HKB4 : Hid ((w3.alloc (.cells #[.int .i64 sb.st, .int .i64 sb.own, .int .i64 sb.oth, .int .u64 (sb.non : Int), .int .u64 (sb.ech : Int)] 29)).heap[w3.heap.size]? = some (sko sb)) := Lib.hid (alloc_at _ _ _)
  have HTB4 := Lib.hid (HT.out.below HU4.out)
  have HV4 : Hid (Below w.heap.size w (w3.alloc (.cells #[.int .i64 sb.st, .int .i64 sb.own, .int .i64 sb.oth, .int .u64 (sb.non : Int), .int .u64 (sb.ech : Int)] 29))) := Lib.hid (HV0.out.trans (HU4.out.mono HV0.out.size))
  clear hb3
  rcases HA.out with ⟨rfl, ha, oa⟩ | ⟨rfl, hx, hy⟩
  case inr =>
    clear hx hy
    go_wp2
    go_ret
    exact ⟨rfl, HV4.out⟩
  rcases HB.out with ⟨rfl, hb, ob⟩ | ⟨rfl, hx, hy⟩
  case inr =>
    clear hx hy
    go_wp2
    go_ret
    exact ⟨rfl, HV4.out⟩
  subst ha hb
  obtain ⟨sa, ea⟩ : ∃ s, newS tA tB tNA = s := ⟨_, rfl⟩
  obtain ⟨sb, eb⟩ : ∃ s, newS tB tA tNB = s := ⟨_, rfl⟩
  have HEA := Lib.hid ea; have HEB := Lib.hid eb
  have OA : Hid (newS tA tB tNA).Ok := Lib.hid oa
  have OB : Hid (newS tB tA tNB).Ok := Lib.hid ob
  rw [ea] at HKA4 ⊢
  rw [eb] at HKA4 HKB4 HTB4 HU4 ⊢
  clear ea eb oa ob HA HB HV4
  go_wp2_with fail
  refine (new_s _ HTB4.out).mono ?_
  rintro e w5 ⟨nb, rfl, h5⟩
  have HT5 : Hid (Tw2 W0 nb [] none w2.heap.size w3.heap.size (w3.heap.size + 1) sa sb [] w5) := Lib.hid (Tw2.start h5 HU4.out HT.out HKA4.out HKB4.out hwa hz3)
  clear h5
  have hab : ¬ (w2.heap.size = w3.heap.size) := by omega
  have hba : ¬ (w3.heap.size = w2.heap.size) := by omega
  obtain ⟨⟨u0, uf0⟩, ⟨u1, uf1⟩, ⟨u2, uf2⟩, ⟨u3, uf3⟩, ⟨u4, uf4⟩, ul⟩ := HT5.out.fiveA
  go_wp2_with fail
  clear u0 uf0 u1 uf1 u2 uf2 u3 uf3 u4 uf4 ul
  have hcn : callO sa [] = ⟨stA sa, helloB [] sa, helloL [] sa⟩ := by rw [← HEA.out]; exact call_new []
  have HHS0 : Hid (Hs tA tB tNA tNB 1 (stA sa)) := Lib.hid (by rw [← HEA.out]; exact hs_call OA.out)
  have HMS0 : Hid (Ms tA tB tNA tNB (helloL [] sa) 1 (helloB [] sa)) := Lib.hid (by rw [← HEA.out]; exact hello_ms [])
  have HL0 : Hid ((helloL [] sa).length ≤ 2) := Lib.hid (by rw [helloL_eq]; have := mint_len' [] (helloX sa); simp only [List.length_nil] at this; omega)
  obtain ⟨a1, ea1⟩ : ∃ s, stA sa = s := ⟨_, rfl⟩
  obtain ⟨L0, eL0⟩ : ∃ l, helloL [] sa = l := ⟨_, rfl⟩
  obtain ⟨z0, ez0⟩ : ∃ z, helloB [] sa = z := ⟨_, rfl⟩
  rw [ea1, eL0, ez0] at hcn
  rw [ea1] at HHS0
  rw [eL0] at HL0 HMS0
  rw [ez0] at HMS0
  clear ea1 eL0 ez0
  refine (call_m HT5.out sa (by rw [← HEA.out]; exact OA.out) (by simp) _ hcn).mono ?_
  rintro e w6 ⟨A0, n0, c0, H0, rfl, hn0, hs0, -, ht0⟩
  have HN0 := Lib.hid hn0; have HS0 := Lib.hid hs0
  have HT6 : Hid (Tw2 W0 nb L0 none w2.heap.size w3.heap.size (w3.heap.size + 1) a1 sb H0 ((((((w6).setCell ⟨w2.heap.size, 0, none⟩ (.int .i64 a1.st)).setCell ⟨w2.heap.size, 1, none⟩ (.int .i64 a1.own)).setCell ⟨w2.heap.size, 2, none⟩ (.int .i64 a1.oth)).setCell ⟨w2.heap.size, 3, none⟩ (.int .u64 (a1.non : Int))).setCell ⟨w2.heap.size, 4, none⟩ (.int .u64 (a1.ech : Int)))) := Lib.hid (ht0.putA a1)
  have HTK := Lib.hid ht0
  clear hn0 hs0 ht0 hcn
  cases s1 with
  | false =>
    obtain ⟨⟨u0, uf0⟩, ⟨u1, uf1⟩, ⟨u2, uf2⟩, ⟨u3, uf3⟩, ⟨u4, uf4⟩, ul⟩ := HTK.out.fiveA
    obtain ⟨⟨v0, vf0⟩, ⟨v1, vf1⟩, ⟨v2, vf2⟩, ⟨v3, vf3⟩, ⟨v4, vf4⟩, vl⟩ := HTK.out.fiveB
    go_wp2
    obtain ⟨W6, hW6⟩ : ∃ W6, (((((w6).setCell ⟨w2.heap.size, 0, none⟩ (.int .i64 a1.st)).setCell ⟨w2.heap.size, 1, none⟩ (.int .i64 a1.own)).setCell ⟨w2.heap.size, 2, none⟩ (.int .i64 a1.oth)).setCell ⟨w2.heap.size, 3, none⟩ (.int .u64 (a1.non : Int))).setCell ⟨w2.heap.size, 4, none⟩ (.int .u64 (a1.ech : Int)) = W6 := ⟨_, rfl⟩
    rw [hW6] at HT6 ⊢
    clear hW6
    clear u0 uf0 u1 uf1 u2 uf2 u3 uf3 u4 uf4 ul
    clear v0 vf0 v1 vf1 v2 vf2 v3 vf3 v4 vf4 vl
    have HM0 : Hid (MeetS W0 nb w2.heap.size w3.heap.size (w3.heap.size + 1) tA tB tNA tNB 10 (win 10 40) A0 n0 c0 none 0 0 W6) := Lib.hid ⟨a1, sb, 1, 0, 1, 0, HHS0.out, by rw [← HEB.out]; exact hs_new OB.out, win_one, L0, z0, [], H0, HN0.out, rfl, HMS0.out, Ms.nil, by have := HL0.out; omega, HT6.out, HS0.out, SlH.nil _⟩
    clear HHS0 HMS0 HN0 HS0 HL0 HT6 HTK
    go_loopw [12, 13, 14] (fun x y i wr => ∃ (k : Nat) (Ax : Option Addr) (nx cx : Nat) (Ay : Option Addr) (ny cy : Nat), k ≤ 40 ∧ i = .int .i64 k ∧ x = .slice Ax nx cx ∧ y = .slice Ay ny cy ∧ Hid (MeetS W0 nb w2.heap.size w3.heap.size (w3.heap.size + 1) tA tB tNA tNB (10 + 4 * k) (win (10 - k) (40 - k)) Ax nx cx Ay ny cy wr)) (fun _ _ i _ => 40 - (intOf i).toNat)
    case atStart => exact ⟨0, _, _, _, _, _, _, by omega, rfl, rfl, rfl, HM0⟩
    case round =>
      obtain ⟨k, Ax, nx, cx, Ay, ny, cy, hk, rfl, rfl, rfl, HR⟩ := hrel
      by_cases hk40 : k < 40
      · have k1 : (k : Int) < 40 := by omega
        obtain ⟨tt, htt⟩ : ∃ tt, 40 - k = tt + 1 := ⟨40 - k - 1, by omega⟩
        rw [htt] at HR
        have HTT := Lib.hid htt
        clear htt
        have HRS := Lib.hid HR.out.step
        have HRL : Hid (k < 10 → MeetS W0 nb w2.heap.size w3.heap.size (w3.heap.size + 1) tA tB tNA tNB (10 + 4 * k) (stp (10 - k - 1) tt) none 0 0 none 0 0 wr) := Lib.hid (fun h => HR.out.lost (by omega))
        have HBW := Lib.hid (HV0.out.trans (HR.out.low.mono HV0.out.size))
        go_upto_region 15 with (fail)
        go_cut [78] from 65 to 128 (fun u wx => ∃ bb : Bool, u = .bool bb ∧ wr = wx ∧ Hid (bb = true → k < 10))
        case first =>
          by_cases hkn : k < nB
          · have k2 : (k : Int) < (nB : Int) := by omega
            by_cases hk10 : k < 10
            · have k3 : (k : Int) < 10 := by omega
              obtain ⟨bB, oB, rfl, hbB, hat⟩ := HD3.out (by have := HNB.out; omega)
              have hc := (HBW.out.cell (p := ⟨bB, oB + k, none⟩) hbB).trans (hat k (by have := HNB.out; omega))
              have hbl : bB < wr.heap.size := Nat.lt_of_lt_of_le hbB HBW.out.size
              clear hat
              have HQ : Hid ((s2.getD k false) = true → k < 10) := Lib.hid (fun _ => hk10)
              generalize s2.getD k false = bk at *
              go_wp2
              go_meet
              exact ⟨_, rfl, rfl, HQ⟩
            · have HQ : Hid (false = true → k < 10) := Lib.hid (fun h => by cases h)
              go_wp2
              go_meet
              exact ⟨_, rfl, rfl, HQ⟩
          · have HQ : Hid (false = true → k < 10) := Lib.hid (fun h => by cases h)
            go_wp2
            go_meet
            exact ⟨_, rfl, rfl, HQ⟩
        case rest =>
          obtain ⟨bb, rfl, rfl, HQ⟩ := hcut
          go_upto_if 78 with (fail)
          go_cut [12, 13] from 65 to 128 (fun x y wx => ∃ (Ax : Option Addr) (nx cx : Nat) (Ay : Option Addr) (ny cy : Nat), x = .slice Ax nx cx ∧ y = .slice Ay ny cy ∧ wr = wx ∧ Hid (MeetS W0 nb w2.heap.size w3.heap.size (w3.heap.size + 1) tA tB tNA tNB (10 + 4 * k) (stp (10 - k - 1) tt) Ax nx cx Ay ny cy wr))
          case first =>
            cases bb with
            | false =>
              go_wp2
              go_meet
              exact ⟨_, _, _, _, _, _, rfl, rfl, rfl, HRS⟩
            | true =>
              have HQ2 := Lib.hid (HRL.out (HQ.out rfl))
              go_wp2
              go_meet
              exact ⟨_, _, _, _, _, _, rfl, rfl, rfl, HQ2⟩
          case rest =>
            clear HRS HRL HR
            obtain ⟨Ax, nx, cx, Ay, ny, cy, rfl, rfl, rfl, HM⟩ := hcut
            obtain ⟨aa, ab, ma, mb, xm, ym, hsa, hsb, hst', hmd⟩ := HM.out
            have HSA := Lib.hid hsa; have HSB := Lib.hid hsb; have HST := Lib.hid hst'
            obtain ⟨La, Ha, hta⟩ := hmd.tw
            have HTA := Lib.hid hta
            have CB8 := Lib.hid (hmd.hear_b OA.out OB.out (by omega) hsb)
            clear hsa hsb hst' hmd hta
            obtain ⟨⟨u0, uf0⟩, ⟨u1, uf1⟩, ⟨u2, uf2⟩, ⟨u3, uf3⟩, ⟨u4, uf4⟩, ul⟩ := HTA.out.fiveA
            obtain ⟨⟨v0, vf0⟩, ⟨v1, vf1⟩, ⟨v2, vf2⟩, ⟨v3, vf3⟩, ⟨v4, vf4⟩, vl⟩ := HTA.out.fiveB
            go_wp2_with fail
            clear u0 uf0 u1 uf1 u2 uf2 u3 uf3 u4 uf4 ul
            clear v0 vf0 v1 vf1 v2 vf2 v3 vf3 v4 vf4 vl
            refine CB8.out.mono ?_
            rintro e w8 ⟨b2, A1, n1, c1, rfl, hs2, L1, ys, vs, H1, g1, g2, g3, g4, g5, g6, g7, g8⟩
            have HSB2 := Lib.hid hs2
            have HT8 := Lib.hid g6
            have HT8c := Lib.hid (g6.box b2 rfl)
            have CA9 := Lib.hid (hear_ay OA.out OB.out HSA.out (by omega) g1 g2 g3 g4 HT8c.out (g7.mono (fun p hp => List.mem_cons_of_mem _ hp)) (g8.mono (fun p hp => List.mem_cons_of_mem _ hp)))
            have HL1 := Lib.hid g5
            have GV := Lib.hid g2
            clear hs2 g1 g2 g3 g4 g5 g6 g7 g8 CB8 HTA
            obtain ⟨⟨u0, uf0⟩, ⟨u1, uf1⟩, ⟨u2, uf2⟩, ⟨u3, uf3⟩, ⟨u4, uf4⟩, ul⟩ := HT8.out.fiveA
            go_wp2_with fail
            clear u0 uf0 u1 uf1 u2 uf2 u3 uf3 u4 uf4 ul
            refine CA9.out.mono ?_
            rintro e w9 ⟨a2, A2, n2, c2, rfl, hs3, L2, ws, H2, g1, g2, g3, g4, g5, g6, g7, g8⟩
            have HSA2 := Lib.hid hs3
            have HT9 := Lib.hid g5
            have HMC : Hid ((w8.heap.size, sko b2) ∈ H2) := Lib.hid (g8 _ (by simp))
            have hl8 : w8.heap.size < w9.heap.size := g5.sd.lt (p := (w8.heap.size, sko b2)) (by simp [HMC.out])
            have hc8a : ¬ (w8.heap.size = w2.heap.size) := by have := g5.hz _ HMC.out; have := g5.za; simp only at *; omega
            have hc8b : ¬ (w8.heap.size = w3.heap.size) := by have := g5.hz _ HMC.out; have := g5.zb; simp only at *; omega
            have hc8a' : ¬ (w2.heap.size = w8.heap.size) := fun e => hc8a e.symm
            have hc8b' : ¬ (w3.heap.size = w8.heap.size) := fun e => hc8b e.symm
            have HMD : Hid (Mdl W0 nb w2.heap.size w3.heap.size (w3.heap.size + 1) tA tB tNA tNB (10 + 4 * k + 2) a2 b2 (hms ma ym) (hms mb xm) A2 n2 c2 A1 n1 c1 ((((((((((((w9).setCell ⟨w3.heap.size, 0, none⟩ (.int .i64 b2.st)).setCell ⟨w3.heap.size, 1, none⟩ (.int .i64 b2.own)).setCell ⟨w3.heap.size, 2, none⟩ (.int .i64 b2.oth)).setCell ⟨w3.heap.size, 3, none⟩ (.int .u64 (b2.non : Int))).setCell ⟨w3.heap.size, 4, none⟩ (.int .u64 (b2.ech : Int))).setCell ⟨w2.heap.size, 0, none⟩ (.int .i64 a2.st)).setCell ⟨w2.heap.size, 1, none⟩ (.int .i64 a2.own)).setCell ⟨w2.heap.size, 2, none⟩ (.int .i64 a2.oth)).setCell ⟨w2.heap.size, 3, none⟩ (.int .u64 (a2.non : Int))).setCell ⟨w2.heap.size, 4, none⟩ (.int .u64 (a2.ech : Int))).alloc (.cells #[.int .i64 a2.st, .int .i64 a2.own, .int .i64 a2.oth, .int .u64 (a2.non : Int), .int .u64 (a2.ech : Int)] 29))) := Lib.hid ⟨L2, ws, vs, H2, g1, GV.out, g2, g3, by have := HL1.out; omega, ((g5.putB b2).putA a2).below ((Below.refl _ _).alloc (Nat.le_refl _) _), g6, g7⟩
            clear hs3 g1 g2 g3 g4 g5 g6 g7 g8 CA9 HT8 HT8c
            obtain ⟨⟨u0, uf0⟩, ⟨u1, uf1⟩, ⟨u2, uf2⟩, ⟨u3, uf3⟩, ⟨u4, uf4⟩, ul⟩ := HT9.out.fiveA
            obtain ⟨⟨v0, vf0⟩, ⟨v1, vf1⟩, ⟨v2, vf2⟩, ⟨v3, vf3⟩, ⟨v4, vf4⟩, vl⟩ := HT9.out.fiveB
            obtain ⟨⟨x0, xf0⟩, ⟨x1, xf1⟩, ⟨x2, xf2⟩, ⟨x3, xf3⟩, ⟨x4, xf4⟩, xl⟩ := HT9.out.five HMC.out
            go_upto_region 24 with (fail)
            obtain ⟨W10, hW10⟩ : ∃ W10, (((((((((((w9).setCell ⟨w3.heap.size, 0, none⟩ (.int .i64 b2.st)).setCell ⟨w3.heap.size, 1, none⟩ (.int .i64 b2.own)).setCell ⟨w3.heap.size, 2, none⟩ (.int .i64 b2.oth)).setCell ⟨w3.heap.size, 3, none⟩ (.int .u64 (b2.non : Int))).setCell ⟨w3.heap.size, 4, none⟩ (.int .u64 (b2.ech : Int))).setCell ⟨w2.heap.size, 0, none⟩ (.int .i64 a2.st)).setCell ⟨w2.heap.size, 1, none⟩ (.int .i64 a2.own)).setCell ⟨w2.heap.size, 2, none⟩ (.int .i64 a2.oth)).setCell ⟨w2.heap.size, 3, none⟩ (.int .u64 (a2.non : Int))).setCell ⟨w2.heap.size, 4, none⟩ (.int .u64 (a2.ech : Int))).alloc (.cells #[.int .i64 a2.st, .int .i64 a2.own, .int .i64 a2.oth, .int .u64 (a2.non : Int), .int .u64 (a2.ech : Int)] 29) = W10 := ⟨_, rfl⟩
            rw [hW10] at HMD ⊢
            clear hW10
            clear u0 uf0 u1 uf1 u2 uf2 u3 uf3 u4 uf4 ul
            clear v0 vf0 v1 vf1 v2 vf2 v3 vf3 v4 vf4 vl
            clear x0 xf0 x1 xf1 x2 xf2 x3 xf3 x4 xf4 xl HT9 HMC
            obtain ⟨Lz, Hz, htz⟩ := HMD.out.tw
            have HTZ := Lib.hid htz
            clear htz
            obtain ⟨⟨u0, uf0⟩, ⟨u1, uf1⟩, ⟨u2, uf2⟩, ⟨u3, uf3⟩, ⟨u4, uf4⟩, ul⟩ := HTZ.out.fiveA
            obtain ⟨⟨v0, vf0⟩, ⟨v1, vf1⟩, ⟨v2, vf2⟩, ⟨v3, vf3⟩, ⟨v4, vf4⟩, vl⟩ := HTZ.out.fiveB
            go_cut [104] from 97 to 128 (fun u wx => ∃ dd : Bool, u = .bool dd ∧ W10 = wx ∧ Hid (DDn dd (hst ma ym = 3 ∧ hst mb xm = 3)))
            case first =>
              have e1 := HSA2.out.eq
              have e2 := HSB2.out.eq
              by_cases d1 : a2.st = 3
              · have t1 : (a2.st == 3) = true := by simp [d1]
                by_cases d2 : b2.st = 3
                · have t2 : (b2.st == 3) = true := by simp [d2]
                  have HD : Hid (DDn true (hst ma ym = 3 ∧ hst mb xm = 3)) := Lib.hid (by unfold DDn; simp; omega)
                  clear e1 e2 d1 d2
                  go_wp2
                  go_meet
                  exact ⟨_, rfl, rfl, HD⟩
                · have t2 : (b2.st == 3) = false := by simp [d2]
                  have HD : Hid (DDn false (hst ma ym = 3 ∧ hst mb xm = 3)) := Lib.hid (by unfold DDn; simp; omega)
                  clear e1 e2 d1 d2
                  go_wp2
                  go_meet
                  exact ⟨_, rfl, rfl, HD⟩
              · have t1 : (a2.st == 3) = false := by simp [d1]
                have HD : Hid (DDn false (hst ma ym = 3 ∧ hst mb xm = 3)) := Lib.hid (by unfold DDn; simp; omega)
                clear e1 e2 d1
                go_wp2
                go_meet
                exact ⟨_, rfl, rfl, HD⟩
            case rest =>
              obtain ⟨dd, rfl, rfl, HD⟩ := hcut
              cases dd with
              | true =>
                have hd := (show _ ↔ _ from HD.out).1 rfl
                have te1 : ((a2.ech : Int) == (tNB : Int)) = true := by rw [HSA2.out.ech (by omega)]; simp
                have te2 : ((b2.ech : Int) == (tNA : Int)) = true := by rw [HSB2.out.ech (by omega)]; simp
                have HLW := Lib.hid (HV0.out.trans (HTZ.out.sd.low.mono HV0.out.size))
                obtain ⟨p0, p1, p2, p3, pl⟩ := HTC.out _ HTZ.out.sd.low
                clear hd
                go_wp2
                go_ret
                exact ⟨rfl, HLW.out⟩
              | false =>
                have HND : Hid (¬ (hst ma ym = 3 ∧ hst mb xm = 3)) := Lib.hid (fun h => by have := (show _ ↔ _ from HD.out).2 h; cases this)
                have HWN := Lib.hid (stp_go HST.out HND.out)
                clear HD HND HST HM
                go_upto_if 119 with (fail)
                go_cut [12] from 97 to 128 (fun u wx => ∃ (Ax : Option Addr) (nx cx : Nat), u = .slice Ax nx cx ∧ Hid (Mdl W0 nb w2.heap.size w3.heap.size (w3.heap.size + 1) tA tB tNA tNB (10 + 4 * k + 2 + 1) a2 b2 (or0 (hms ma ym) (ags (hst ma ym))) (hms mb xm) Ax nx cx A1 n1 c1 wx))
                case first =>
                  by_cases hn2 : n2 = 0
                  · have CAG := Lib.hid (HMD.out.a_again OA.out OB.out.n2 (by omega) HSA2.out hn2)
                    subst hn2
                    go_wp2_with fail
                    refine CAG.out.mono ?_
                    rintro e w11 ⟨A3, n3, c3, rfl, hq⟩
                    have HQ3 := Lib.hid hq
                    clear hq
                    go_wp2
                    go_meet
                    exact ⟨_, _, _, rfl, HQ3⟩
                  · have tn : ((n2 : Int) == 0) = false := by rw [beq_eq_false_iff_ne]; omega
                    have HQ3 := Lib.hid (HMD.out.a_keep (sa := hst ma ym) OA.out OB.out.n2 (by omega) hn2)
                    go_wp2
                    go_meet
                    exact ⟨_, _, _, rfl, HQ3⟩
                case rest =>
                  clear HMD
                  clear u0 uf0 u1 uf1 u2 uf2 u3 uf3 u4 uf4 ul
                  clear v0 vf0 v1 vf1 v2 vf2 v3 vf3 v4 vf4 vl
                  obtain ⟨Ax, nx, cx, rfl, HMD⟩ := hcut
                  obtain ⟨Ly, Hy, hty⟩ := HMD.out.tw
                  have HTY := Lib.hid hty
                  clear hty HTZ
                  obtain ⟨⟨v0, vf0⟩, ⟨v1, vf1⟩, ⟨v2, vf2⟩, ⟨v3, vf3⟩, ⟨v4, vf4⟩, vl⟩ := HTY.out.fiveB
                  have HFN : Hid (∀ (Ay : Option Addr) (ny cy : Nat) (wx : World), Mdl W0 nb w2.heap.size w3.heap.size (w3.heap.size + 1) tA tB tNA tNB (10 + 4 * k + 2 + 1 + 1) a2 b2 (or0 (hms ma ym) (ags (hst ma ym))) (or0 (hms mb xm) (ags (hst mb xm))) Ax nx cx Ay ny cy wx → MeetS W0 nb w2.heap.size w3.heap.size (w3.heap.size + 1) tA tB tNA tNB (10 + 4 * (k + 1)) (win (10 - (k + 1)) (40 - (k + 1))) Ax nx cx Ay ny cy wx) := Lib.hid (fun Ay ny cy wx h => by
                    have e1 : 10 - (k + 1) = 10 - k - 1 := by omega
                    have e2 : 40 - (k + 1) = tt := by have := HTT.out; omega
                    have e3 : 10 + 4 * (k + 1) = 10 + 4 * k + 2 + 1 + 1 := by omega
                    rw [e1, e2, e3]
                    exact ⟨a2, b2, _, _, _, _, HSA2.out, HSB2.out, HWN.out, h⟩)
                  by_cases hn1 : n1 = 0
                  · have CAG := Lib.hid (HMD.out.b_again OB.out OA.out.n2 (by omega) HSB2.out hn1)
                    subst hn1
                    go_wp2_with fail
                    refine CAG.out.mono ?_
                    rintro e w11 ⟨A3, n3, c3, rfl, hq⟩
                    have HQ3 := Lib.hid (HFN.out _ _ _ _ hq)
                    clear hq
                    go_wp2
                    go_roundw
                    case rel => exact ⟨k + 1, _, _, _, _, _, _, by omega, by go_num, rfl, rfl, HQ3⟩
                    case measure => simp [intOf]; omega
                  · have tn : ((n1 : Int) == 0) = false := by rw [beq_eq_false_iff_ne]; omega
                    have HQ3 := Lib.hid (HFN.out _ _ _ _ (HMD.out.b_keep (sb := hst mb xm) OB.out OA.out.n2 (by omega) hn1))
                    go_wp2
                    go_roundw
                    case rel => exact ⟨k + 1, _, _, _, _, _, _, by omega, by go_num, rfl, rfl, HQ3⟩
                    case measure => simp [intOf]; omega
      · obtain rfl : k = 40 := by omega
        exact absurd HR.out MeetS.no
  | true =>
    obtain ⟨⟨u0, uf0⟩, ⟨u1, uf1⟩, ⟨u2, uf2⟩, ⟨u3, uf3⟩, ⟨u4, uf4⟩, ul⟩ := HTK.out.fiveA
    obtain ⟨⟨v0, vf0⟩, ⟨v1, vf1⟩, ⟨v2, vf2⟩, ⟨v3, vf3⟩, ⟨v4, vf4⟩, vl⟩ := HTK.out.fiveB
    go_wp2_with fail
    obtain ⟨W6, hW6⟩ : ∃ W6, (((((w6).setCell ⟨w2.heap.size, 0, none⟩ (.int .i64 a1.st)).setCell ⟨w2.heap.size, 1, none⟩ (.int .i64 a1.own)).setCell ⟨w2.heap.size, 2, none⟩ (.int .i64 a1.oth)).setCell ⟨w2.heap.size, 3, none⟩ (.int .u64 (a1.non : Int))).setCell ⟨w2.heap.size, 4, none⟩ (.int .u64 (a1.ech : Int)) = W6 := ⟨_, rfl⟩
    rw [hW6] at HT6 ⊢
    clear hW6
    clear u0 uf0 u1 uf1 u2 uf2 u3 uf3 u4 uf4 ul
    clear v0 vf0 v1 vf1 v2 vf2 v3 vf3 v4 vf4 vl
    have hcn : callO sb L0 = ⟨stA sb, helloB L0 sb, helloL L0 sb⟩ := by rw [← HEB.out]; exact call_new L0
    have HHS1 : Hid (Hs tB tA tNB tNA 1 (stA sb)) := Lib.hid (by rw [← HEB.out]; exact hs_call OB.out)
    have HMS1 : Hid (Ms tB tA tNB tNA (helloL L0 sb) 1 (helloB L0 sb)) := Lib.hid (by rw [← HEB.out]; exact hello_ms L0)
    have HL1 : Hid ((helloL L0 sb).length ≤ 3) := Lib.hid (by rw [helloL_eq]; have := mint_len' L0 (helloX sb); have := HL0.out; omega)
    have HX1 : Hid (Ext L0 (helloL L0 sb)) := Lib.hid (Ext.mint _ _)
    obtain ⟨b1, eb1⟩ : ∃ s, stA sb = s := ⟨_, rfl⟩
    obtain ⟨L1, eL1⟩ : ∃ l, helloL L0 sb = l := ⟨_, rfl⟩
    obtain ⟨z1, ez1⟩ : ∃ z, helloB L0 sb = z := ⟨_, rfl⟩
    rw [eb1, eL1, ez1] at hcn
    rw [eb1] at HHS1
    rw [eL1] at HL1 HMS1 HX1
    rw [ez1] at HMS1
    clear eb1 eL1 ez1
    refine (call_m HT6.out sb (by rw [← HEB.out]; exact OB.out) (by have := HL0.out; omega) _ hcn).mono ?_
    rintro e w7 ⟨A1, n1, c1, H1, rfl, hn1, hs1, hh1, ht1⟩
    have HN1 := Lib.hid hn1; have HS1 := Lib.hid hs1; have HH1 := Lib.hid hh1
    have HT7 : Hid (Tw2 W0 nb L1 none w2.heap.size w3.heap.size (w3.heap.size + 1) a1 b1 H1 ((((((w7).setCell ⟨w3.heap.size, 0, none⟩ (.int .i64 b1.st)).setCell ⟨w3.heap.size, 1, none⟩ (.int .i64 b1.own)).setCell ⟨w3.heap.size, 2, none⟩ (.int .i64 b1.oth)).setCell ⟨w3.heap.size, 3, none⟩ (.int .u64 (b1.non : Int))).setCell ⟨w3.heap.size, 4, none⟩ (.int .u64 (b1.ech : Int)))) := Lib.hid (ht1.putB b1)
    have HTK := Lib.hid ht1
    clear hn1 hs1 ht1 hh1 hcn
    obtain ⟨⟨u0, uf0⟩, ⟨u1, uf1⟩, ⟨u2, uf2⟩, ⟨u3, uf3⟩, ⟨u4, uf4⟩, ul⟩ := HTK.out.fiveA
    obtain ⟨⟨v0, vf0⟩, ⟨v1, vf1⟩, ⟨v2, vf2⟩, ⟨v3, vf3⟩, ⟨v4, vf4⟩, vl⟩ := HTK.out.fiveB
    go_wp2
    obtain ⟨W7, hW7⟩ : ∃ W7, (((((w7).setCell ⟨w3.heap.size, 0, none⟩ (.int .i64 b1.st)).setCell ⟨w3.heap.size, 1, none⟩ (.int .i64 b1.own)).setCell ⟨w3.heap.size, 2, none⟩ (.int .i64 b1.oth)).setCell ⟨w3.heap.size, 3, none⟩ (.int .u64 (b1.non : Int))).setCell ⟨w3.heap.size, 4, none⟩ (.int .u64 (b1.ech : Int)) = W7 := ⟨_, rfl⟩
    rw [hW7] at HT7 ⊢
    clear hW7
    clear u0 uf0 u1 uf1 u2 uf2 u3 uf3 u4 uf4 ul
    clear v0 vf0 v1 vf1 v2 vf2 v3 vf3 v4 vf4 vl
    have HM0 : Hid (MeetS W0 nb w2.heap.size w3.heap.size (w3.heap.size + 1) tA tB tNA tNB 10 (win 10 40) A0 n0 c0 A1 n1 c1 W7) := Lib.hid ⟨a1, b1, 1, 1, 1, 1, HHS0.out, HHS1.out, win_two, _, z0, _, H1, HN0.out, HN1.out, HMS0.out.ext HX1.out, HMS1.out, by have := HL1.out; omega, HT7.out, HS0.out.mono HH1.out, HS1.out⟩
    clear HHS0 HMS0 HN0 HS0 HL0 HT6 HTK HHS1 HMS1 HN1 HS1 HL1 HT7 HH1 HX1
    go_loopw [12, 13, 14] (fun x y i wr => ∃ (k : Nat) (Ax : Option Addr) (nx cx : Nat) (Ay : Option Addr) (ny cy : Nat), k ≤ 40 ∧ i = .int .i64 k ∧ x = .slice Ax nx cx ∧ y = .slice Ay ny cy ∧ Hid (MeetS W0 nb w2.heap.size w3.heap.size (w3.heap.size + 1) tA tB tNA tNB (10 + 4 * k) (win (10 - k) (40 - k)) Ax nx cx Ay ny cy wr)) (fun _ _ i _ => 40 - (intOf i).toNat)
    case atStart => exact ⟨0, _, _, _, _, _, _, by omega, rfl, rfl, rfl, HM0⟩
    case round =>
      obtain ⟨k, Ax, nx, cx, Ay, ny, cy, hk, rfl, rfl, rfl, HR⟩ := hrel
      by_cases hk40 : k < 40
      · have k1 : (k : Int) < 40 := by omega
        obtain ⟨tt, htt⟩ : ∃ tt, 40 - k = tt + 1 := ⟨40 - k - 1, by omega⟩
        rw [htt] at HR
        have HTT := Lib.hid htt
        clear htt
        have HRS := Lib.hid HR.out.step
        have HRL : Hid (k < 10 → MeetS W0 nb w2.heap.size w3.heap.size (w3.heap.size + 1) tA tB tNA tNB (10 + 4 * k) (stp (10 - k - 1) tt) none 0 0 none 0 0 wr) := Lib.hid (fun h => HR.out.lost (by omega))
        have HBW := Lib.hid (HV0.out.trans (HR.out.low.mono HV0.out.size))
        go_upto_region 15 with (fail)
        go_cut [78] from 65 to 128 (fun u wx => ∃ bb : Bool, u = .bool bb ∧ wr = wx ∧ Hid (bb = true → k < 10))
        case first =>
          by_cases hkn : k < nB
          · have k2 : (k : Int) < (nB : Int) := by omega
            by_cases hk10 : k < 10
            · have k3 : (k : Int) < 10 := by omega
              obtain ⟨bB, oB, rfl, hbB, hat⟩ := HD3.out (by have := HNB.out; omega)
              have hc := (HBW.out.cell (p := ⟨bB, oB + k, none⟩) hbB).trans (hat k (by have := HNB.out; omega))
              have hbl : bB < wr.heap.size := Nat.lt_of_lt_of_le hbB HBW.out.size
              clear hat
              have HQ : Hid ((s2.getD k false) = true → k < 10) := Lib.hid (fun _ => hk10)
              generalize s2.getD k false = bk at *
              go_wp2
              go_meet
              exact ⟨_, rfl, rfl, HQ⟩
            · have HQ : Hid (false = true → k < 10) := Lib.hid (fun h => by cases h)
              go_wp2
              go_meet
              exact ⟨_, rfl, rfl, HQ⟩
          · have HQ : Hid (false = true → k < 10) := Lib.hid (fun h => by cases h)
            go_wp2
            go_meet
            exact ⟨_, rfl, rfl, HQ⟩
        case rest =>
          obtain ⟨bb, rfl, rfl, HQ⟩ := hcut
          go_upto_if 78 with (fail)
          go_cut [12, 13] from 65 to 128 (fun x y wx => ∃ (Ax : Option Addr) (nx cx : Nat) (Ay : Option Addr) (ny cy : Nat), x = .slice Ax nx cx ∧ y = .slice Ay ny cy ∧ wr = wx ∧ Hid (MeetS W0 nb w2.heap.size w3.heap.size (w3.heap.size + 1) tA tB tNA tNB (10 + 4 * k) (stp (10 - k - 1) tt) Ax nx cx Ay ny cy wr))
          case first =>
            cases bb with
            | false =>
              go_wp2
              go_meet
              exact ⟨_, _, _, _, _, _, rfl, rfl, rfl, HRS⟩
            | true =>
              have HQ2 := Lib.hid (HRL.out (HQ.out rfl))
              go_wp2
              go_meet
              exact ⟨_, _, _, _, _, _, rfl, rfl, rfl, HQ2⟩
          case rest =>
            clear HRS HRL HR
            obtain ⟨Ax, nx, cx, Ay, ny, cy, rfl, rfl, rfl, HM⟩ := hcut
            obtain ⟨aa, ab, ma, mb, xm, ym, hsa, hsb, hst', hmd⟩ := HM.out
            have HSA := Lib.hid hsa; have HSB := Lib.hid hsb; have HST := Lib.hid hst'
            obtain ⟨La, Ha, hta⟩ := hmd.tw
            have HTA := Lib.hid hta
            have CB8 := Lib.hid (hmd.hear_b OA.out OB.out (by omega) hsb)
            clear hsa hsb hst' hmd hta
            obtain ⟨⟨u0, uf0⟩, ⟨u1, uf1⟩, ⟨u2, uf2⟩, ⟨u3, uf3⟩, ⟨u4, uf4⟩, ul⟩ := HTA.out.fiveA
            obtain ⟨⟨v0, vf0⟩, ⟨v1, vf1⟩, ⟨v2, vf2⟩, ⟨v3, vf3⟩, ⟨v4, vf4⟩, vl⟩ := HTA.out.fiveB
            go_wp2_with fail
            clear u0 uf0 u1 uf1 u2 uf2 u3 uf3 u4 uf4 ul
            clear v0 vf0 v1 vf1 v2 vf2 v3 vf3 v4 vf4 vl
            refine CB8.out.mono ?_
            rintro e w8 ⟨b2, A1, n1, c1, rfl, hs2, L1, ys, vs, H1, g1, g2, g3, g4, g5, g6, g7, g8⟩
            have HSB2 := Lib.hid hs2
            have HT8 := Lib.hid g6
            have HT8c := Lib.hid (g6.box b2 rfl)
            have CA9 := Lib.hid (hear_ay OA.out OB.out HSA.out (by omega) g1 g2 g3 g4 HT8c.out (g7.mono (fun p hp => List.mem_cons_of_mem _ hp)) (g8.mono (fun p hp => List.mem_cons_of_mem _ hp)))
            have HL1 := Lib.hid g5
            have GV := Lib.hid g2
            clear hs2 g1 g2 g3 g4 g5 g6 g7 g8 CB8 HTA
            obtain ⟨⟨u0, uf0⟩, ⟨u1, uf1⟩, ⟨u2, uf2⟩, ⟨u3, uf3⟩, ⟨u4, uf4⟩, ul⟩ := HT8.out.fiveA
            go_wp2_with fail
            clear u0 uf0 u1 uf1 u2 uf2 u3 uf3 u4 uf4 ul
            refine CA9.out.mono ?_
            rintro e w9 ⟨a2, A2, n2, c2, rfl, hs3, L2, ws, H2, g1, g2, g3, g4, g5, g6, g7, g8⟩
            have HSA2 := Lib.hid hs3
            have HT9 := Lib.hid g5
            have HMC : Hid ((w8.heap.size, sko b2) ∈ H2) := Lib.hid (g8 _ (by simp))
            have hl8 : w8.heap.size < w9.heap.size := g5.sd.lt (p := (w8.heap.size, sko b2)) (by simp [HMC.out])
            have hc8a : ¬ (w8.heap.size = w2.heap.size) := by have := g5.hz _ HMC.out; have := g5.za; simp only at *; omega
            have hc8b : ¬ (w8.heap.size = w3.heap.size) := by have := g5.hz _ HMC.out; have := g5.zb; simp only at *; omega
            have hc8a' : ¬ (w2.heap.size = w8.heap.size) := fun e => hc8a e.symm
            have hc8b' : ¬ (w3.heap.size = w8.heap.size) := fun e => hc8b e.symm
            have HMD : Hid (Mdl W0 nb w2.heap.size w3.heap.size (w3.heap.size + 1) tA tB tNA tNB (10 + 4 * k + 2) a2 b2 (hms ma ym) (hms mb xm) A2 n2 c2 A1 n1 c1 ((((((((((((w9).setCell ⟨w3.heap.size, 0, none⟩ (.int .i64 b2.st)).setCell ⟨w3.heap.size, 1, none⟩ (.int .i64 b2.own)).setCell ⟨w3.heap.size, 2, none⟩ (.int .i64 b2.oth)).setCell ⟨w3.heap.size, 3, none⟩ (.int .u64 (b2.non : Int))).setCell ⟨w3.heap.size, 4, none⟩ (.int .u64 (b2.ech : Int))).setCell ⟨w2.heap.size, 0, none⟩ (.int .i64 a2.st)).setCell ⟨w2.heap.size, 1, none⟩ (.int .i64 a2.own)).setCell ⟨w2.heap.size, 2, none⟩ (.int .i64 a2.oth)).setCell ⟨w2.heap.size, 3, none⟩ (.int .u64 (a2.non : Int))).setCell ⟨w2.heap.size, 4, none⟩ (.int .u64 (a2.ech : Int))).alloc (.cells #[.int .i64 a2.st, .int .i64 a2.own, .int .i64 a2.oth, .int .u64 (a2.non : Int), .int .u64 (a2.ech : Int)] 29))) := Lib.hid ⟨L2, ws, vs, H2, g1, GV.out, g2, g3, by have := HL1.out; omega, ((g5.putB b2).putA a2).below ((Below.refl _ _).alloc (Nat.le_refl _) _), g6, g7⟩
            clear hs3 g1 g2 g3 g4 g5 g6 g7 g8 CA9 HT8 HT8c
            obtain ⟨⟨u0, uf0⟩, ⟨u1, uf1⟩, ⟨u2, uf2⟩, ⟨u3, uf3⟩, ⟨u4, uf4⟩, ul⟩ := HT9.out.fiveA
            obtain ⟨⟨v0, vf0⟩, ⟨v1, vf1⟩, ⟨v2, vf2⟩, ⟨v3, vf3⟩, ⟨v4, vf4⟩, vl⟩ := HT9.out.fiveB
            obtain ⟨⟨x0, xf0⟩, ⟨x1, xf1⟩, ⟨x2, xf2⟩, ⟨x3, xf3⟩, ⟨x4, xf4⟩, xl⟩ := HT9.out.five HMC.out
            go_upto_region 24 with (fail)
            obtain ⟨W10, hW10⟩ : ∃ W10, (((((((((((w9).setCell ⟨w3.heap.size, 0, none⟩ (.int .i64 b2.st)).setCell ⟨w3.heap.size, 1, none⟩ (.int .i64 b2.own)).setCell ⟨w3.heap.size, 2, none⟩ (.int .i64 b2.oth)).setCell ⟨w3.heap.size, 3, none⟩ (.int .u64 (b2.non : Int))).setCell ⟨w3.heap.size, 4, none⟩ (.int .u64 (b2.ech : Int))).setCell ⟨w2.heap.size, 0, none⟩ (.int .i64 a2.st)).setCell ⟨w2.heap.size, 1, none⟩ (.int .i64 a2.own)).setCell ⟨w2.heap.size, 2, none⟩ (.int .i64 a2.oth)).setCell ⟨w2.heap.size, 3, none⟩ (.int .u64 (a2.non : Int))).setCell ⟨w2.heap.size, 4, none⟩ (.int .u64 (a2.ech : Int))).alloc (.cells #[.int .i64 a2.st, .int .i64 a2.own, .int .i64 a2.oth, .int .u64 (a2.non : Int), .int .u64 (a2.ech : Int)] 29) = W10 := ⟨_, rfl⟩
            rw [hW10] at HMD ⊢
            clear hW10
            clear u0 uf0 u1 uf1 u2 uf2 u3 uf3 u4 uf4 ul
            clear v0 vf0 v1 vf1 v2 vf2 v3 vf3 v4 vf4 vl
            clear x0 xf0 x1 xf1 x2 xf2 x3 xf3 x4 xf4 xl HT9 HMC
            obtain ⟨Lz, Hz, htz⟩ := HMD.out.tw
            have HTZ := Lib.hid htz
            clear htz
            obtain ⟨⟨u0, uf0⟩, ⟨u1, uf1⟩, ⟨u2, uf2⟩, ⟨u3, uf3⟩, ⟨u4, uf4⟩, ul⟩ := HTZ.out.fiveA
            obtain ⟨⟨v0, vf0⟩, ⟨v1, vf1⟩, ⟨v2, vf2⟩, ⟨v3, vf3⟩, ⟨v4, vf4⟩, vl⟩ := HTZ.out.fiveB
            go_cut [104] from 97 to 128 (fun u wx => ∃ dd : Bool, u = .bool dd ∧ W10 = wx ∧ Hid (DDn dd (hst ma ym = 3 ∧ hst mb xm = 3)))
            case first =>
              have e1 := HSA2.out.eq
              have e2 := HSB2.out.eq
              by_cases d1 : a2.st = 3
              · have t1 : (a2.st == 3) = true := by simp [d1]
                by_cases d2 : b2.st = 3
                · have t2 : (b2.st == 3) = true := by simp [d2]
                  have HD : Hid (DDn true (hst ma ym = 3 ∧ hst mb xm = 3)) := Lib.hid (by unfold DDn; simp; omega)
                  clear e1 e2 d1 d2
                  go_wp2
                  go_meet
                  exact ⟨_, rfl, rfl, HD⟩
                · have t2 : (b2.st == 3) = false := by simp [d2]
                  have HD : Hid (DDn false (hst ma ym = 3 ∧ hst mb xm = 3)) := Lib.hid (by unfold DDn; simp; omega)
                  clear e1 e2 d1 d2
                  go_wp2
                  go_meet
                  exact ⟨_, rfl, rfl, HD⟩
              · have t1 : (a2.st == 3) = false := by simp [d1]
                have HD : Hid (DDn false (hst ma ym = 3 ∧ hst mb xm = 3)) := Lib.hid (by unfold DDn; simp; omega)
                clear e1 e2 d1
                go_wp2
                go_meet
                exact ⟨_, rfl, rfl, HD⟩
            case rest =>
              obtain ⟨dd, rfl, rfl, HD⟩ := hcut
              cases dd with
              | true =>
                have hd := (show _ ↔ _ from HD.out).1 rfl
                have te1 : ((a2.ech : Int) == (tNB : Int)) = true := by rw [HSA2.out.ech (by omega)]; simp
                have te2 : ((b2.ech : Int) == (tNA : Int)) = true := by rw [HSB2.out.ech (by omega)]; simp
                have HLW := Lib.hid (HV0.out.trans (HTZ.out.sd.low.mono HV0.out.size))
                obtain ⟨p0, p1, p2, p3, pl⟩ := HTC.out _ HTZ.out.sd.low
                clear hd
                go_wp2
                go_ret
                exact ⟨rfl, HLW.out⟩
              | false =>
                have HND : Hid (¬ (hst ma ym = 3 ∧ hst mb xm = 3)) := Lib.hid (fun h => by have := (show _ ↔ _ from HD.out).2 h; cases this)
                have HWN := Lib.hid (stp_go HST.out HND.out)
                clear HD HND HST HM
                go_upto_if 119 with (fail)
                go_cut [12] from 97 to 128 (fun u wx => ∃ (Ax : Option Addr) (nx cx : Nat), u = .slice Ax nx cx ∧ Hid (Mdl W0 nb w2.heap.size w3.heap.size (w3.heap.size + 1) tA tB tNA tNB (10 + 4 * k + 2 + 1) a2 b2 (or0 (hms ma ym) (ags (hst ma ym))) (hms mb xm) Ax nx cx A1 n1 c1 wx))
                case first =>
                  by_cases hn2 : n2 = 0
                  · have CAG := Lib.hid (HMD.out.a_again OA.out OB.out.n2 (by omega) HSA2.out hn2)
                    subst hn2
                    go_wp2_with fail
                    refine CAG.out.mono ?_
                    rintro e w11 ⟨A3, n3, c3, rfl, hq⟩
                    have HQ3 := Lib.hid hq
                    clear hq
                    go_wp2
                    go_meet
                    exact ⟨_, _, _, rfl, HQ3⟩
                  · have tn : ((n2 : Int) == 0) = false := by rw [beq_eq_false_iff_ne]; omega
                    have HQ3 := Lib.hid (HMD.out.a_keep (sa := hst ma ym) OA.out OB.out.n2 (by omega) hn2)
                    go_wp2
                    go_meet
                    exact ⟨_, _, _, rfl, HQ3⟩
                case rest =>
                  clear HMD
                  clear u0 uf0 u1 uf1 u2 uf2 u3 uf3 u4 uf4 ul
                  clear v0 vf0 v1 vf1 v2 vf2 v3 vf3 v4 vf4 vl
                  obtain ⟨Ax, nx, cx, rfl, HMD⟩ := hcut
                  obtain ⟨Ly, Hy, hty⟩ := HMD.out.tw
                  have HTY := Lib.hid hty
                  clear hty HTZ
                  obtain ⟨⟨v0, vf0⟩, ⟨v1, vf1⟩, ⟨v2, vf2⟩, ⟨v3, vf3⟩, ⟨v4, vf4⟩, vl⟩ := HTY.out.fiveB
                  have HFN : Hid (∀ (Ay : Option Addr) (ny cy : Nat) (wx : World), Mdl W0 nb w2.heap.size w3.heap.size (w3.heap.size + 1) tA tB tNA tNB (10 + 4 * k + 2 + 1 + 1) a2 b2 (or0 (hms ma ym) (ags (hst ma ym))) (or0 (hms mb xm) (ags (hst mb xm))) Ax nx cx Ay ny cy wx → MeetS W0 nb w2.heap.size w3.heap.size (w3.heap.size + 1) tA tB tNA tNB (10 + 4 * (k + 1)) (win (10 - (k + 1)) (40 - (k + 1))) Ax nx cx Ay ny cy wx) := Lib.hid (fun Ay ny cy wx h => by
                    have e1 : 10 - (k + 1) = 10 - k - 1 := by omega
                    have e2 : 40 - (k + 1) = tt := by have := HTT.out; omega
                    have e3 : 10 + 4 * (k + 1) = 10 + 4 * k + 2 + 1 + 1 := by omega
                    rw [e1, e2, e3]
                    exact ⟨a2, b2, _, _, _, _, HSA2.out, HSB2.out, HWN.out, h⟩)
                  by_cases hn1 : n1 = 0
                  · have CAG := Lib.hid (HMD.out.b_again OB.out OA.out.n2 (by omega) HSB2.out hn1)
                    subst hn1
                    go_wp2_with fail
                    refine CAG.out.mono ?_
                    rintro e w11 ⟨A3, n3, c3, rfl, hq⟩
                    have HQ3 := Lib.hid (HFN.out _ _ _ _ hq)
                    clear hq
                    go_wp2
                    go_roundw
                    case rel => exact ⟨k + 1, _, _, _, _, _, _, by omega, by go_num, rfl, rfl, HQ3⟩
                    case measure => simp [intOf]; omega
                  · have tn : ((n1 : Int) == 0) = false := by rw [beq_eq_false_iff_ne]; omega
                    have HQ3 := Lib.hid (HFN.out _ _ _ _ (HMD.out.b_keep (sb := hst mb xm) OB.out OA.out.n2 (by omega) hn1))
                    go_wp2
                    go_roundw
                    case rel => exact ⟨k + 1, _, _, _, _, _, _, by omega, by go_num, rfl, rfl, HQ3⟩
                    case measure => simp [intOf]; omega
      · obtain rfl : k = 40 := by omega
        exact absurd HR.out MeetS.no


/-! ### the row, under what it lists -/
set_option maxRecDepth 100000 in
theorem lifted (os : Os) (started : os.Started) (H : Type) (enc : TypeId × Value → H) :
    ReturnsInHanded {} Tryd.checked os 4 .any (fun w args => (Rows.shakeMeetsSpec.pre enc Tryd.prog Tryd.f4 [] false w args ∧ laidMetH Tryd.prog Rows.shakeMeetsRow.laid w) ∧ sizedMet enc Tryd.prog Tryd.f4 (OpenSpec.ofChange Rows.shakeMeetsSpec) false w args)
      (Rows.shakeMeetsSpec.post enc Tryd.prog Tryd.f4 false true false false) := by
  refine returnsInHanded_of_change_and (C := Tryd.checked) (X := fun w _ => laidMetH Tryd.prog Rows.shakeMeetsRow.laid w) (fun _ _ _ hh h => h.of_heap hh) own started (by kernel_rfl) Tryd.func4
    (ChangeSpec.witness_shaped (enc := enc) (C := Tryd.checked) (os := os) (X := fun w _ => laidMetH Tryd.prog Rows.shakeMeetsRow.laid w) false (World.laidAll Tryd.prog os Rows.shakeMeetsRow.laid) #[.agg #[.int .i64 0, .int .i64 0, .int .u64 0, .int .u64 0], .bool false, .slice none 0 0] 8 (World.laidAll_os _ _ _)
      (World.shaped_of_ZipB (by kernel_rfl) (by kernel_rfl)) (by kernel_rfl) (by kernel_rfl) (by kernel_rfl)
      (by rw [MakeChecks.laidMetH_plain _ _ _ (by kernel_rfl)]; exact laidMet_laidAll _ (by kernel_rfl) (by kernel_rfl))) ?_
  intro W base args ds gs before hval0 hW _ _ hL _
  have hval : ∀ (j : Nat) t v, Tryd.f4.params[j]? = some t → args[j]? = some v → Value.okWide Tryd.prog W .any base t v := hval0
  have hW' := hW
  obtain ⟨p, q, hA0, hV, rfl, hfz, hnd⟩ := hW
  have hA : DataW.TrodAll enc Tryd.prog W 0 (fun _ => true) true Tryd.f4.params.toList args.toList ds p := hA0
  rw [Tryd.params4] at hA hval
  obtain ⟨v0, vs0, d0, ds0, p0, q0, hargs, rfl, rfl, h0, r0⟩ := trodAll_cons hA
  obtain ⟨v1, vs1, d1, ds1, p1, q1, rfl, rfl, rfl, h1, r1⟩ := trodAll_cons r0
  obtain ⟨v2, vs2, d2, ds2, p2, q2, rfl, rfl, rfl, h2, r2⟩ := trodAll_cons r1
  obtain ⟨rfl, rfl, rfl⟩ := trodAll_nil r2
  obtain rfl : args = #[v0, v1, v2] := by cases args; simp_all
  obtain ⟨rfl, rfl⟩ := trodVars_none hV
  rw [MakeChecks.laidMetH_plain _ _ _ (by kernel_rfl)] at hL
  have k0 := h0
  have lt0 : ∀ x ∈ p0, x.block < W.heap.size := by obtain ⟨m, hm⟩ := k0; exact DataW.trod_lt m _ _ _ hm
  obtain ⟨s0, w0⟩ := open_two (hval 0 24 v0 rfl rfl) h0
  have k1 := h1
  have lt1 : ∀ x ∈ p1, x.block < W.heap.size := by obtain ⟨m, hm⟩ := k1; exact DataW.trod_lt m _ _ _ hm
  obtain ⟨s1, w1⟩ := open_flag (hval 1 4 v1 rfl rfl) h1
  have k2 := h2
  have lt2 : ∀ x ∈ p2, x.block < W.heap.size := by obtain ⟨m, hm⟩ := k2; exact DataW.trod_lt m _ _ _ hm
  obtain ⟨s2, w2⟩ := open_bits (hval 2 65 v2 rfl rfl) h2
  clear hA0 hval0
  refine (walk v0 s0 v1 s1 v2 s2 W w0 w1 w2 hL).mono fun e W' ⟨he, bel⟩ => ?_
  subst he
  exact ⟨_, rfl, _, _, _, [], _, [], hW', trodAll_mk1 (shut_bool Tryd.underlying4 _), (trodAll_cons_mk (Below.trod laidOut (by kernel_rfl) (of_decide_eq_true (by kernel_rfl)) k0 bel lt0) (trodAll_cons_mk (Below.trod laidOut (by kernel_rfl) (of_decide_eq_true (by kernel_rfl)) k1 bel lt1) (trodAll_cons_mk (Below.trod laidOut (by kernel_rfl) (of_decide_eq_true (by kernel_rfl)) k2 bel lt2) trodAll_mk0))), rfl, bel.frame _, fun h => by cases h⟩

theorem over : Rows.ShakeMeetsSaid :=
  OpenClaim.holds_of_wide 4 Tryd.f4 rfl rfl rfl rfl rfl rfl rfl ⟨rfl, rfl, rfl, rfl, rfl⟩ rfl rfl rfl rfl rfl (by kernel_rfl) Tryd.func4 (by kernel_rfl)
    (of_decide_eq_true (by kernel_rfl)) (by unfold Func.isWrapper; first | (rw [if_pos (by decide +kernel)]; kernel_rfl) | (rw [if_neg (by decide +kernel)]; exact ⟨rfl, rfl⟩))
    (fun os started H enc _ => lifted os started H enc)

/-- ████ THE STATEMENT ████ -/
theorem proved : Rows.ShakeMeetsCardSaid :=
  Claim7.holds_tied_plain_at .later [] [.data] true (true, "c99dd33ff23ae40eba11b9db5a9bc5dd074ff793e965781493bbe41fb132a972") false
    over (fun _ h => by cases h) (by kernel_rfl) (fun _ h => by cases h) shakeMeets_row_tie rfl ⟨rfl, rfl⟩ (by kernel_rfl) rfl
    (fun f fn hf hfn => by
      obtain rfl : f = 4 := Option.some.inj ((show Tryd.prog.funcNamed "embrasure/embrasurelaw15.ShakeMeets" = some 4 by kernel_rfl).symm.trans hf) |>.symm
      obtain rfl : fn = Tryd.f4 := (Option.some.inj (Tryd.func4.symm.trans hfn)).symm
      exact ⟨by kernel_rfl, fun j t ht => by
        rw [Tryd.params4] at ht
        have hm : t ∈ [24, 4, 65] := by simpa using Array.mem_of_getElem? ht
        have hall : ([24, 4, 65].all fun u => !Tryd.prog.wantsStandIn u) = true := by kernel_rfl
        exact (show Tryd.prog.wantsStandIn t = false by simpa using List.all_eq_true.1 hall t hm)⟩)
    (by kernel_rfl)
#print axioms proved
end Go.Proofs.YtdiilgedicfekaaDoor.shakeMeets
