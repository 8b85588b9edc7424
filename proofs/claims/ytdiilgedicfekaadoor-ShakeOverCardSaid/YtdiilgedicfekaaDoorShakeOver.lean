/-
  One that is closed hears nothing more, sends nothing, and stays as it is; one that is fresh sends nothing again. Conditions: none but what the card says.
-/

import Derived.Deep.RegionWith
import Derived.Test.YtdiilgedicfekaaDoorNSov
import Derived.Test.YtdiilgedicfekaaDoorMh15
import Derived.Test.YtdiilgedicfekaaDoorRows
import Derived.Test.YtdiilgedicfekaaDoorCards
import Derived.Test.YtdiilgedicfekaaDoorTie
import Derived.WalkKit
import Derived.ProofKit
import Derived.OpenShut
import Derived.ShutString
import Derived.ChangeOld
import Derived.Below
import Derived.Lay
import Derived.LaidMore
import Derived.LaidOnce
import Derived.SevenTiedAt
namespace Go.Proofs.YtdiilgedicfekaaDoor.shakeOver
open Go.ChangeShapes Go.WideShapes Go.ChangeAt Go.RowKit
open Go.ChangeMaps (open_string shut_string)
set_option linter.unusedVariables false

theorem own : ownKnob Tryd.prog.godebug = none := by kernel_rfl
theorem laidOut : laidOutB Tryd.prog = true := by kernel_rfl

set_option maxRecDepth 100000 in
set_option maxHeartbeats 80000000 in
theorem walk (v0 : Value) (s0 : Tq) (v1 : Value) (s1 : List Dq) (w : World) (w0 : IsTwo w v0 s0) (w1 : IsDos w v1 s1) (hL : laidMet Tryd.prog Rows.shakeOverRow.laid w) :
    Calls Tryd.prog 6 #[v0, v1] w fun e w' => e = .returned (.bool true) ∧ Below w.heap.size w w' := by
  obtain ⟨rfl, i0, i1, i2, i3⟩ := w0
  obtain ⟨tA, tB, tNA, tNB⟩ := s0
  have HTW := Lib.hid (tb_laid hL)
  clear hL
  simp only at i0 i1 i2 i3 ⊢
  have HD := Lib.hid w1
  obtain ⟨AD, cD, rfl, hd1, hd2, hd3⟩ := w1
  have HD3 := Lib.hid hd3
  obtain ⟨sa, ca, CA, ha⟩ := new_two tA tB tNA
  obtain ⟨sb, cb, CB, hb⟩ := new_two tB tA tNB
  have CA := Lib.hid CA; have CB := Lib.hid CB; have HA := Lib.hid ha; have HB := Lib.hid hb
  clear ha hb hd3
  obtain ⟨W0, hW0⟩ : ∃ W0, w.alloc (.cells #[.int .i64 tA, .int .i64 tB, .int .u64 (tNA : Int), .int .u64 (tNB : Int)] 24) = W0 := ⟨_, rfl⟩
  have HW0 := Lib.hid hW0
  have HV0 : Hid (Below w.heap.size w W0) := Lib.hid (by rw [← hW0]; exact (Below.refl _ _).alloc (Nat.le_refl _) _)
  have HK0 : Hid (W0.heap[w.heap.size]? = some (.cells #[.int .i64 tA, .int .i64 tB, .int .u64 (tNA : Int), .int .u64 (tNB : Int)] 24 (0, 0))) := Lib.hid (by rw [← hW0]; exact alloc_at _ _ _)
  have hz0 : w.heap.size < W0.heap.size := by rw [← hW0]; simp
  have HT : Hid (Tb W0) := Lib.hid (HTW.out.below HV0.out)
  have HTC : Hid (∀ V, Below W0.heap.size W0 V → (V.cell? ⟨w.heap.size, 0, none⟩ = some (.int .i64 tA) ∧ V.cell? ⟨w.heap.size, 1, none⟩ = some (.int .i64 tB) ∧ V.cell? ⟨w.heap.size, 2, none⟩ = some (.int .u64 (tNA : Int)) ∧ V.cell? ⟨w.heap.size, 3, none⟩ = some (.int .u64 (tNB : Int)) ∧ w.heap.size < V.heap.size)) := Lib.hid (fun V hV => by
    obtain ⟨⟨p0, _⟩, ⟨p1, _⟩, ⟨p2, _⟩, ⟨p3, _⟩, pl⟩ := four ((hV.block _ hz0).trans HK0.out)
    exact ⟨p0, p1, p2, p3, pl⟩)
  clear hW0
  go_enter Tryd.func6, Tryd.ntmps6
  go_wp2_with fail
  rw [HW0.out]
  refine (sawake_any _ HT.out).mono ?_
  rintro e w1 ⟨rfl, hb1⟩
  have HU1 := Lib.hid hb1
  have HV1 := Lib.hid (HV0.out.trans (hb1.mono HV0.out.size))
  clear hb1
  go_wp2_with fail
  cases hsm : smallL s1 with
  | false =>
    refine (small_any _ s1 _ (HD.out.below HV1.out) false hsm).mono ?_
    rintro e w9 ⟨rfl, rfl⟩
    go_wp2
    go_ret
    exact ⟨rfl, HV1.out⟩
  | true =>
    refine (small_any _ s1 _ (HD.out.below HV1.out) true hsm).mono ?_
    rintro e w9 ⟨rfl, rfl⟩
    have HSM := Lib.hid hsm
    obtain ⟨nD, hnD⟩ : ∃ n, s1.length = n := ⟨_, rfl⟩
    have HND := Lib.hid hnD
    rw [hnD] at hd1 ⊢
    clear hsm hnD
    obtain ⟨p0, p1, p2, p3, pl⟩ := HTC.out _ HU1.out
    go_wp2_with fail
    clear p0 p1 p2 p3 pl
    refine (CA.out _).mono ?_
    rintro e w2 ⟨rfl, hb2⟩
    have HU2 := Lib.hid (HU1.out.trans (hb2.mono HU1.out.size))
    have HV2 := Lib.hid (HV1.out.trans (hb2.mono HV1.out.size))
    have HU3 : Hid (Below W0.heap.size W0 (w2.alloc (.cells #[.int .i64 sa.st, .int .i64 sa.own, .int .i64 sa.oth, .int .u64 (sa.non : Int), .int .u64 (sa.ech : Int)] 29))) := Lib.hid (HU2.out.alloc HU2.out.size _)
    have HV3 : Hid (Below w.heap.size w (w2.alloc (.cells #[.int .i64 sa.st, .int .i64 sa.own, .int .i64 sa.oth, .int .u64 (sa.non : Int), .int .u64 (sa.ech : Int)] 29))) := Lib.hid (HV2.out.alloc HV2.out.size _)
    have HKA : Hid ((w2.alloc (.cells #[.int .i64 sa.st, .int .i64 sa.own, .int .i64 sa.oth, .int .u64 (sa.non : Int), .int .u64 (sa.ech : Int)] 29)).heap[w2.heap.size]? = some (sko sa)) := Lib.hid (alloc_at _ _ _)
    have hwa : W0.heap.size ≤ w2.heap.size := HU2.out.size
    clear hb2
    rcases HA.out with ⟨rfl, ha, oa⟩ | ⟨rfl, hx, hy⟩
    case inr =>
      clear hx hy
      go_wp2
      go_ret
      exact ⟨rfl, HV3.out⟩
    have hs0 : sa.st = 0 := by rw [ha]; rfl
    have HST := Lib.hid hs0
    clear ha hs0
    go_wp2_with fail
    refine (new_s _ (HT.out.below HU3.out)).mono ?_
    rintro e w3 ⟨nb, rfl, h3⟩
    have HS3 : Hid (Sd W0 nb [] none [(w2.heap.size, sko sa)] w3) := Lib.hid (h3.rebase HU3.out HT.out _ (fun p hp => by simp only [List.mem_cons, List.not_mem_nil, or_false] at hp; subst hp; exact HKA.out))
    clear h3
    obtain ⟨⟨u0, uf0⟩, ⟨u1, uf1⟩, ⟨u2, uf2⟩, ⟨u3, uf3⟩, ⟨u4, uf4⟩, ul⟩ := five (HS3.out.held (w2.heap.size, sko sa) (by simp))
    go_wp2_with fail
    clear u0 uf0 u1 uf1 u2 uf2 u3 uf3 u4 uf4 ul
    refine (none_again HS3.out sa oa (.inr HST.out) (by simp)).mono ?_
    rintro e w4 ⟨A4, k4, rfl, h4⟩
    have HS4 := Lib.hid h4
    clear h4
    obtain ⟨⟨u0, uf0⟩, ⟨u1, uf1⟩, ⟨u2, uf2⟩, ⟨u3, uf3⟩, ⟨u4, uf4⟩, ul⟩ := five (HS4.out.held (w2.heap.size, sko sa) (by simp))
    go_wp2_with fail
    clear u0 uf0 u1 uf1 u2 uf2 u3 uf3 u4 uf4 ul
    refine (call_any HS4.out sa (.inl oa) (by simp)).mono ?_
    rintro e w5 ⟨o5, A5, k5, ho5, rfl, -, -, -, -, ho5z, h5, hl5, -, ho1, ho2, ho3, ho4⟩
    obtain ⟨sc, hsc⟩ : ∃ s, o5.s = s := ⟨_, rfl⟩
    obtain ⟨L5, hL5⟩ : ∃ l, o5.l = l := ⟨_, rfl⟩
    obtain ⟨n5, hn5⟩ : ∃ n, o5.z.length = n := ⟨_, rfl⟩
    rw [hsc] at ho1 ho2 ho3 ho4
    rw [hL5] at h5 hl5
    rw [hsc, hn5]
    have HSC : Hid (Sk.Ok { sc with st := 4 }) := Lib.hid ⟨by simp, by simp, by simp only; rw [ho1]; exact oa.o1, by simp only; rw [ho1]; exact oa.o2, by simp only; rw [ho2]; exact oa.t1, by simp only; rw [ho2]; exact oa.t2, by simp only; rw [ho1, ho2]; exact oa.ne, by simp only; rw [ho3]; exact oa.n1, by simp only; rw [ho3]; exact oa.n2, by simp only; rw [ho4]; exact oa.e2⟩
    have HS5 := Lib.hid (h5.sub (os' := [(w2.heap.size, sko sa)]) (fun p hp => List.mem_append_right _ hp))
    have HS6 : Hid (Sd W0 nb L5 none [(w2.heap.size, sko sc)] ((((((w5).setCell ⟨w2.heap.size, 0, none⟩ (.int .i64 sc.st)).setCell ⟨w2.heap.size, 1, none⟩ (.int .i64 sc.own)).setCell ⟨w2.heap.size, 2, none⟩ (.int .i64 sc.oth)).setCell ⟨w2.heap.size, 3, none⟩ (.int .u64 (sc.non : Int))).setCell ⟨w2.heap.size, 4, none⟩ (.int .u64 (sc.ech : Int)))) := Lib.hid (HS5.out.put5 w2.heap.size sa sc (by simp) hwa [] (by simp))
    clear hsc hL5 hn5 ho1 ho2 ho3 ho4 ho5z h5
    simp only [List.length_nil] at hl5
    obtain ⟨⟨u0, uf0⟩, ⟨u1, uf1⟩, ⟨u2, uf2⟩, ⟨u3, uf3⟩, ⟨u4, uf4⟩, ul⟩ := five (HS5.out.held (w2.heap.size, sko sa) (by simp))
    go_wp2_with fail
    obtain ⟨W6, hW6⟩ : ∃ W6, (((((w5).setCell ⟨w2.heap.size, 0, none⟩ (.int .i64 sc.st)).setCell ⟨w2.heap.size, 1, none⟩ (.int .i64 sc.own)).setCell ⟨w2.heap.size, 2, none⟩ (.int .i64 sc.oth)).setCell ⟨w2.heap.size, 3, none⟩ (.int .u64 (sc.non : Int))).setCell ⟨w2.heap.size, 4, none⟩ (.int .u64 (sc.ech : Int)) = W6 := ⟨_, rfl⟩
    rw [hW6] at HS6 ⊢
    clear hW6
    clear u0 uf0 u1 uf1 u2 uf2 u3 uf3 u4 uf4 ul
    refine (sclose_any sc _).mono ?_
    rintro e w7 ⟨rfl, hb7⟩
    obtain ⟨c, hc⟩ : ∃ c : Sk, { sc with st := 4 } = c := ⟨_, rfl⟩
    have h4 : c.st = 4 := by rw [← hc]
    rw [hc] at HSC ⊢
    have H4 := Lib.hid h4
    clear hc h4
    have HS7 := Lib.hid ((HS6.out.below hb7).box #[.int .i64 c.st, .int .i64 c.own, .int .i64 c.oth, .int .u64 (c.non : Int), .int .u64 (c.ech : Int)] 29 (k := w7.heap.size) rfl)
    have hz7 : w2.heap.size < w7.heap.size := (HS6.out.below hb7).lt (p := (w2.heap.size, sko sc)) (by simp)
    have HU7 : Hid (Below W0.heap.size W0 (w7.alloc (.cells #[.int .i64 c.st, .int .i64 c.own, .int .i64 c.oth, .int .u64 (c.non : Int), .int .u64 (c.ech : Int)] 29))) := Lib.hid HS7.out.low
    clear hb7
    obtain ⟨p0, p1, p2, p3, pl⟩ := HTC.out _ HU7.out
    go_wp2_with fail
    clear p0 p1 p2 p3 pl
    refine (CB.out _).mono ?_
    rintro e w8 ⟨rfl, hb8⟩
    have HS8 := Lib.hid (((HS7.out.below hb8).sub (os' := [(w7.heap.size, sko c)]) (fun p hp => by simp only [List.mem_cons, List.not_mem_nil, or_false] at hp; subst hp; simp)).box #[.int .i64 sb.st, .int .i64 sb.own, .int .i64 sb.oth, .int .u64 (sb.non : Int), .int .u64 (sb.ech : Int)] 29 (k := w8.heap.size) rfl)
    have hob : sb.Ok ∨ (sb.st = 0 ∧ sb.may = false) := by
      rcases HB.out with ⟨_, _, ob⟩ | ⟨_, h, _⟩
      · exact .inl ob
      · right; rw [h]; exact ⟨rfl, noS_may⟩
    have HOB := Lib.hid hob
    clear hb8 hob
    obtain ⟨⟨u0, uf0⟩, ⟨u1, uf1⟩, ⟨u2, uf2⟩, ⟨u3, uf3⟩, ⟨u4, uf4⟩, ul⟩ := five (HS8.out.held (w8.heap.size, sko sb) (by simp))
    go_wp2_with fail
    clear u0 uf0 u1 uf1 u2 uf2 u3 uf3 u4 uf4 ul
    refine (call_any HS8.out sb HOB.out (by omega)).mono ?_
    rintro e w9 ⟨o9, A9, k9, ho9, rfl, x1, x2, x3, x4, x5, x6, x7, x8, -, -, -, -⟩
    obtain ⟨L9, hL9⟩ : ∃ l, o9.l = l := ⟨_, rfl⟩
    obtain ⟨z9, hz9⟩ : ∃ z, o9.z = z := ⟨_, rfl⟩
    obtain ⟨s9, hs9⟩ : ∃ s, o9.s = s := ⟨_, rfl⟩
    rw [hL9] at x6 x7
    rw [hz9] at x1 x3 x4 x8
    rw [hz9, hs9]
    have HX3 := Lib.hid x3; have HX4 := Lib.hid x4
    have HS9 := Lib.hid ((x6.sub (os' := (w7.heap.size, sko c) :: ho9) (fun p hp => by simp only [List.mem_cons, List.mem_append] at hp ⊢; rcases hp with h | h <;> simp [h])).box #[.int .i64 s9.st, .int .i64 s9.own, .int .i64 s9.oth, .int .u64 (s9.non : Int), .int .u64 (s9.ech : Int)] 29 (k := w9.heap.size) rfl)
    obtain ⟨n9, hn9⟩ : ∃ n, z9.length = n := ⟨_, rfl⟩
    rw [hn9] at x1 x8 HX3 HX4 ⊢
    have HN9 := Lib.hid hn9
    clear hL9 hz9 hs9 x3 x4 x5 x6 hn9
    have hL9 : L9.length ≤ 3 := by omega
    obtain ⟨⟨u0, uf0⟩, ⟨u1, uf1⟩, ⟨u2, uf2⟩, ⟨u3, uf3⟩, ⟨u4, uf4⟩, ul⟩ := five (HS9.out.held (w7.heap.size, sko c) (by simp))
    go_wp2_with fail
    clear u0 uf0 u1 uf1 u2 uf2 u3 uf3 u4 uf4 ul
    refine (over_hear HS9.out c HSC.out H4.out (by omega) A9 n9 k9 z9 (HX4.out _ (fun p hp => HS9.out.held p (by simp [hp]))) x1 x2 HX3.out (by have := HN9.out; omega)).mono ?_
    rintro e w10 ⟨A10, k10, rfl, h10⟩
    have HS10 := Lib.hid ((h10.sub (os' := [(w7.heap.size, sko c)]) (fun p hp => by simp only [List.mem_cons, List.not_mem_nil, or_false] at hp; subst hp; simp)).box #[.int .i64 c.st, .int .i64 c.own, .int .i64 c.oth, .int .u64 (c.non : Int), .int .u64 (c.ech : Int)] 29 (k := w10.heap.size) rfl)
    clear h10
    obtain ⟨⟨u0, uf0⟩, ⟨u1, uf1⟩, ⟨u2, uf2⟩, ⟨u3, uf3⟩, ⟨u4, uf4⟩, ul⟩ := five (HS10.out.held (w7.heap.size, sko c) (by simp))
    go_wp2_with fail
    clear u0 uf0 u1 uf1 u2 uf2 u3 uf3 u4 uf4 ul
    refine (over_call HS10.out c HSC.out H4.out (by omega)).mono ?_
    rintro e w11 ⟨A11, k11, rfl, h11⟩
    have HS11 := Lib.hid (h11.box #[.int .i64 c.st, .int .i64 c.own, .int .i64 c.oth, .int .u64 (c.non : Int), .int .u64 (c.ech : Int)] 29 (k := w11.heap.size) rfl)
    clear h11
    go_wp2
    obtain ⟨W11, hW11⟩ : ∃ W11, w11.alloc (.cells #[.int .i64 c.st, .int .i64 c.own, .int .i64 c.oth, .int .u64 (c.non : Int), .int .u64 (c.ech : Int)] 29) = W11 := ⟨_, rfl⟩
    rw [hW11] at HS11 ⊢
    clear hW11
    have HLL : Hid (∀ V, Sd W0 nb L9 none [(w11.heap.size, sko c), (w10.heap.size, sko c), (w7.heap.size, sko c)] V → Below w.heap.size w V) := Lib.hid (fun V h => HV0.out.trans (h.low.mono HV0.out.size))
    go_loopw [17] (fun i wr => ∃ k : Nat, k ≤ nD ∧ k ≤ 60 ∧ i = .int .i64 k ∧ Hid (Sd W0 nb L9 none [(w11.heap.size, sko c), (w10.heap.size, sko c), (w7.heap.size, sko c)] wr)) (fun i _ => nD - (intOf i).toNat)
    case atStart => exact ⟨0, by omega, by omega, rfl, HS11⟩
    case round =>
      obtain ⟨k, hk, hk60, rfl, HR⟩ := hrel
      by_cases hk1 : k < nD
      · by_cases hk2 : k < 60
        · obtain ⟨bD, oD, hAD, hbD, hat⟩ := HD3.out (by have := HND.out; omega)
          subst hAD
          obtain ⟨x3, x5, x6, x7, d0, d1, d2, d3, d4, d5, d6, d7, hx3, hmv, _⟩ := hat k (by have := HND.out; omega)
          obtain ⟨A3, c3, rfl, hbt3, hn3, hc3, hni3⟩ := hx3
          have hs3 := small_at HSM.out (by have := HND.out; omega) hk2
          have HBT := Lib.hid (fun (V : World) (hV : Below w.heap.size w V) => hbt3.below hV)
          have HNIL := Lib.hid hni3
          obtain ⟨n3, hn3'⟩ : ∃ n, (s1.getD k default).bytes.length = n := ⟨_, rfl⟩
          have hz3 : (s1.getD k default).bytes.length ≤ 1000000 := by
            unfold smallD at hs3
            simp only [Bool.and_eq_true, decide_eq_true_eq] at hs3
            omega
          rw [hn3'] at hn3 d3 HBT HNIL
          have HZ3 := Lib.hid hz3
          have HD3c := Lib.hid d3
          clear d0 d1 d2 d3 d4 d5 d6 d7 hmv hs3 hbt3 hni3 hat hz3 hn3'
          have hcell : wr.cell? ⟨bD, oD + k * 8 + 3, none⟩ = some (.slice A3 n3 c3) := ((HLL.out _ HR.out).cell (p := ⟨bD, oD + k * 8 + 3, none⟩) hbD).trans HD3c.out
          have hbl : bD < wr.heap.size := Nat.lt_of_lt_of_le hbD (HLL.out _ HR.out).size
          have k1 : (k : Int) < (nD : Int) := by omega
          have k2 : (k : Int) < 60 := by omega
          obtain ⟨⟨u0, uf0⟩, ⟨u1, uf1⟩, ⟨u2, uf2⟩, ⟨u3, uf3⟩, ⟨u4, uf4⟩, ul⟩ := five (HR.out.held (w7.heap.size, sko c) (by simp))
          have HOV : Hid (∀ (os : List (Nat × Obj)) (V : World), Sd W0 nb L9 none os V → Below w.heap.size w V → Calls Tryd.prog 16 #[.agg #[.int .i64 c.st, .int .i64 c.own, .int .i64 c.oth, .int .u64 (c.non : Int), .int .u64 (c.ech : Int)], .pointer (some ⟨nb, 0, none⟩), .slice A3 n3 c3] V fun e w' => ∃ A k, e = .returned (.tuple #[.agg #[.int .i64 c.st, .int .i64 c.own, .int .i64 c.oth, .int .u64 (c.non : Int), .int .u64 (c.ech : Int)], .slice A 0 k]) ∧ Sd W0 nb L9 none os w') := Lib.hid (fun os V hV hb => over_hear hV c HSC.out H4.out (by omega) A3 n3 c3 _ (HBT.out _ hb) hn3 hc3 HNIL.out HZ3.out)
          have HQ : Hid (Sd W0 nb L9 none [(wr.heap.size, Obj.cells #[.int .i64 0, .int .i64 0, .int .i64 0, .int .u64 0, .int .u64 0] 29 (0, 0)), (w11.heap.size, sko c), (w10.heap.size, sko c), (w7.heap.size, sko c)] (wr.alloc (.cells #[.int .i64 0, .int .i64 0, .int .i64 0, .int .u64 0, .int .u64 0] 29)).drew) := Lib.hid (HR.out.box _ 29 rfl).drew
          have HBV : Hid (∀ os V, Sd W0 nb L9 none os V → Below w.heap.size w V) := Lib.hid (fun os V h => HV0.out.trans (h.low.mono HV0.out.size))
          have hl7 : w7.heap.size < wr.heap.size := HR.out.lt (p := (w7.heap.size, sko c)) (by simp)
          have hl10 : w10.heap.size < wr.heap.size := HR.out.lt (p := (w10.heap.size, sko c)) (by simp)
          have hl11 : w11.heap.size < wr.heap.size := HR.out.lt (p := (w11.heap.size, sko c)) (by simp)
          go_wp2
          go_region_with (go_at_call 16; first
            | (refine (HOV.out _ _ HR.out.drew (HBV.out _ _ HR.out.drew)).mono ?_; rintro e w13 ⟨A13, k13, rfl, h13⟩; have HS13 : Hid (Sd W0 nb L9 none [(w11.heap.size, sko c), (w10.heap.size, sko c), (w7.heap.size, sko c)] (w13.alloc (.cells #[.int .i64 c.st, .int .i64 c.own, .int .i64 c.oth, .int .u64 (c.non : Int), .int .u64 (c.ech : Int)] 29))) := Lib.hid (h13.alloc _); obtain ⟨⟨y0, yf0⟩, ⟨y1, yf1⟩, ⟨y2, yf2⟩, ⟨y3, yf3⟩, ⟨y4, yf4⟩, yl⟩ := five (h13.held (w7.heap.size, sko c) (by simp)); clear h13)
            | (refine (HOV.out _ _ HQ.out (HBV.out _ _ HQ.out)).mono ?_; rintro e w13 ⟨A13, k13, rfl, h13⟩; obtain ⟨⟨y0, yf0⟩, ⟨y1, yf1⟩, ⟨y2, yf2⟩, ⟨y3, yf3⟩, ⟨y4, yf4⟩, yl⟩ := five (h13.held (w7.heap.size, sko c) (by simp)); obtain ⟨⟨q0, qf0⟩, ⟨q1, qf1⟩, ⟨q2, qf2⟩, ⟨q3, qf3⟩, ⟨q4, qf4⟩, ql⟩ := five (h13.held (wr.heap.size, Obj.cells #[.int .i64 0, .int .i64 0, .int .i64 0, .int .u64 0, .int .u64 0] 29 (0, 0)) (by simp)); have HS13 : Hid (Sd W0 nb L9 none [(w11.heap.size, sko c), (w10.heap.size, sko c), (w7.heap.size, sko c)] ((((((w13).setCell ⟨wr.heap.size, 0, none⟩ (.int .i64 c.st)).setCell ⟨wr.heap.size, 1, none⟩ (.int .i64 c.own)).setCell ⟨wr.heap.size, 2, none⟩ (.int .i64 c.oth)).setCell ⟨wr.heap.size, 3, none⟩ (.int .u64 (c.non : Int))).setCell ⟨wr.heap.size, 4, none⟩ (.int .u64 (c.ech : Int)))) := Lib.hid (h13.drop (wr.heap.size, Obj.cells #[.int .i64 0, .int .i64 0, .int .i64 0, .int .u64 0, .int .u64 0] 29 (0, 0)) (by simp) (HR.out.low.size) (keeps5 _ _ _ _ _ _ _) _ (fun p hp => by simp only [List.mem_cons, List.not_mem_nil, or_false] at hp; rcases hp with rfl | rfl | rfl <;> (refine ⟨by simp, ?_⟩; simp only; omega))); clear h13))
          all_goals
            have nq := neq_sk c.st c.own c.oth (c.non : Int) (c.ech : Int)
            have hne : ¬ (w7.heap.size = wr.heap.size) := by omega
            have hne2 : ¬ (wr.heap.size = w7.heap.size) := by omega
            go_wp2
            go_roundw
            case rel => exact ⟨k + 1, by omega, by omega, by go_num, HS13⟩
            case measure => simp [intOf]; omega
        · obtain rfl : k = 60 := by omega
          have k1 : ¬ ((60 : Nat) : Int) < 60 := by omega
          obtain ⟨⟨u0, uf0⟩, ⟨u1, uf1⟩, ⟨u2, uf2⟩, ⟨u3, uf3⟩, ⟨u4, uf4⟩, ul⟩ := five (HR.out.held (w7.heap.size, sko c) (by simp))
          obtain ⟨⟨x0, xf0⟩, ⟨x1, xf1⟩, ⟨x2, xf2⟩, ⟨x3, xf3⟩, ⟨x4, xf4⟩, xl⟩ := five (HR.out.held (w10.heap.size, sko c) (by simp))
          obtain ⟨⟨y0, yf0⟩, ⟨y1, yf1⟩, ⟨y2, yf2⟩, ⟨y3, yf3⟩, ⟨y4, yf4⟩, yl⟩ := five (HR.out.held (w11.heap.size, sko c) (by simp))
          have e4 : (c.st == 4) = true := by rw [H4.out]; rfl
          have eq1 := eql_sk c.st c.own c.oth (c.non : Int) (c.ech : Int)
          go_wp2_with fail
          refine (none_again HR.out c HSC.out (.inl H4.out) (by omega)).mono ?_
          rintro e w15 ⟨A15, k15, rfl, h15⟩
          have HLE := Lib.hid (HLL.out _ h15)
          clear h15
          go_wp2
          go_ret
          exact ⟨rfl, HLE.out⟩
      · obtain rfl : k = nD := by omega
        obtain ⟨⟨u0, uf0⟩, ⟨u1, uf1⟩, ⟨u2, uf2⟩, ⟨u3, uf3⟩, ⟨u4, uf4⟩, ul⟩ := five (HR.out.held (w7.heap.size, sko c) (by simp))
        obtain ⟨⟨x0, xf0⟩, ⟨x1, xf1⟩, ⟨x2, xf2⟩, ⟨x3, xf3⟩, ⟨x4, xf4⟩, xl⟩ := five (HR.out.held (w10.heap.size, sko c) (by simp))
        obtain ⟨⟨y0, yf0⟩, ⟨y1, yf1⟩, ⟨y2, yf2⟩, ⟨y3, yf3⟩, ⟨y4, yf4⟩, yl⟩ := five (HR.out.held (w11.heap.size, sko c) (by simp))
        have e4 : (c.st == 4) = true := by rw [H4.out]; rfl
        have eq1 := eql_sk c.st c.own c.oth (c.non : Int) (c.ech : Int)
        go_wp2_with fail
        refine (none_again HR.out c HSC.out (.inl H4.out) (by omega)).mono ?_
        rintro e w15 ⟨A15, k15, rfl, h15⟩
        have HLE := Lib.hid (HLL.out _ h15)
        clear h15
        go_wp2
        go_ret
        exact ⟨rfl, HLE.out⟩


/-! ### the row, under what it lists -/
set_option maxRecDepth 100000 in
theorem lifted (os : Os) (started : os.Started) (H : Type) (enc : TypeId × Value → H) :
    ReturnsInHanded {} Tryd.checked os 6 .any (fun w args => (Rows.shakeOverSpec.pre enc Tryd.prog Tryd.f6 [] false w args ∧ laidMetH Tryd.prog Rows.shakeOverRow.laid w) ∧ sizedMet enc Tryd.prog Tryd.f6 (OpenSpec.ofChange Rows.shakeOverSpec) false w args)
      (Rows.shakeOverSpec.post enc Tryd.prog Tryd.f6 false true false false) := by
  refine returnsInHanded_of_change_and (C := Tryd.checked) (X := fun w _ => laidMetH Tryd.prog Rows.shakeOverRow.laid w) (fun _ _ _ hh h => h.of_heap hh) own started (by kernel_rfl) Tryd.func6
    (ChangeSpec.witness_shaped (enc := enc) (C := Tryd.checked) (os := os) (X := fun w _ => laidMetH Tryd.prog Rows.shakeOverRow.laid w) false (World.laidAll Tryd.prog os Rows.shakeOverRow.laid) #[.agg #[.int .i64 0, .int .i64 0, .int .u64 0, .int .u64 0], .slice none 0 0] 8 (World.laidAll_os _ _ _)
      (World.shaped_of_ZipB (by kernel_rfl) (by kernel_rfl)) (by kernel_rfl) (by kernel_rfl) (by kernel_rfl)
      (by rw [MakeChecks.laidMetH_plain _ _ _ (by kernel_rfl)]; exact laidMet_laidAll _ (by kernel_rfl) (by kernel_rfl))) ?_
  intro W base args ds gs before hval0 hW _ _ hL _
  have hval : ∀ (j : Nat) t v, Tryd.f6.params[j]? = some t → args[j]? = some v → Value.okWide Tryd.prog W .any base t v := hval0
  have hW' := hW
  obtain ⟨p, q, hA0, hV, rfl, hfz, hnd⟩ := hW
  have hA : DataW.TrodAll enc Tryd.prog W 0 (fun _ => true) true Tryd.f6.params.toList args.toList ds p := hA0
  rw [Tryd.params6] at hA hval
  obtain ⟨v0, vs0, d0, ds0, p0, q0, hargs, rfl, rfl, h0, r0⟩ := trodAll_cons hA
  obtain ⟨v1, vs1, d1, ds1, p1, q1, rfl, rfl, rfl, h1, r1⟩ := trodAll_cons r0
  obtain ⟨rfl, rfl, rfl⟩ := trodAll_nil r1
  obtain rfl : args = #[v0, v1] := by cases args; simp_all
  obtain ⟨rfl, rfl⟩ := trodVars_none hV
  rw [MakeChecks.laidMetH_plain _ _ _ (by kernel_rfl)] at hL
  have k0 := h0
  have lt0 : ∀ x ∈ p0, x.block < W.heap.size := by obtain ⟨m, hm⟩ := k0; exact DataW.trod_lt m _ _ _ hm
  obtain ⟨s0, w0⟩ := open_two (hval 0 24 v0 rfl rfl) h0
  have k1 := h1
  have lt1 : ∀ x ∈ p1, x.block < W.heap.size := by obtain ⟨m, hm⟩ := k1; exact DataW.trod_lt m _ _ _ hm
  obtain ⟨s1, w1⟩ := open_dos (hval 1 25 v1 rfl rfl) h1
  clear hA0 hval0
  refine (walk v0 s0 v1 s1 W w0 w1 hL).mono fun e W' ⟨he, bel⟩ => ?_
  subst he
  exact ⟨_, rfl, _, _, _, [], _, [], hW', trodAll_mk1 (shut_bool Tryd.underlying4 _), (trodAll_cons_mk (Below.trod laidOut (by kernel_rfl) (of_decide_eq_true (by kernel_rfl)) k0 bel lt0) (trodAll_cons_mk (Below.trod laidOut (by kernel_rfl) (of_decide_eq_true (by kernel_rfl)) k1 bel lt1) trodAll_mk0)), rfl, bel.frame _, fun h => by cases h⟩

theorem over : Rows.ShakeOverSaid :=
  OpenClaim.holds_of_wide 6 Tryd.f6 rfl rfl rfl rfl rfl rfl rfl ⟨rfl, rfl, rfl, rfl, rfl⟩ rfl rfl rfl rfl rfl (by kernel_rfl) Tryd.func6 (by kernel_rfl)
    (of_decide_eq_true (by kernel_rfl)) (by unfold Func.isWrapper; first | (rw [if_pos (by decide +kernel)]; kernel_rfl) | (rw [if_neg (by decide +kernel)]; exact ⟨rfl, rfl⟩))
    (fun os started H enc _ => lifted os started H enc)

/-- ████ THE STATEMENT ████ -/
theorem proved : Rows.ShakeOverCardSaid :=
  Claim7.holds_tied_plain_at .later [] [.data] true (true, "c99dd33ff23ae40eba11b9db5a9bc5dd074ff793e965781493bbe41fb132a972") false
    over (fun _ h => by cases h) (by kernel_rfl) (fun _ h => by cases h) shakeOver_row_tie rfl ⟨rfl, rfl⟩ (by kernel_rfl) rfl
    (fun f fn hf hfn => by
      obtain rfl : f = 6 := Option.some.inj ((show Tryd.prog.funcNamed "embrasure/embrasurelaw15.ShakeOver" = some 6 by kernel_rfl).symm.trans hf) |>.symm
      obtain rfl : fn = Tryd.f6 := (Option.some.inj (Tryd.func6.symm.trans hfn)).symm
      exact ⟨by kernel_rfl, fun j t ht => by
        rw [Tryd.params6] at ht
        have hm : t ∈ [24, 25] := by simpa using Array.mem_of_getElem? ht
        have hall : ([24, 25].all fun u => !Tryd.prog.wantsStandIn u) = true := by kernel_rfl
        exact (show Tryd.prog.wantsStandIn t = false by simpa using List.all_eq_true.1 hall t hm)⟩)
    (by kernel_rfl)
#print axioms proved
end Go.Proofs.YtdiilgedicfekaaDoor.shakeOver
