/-
  A hello in which one of its numbers is turned isn't right, and who hears it stays as it was and says nothing. Conditions: none but what the card says.
-/

import Derived.Test.YtdiilgedicfekaaDoorNSfg
import Derived.Test.YtdiilgedicfekaaDoorMh15
import Derived.Test.YtdiilgedicfekaaDoorRows
import Derived.Test.YtdiilgedicfekaaDoorCards
import Derived.Test.YtdiilgedicfekaaDoorTie
import Derived.WalkKit
import Derived.ProofKit
import Derived.OpenShut
import Derived.ShutString
import Derived.ChangeOld
import Derived.Below
import Derived.Lay
import Derived.LaidMore
import Derived.LaidOnce
import Derived.SevenTiedAt
namespace Go.Proofs.YtdiilgedicfekaaDoor.shakeForged
open Go.ChangeShapes Go.WideShapes Go.ChangeAt Go.RowKit
open Go.ChangeMaps (open_string shut_string)
set_option linter.unusedVariables false

theorem own : ownKnob Tryd.prog.godebug = none := by kernel_rfl
theorem laidOut : laidOutB Tryd.prog = true := by kernel_rfl

set_option maxRecDepth 100000 in
set_option maxHeartbeats 80000000 in
theorem walk (v0 : Value) (s0 : Tq) (a1 a2 : Int) (w : World) (w0 : IsTwo w v0 s0) (w1 : (Lit.int .u8 a1).wf = true) (w2 : (Lit.int .u8 a2).wf = true) (hL : laidMet Tryd.prog Rows.shakeForgedRow.laid w) :
    Calls Tryd.prog 7 #[v0, .int .u8 a1, .int .u8 a2] w fun e w' => e = .returned (.bool true) ∧ Below w.heap.size w w' := by
  have hbn := wf_u8 w1
  have hbm := wf_u8 w2
  obtain ⟨u, hu⟩ : ∃ u : Nat, a1 = (u : Int) := ⟨a1.toNat, by omega⟩
  subst hu
  obtain ⟨d, hd⟩ : ∃ d : Nat, a2 = (d : Int) := ⟨a2.toNat, by omega⟩
  subst hd
  obtain ⟨r, hr⟩ : ∃ r, u % 4 = r := ⟨_, rfl⟩
  have hr4 : r < 4 := by omega
  have m1 : (u : Int) % 4 = (r : Int) := by omega
  have m2 : (u : Int).tmod 4 = (r : Int) := by rw [Int.tmod_eq_emod_of_nonneg (by omega)]; exact m1
  have hd256 : d < 256 := by omega
  clear hr w1 w2
  obtain ⟨rfl, i0, i1, i2, i3⟩ := w0
  obtain ⟨tA, tB, tNA, tNB⟩ := s0
  have HT := Lib.hid (tb_laid hL)
  clear hL
  simp only at i0 i1 i2 i3 ⊢
  obtain ⟨sa, ca, CA, ha⟩ := new_two tA tB tNA
  obtain ⟨sb, cb, CB, hb⟩ := new_two tB tA tNB
  have CA := Lib.hid CA; have CB := Lib.hid CB; have HA := Lib.hid ha; have HB := Lib.hid hb
  clear ha hb
  have hz0 : w.heap.size < (w.alloc (.cells #[.int .i64 tA, .int .i64 tB, .int .u64 (tNA : Int), .int .u64 (tNB : Int)] 24)).heap.size := by simp
  have HV0 : Hid (Below w.heap.size w (w.alloc (.cells #[.int .i64 tA, .int .i64 tB, .int .u64 (tNA : Int), .int .u64 (tNB : Int)] 24))) := Lib.hid ((Below.refl _ _).alloc (Nat.le_refl _) _)
  have HK0 : Hid ((w.alloc (.cells #[.int .i64 tA, .int .i64 tB, .int .u64 (tNA : Int), .int .u64 (tNB : Int)] 24)).heap[w.heap.size]? = some (.cells #[.int .i64 tA, .int .i64 tB, .int .u64 (tNA : Int), .int .u64 (tNB : Int)] 24 (0, 0))) := Lib.hid (alloc_at _ _ _)
  go_enter Tryd.func7, Tryd.ntmps7
  go_wp2_with fail
  refine (sawake_any _ (HT.out.below HV0.out)).mono ?_
  rintro e w1 ⟨rfl, hb1⟩
  have HK1 := Lib.hid ((hb1.block _ hz0).trans HK0.out)
  have HV1 := Lib.hid (HV0.out.trans (hb1.mono HV0.out.size))
  have hz1 : w.heap.size < w1.heap.size := Nat.lt_of_lt_of_le hz0 hb1.size
  clear hb1 hz0
  obtain ⟨⟨p0, _⟩, ⟨p1, _⟩, ⟨p2, _⟩, ⟨p3, _⟩, pl⟩ := four HK1.out
  go_wp2_with fail
  refine (CA.out _).mono ?_
  rintro e w2 ⟨rfl, hb2⟩
  have HK2 := Lib.hid ((hb2.block _ hz1).trans HK1.out)
  have HV2 := Lib.hid (HV1.out.trans (hb2.mono HV1.out.size))
  have hz2 : w.heap.size < w2.heap.size := Nat.lt_of_lt_of_le hz1 hb2.size
  clear hb2 p0 p1 p2 p3 pl
  obtain ⟨⟨p0, _⟩, ⟨p1, _⟩, ⟨p2, _⟩, ⟨p3, _⟩, pl⟩ := four HK2.out
  have HKA2 : Hid ((w2.alloc (.cells #[.int .i64 sa.st, .int .i64 sa.own, .int .i64 sa.oth, .int .u64 (sa.non : Int), .int .u64 (sa.ech : Int)] 29)).heap[w2.heap.size]? = some (sko sa)) := Lib.hid (alloc_at _ _ _)
  go_wp2_with fail
  refine (CB.out _).mono ?_
  rintro e w3 ⟨rfl, hb3⟩
  have hz3 : w2.heap.size < w3.heap.size := by have := hb3.size; simp at this; omega
  have HKA3 : Hid (w3.heap[w2.heap.size]? = some (sko sa)) := Lib.hid ((hb3.block _ (by simp)).trans HKA2.out)
  have HV3 : Hid (Below w.heap.size w w3) := Lib.hid ((HV2.out.alloc (Nat.le_of_lt hz2) _).trans (hb3.mono (by simp; omega)))
  have HV4 : Hid (Below w.heap.size w (w3.alloc (.cells #[.int .i64 sb.st, .int .i64 sb.own, .int .i64 sb.oth, .int .u64 (sb.non : Int), .int .u64 (sb.ech : Int)] 29))) := Lib.hid (HV3.out.alloc (by omega) _)
  have HKA4 : Hid ((w3.alloc (.cells #[.int .i64 sb.st, .int .i64 sb.own, .int .i64 sb.oth, .int .u64 (sb.non : Int), .int .u64 (sb.ech : Int)] 29)).heap[w2.heap.size]? = some (sko sa)) := Lib.hid ((Below.heap_alloc _ _ _ hz3).trans HKA3.out)
  have HKB4 : Hid ((w3.alloc (.cells #[.int .i64 sb.st, .int .i64 sb.own, .int .i64 sb.oth, .int .u64 (sb.non : Int), .int .u64 (sb.ech : Int)] 29)).heap[w3.heap.size]? = some (sko sb)) := Lib.hid (alloc_at _ _ _)
  have HTB4 := Lib.hid (HT.out.below HV4.out)
  clear hb3 p0 p1 p2 p3 pl
  rcases HA.out with ⟨rfl, ha, oa⟩ | ⟨rfl, hx, hy⟩
  case inr =>
    clear hx hy
    go_wp2
    go_ret
    exact ⟨rfl, HV4.out⟩
  rcases HB.out with ⟨rfl, hb, ob⟩ | ⟨rfl, hx, hy⟩
  case inr =>
    clear hx hy
    go_wp2
    go_ret
    exact ⟨rfl, HV4.out⟩
  subst ha hb
  by_cases hd0 : d = 0
  · subst hd0
    go_wp2
    go_ret
    exact ⟨rfl, HV4.out⟩
  · have hdz : ¬ ((d : Int) = 0) := by omega
    have d2 : ((d : Int) == 0) = false := by rw [beq_eq_false_iff_ne]; exact hdz
    obtain ⟨z, f1, frd, fck, fln⟩ := fg_facts oa
    have hy63 := fg_num oa r hr4
    have hget : ((newS tA tB tNA).h3 ++ [1]).getD r 0 = (helloM (newS tA tB tNA) 1).nums.getD r 0 := rfl
    obtain ⟨y, hy⟩ : ∃ y, (helloM (newS tA tB tNA) 1).nums.getD r 0 = y := ⟨_, rfl⟩
    rw [hy] at hy63 hget
    obtain ⟨x, hx⟩ : ∃ x, (y + d) % 9223372036854775808 = x := ⟨_, rfl⟩
    have hx63 : x < 9223372036854775808 := by omega
    have hxy : x ≠ ((newS tA tB tNA).h3 ++ [1]).getD r 0 := by rw [hget]; omega
    obtain ⟨fmay, fbad⟩ := forged oa hr4 hx63 hxy
    have hyx : ((y : Int) + (d : Int)) % 9223372036854775808 = (x : Int) := by omega
    have hyx2 : ((y : Int) + (d : Int)).tmod 9223372036854775808 = (x : Int) := by rw [Int.tmod_eq_emod_of_nonneg (by omega)]; exact hyx
    have HFM : Hid (∀ (V : World) (g off k : Nat) (x2 x3 : Value) (C : Array Value), MsgV V (.slice (some ⟨g, off, none⟩) 4 k) x2 x3 (helloM (newS tA tB tNA) 1) → (∀ j, j < 4 → C[off + j]? = some (.int .u64 ((helloM (newS tA tB tNA) 1).nums.getD j 0 : Nat))) → ∀ V' : World, V'.heap[g]? = some (.cells (C.setIfInBounds (off + r) (.int .u64 (x : Int))) 22 (0, 0)) → MsgV V' (.slice (some ⟨g, off, none⟩) 4 k) x2 x3 { helloM (newS tA tB tNA) 1 with nums := (helloM (newS tA tB tNA) 1).nums.set r x }) := Lib.hid (fun V g off k x2 x3 C hv hC V' h' => fg_msg hv hC hr4 hx63 V' h')
    have fwf := fg_wf fmay
    obtain ⟨m0, hm0⟩ : ∃ m, helloM (newS tA tB tNA) 1 = m := ⟨_, rfl⟩
    have HOWN : Hid (∀ (A : Option Addr) (n c : Nat) (V : World), Bts V A n z → n ≤ c → c ≤ maxLen → (A = none → n = 0 ∧ c = 0) → Tb V → Calls Tryd.prog 28 #[.slice A n c] V fun e w' => ∃ (b off k : Nat) (x2 x3 : Value) (C : Array Value), e = .returned (.tuple #[.agg #[.int .i64 1, .slice (some ⟨b, off, none⟩) 4 k, x2, x3], .int .i64 0]) ∧ MsgV w' (.slice (some ⟨b, off, none⟩) 4 k) x2 x3 m0 ∧ Below V.heap.size V w' ∧ V.heap.size ≤ b ∧ w'.heap[b]? = some (.cells C 22 (0, 0)) ∧ ∀ j, j < 4 → C[off + j]? = some (.int .u64 (m0.nums.getD j 0 : Nat))) := Lib.hid (fun A n c V hb h1 h2 h3 hT => by rw [← hm0]; exact hello_own A n c z _ V hb h1 h2 h3 hT (by omega) frd)
    have hk0 : m0.kind = 1 := by rw [← hm0]; rfl
    rw [hm0] at frd fck HFM fmay fbad fwf hy
    obtain ⟨mf, hmf⟩ : ∃ m : Wi.Msg, { m0 with nums := m0.nums.set r x } = m := ⟨_, rfl⟩
    have hkf : mf.kind = 1 := by rw [← hmf]; exact hk0
    rw [hmf] at fmay fbad fwf HFM
    have HM0 := Lib.hid hm0
    obtain ⟨L1, hL1⟩ : ∃ L, [helloX (newS tA tB tNA)] = L := ⟨_, rfl⟩
    have hl1 : L1.length ≤ 1 := by rw [← hL1]; simp
    rw [hL1] at f1 fck fbad
    obtain ⟨n, hn⟩ : ∃ n, z.length = n := ⟨_, rfl⟩
    have HN := Lib.hid hn
    obtain ⟨sa, ea⟩ : ∃ s, newS tA tB tNA = s := ⟨_, rfl⟩
    obtain ⟨sb, eb⟩ : ∃ s, newS tB tA tNB = s := ⟨_, rfl⟩
    rw [ea] at oa f1 HKA4 ⊢
    rw [eb] at ob HKA4 HKB4 HTB4 HV4 ⊢
    obtain ⟨a1, e1⟩ : ∃ s, stA sa = s := ⟨_, rfl⟩
    rw [e1] at f1
    have HY := Lib.hid hy; have HCK := Lib.hid fck; have HMAY := Lib.hid fmay; have HBAD := Lib.hid fbad; have HWF := Lib.hid fwf
    clear ea eb e1 HA HB hm0 hmf hL1 hn frd hget hx hxy hy fck fmay fbad fwf
    go_wp2_with fail
    refine (new_s _ HTB4.out).mono ?_
    rintro e w5 ⟨nb, rfl, h5⟩
    have HT5 : Hid (Tw2 w nb [] none w2.heap.size w3.heap.size (w3.heap.size + 1) sa sb [] w5) := Lib.hid (Tw2.start h5 HV4.out HT.out HKA4.out HKB4.out (Nat.le_of_lt hz2) hz3)
    clear h5
    obtain ⟨⟨u0, uf0⟩, ⟨u1, uf1⟩, ⟨u2, uf2⟩, ⟨u3, uf3⟩, ⟨u4, uf4⟩, ul⟩ := HT5.out.fiveA
    go_wp2_with fail
    clear u0 uf0 u1 uf1 u2 uf2 u3 uf3 u4 uf4 ul
    refine (call_2 HT5.out sa oa (by simp) _ f1).mono ?_
    rintro e w6 ⟨v6, rfl, A0, c0, ho0, rfl, p0, r0, hn0, hq0, ht0⟩
    simp only at p0 hn0 hq0 ⊢
    rw [HN.out] at p0 hn0 ⊢
    have HB6 : Hid (∀ V : World, (∀ p ∈ ho0, V.heap[p.1]? = some p.2) → Bts V A0 n z) := Lib.hid (fun V hV => by have := hq0 V hV; rw [HN.out] at this; exact this)
    have HT6 := Lib.hid (ht0.box a1 rfl)
    have HN0 := Lib.hid hn0
    clear hn0 hq0 ht0 f1
    go_wp2_with fail
    have hbt := HB6.out _ (fun p hp => HT6.out.sd.held p (by simp [hp]))
    refine (HOWN.out A0 n c0 _ hbt p0 r0 HN0.out (HT.out.below HT6.out.sd.low)).mono ?_
    rintro e w7 ⟨g, off, k, x2, x3, C, rfl, hv7, hb7, hg7, hc7, hC⟩
    obtain ⟨A2, l2, c2, rfl⟩ : ∃ A l c, x2 = .slice A l c := by obtain ⟨_, ⟨A, c, e, _⟩, _⟩ := hv7; exact ⟨A, _, c, e⟩
    obtain ⟨A3, l3, c3, rfl⟩ : ∃ A l c, x3 = .slice A l c := by obtain ⟨_, _, ⟨A, c, e, _⟩, _⟩ := hv7; exact ⟨A, _, c, e⟩
    have HT7 : Hid (Tw2 w nb L1 none w2.heap.size w3.heap.size (w3.heap.size + 1) sa sb [(w7.heap.size, Obj.cells #[.int .i64 1, .slice (some ⟨g, off, none⟩) 4 k, .slice A2 l2 c2, .slice A3 l3 c3] 46 (0, 0)), (g, Obj.cells C 22 (0, 0))] (w7.alloc (.cells #[.int .i64 1, .slice (some ⟨g, off, none⟩) 4 k, .slice A2 l2 c2, .slice A3 l3 c3] 46))) := Lib.hid (((HT6.out.fresh hb7 hc7 hg7).boxo _ 46 rfl).subh (fun p hp => by
      simp only [List.mem_cons, List.not_mem_nil, or_false] at hp ⊢
      rcases hp with rfl | rfl <;> simp))
    have hgl : g < w7.heap.size := (Array.getElem?_eq_some_iff.1 hc7).1
    have HM7 : Hid (MsgV (w7.alloc (.cells #[.int .i64 1, .slice (some ⟨g, off, none⟩) 4 k, .slice A2 l2 c2, .slice A3 l3 c3] 46)) (.slice (some ⟨g, off, none⟩) 4 k) (.slice A2 l2 c2) (.slice A3 l3 c3) m0) := Lib.hid (hv7.below ((Below.refl _ _).alloc (Nat.le_refl _) _))
    have HCC := Lib.hid hC
    clear hb7 hg7 hc7 hv7 hC hbt
    obtain ⟨W7, hW7⟩ : ∃ W7, w7.alloc (.cells #[.int .i64 1, .slice (some ⟨g, off, none⟩) 4 k, .slice A2 l2 c2, .slice A3 l3 c3] 46) = W7 := ⟨_, rfl⟩
    obtain ⟨B, hB⟩ : ∃ B, w7.heap.size = B := ⟨_, rfl⟩
    rw [hW7, hB] at HT7
    rw [hW7] at HM7
    rw [hB] at hgl
    have HW7 := Lib.hid hW7; have HB' := Lib.hid hB
    clear hW7 hB
    go_wp2_with fail
    rw [HW7.out, HB'.out]
    obtain ⟨⟨x0, xf0⟩, ⟨x1, xf1⟩, ⟨x2, xf2⟩, ⟨x3, xf3⟩, xl⟩ := four (HT7.out.sd.held (B, Obj.cells #[.int .i64 1, .slice (some ⟨g, off, none⟩) 4 k, .slice A2 l2 c2, .slice A3 l3 c3] 46 (0, 0)) (by simp))
    go_wp2_with fail
    clear x0 xf0 x1 xf1 x2 xf2 x3 xf3 xl
    have hck := scheck_any HT7.out.sd (by omega) m0 _ _ _ HM7.out
    rw [hk0, HCK.out] at hck
    refine hck.mono ?_
    rintro e w8 ⟨rfl, hb8⟩
    have HT8 := Lib.hid (HT7.out.below hb8)
    have HM8 := Lib.hid (HM7.out.below hb8)
    clear hb8 hck HCK
    have r4 : (r : Int) < 4 := by omega
    obtain ⟨⟨x0, xf0⟩, ⟨x1, xf1⟩, ⟨x2, xf2⟩, ⟨x3, xf3⟩, xl⟩ := four (HT8.out.sd.held (B, Obj.cells #[.int .i64 1, .slice (some ⟨g, off, none⟩) 4 k, .slice A2 l2 c2, .slice A3 l3 c3] 46 (0, 0)) (by simp))
    go_wp2
    clear x0 xf0 x1 xf1 x2 xf2 x3 xf3 xl
    have HT8D := Lib.hid HT8.out.drew
    have hcr : w8.drew.cell? ⟨g, off + r, none⟩ = some (.int .u64 (y : Int)) := by
      rw [(cells_of (HT8D.out.sd.held (g, Obj.cells C 22 (0, 0)) (by simp)) (off + r)).1, HCC.out r hr4, HY.out]
    have hcf : w8.drew.frozen? ⟨g, off + r, none⟩ = false := (cells_of (HT8D.out.sd.held (g, Obj.cells C 22 (0, 0)) (by simp)) (off + r)).2
    have hgl8 : g < w8.drew.heap.size := HT8D.out.sd.lt (p := (g, Obj.cells C 22 (0, 0))) (by simp)
    obtain ⟨⟨x0, xf0⟩, ⟨x1, xf1⟩, ⟨x2, xf2⟩, ⟨x3, xf3⟩, xl⟩ := four (HT8D.out.sd.held (B, Obj.cells #[.int .i64 1, .slice (some ⟨g, off, none⟩) 4 k, .slice A2 l2 c2, .slice A3 l3 c3] 46 (0, 0)) (by simp))
    go_region
    clear x0 xf0 x1 xf1 x2 xf2 x3 xf3 xl
    have HT9 : Hid (Tw2 w nb L1 none w2.heap.size w3.heap.size (w3.heap.size + 1) sa sb  [(g, Obj.cells (C.setIfInBounds (off + r) (.int .u64 (x : Int))) 22 (0, 0)), (B, Obj.cells #[.int .i64 1, .slice (some ⟨g, off, none⟩) 4 k, .slice A2 l2 c2, .slice A3 l3 c3] 46 (0, 0))] (w8.setCell ⟨g, off + r, none⟩ (.int .u64 (x : Int))).drew) := Lib.hid (((HT8.out.subh (hs' := [(g, Obj.cells C 22 (0, 0)), (B, Obj.cells #[.int .i64 1, .slice (some ⟨g, off, none⟩) 4 k, .slice A2 l2 c2, .slice A3 l3 c3] 46 (0, 0))]) (fun p hp => by
      simp only [List.mem_cons, List.not_mem_nil, or_false] at hp ⊢
      rcases hp with rfl | rfl <;> simp)).seth (fun p hp => by
        simp only [List.mem_cons, List.not_mem_nil, or_false] at hp
        subst hp
        simp only
        omega)).drew)
    have HMF : Hid (∀ V' : World, V'.heap[g]? = some (.cells (C.setIfInBounds (off + r) (.int .u64 (x : Int))) 22 (0, 0)) → MsgV V' (.slice (some ⟨g, off, none⟩) 4 k) (.slice A2 l2 c2) (.slice A3 l3 c3) mf) := Lib.hid (fun V' h' => HFM.out w8 g off k _ _ C HM8.out HCC.out V' h')
    obtain ⟨W9, hW9⟩ : ∃ W9, (w8.setCell ⟨g, off + r, none⟩ (.int .u64 (x : Int))).drew = W9 := ⟨_, rfl⟩
    rw [hW9] at HT9 ⊢
    clear hW9 hcr hcf hgl8 HT8D HFM HM8
    obtain ⟨nz, hnz⟩ : ∃ n, (Wi.bytes mf).length = n := ⟨_, rfl⟩
    have HBY : Hid (∀ hs V, Tw2 w nb L1 none w2.heap.size w3.heap.size (w3.heap.size + 1) sa sb  hs V → (g, Obj.cells (C.setIfInBounds (off + r) (.int .u64 (x : Int))) 22 (0, 0)) ∈ hs → Calls Tryd.prog 21 #[.agg #[.int .i64 1, .slice (some ⟨g, off, none⟩) 4 k, .slice A2 l2 c2, .slice A3 l3 c3]] V fun e W' => ∃ gq c, e = .returned (.slice (some ⟨gq, 0, none⟩) nz c) ∧ nz ≤ c ∧ c ≤ maxLen ∧ Bts W' (some ⟨gq, 0, none⟩) nz (Wi.bytes mf) ∧ Tw2 w nb L1 none w2.heap.size w3.heap.size (w3.heap.size + 1) sa sb  hs W') := Lib.hid (fun hs V h hm => by
      rw [← hnz]
      exact fg_bytes h (HMF.out _ (h.sd.held (g, Obj.cells (C.setIfInBounds (off + r) (.int .u64 (x : Int))) 22 (0, 0)) (by simp [hm]))) hkf HMAY.out)
    have HHE : Hid (∀ hs V, Tw2 w nb L1 none w2.heap.size w3.heap.size (w3.heap.size + 1) sa sb  hs V → ∀ gq c, Bts V (some ⟨gq, 0, none⟩) nz (Wi.bytes mf) → nz ≤ c → c ≤ maxLen → Calls Tryd.prog 16 #[.agg #[.int .i64 sb.st, .int .i64 sb.own, .int .i64 sb.oth, .int .u64 (sb.non : Int), .int .u64 (sb.ech : Int)], .pointer (some ⟨nb, 0, none⟩), .slice (some ⟨gq, 0, none⟩) nz c] V fun e W' => ∃ A2 c2, e = .returned (.tuple #[.agg #[.int .i64 sb.st, .int .i64 sb.own, .int .i64 sb.oth, .int .u64 (sb.non : Int), .int .u64 (sb.ech : Int)], .slice A2 0 c2]) ∧ Tw2 w nb L1 none w2.heap.size w3.heap.size (w3.heap.size + 1) sa sb  hs W') := Lib.hid (fun hs V h gq c hb h1 h2 => fg_hear h ob (by omega) gq nz c hb h1 h2 HMAY.out HWF.out HBAD.out)
    have HCF : Hid (∀ hs V, Tw2 w nb L1 none w2.heap.size w3.heap.size (w3.heap.size + 1) sa sb  hs V → (g, Obj.cells (C.setIfInBounds (off + r) (.int .u64 (x : Int))) 22 (0, 0)) ∈ hs → Calls Tryd.prog 22 #[.pointer (some ⟨nb, 0, none⟩), .agg #[.int .i64 1, .slice (some ⟨g, off, none⟩) 4 k, .slice A2 l2 c2, .slice A3 l3 c3]] V fun e W' => e = .returned (.bool false) ∧ Below V.heap.size V W') := Lib.hid (fun hs V h hm => by
      have := scheck_any h.sd (by omega) mf _ _ _ (HMF.out _ (h.sd.held (g, Obj.cells (C.setIfInBounds (off + r) (.int .u64 (x : Int))) 22 (0, 0)) (by simp [hm])))
      rw [hkf, HBAD.out] at this
      exact this)
    clear hnz
    have HC := HT9
    clear HT9
    go_wp2
    refine wp_region_held_drew (S := fun W => Tw2 w nb L1 none w2.heap.size w3.heap.size (w3.heap.size + 1) sa sb  [(g, Obj.cells (C.setIfInBounds (off + r) (.int .u64 (x : Int))) 22 (0, 0)), (B, Obj.cells #[.int .i64 1, .slice (some ⟨g, off, none⟩) 4 k, .slice A2 l2 c2, .slice A3 l3 c3] 46 (0, 0))] W) (by kernel_rfl) HC.out.drew (fun hHeld => ?_)
    have HC := Lib.hid HC.out.drew
    refine wpAnyH_take (i := 0) (oi := _) (v := ?_) rfl (by kernel_rfl) (by kernel_rfl) (by kernel_rfl) (fun _ _ _ h => h) (Or.inl ⟨by rfl, ?_⟩) (by assumption) ?_
    case refine_2 => intro w hSw; obtain ⟨⟨y0, _⟩, ⟨y1, _⟩, ⟨y2, _⟩, ⟨y3, _⟩, ⟨y4, _⟩, yl⟩ := hSw.fiveB; obtain ⟨⟨z0, _⟩, ⟨z1, _⟩, ⟨z2, _⟩, ⟨z3, _⟩, zl⟩ := four (hSw.sd.held (B, Obj.cells #[.int .i64 1, .slice (some ⟨g, off, none⟩) 4 k, .slice A2 l2 c2, .slice A3 l3 c3] 46 (0, 0)) (by simp)); clear hSw; go_simp; first | done | (with_reducible rfl)
    try simp only [Act.put, List.getElem_toArray, List.getElem_cons_zero, List.setIfInBounds_toArray, List.set_cons_zero, List.set_cons_succ]
    refine wpAnyH_take (i := 1) (oi := _) (v := ?_) rfl (by kernel_rfl) (by kernel_rfl) (by kernel_rfl) (fun _ _ _ h => h) (Or.inl ⟨by rfl, ?_⟩) (by assumption) ?_
    case refine_2 => intro w hSw; obtain ⟨⟨y0, _⟩, ⟨y1, _⟩, ⟨y2, _⟩, ⟨y3, _⟩, ⟨y4, _⟩, yl⟩ := hSw.fiveB; obtain ⟨⟨z0, _⟩, ⟨z1, _⟩, ⟨z2, _⟩, ⟨z3, _⟩, zl⟩ := four (hSw.sd.held (B, Obj.cells #[.int .i64 1, .slice (some ⟨g, off, none⟩) 4 k, .slice A2 l2 c2, .slice A3 l3 c3] 46 (0, 0)) (by simp)); clear hSw; go_simp; first | done | (with_reducible rfl)
    try simp only [Act.put, List.getElem_toArray, List.getElem_cons_zero, List.getElem_cons_succ, List.setIfInBounds_toArray, List.set_cons_zero, List.set_cons_succ]
    refine wpAnyH_take (i := 2) (oi := _) (v := ?_) rfl (by kernel_rfl) (by kernel_rfl) (by kernel_rfl) (fun _ _ _ h => h) (Or.inl ⟨by rfl, ?_⟩) (by assumption) ?_
    case refine_2 => intro w hSw; obtain ⟨⟨y0, _⟩, ⟨y1, _⟩, ⟨y2, _⟩, ⟨y3, _⟩, ⟨y4, _⟩, yl⟩ := hSw.fiveB; obtain ⟨⟨z0, _⟩, ⟨z1, _⟩, ⟨z2, _⟩, ⟨z3, _⟩, zl⟩ := four (hSw.sd.held (B, Obj.cells #[.int .i64 1, .slice (some ⟨g, off, none⟩) 4 k, .slice A2 l2 c2, .slice A3 l3 c3] 46 (0, 0)) (by simp)); clear hSw; go_simp; first | done | (with_reducible rfl)
    try simp only [Act.put, List.getElem_toArray, List.getElem_cons_zero, List.getElem_cons_succ, List.setIfInBounds_toArray, List.set_cons_zero, List.set_cons_succ]
    refine wpAnyH_ready (rs := [3, 8]) (by kernel_rfl) (by simp) ?_
    refine (AllReadyH.cons rfl (fun K hK => ?_) (AllReadyH.cons rfl (fun K hK => ?_) AllReadyH.nil))
    · go_simp
      go_at_call 21
      refine (HBY.out _ _ HC.out (by simp)).mono ?_
      rintro e W10 ⟨gq, cq, rfl, q1, q2, q3, ht⟩
      have HQ := Lib.hid q3
      have HC := Lib.hid ht
      clear q3 ht
      refine hK.out _ _ (HC.out.subh (fun p hp => by simp only [List.mem_cons, List.not_mem_nil, or_false] at hp ⊢; rcases hp with rfl | rfl <;> simp)) (fun hHeld => ?_)
      clear hK K
      try simp only [Act.put, List.getElem_toArray, List.getElem_cons_zero, List.getElem_cons_succ, List.setIfInBounds_toArray, List.set_cons_zero, List.set_cons_succ]
      refine wpAnyH_ready (rs := [4, 8]) (by kernel_rfl) (by simp) ?_
      refine (AllReadyH.cons rfl (fun K hK => ?_) (AllReadyH.cons rfl (fun K hK => ?_) AllReadyH.nil))
      · go_simp
        go_at_call 16
        refine (HHE.out _ _ HC.out gq cq HQ.out q1 q2).mono ?_
        rintro e W11 ⟨A4, c4, rfl, ht⟩
        have HC := Lib.hid ht
        clear ht q1 q2 HQ
        refine hK.out _ _ (HC.out.subh (fun p hp => by simp only [List.mem_cons, List.not_mem_nil, or_false] at hp ⊢; rcases hp with rfl | rfl <;> simp)) (fun hHeld => ?_)
        clear hK K
        try simp only [Act.put, List.getElem_toArray, List.getElem_cons_zero, List.getElem_cons_succ, List.setIfInBounds_toArray, List.set_cons_zero, List.set_cons_succ]
        refine wpAnyH_take (i := 5) (oi := _) (v := ?_) rfl (by kernel_rfl) (by kernel_rfl) (by kernel_rfl) (fun _ _ _ h => h) (Or.inl ⟨by rfl, ?_⟩) (by assumption) ?_
        case refine_2 => intro w hSw; obtain ⟨⟨y0, _⟩, ⟨y1, _⟩, ⟨y2, _⟩, ⟨y3, _⟩, ⟨y4, _⟩, yl⟩ := hSw.fiveB; obtain ⟨⟨z0, _⟩, ⟨z1, _⟩, ⟨z2, _⟩, ⟨z3, _⟩, zl⟩ := four (hSw.sd.held (B, Obj.cells #[.int .i64 1, .slice (some ⟨g, off, none⟩) 4 k, .slice A2 l2 c2, .slice A3 l3 c3] 46 (0, 0)) (by simp)); clear hSw; go_simp; first | done | (with_reducible rfl)
        try simp only [Act.put, List.getElem_toArray, List.getElem_cons_zero, List.getElem_cons_succ, List.setIfInBounds_toArray, List.set_cons_zero, List.set_cons_succ]
        refine wpAnyH_take (i := 6) (oi := _) (v := ?_) rfl (by kernel_rfl) (by kernel_rfl) (by kernel_rfl) (fun _ _ _ h => h) (Or.inl ⟨by rfl, ?_⟩) (by assumption) ?_
        case refine_2 => intro w hSw; obtain ⟨⟨y0, _⟩, ⟨y1, _⟩, ⟨y2, _⟩, ⟨y3, _⟩, ⟨y4, _⟩, yl⟩ := hSw.fiveB; obtain ⟨⟨z0, _⟩, ⟨z1, _⟩, ⟨z2, _⟩, ⟨z3, _⟩, zl⟩ := four (hSw.sd.held (B, Obj.cells #[.int .i64 1, .slice (some ⟨g, off, none⟩) 4 k, .slice A2 l2 c2, .slice A3 l3 c3] 46 (0, 0)) (by simp)); clear hSw; go_simp; first | done | (with_reducible rfl)
        try simp only [Act.put, List.getElem_toArray, List.getElem_cons_zero, List.getElem_cons_succ, List.setIfInBounds_toArray, List.set_cons_zero, List.set_cons_succ]
        refine wpAnyH_take (i := 7) (oi := _) (v := ?_) rfl (by kernel_rfl) (by kernel_rfl) (by kernel_rfl) (fun _ _ _ h => h) (Or.inl ⟨by rfl, ?_⟩) (by assumption) ?_
        case refine_2 => intro w hSw; obtain ⟨⟨y0, _⟩, ⟨y1, _⟩, ⟨y2, _⟩, ⟨y3, _⟩, ⟨y4, _⟩, yl⟩ := hSw.fiveB; obtain ⟨⟨z0, _⟩, ⟨z1, _⟩, ⟨z2, _⟩, ⟨z3, _⟩, zl⟩ := four (hSw.sd.held (B, Obj.cells #[.int .i64 1, .slice (some ⟨g, off, none⟩) 4 k, .slice A2 l2 c2, .slice A3 l3 c3] 46 (0, 0)) (by simp)); clear hSw; go_simp; first | done | (with_reducible rfl)
        try simp only [Act.put, List.getElem_toArray, List.getElem_cons_zero, List.getElem_cons_succ, List.setIfInBounds_toArray, List.set_cons_zero, List.set_cons_succ]
        refine wpAnyH_ready (rs := [8]) (by kernel_rfl) (by simp) ?_
        refine (AllReadyH.cons rfl (fun K hK => ?_) AllReadyH.nil)
        go_simp
        have HN : Hid (∀ p ∈ [(g, Obj.cells (C.setIfInBounds (off + r) (.int .u64 (x : Int))) 22 (0, 0)), (B, Obj.cells #[.int .i64 1, .slice (some ⟨g, off, none⟩) 4 k, .slice A2 l2 c2, .slice A3 l3 c3] 46 (0, 0))], p.1 ≠ W11.heap.size) := Lib.hid (fun p hp e => by have hlt : p.1 < W11.heap.size := HC.out.sd.lt (p := p) (by simp only [List.mem_cons, List.not_mem_nil, or_false] at hp ⊢; rcases hp with rfl | rfl <;> simp); omega)
        have HPRE := HC
        have HC := Lib.hid (HC.out.boxo (k := W11.heap.size) #[.int .i64 0, .int .i64 0, .int .i64 0, .int .u64 0, .int .u64 0] 29 rfl)
        refine hK.out _ _ (HC.out.subh (fun p hp => by simp only [List.mem_cons, List.not_mem_nil, or_false] at hp ⊢; rcases hp with rfl | rfl <;> simp)) (fun hHeld => ?_)
        clear hK K
        try simp only [Act.put, List.getElem_toArray, List.getElem_cons_zero, List.getElem_cons_succ, List.setIfInBounds_toArray, List.set_cons_zero, List.set_cons_succ]
        refine wpAnyH_ready (rs := [9]) (by kernel_rfl) (by simp) ?_
        refine (AllReadyH.cons rfl (fun K hK => ?_) AllReadyH.nil)
        obtain ⟨⟨y0, yf0⟩, ⟨y1, yf1⟩, ⟨y2, yf2⟩, ⟨y3, yf3⟩, ⟨y4, yf4⟩, yl⟩ := five (HC.out.sd.held (W11.heap.size, Obj.cells #[.int .i64 0, .int .i64 0, .int .i64 0, .int .u64 0, .int .u64 0] 29 (0, 0)) (by simp))
        go_simp
        clear y0 yf0 y1 yf1 y2 yf2 y3 yf3 y4 yf4 yl
        have HC := Lib.hid (HPRE.out.box (k := W11.heap.size) sb rfl)
        refine hK.out _ _ (HC.out.subh (fun p hp => by simp only [List.mem_cons, List.not_mem_nil, or_false] at hp ⊢; rcases hp with rfl | rfl <;> simp)) (fun hHeld => ?_)
        clear hK K
        try simp only [Act.put, List.getElem_toArray, List.getElem_cons_zero, List.getElem_cons_succ, List.setIfInBounds_toArray, List.set_cons_zero, List.set_cons_succ]
        refine wpAnyH_take (i := 10) (oi := _) (v := ?_) rfl (by kernel_rfl) (by kernel_rfl) (by kernel_rfl) (fun _ _ _ h => h) (Or.inl ⟨by rfl, ?_⟩) (by assumption) ?_
        case refine_2 => intro w hSw; obtain ⟨⟨y0, _⟩, ⟨y1, _⟩, ⟨y2, _⟩, ⟨y3, _⟩, ⟨y4, _⟩, yl⟩ := hSw.fiveB; obtain ⟨⟨z0, _⟩, ⟨z1, _⟩, ⟨z2, _⟩, ⟨z3, _⟩, zl⟩ := four (hSw.sd.held (B, Obj.cells #[.int .i64 1, .slice (some ⟨g, off, none⟩) 4 k, .slice A2 l2 c2, .slice A3 l3 c3] 46 (0, 0)) (by simp)); clear hSw; go_simp; first | done | (with_reducible rfl)
        try simp only [Act.put, List.getElem_toArray, List.getElem_cons_zero, List.getElem_cons_succ, List.setIfInBounds_toArray, List.set_cons_zero, List.set_cons_succ]
        refine wpAnyH_done (by kernel_rfl) ?_ _
        have HQ17 := Lib.hid (HC.out.sd.held (W11.heap.size, sko sb) (by simp))
        clear hHeld
        obtain ⟨⟨z0, zf0⟩, ⟨z1, zf1⟩, ⟨z2, zf2⟩, ⟨z3, zf3⟩, zl⟩ := four (HC.out.sd.held (B, Obj.cells #[.int .i64 1, .slice (some ⟨g, off, none⟩) 4 k, .slice A2 l2 c2, .slice A3 l3 c3] 46 (0, 0)) (by simp))
        go_wp2_with fail
        clear z0 zf0 z1 zf1 z2 zf2 z3 zf3 zl
        refine (HCF.out _ _ HC.out (by simp)).mono ?_
        rintro e w12 ⟨rfl, hb12⟩
        have HC := Lib.hid (HC.out.below hb12)
        clear hb12
        obtain ⟨⟨y0, yf0⟩, ⟨y1, yf1⟩, ⟨y2, yf2⟩, ⟨y3, yf3⟩, ⟨y4, yf4⟩, yl⟩ := five (HC.out.sd.held (W11.heap.size, sko sb) (by simp))
        obtain ⟨⟨z0, zf0⟩, ⟨z1, zf1⟩, ⟨z2, zf2⟩, ⟨z3, zf3⟩, ⟨z4, zf4⟩, zl⟩ := HC.out.fiveB
        have eq1 := eql_sk sb.st sb.own sb.oth (sb.non : Int) (sb.ech : Int)
        have HLOW := Lib.hid HC.out.sd.low
        go_wp2
        go_ret
        exact ⟨rfl, HLOW.out⟩
      · go_simp
        have HN : Hid (∀ p ∈ [(g, Obj.cells (C.setIfInBounds (off + r) (.int .u64 (x : Int))) 22 (0, 0)), (B, Obj.cells #[.int .i64 1, .slice (some ⟨g, off, none⟩) 4 k, .slice A2 l2 c2, .slice A3 l3 c3] 46 (0, 0))], p.1 ≠ W10.heap.size) := Lib.hid (fun p hp e => by have hlt : p.1 < W10.heap.size := HC.out.sd.lt (p := p) (by simp only [List.mem_cons, List.not_mem_nil, or_false] at hp ⊢; rcases hp with rfl | rfl <;> simp); omega)
        have HC := Lib.hid (HC.out.boxo (k := W10.heap.size) #[.int .i64 0, .int .i64 0, .int .i64 0, .int .u64 0, .int .u64 0] 29 rfl)
        have HQ := Lib.hid (HQ.out.below ((Below.refl _ _).alloc (Nat.le_refl _) (.cells #[.int .i64 0, .int .i64 0, .int .i64 0, .int .u64 0, .int .u64 0] 29)))
        refine hK.out _ _ (HC.out.subh (fun p hp => by simp only [List.mem_cons, List.not_mem_nil, or_false] at hp ⊢; rcases hp with rfl | rfl <;> simp)) (fun hHeld => ?_)
        clear hK K
        try simp only [Act.put, List.getElem_toArray, List.getElem_cons_zero, List.getElem_cons_succ, List.setIfInBounds_toArray, List.set_cons_zero, List.set_cons_succ]
        refine wpAnyH_ready (rs := [4]) (by kernel_rfl) (by simp) ?_
        refine (AllReadyH.cons rfl (fun K hK => ?_) AllReadyH.nil)
        go_simp
        go_at_call 16
        refine (HHE.out _ _ HC.out gq cq HQ.out q1 q2).mono ?_
        rintro e W11 ⟨A4, c4, rfl, ht⟩
        have HC := Lib.hid ht
        clear ht q1 q2 HQ
        refine hK.out _ _ (HC.out.subh (fun p hp => by simp only [List.mem_cons, List.not_mem_nil, or_false] at hp ⊢; rcases hp with rfl | rfl <;> simp)) (fun hHeld => ?_)
        clear hK K
        try simp only [Act.put, List.getElem_toArray, List.getElem_cons_zero, List.getElem_cons_succ, List.setIfInBounds_toArray, List.set_cons_zero, List.set_cons_succ]
        refine wpAnyH_take (i := 5) (oi := _) (v := ?_) rfl (by kernel_rfl) (by kernel_rfl) (by kernel_rfl) (fun _ _ _ h => h) (Or.inl ⟨by rfl, ?_⟩) (by assumption) ?_
        case refine_2 => intro w hSw; obtain ⟨⟨y0, _⟩, ⟨y1, _⟩, ⟨y2, _⟩, ⟨y3, _⟩, ⟨y4, _⟩, yl⟩ := hSw.fiveB; obtain ⟨⟨z0, _⟩, ⟨z1, _⟩, ⟨z2, _⟩, ⟨z3, _⟩, zl⟩ := four (hSw.sd.held (B, Obj.cells #[.int .i64 1, .slice (some ⟨g, off, none⟩) 4 k, .slice A2 l2 c2, .slice A3 l3 c3] 46 (0, 0)) (by simp)); clear hSw; go_simp; first | done | (with_reducible rfl)
        try simp only [Act.put, List.getElem_toArray, List.getElem_cons_zero, List.getElem_cons_succ, List.setIfInBounds_toArray, List.set_cons_zero, List.set_cons_succ]
        refine wpAnyH_take (i := 6) (oi := _) (v := ?_) rfl (by kernel_rfl) (by kernel_rfl) (by kernel_rfl) (fun _ _ _ h => h) (Or.inl ⟨by rfl, ?_⟩) (by assumption) ?_
        case refine_2 => intro w hSw; obtain ⟨⟨y0, _⟩, ⟨y1, _⟩, ⟨y2, _⟩, ⟨y3, _⟩, ⟨y4, _⟩, yl⟩ := hSw.fiveB; obtain ⟨⟨z0, _⟩, ⟨z1, _⟩, ⟨z2, _⟩, ⟨z3, _⟩, zl⟩ := four (hSw.sd.held (B, Obj.cells #[.int .i64 1, .slice (some ⟨g, off, none⟩) 4 k, .slice A2 l2 c2, .slice A3 l3 c3] 46 (0, 0)) (by simp)); clear hSw; go_simp; first | done | (with_reducible rfl)
        try simp only [Act.put, List.getElem_toArray, List.getElem_cons_zero, List.getElem_cons_succ, List.setIfInBounds_toArray, List.set_cons_zero, List.set_cons_succ]
        refine wpAnyH_take (i := 7) (oi := _) (v := ?_) rfl (by kernel_rfl) (by kernel_rfl) (by kernel_rfl) (fun _ _ _ h => h) (Or.inl ⟨by rfl, ?_⟩) (by assumption) ?_
        case refine_2 => intro w hSw; obtain ⟨⟨y0, _⟩, ⟨y1, _⟩, ⟨y2, _⟩, ⟨y3, _⟩, ⟨y4, _⟩, yl⟩ := hSw.fiveB; obtain ⟨⟨z0, _⟩, ⟨z1, _⟩, ⟨z2, _⟩, ⟨z3, _⟩, zl⟩ := four (hSw.sd.held (B, Obj.cells #[.int .i64 1, .slice (some ⟨g, off, none⟩) 4 k, .slice A2 l2 c2, .slice A3 l3 c3] 46 (0, 0)) (by simp)); clear hSw; go_simp; first | done | (with_reducible rfl)
        try simp only [Act.put, List.getElem_toArray, List.getElem_cons_zero, List.getElem_cons_succ, List.setIfInBounds_toArray, List.set_cons_zero, List.set_cons_succ]
        refine wpAnyH_ready (rs := [9]) (by kernel_rfl) (by simp) ?_
        refine (AllReadyH.cons rfl (fun K hK => ?_) AllReadyH.nil)
        obtain ⟨⟨y0, yf0⟩, ⟨y1, yf1⟩, ⟨y2, yf2⟩, ⟨y3, yf3⟩, ⟨y4, yf4⟩, yl⟩ := five (HC.out.sd.held (W10.heap.size, Obj.cells #[.int .i64 0, .int .i64 0, .int .i64 0, .int .u64 0, .int .u64 0] 29 (0, 0)) (by simp))
        go_simp
        clear y0 yf0 y1 yf1 y2 yf2 y3 yf3 y4 yf4 yl
        have HC := Lib.hid (HC.out.fill HN.out sb)
        refine hK.out _ _ (HC.out.subh (fun p hp => by simp only [List.mem_cons, List.not_mem_nil, or_false] at hp ⊢; rcases hp with rfl | rfl <;> simp)) (fun hHeld => ?_)
        clear hK K
        try simp only [Act.put, List.getElem_toArray, List.getElem_cons_zero, List.getElem_cons_succ, List.setIfInBounds_toArray, List.set_cons_zero, List.set_cons_succ]
        refine wpAnyH_take (i := 10) (oi := _) (v := ?_) rfl (by kernel_rfl) (by kernel_rfl) (by kernel_rfl) (fun _ _ _ h => h) (Or.inl ⟨by rfl, ?_⟩) (by assumption) ?_
        case refine_2 => intro w hSw; obtain ⟨⟨y0, _⟩, ⟨y1, _⟩, ⟨y2, _⟩, ⟨y3, _⟩, ⟨y4, _⟩, yl⟩ := hSw.fiveB; obtain ⟨⟨z0, _⟩, ⟨z1, _⟩, ⟨z2, _⟩, ⟨z3, _⟩, zl⟩ := four (hSw.sd.held (B, Obj.cells #[.int .i64 1, .slice (some ⟨g, off, none⟩) 4 k, .slice A2 l2 c2, .slice A3 l3 c3] 46 (0, 0)) (by simp)); clear hSw; go_simp; first | done | (with_reducible rfl)
        try simp only [Act.put, List.getElem_toArray, List.getElem_cons_zero, List.getElem_cons_succ, List.setIfInBounds_toArray, List.set_cons_zero, List.set_cons_succ]
        refine wpAnyH_done (by kernel_rfl) ?_ _
        have HQ17 := Lib.hid (HC.out.sd.held (W10.heap.size, sko sb) (by simp))
        clear hHeld
        obtain ⟨⟨z0, zf0⟩, ⟨z1, zf1⟩, ⟨z2, zf2⟩, ⟨z3, zf3⟩, zl⟩ := four (HC.out.sd.held (B, Obj.cells #[.int .i64 1, .slice (some ⟨g, off, none⟩) 4 k, .slice A2 l2 c2, .slice A3 l3 c3] 46 (0, 0)) (by simp))
        go_wp2_with fail
        clear z0 zf0 z1 zf1 z2 zf2 z3 zf3 zl
        refine (HCF.out _ _ HC.out (by simp)).mono ?_
        rintro e w12 ⟨rfl, hb12⟩
        have HC := Lib.hid (HC.out.below hb12)
        clear hb12
        obtain ⟨⟨y0, yf0⟩, ⟨y1, yf1⟩, ⟨y2, yf2⟩, ⟨y3, yf3⟩, ⟨y4, yf4⟩, yl⟩ := five (HC.out.sd.held (W10.heap.size, sko sb) (by simp))
        obtain ⟨⟨z0, zf0⟩, ⟨z1, zf1⟩, ⟨z2, zf2⟩, ⟨z3, zf3⟩, ⟨z4, zf4⟩, zl⟩ := HC.out.fiveB
        have eq1 := eql_sk sb.st sb.own sb.oth (sb.non : Int) (sb.ech : Int)
        have HLOW := Lib.hid HC.out.sd.low
        go_wp2
        go_ret
        exact ⟨rfl, HLOW.out⟩
    · go_simp
      have HN : Hid (∀ p ∈ [(g, Obj.cells (C.setIfInBounds (off + r) (.int .u64 (x : Int))) 22 (0, 0)), (B, Obj.cells #[.int .i64 1, .slice (some ⟨g, off, none⟩) 4 k, .slice A2 l2 c2, .slice A3 l3 c3] 46 (0, 0))], p.1 ≠ W9.heap.size) := Lib.hid (fun p hp e => by have hlt : p.1 < W9.heap.size := HC.out.sd.lt (p := p) (by simp only [List.mem_cons, List.not_mem_nil, or_false] at hp ⊢; rcases hp with rfl | rfl <;> simp); omega)
      have HC := Lib.hid (HC.out.boxo (k := W9.heap.size) #[.int .i64 0, .int .i64 0, .int .i64 0, .int .u64 0, .int .u64 0] 29 rfl)
      try simp only [drewN_one, World.alloc_drew] at HC
      refine hK.out _ _ (HC.out.subh (fun p hp => by simp only [List.mem_cons, List.not_mem_nil, or_false] at hp ⊢; rcases hp with rfl | rfl <;> simp)) (fun hHeld => ?_)
      clear hK K
      try simp only [Act.put, List.getElem_toArray, List.getElem_cons_zero, List.getElem_cons_succ, List.setIfInBounds_toArray, List.set_cons_zero, List.set_cons_succ]
      refine wpAnyH_ready (rs := [3]) (by kernel_rfl) (by simp) ?_
      refine (AllReadyH.cons rfl (fun K hK => ?_) AllReadyH.nil)
      go_simp
      go_at_call 21
      refine (HBY.out _ _ HC.out (by simp)).mono ?_
      rintro e W10 ⟨gq, cq, rfl, q1, q2, q3, ht⟩
      have HQ := Lib.hid q3
      have HC := Lib.hid ht
      clear q3 ht
      refine hK.out _ _ (HC.out.subh (fun p hp => by simp only [List.mem_cons, List.not_mem_nil, or_false] at hp ⊢; rcases hp with rfl | rfl <;> simp)) (fun hHeld => ?_)
      clear hK K
      try simp only [Act.put, List.getElem_toArray, List.getElem_cons_zero, List.getElem_cons_succ, List.setIfInBounds_toArray, List.set_cons_zero, List.set_cons_succ]
      refine wpAnyH_ready (rs := [4]) (by kernel_rfl) (by simp) ?_
      refine (AllReadyH.cons rfl (fun K hK => ?_) AllReadyH.nil)
      go_simp
      go_at_call 16
      refine (HHE.out _ _ HC.out gq cq HQ.out q1 q2).mono ?_
      rintro e W11 ⟨A4, c4, rfl, ht⟩
      have HC := Lib.hid ht
      clear ht q1 q2 HQ
      refine hK.out _ _ (HC.out.subh (fun p hp => by simp only [List.mem_cons, List.not_mem_nil, or_false] at hp ⊢; rcases hp with rfl | rfl <;> simp)) (fun hHeld => ?_)
      clear hK K
      try simp only [Act.put, List.getElem_toArray, List.getElem_cons_zero, List.getElem_cons_succ, List.setIfInBounds_toArray, List.set_cons_zero, List.set_cons_succ]
      refine wpAnyH_take (i := 5) (oi := _) (v := ?_) rfl (by kernel_rfl) (by kernel_rfl) (by kernel_rfl) (fun _ _ _ h => h) (Or.inl ⟨by rfl, ?_⟩) (by assumption) ?_
      case refine_2 => intro w hSw; obtain ⟨⟨y0, _⟩, ⟨y1, _⟩, ⟨y2, _⟩, ⟨y3, _⟩, ⟨y4, _⟩, yl⟩ := hSw.fiveB; obtain ⟨⟨z0, _⟩, ⟨z1, _⟩, ⟨z2, _⟩, ⟨z3, _⟩, zl⟩ := four (hSw.sd.held (B, Obj.cells #[.int .i64 1, .slice (some ⟨g, off, none⟩) 4 k, .slice A2 l2 c2, .slice A3 l3 c3] 46 (0, 0)) (by simp)); clear hSw; go_simp; first | done | (with_reducible rfl)
      try simp only [Act.put, List.getElem_toArray, List.getElem_cons_zero, List.getElem_cons_succ, List.setIfInBounds_toArray, List.set_cons_zero, List.set_cons_succ]
      refine wpAnyH_take (i := 6) (oi := _) (v := ?_) rfl (by kernel_rfl) (by kernel_rfl) (by kernel_rfl) (fun _ _ _ h => h) (Or.inl ⟨by rfl, ?_⟩) (by assumption) ?_
      case refine_2 => intro w hSw; obtain ⟨⟨y0, _⟩, ⟨y1, _⟩, ⟨y2, _⟩, ⟨y3, _⟩, ⟨y4, _⟩, yl⟩ := hSw.fiveB; obtain ⟨⟨z0, _⟩, ⟨z1, _⟩, ⟨z2, _⟩, ⟨z3, _⟩, zl⟩ := four (hSw.sd.held (B, Obj.cells #[.int .i64 1, .slice (some ⟨g, off, none⟩) 4 k, .slice A2 l2 c2, .slice A3 l3 c3] 46 (0, 0)) (by simp)); clear hSw; go_simp; first | done | (with_reducible rfl)
      try simp only [Act.put, List.getElem_toArray, List.getElem_cons_zero, List.getElem_cons_succ, List.setIfInBounds_toArray, List.set_cons_zero, List.set_cons_succ]
      refine wpAnyH_take (i := 7) (oi := _) (v := ?_) rfl (by kernel_rfl) (by kernel_rfl) (by kernel_rfl) (fun _ _ _ h => h) (Or.inl ⟨by rfl, ?_⟩) (by assumption) ?_
      case refine_2 => intro w hSw; obtain ⟨⟨y0, _⟩, ⟨y1, _⟩, ⟨y2, _⟩, ⟨y3, _⟩, ⟨y4, _⟩, yl⟩ := hSw.fiveB; obtain ⟨⟨z0, _⟩, ⟨z1, _⟩, ⟨z2, _⟩, ⟨z3, _⟩, zl⟩ := four (hSw.sd.held (B, Obj.cells #[.int .i64 1, .slice (some ⟨g, off, none⟩) 4 k, .slice A2 l2 c2, .slice A3 l3 c3] 46 (0, 0)) (by simp)); clear hSw; go_simp; first | done | (with_reducible rfl)
      try simp only [Act.put, List.getElem_toArray, List.getElem_cons_zero, List.getElem_cons_succ, List.setIfInBounds_toArray, List.set_cons_zero, List.set_cons_succ]
      refine wpAnyH_ready (rs := [9]) (by kernel_rfl) (by simp) ?_
      refine (AllReadyH.cons rfl (fun K hK => ?_) AllReadyH.nil)
      obtain ⟨⟨y0, yf0⟩, ⟨y1, yf1⟩, ⟨y2, yf2⟩, ⟨y3, yf3⟩, ⟨y4, yf4⟩, yl⟩ := five (HC.out.sd.held (W9.heap.size, Obj.cells #[.int .i64 0, .int .i64 0, .int .i64 0, .int .u64 0, .int .u64 0] 29 (0, 0)) (by simp))
      go_simp
      clear y0 yf0 y1 yf1 y2 yf2 y3 yf3 y4 yf4 yl
      have HC := Lib.hid (HC.out.fill HN.out sb)
      refine hK.out _ _ (HC.out.subh (fun p hp => by simp only [List.mem_cons, List.not_mem_nil, or_false] at hp ⊢; rcases hp with rfl | rfl <;> simp)) (fun hHeld => ?_)
      clear hK K
      try simp only [Act.put, List.getElem_toArray, List.getElem_cons_zero, List.getElem_cons_succ, List.setIfInBounds_toArray, List.set_cons_zero, List.set_cons_succ]
      refine wpAnyH_take (i := 10) (oi := _) (v := ?_) rfl (by kernel_rfl) (by kernel_rfl) (by kernel_rfl) (fun _ _ _ h => h) (Or.inl ⟨by rfl, ?_⟩) (by assumption) ?_
      case refine_2 => intro w hSw; obtain ⟨⟨y0, _⟩, ⟨y1, _⟩, ⟨y2, _⟩, ⟨y3, _⟩, ⟨y4, _⟩, yl⟩ := hSw.fiveB; obtain ⟨⟨z0, _⟩, ⟨z1, _⟩, ⟨z2, _⟩, ⟨z3, _⟩, zl⟩ := four (hSw.sd.held (B, Obj.cells #[.int .i64 1, .slice (some ⟨g, off, none⟩) 4 k, .slice A2 l2 c2, .slice A3 l3 c3] 46 (0, 0)) (by simp)); clear hSw; go_simp; first | done | (with_reducible rfl)
      try simp only [Act.put, List.getElem_toArray, List.getElem_cons_zero, List.getElem_cons_succ, List.setIfInBounds_toArray, List.set_cons_zero, List.set_cons_succ]
      refine wpAnyH_done (by kernel_rfl) ?_ _
      have HQ17 := Lib.hid (HC.out.sd.held (W9.heap.size, sko sb) (by simp))
      clear hHeld
      obtain ⟨⟨z0, zf0⟩, ⟨z1, zf1⟩, ⟨z2, zf2⟩, ⟨z3, zf3⟩, zl⟩ := four (HC.out.sd.held (B, Obj.cells #[.int .i64 1, .slice (some ⟨g, off, none⟩) 4 k, .slice A2 l2 c2, .slice A3 l3 c3] 46 (0, 0)) (by simp))
      go_wp2_with fail
      clear z0 zf0 z1 zf1 z2 zf2 z3 zf3 zl
      refine (HCF.out _ _ HC.out (by simp)).mono ?_
      rintro e w12 ⟨rfl, hb12⟩
      have HC := Lib.hid (HC.out.below hb12)
      clear hb12
      obtain ⟨⟨y0, yf0⟩, ⟨y1, yf1⟩, ⟨y2, yf2⟩, ⟨y3, yf3⟩, ⟨y4, yf4⟩, yl⟩ := five (HC.out.sd.held (W9.heap.size, sko sb) (by simp))
      obtain ⟨⟨z0, zf0⟩, ⟨z1, zf1⟩, ⟨z2, zf2⟩, ⟨z3, zf3⟩, ⟨z4, zf4⟩, zl⟩ := HC.out.fiveB
      have eq1 := eql_sk sb.st sb.own sb.oth (sb.non : Int) (sb.ech : Int)
      have HLOW := Lib.hid HC.out.sd.low
      go_wp2
      go_ret
      exact ⟨rfl, HLOW.out⟩


/-! ### the row, under what it lists -/
set_option maxRecDepth 100000 in
theorem lifted (os : Os) (started : os.Started) (H : Type) (enc : TypeId × Value → H) :
    ReturnsInHanded {} Tryd.checked os 7 .any (fun w args => (Rows.shakeForgedSpec.pre enc Tryd.prog Tryd.f7 [] false w args ∧ laidMetH Tryd.prog Rows.shakeForgedRow.laid w) ∧ sizedMet enc Tryd.prog Tryd.f7 (OpenSpec.ofChange Rows.shakeForgedSpec) false w args)
      (Rows.shakeForgedSpec.post enc Tryd.prog Tryd.f7 false true false false) := by
  refine returnsInHanded_of_change_and (C := Tryd.checked) (X := fun w _ => laidMetH Tryd.prog Rows.shakeForgedRow.laid w) (fun _ _ _ hh h => h.of_heap hh) own started (by kernel_rfl) Tryd.func7
    (ChangeSpec.witness_shaped (enc := enc) (C := Tryd.checked) (os := os) (X := fun w _ => laidMetH Tryd.prog Rows.shakeForgedRow.laid w) false (World.laidAll Tryd.prog os Rows.shakeForgedRow.laid) #[.agg #[.int .i64 0, .int .i64 0, .int .u64 0, .int .u64 0], .int .u8 0, .int .u8 0] 8 (World.laidAll_os _ _ _)
      (World.shaped_of_ZipB (by kernel_rfl) (by kernel_rfl)) (by kernel_rfl) (by kernel_rfl) (by kernel_rfl)
      (by rw [MakeChecks.laidMetH_plain _ _ _ (by kernel_rfl)]; exact laidMet_laidAll _ (by kernel_rfl) (by kernel_rfl))) ?_
  intro W base args ds gs before hval0 hW _ _ hL _
  have hval : ∀ (j : Nat) t v, Tryd.f7.params[j]? = some t → args[j]? = some v → Value.okWide Tryd.prog W .any base t v := hval0
  have hW' := hW
  obtain ⟨p, q, hA0, hV, rfl, hfz, hnd⟩ := hW
  have hA : DataW.TrodAll enc Tryd.prog W 0 (fun _ => true) true Tryd.f7.params.toList args.toList ds p := hA0
  rw [Tryd.params7] at hA hval
  obtain ⟨v0, vs0, d0, ds0, p0, q0, hargs, rfl, rfl, h0, r0⟩ := trodAll_cons hA
  obtain ⟨v1, vs1, d1, ds1, p1, q1, rfl, rfl, rfl, h1, r1⟩ := trodAll_cons r0
  obtain ⟨v2, vs2, d2, ds2, p2, q2, rfl, rfl, rfl, h2, r2⟩ := trodAll_cons r1
  obtain ⟨rfl, rfl, rfl⟩ := trodAll_nil r2
  obtain rfl : args = #[v0, v1, v2] := by cases args; simp_all
  obtain ⟨rfl, rfl⟩ := trodVars_none hV
  rw [MakeChecks.laidMetH_plain _ _ _ (by kernel_rfl)] at hL
  have k0 := h0
  have lt0 : ∀ x ∈ p0, x.block < W.heap.size := by obtain ⟨m, hm⟩ := k0; exact DataW.trod_lt m _ _ _ hm
  obtain ⟨s0, w0⟩ := open_two (hval 0 24 v0 rfl rfl) h0
  obtain ⟨a1, rfl, rfl, rfl, w1⟩ := open_int Tryd.underlying5 (hval 1 5 v1 rfl rfl) h1
  obtain ⟨a2, rfl, rfl, rfl, w2⟩ := open_int Tryd.underlying5 (hval 2 5 v2 rfl rfl) h2
  clear hA0 hval0
  refine (walk v0 s0 a1 a2 W w0 w1 w2 hL).mono fun e W' ⟨he, bel⟩ => ?_
  subst he
  exact ⟨_, rfl, _, _, _, [], _, [], hW', trodAll_mk1 (shut_bool Tryd.underlying4 _), (trodAll_cons_mk (Below.trod laidOut (by kernel_rfl) (of_decide_eq_true (by kernel_rfl)) k0 bel lt0) (trodAll_cons_mk (shut_int Tryd.underlying5 w1) (trodAll_cons_mk (shut_int Tryd.underlying5 w2) trodAll_mk0))), rfl, bel.frame _, fun h => by cases h⟩

theorem over : Rows.ShakeForgedSaid :=
  OpenClaim.holds_of_wide 7 Tryd.f7 rfl rfl rfl rfl rfl rfl rfl ⟨rfl, rfl, rfl, rfl, rfl⟩ rfl rfl rfl rfl rfl (by kernel_rfl) Tryd.func7 (by kernel_rfl)
    (of_decide_eq_true (by kernel_rfl)) (by unfold Func.isWrapper; first | (rw [if_pos (by decide +kernel)]; kernel_rfl) | (rw [if_neg (by decide +kernel)]; exact ⟨rfl, rfl⟩))
    (fun os started H enc _ => lifted os started H enc)

/-- ████ THE STATEMENT ████ -/
theorem proved : Rows.ShakeForgedCardSaid :=
  Claim7.holds_tied_plain_at .later [] [.data] true (true, "c99dd33ff23ae40eba11b9db5a9bc5dd074ff793e965781493bbe41fb132a972") false
    over (fun _ h => by cases h) (by kernel_rfl) (fun _ h => by cases h) shakeForged_row_tie rfl ⟨rfl, rfl⟩ (by kernel_rfl) rfl
    (fun f fn hf hfn => by
      obtain rfl : f = 7 := Option.some.inj ((show Tryd.prog.funcNamed "embrasure/embrasurelaw15.ShakeForged" = some 7 by kernel_rfl).symm.trans hf) |>.symm
      obtain rfl : fn = Tryd.f7 := (Option.some.inj (Tryd.func7.symm.trans hfn)).symm
      exact ⟨by kernel_rfl, fun j t ht => by
        rw [Tryd.params7] at ht
        have hm : t ∈ [24, 5, 5] := by simpa using Array.mem_of_getElem? ht
        have hall : ([24, 5, 5].all fun u => !Tryd.prog.wantsStandIn u) = true := by kernel_rfl
        exact (show Tryd.prog.wantsStandIn t = false by simpa using List.all_eq_true.1 hall t hm)⟩)
    (by kernel_rfl)
#print axioms proved
end Go.Proofs.YtdiilgedicfekaaDoor.shakeForged
