/-
  DueParts: what is told up to one time and then up to a later one is what is told up to the later one. Conditions: none.
-/
import Derived.Test.YtahccfljgmleiaaPartsIn
import Derived.Test.YtahccfljgmleiaaRows
import Derived.WalkKit
import Derived.ProofKit
import Derived.OpenShut
import Derived.ShutString
import Derived.ChangeOld
import Derived.Below
namespace Go.Proofs.Ytahccfljgmleiaa.dueParts
open Go.ChangeShapes Go.WideShapes Go.ChangeAt Go.RowKit
open Go.ChangeMaps (open_string shut_string)
set_option linter.unusedVariables false

theorem own : ownKnob Try.prog.godebug = none := by kernel_rfl
theorem laidOut : laidOutB Try.prog = true := by kernel_rfl

attribute [local go_sem] Oper.semAt_some
open Go.Shelf
set_option maxRecDepth 100000 in
set_option maxHeartbeats 4000000 in
theorem walk (v0 : Value) (s0 : List Int) (v1 : Value) (s1 : (Int × Int)) (w : World) (w0 : IsTms w v0 s0) (w1 : IsTwo w v1 s1) :
    Calls Try.prog 6 #[v0, v1] w fun e w' => e = .returned (.bool true) ∧ Below w.heap.size w w' := by
  obtain ⟨A0, n0, c0, rfl, hU, hlc, hcm⟩ := w0
  obtain ⟨p1, p2⟩ := s1
  obtain ⟨rfl, hp⟩ := w1
  simp only at hp
  unfold maxLen at hcm
  have HU := Lib.hid hU
  clear hU
  refine (callsIn_wide (n := 8)).1 ?_
  refine callsIn_of_wp_marks Try.func6 rfl trivial ?_ rfl
  refine wpIn_wide.2 ?_
  simp only [Try.ntmps6, List.size_toArray, List.length_cons, List.length_nil, Nat.reduceSub, Nat.reduceAdd, Array.replicate_succ, Array.replicate_zero, List.push_toArray, List.append_toArray, List.nil_append, List.cons_append]
  have hzs : ∀ i, 0 ≤ s0.getD i 0 ∧ s0.getD i 0 ≤ 65535 := HU.out.bd
  have HZ := Lib.hid hzs
  clear hzs
  go_wp2_with fail
  refine (awake_any _).mono ?_
  rintro e w1 ⟨rfl, hb⟩
  have hbx : w1.heap[w.heap.size]? = some (.cells #[.int .u16 p1, .int .u16 p2] 55 (0, 0)) := (hb.block _ (by simp)).trans (MapKept.heap_alloc w _).1
  have HB1 : Hid (Below w.heap.size w w1) := Lib.hid (((Below.refl _ w).alloc (Nat.le_refl _) _).trans (hb.mono (by simp)))
  have hz1 : w.heap.size < w1.heap.size := (Array.getElem?_eq_some_iff.1 hbx).1
  have HX1 := Lib.hid hbx
  clear hb hbx
  by_cases hbig : n0 ≤ 60
  · have l0 : decide ((60 : Int) < (n0 : Int)) = false := by simp; omega
    go_wp2_with fail
    refine (new_any _).mono ?_
    rintro e w2 ⟨rfl, hD, hb⟩
    obtain ⟨ta, hta⟩ : ∃ ta, ta = w1.heap.size + 1 := ⟨_, rfl⟩
    obtain ⟨ma, hma⟩ : ∃ ma, ma = w1.heap.size := ⟨_, rfl⟩
    have HB2 : Hid (Below w.heap.size w w2) := Lib.hid (HB1.out.trans (hb.mono (by omega)))
    have HX2 := Lib.hid ((hb.block _ hz1).trans HX1.out)
    rw [← hta, ← hma] at hD
    rw [← hta]
    have hlt2 := hD.lt
    have HDa := Lib.hid hD
    have HTA := Lib.hid (And.intro (And.intro hta hma) (And.intro hlt2 hz1))
    clear hb hD hta hma hlt2 hz1
    go_wp2_with fail
    refine (new_any _).mono ?_
    rintro e w3 ⟨rfl, hD, hb⟩
    obtain ⟨tb, htb⟩ : ∃ tb, tb = w2.heap.size + 1 := ⟨_, rfl⟩
    obtain ⟨mb, hmb⟩ : ∃ mb, mb = w2.heap.size := ⟨_, rfl⟩
    have HB3 : Hid (Below w.heap.size w w3) := Lib.hid (HB2.out.trans (hb.mono HB2.out.size))
    obtain ⟨⟨hta, hma⟩, hlt2, hz1⟩ := HTA.out
    have HX3 := Lib.hid ((hb.block _ (by omega)).trans HX2.out)
    have HDa3 := Lib.hid (HDa.out.after hb)
    rw [← htb, ← hmb] at hD
    rw [← htb]
    have HDb3 := Lib.hid hD
    have HBW : Hid ((w.heap.size < ta ∧ w.heap.size < ma ∧ w.heap.size < tb ∧ w.heap.size < mb) ∧ ta ≠ ma ∧ tb ≠ mb ∧ ta ≠ tb ∧ ta ≠ mb ∧ tb ≠ ma ∧ ma ≠ mb) := Lib.hid (by omega)
    clear hb hD hlt2 hta hma htb hmb hz1 HTA HDa HX2 HX1 HB1 HB2
    go_wp2
    go_loopw [8, 7] (fun nn i wr => ∃ k : Nat, k ≤ n0 ∧ i = .int .i64 k ∧ Du wr ta ma (tabP s0 k) ∧ Du wr tb mb (tabP s0 k) ∧ wr.heap[w.heap.size]? = some (.cells #[.int .u16 p1, .int .u16 p2] 55 (0, 0)) ∧ Below w.heap.size w wr) (fun _ i _ => n0 - (intOf i).toNat)
    case atStart => exact ⟨0, by omega, rfl, HDa3.out, HDb3.out, HX3.out, HB3.out⟩
    case round =>
      obtain ⟨k, hk, rfl, hDa, hDb, hX, hB⟩ := hrel
      have HDa := Lib.hid hDa; have HDb := Lib.hid hDb; have HX := Lib.hid hX; have HB := Lib.hid hB
      clear hDa hDb hX hB
      by_cases hlt : k < n0
      · obtain ⟨q, hq, hq2⟩ : ∃ q : Nat, (k : Int).tdiv 26 = (q : Int) ∧ q = k / 26 := ⟨k / 26, by rw [Int.tdiv_eq_ediv_of_nonneg (by omega)]; omega, rfl⟩
        obtain ⟨r, hr, hr2⟩ : ∃ r : Nat, (k : Int).tmod 26 = (r : Int) ∧ r = k % 26 := ⟨k % 26, by rw [Int.tmod_eq_emod_of_nonneg (by omega)]; omega, rfl⟩
        have hq3 : q ≤ 7 := by omega
        have hr3 : r ≤ 25 := by omega
        have hq4 : (k : Int) / 26 = (q : Int) := by omega
        have hr4 : (k : Int) % 26 = (r : Int) := by omega
        have hnm : nmP k = ky [UInt8.ofNat (97 + r), UInt8.ofNat (48 + q)] (by simp) := by rw [hq2, hr2]; rfl
        have HNM := Lib.hid hnm
        clear hnm hq2 hr2
        have hcv := fun W => conv_two W q r (by omega) hr3
        rw [← HNM.out] at hcv
        obtain ⟨b, off, rfl, hb, hc⟩ := HU.out.cells (by omega)
        have hcu := (cell_below (a := ⟨b, off + k, none⟩) HB.out hb).trans (hc k hlt)
        obtain ⟨t, ht⟩ : ∃ t, t = s0.getD k 0 := ⟨_, rfl⟩
        have ht3 : 0 ≤ t ∧ t ≤ 65535 := by rw [ht]; exact HU.out.bd k
        rw [← ht] at hcu
        have HT2 : Hid (s0.getD k 0 = t) := Lib.hid ht.symm
        have HC := Lib.hid hcu
        have HBB := Lib.hid hb
        have HWa : Hid (∀ (o : Obj), Du (wr.alloc o) ta ma (tabP s0 k)) := Lib.hid (fun o => HDa.out.after ((Below.refl _ wr).alloc (Nat.le_refl _) _))
        have HE : Hid (∀ (o : Obj) (W : World), Keeps (· = ma) (wr.alloc o) W → Du W tb mb (tabP s0 k) ∧ W.heap[w.heap.size]? = some (.cells #[.int .u16 p1, .int .u16 p2] 55 (0, 0)) ∧ Below w.heap.size w W ∧ W.cell? ⟨b, off + k, none⟩ = some (.int .u16 t)) := Lib.hid (fun o W hk => by
          have hA : Below wr.heap.size wr (wr.alloc o) := (Below.refl _ wr).alloc (Nat.le_refl _) _
          have hW := HBW.out
          have hs := HB.out.size
          have hBW : Below w.heap.size w W := HB.out.trans ((hA.mono HB.out.size).trans (hk.below (fun k e => by omega) (by simp; omega)))
          exact ⟨(HDb.out.after hA).keeps hk (by omega) (by omega), (hk.block _ (by have := (Array.getElem?_eq_some_iff.1 HX.out).1; simp; omega) (by show ¬ w.heap.size = ma; omega)).trans ((hA.block _ (Array.getElem?_eq_some_iff.1 HX.out).1).trans HX.out), hBW, (cell_below (a := ⟨b, off + k, none⟩) hBW HBB.out).trans ((cell_below (a := ⟨b, off + k, none⟩) HB.out HBB.out).symm.trans HC.out)⟩)
        have hcA : ∀ (o : Obj), (wr.alloc o).cell? ⟨b, off + k, none⟩ = some (.int .u16 t) := fun o => (cell_below (a := ⟨b, off + k, none⟩) ((Below.refl _ wr).alloc (Nat.le_refl _) o) (by have := HB.out.size; show b < wr.heap.size; omega)).trans HC.out
        clear hc ht hb hcu
        go_wp2_with fail
        refine (parts_set HZ.out k (by omega) t HT2.out ta ma _ (HWa.out _)).mono ?_
        rintro e w4 ⟨rfl, hD, hk⟩
        have HE4 := Lib.hid (HE.out _ _ hk)
        have HDa4 := Lib.hid hD
        have hc4 := HE4.out.2.2.2
        clear hD hk hcA
        go_wp2_with fail
        refine (parts_set HZ.out k (by omega) t HT2.out tb mb _ HE4.out.1).mono ?_
        rintro e w5 ⟨rfl, hD, hk⟩
        have HK5 := Lib.hid hk
        have HDb5 := Lib.hid hD
        clear hD hk hc4
        go_wp2
        go_roundw
        case rel =>
          have hW := HBW.out
          have hE := HE4.out
          exact ⟨k + 1, by omega, by go_num, HDa4.out.keeps HK5.out (by omega) (by omega), HDb5.out, (HK5.out.block _ (Array.getElem?_eq_some_iff.1 hE.2.1).1 (by show ¬ w.heap.size = mb; omega)).trans hE.2.1, hE.2.2.1.trans (HK5.out.below (fun k e => by omega) hE.2.2.1.size)⟩
        case measure => simp [intOf]; omega
      · obtain rfl : k = n0 := by omega
        have cx0 : wr.cell? ⟨w.heap.size, 0, none⟩ = some (.int .u16 p1) := by unfold World.cell?; rw [HX.out]; rfl
        have cx1 : wr.cell? ⟨w.heap.size, 1, none⟩ = some (.int .u16 p2) := by unfold World.cell?; rw [HX.out]; rfl
        go_wp2_with fail
        generalize hone : min p1 p2 = one
        generalize htwo : max p1 p2 = two
        have hle : one ≤ two := by omega
        have HLE := Lib.hid hle
        have hM := pt HZ.out k (by omega)
        generalize hMM : tabP s0 k = M at *
        have HM := Lib.hid hM
        have HM2 : Hid (M.length ≤ 200) := Lib.hid (by have := hM.len; omega)
        clear hone htwo hle cx0 cx1 hM hMM
        refine (due_any _ _ _).mono ?_
        rintro e w6 ⟨rfl, rfl⟩
        go_wp2_with fail
        have h5 : Boxed (wr.alloc (.cells #[.string ByteArray.empty] 9)) wr.heap.size 9 (.string ByteArray.empty) := Boxed.new wr 9 _
        have h6 : Boxed ((wr.alloc (.cells #[.string ByteArray.empty] 9)).alloc (.cells #[.string ByteArray.empty] 9)) (wr.heap.size + 1) 9 (.string ByteArray.empty) := by
          have := Boxed.new (wr.alloc (.cells #[.string ByteArray.empty] 9)) 9 (.string ByteArray.empty)
          rwa [World.size_alloc] at this
        have h7 := h5.alloc (.cells #[.string ByteArray.empty] 9)
        have hb6 : Below wr.heap.size wr ((wr.alloc (.cells #[.string ByteArray.empty] 9)).alloc (.cells #[.string ByteArray.empty] 9)) := ((Below.refl _ wr).alloc (Nat.le_refl _) _).alloc (by simp) _
        have HP0 : Hid (PA w wr.heap.size (wr.heap.size + 1) tb mb M [] [] [] ((wr.alloc (.cells #[.string ByteArray.empty] 9)).alloc (.cells #[.string ByteArray.empty] 9))) := Lib.hid ⟨h7, h6, HDb.out.after hb6, HB.out.trans (hb6.mono HB.out.size), by simp⟩
        have HDA6 := Lib.hid (HDa.out.after hb6)
        have HG : Hid ((wr.heap.size ≠ ma ∧ wr.heap.size ≠ ta ∧ wr.heap.size ≠ mb ∧ wr.heap.size ≠ tb) ∧ (wr.heap.size + 1 ≠ ma ∧ wr.heap.size + 1 ≠ ta ∧ wr.heap.size + 1 ≠ mb ∧ wr.heap.size + 1 ≠ tb) ∧ w.heap.size ≤ wr.heap.size ∧ (ta < wr.heap.size ∧ ma < wr.heap.size ∧ tb < wr.heap.size ∧ mb < wr.heap.size)) := Lib.hid (by
          have e1 := HDa.out.lt
          have e2 := HDb.out.lt
          have e3 := HB.out.size
          omega)
        have hs6 : ((wr.alloc (.cells #[.string ByteArray.empty] 9)).alloc (.cells #[.string ByteArray.empty] 9)).heap.size = wr.heap.size + 2 := by simp
        obtain ⟨hT1, hN1, hb1, hs1⟩ := it_cells ((wr.alloc (.cells #[.string ByteArray.empty] 9)).alloc (.cells #[.string ByteArray.empty] 9)) ta one
        rw [hs6] at hT1 hN1 hs1
        rw [show ({ data := #[] } : ByteArray) = ByteArray.empty from rfl]
        generalize (((wr.alloc (.cells #[.string ByteArray.empty] 9)).alloc (.cells #[.string ByteArray.empty] 9)).alloc (.cells #[.pointer (some ⟨ta, 0, none⟩)] 25)).alloc (.cells #[.int .i64 one] 3) = W1 at *
        have HP1 : Hid (PA w wr.heap.size (wr.heap.size + 1) tb mb M [] [] [] W1) := Lib.hid (Ppa.after HP0.out hb1)
        have HD1 : Hid (Du W1 ta ma M) := Lib.hid (HDA6.out.after hb1)
        have HT1 := Lib.hid hT1; have HN1 := Lib.hid hN1; have HS1 := Lib.hid hs1
        have hgs : ∀ g ∈ [wr.heap.size + 2, wr.heap.size + 2 + 1], g < W1.heap.size := by intro g hg; simp at hg; omega
        have HPS1 : Hid (Still W1 ma (PA w wr.heap.size (wr.heap.size + 1) tb mb M [] [])) := Lib.hid (by
          have hG := HG.out
          have hW := HBW.out
          exact ppa_still (X := fun d => cat ([] ++ d)) (Y := fun _ => ByteArray.empty) (by omega) (by omega) (by omega) (by omega) (by omega) (by omega) (by omega) (by omega) (by simp))
        clear h5 h6 h7 hb6 hb1 hs6 hT1 hN1 hs1 HP0 HDA6
        have HI1 : Hid (ta < W1.heap.size ∧ ma < W1.heap.size) := Lib.hid (by have := HG.out; have := HS1.out; omega)
        refine (wpIn_wide (n := 8)).1 ?_
        apply range_stand (F := Fence.wide) (n := 8) (f := 23) (own := #[.pointer (some ⟨wr.heap.size + 2, 0, none⟩), .pointer (some ⟨wr.heap.size + 2 + 1, 0, none⟩)]) (k0 := (M).length)
          ⟨rfl, by omega, trivial, enters_of Try.func23 (by kernel_rfl) rfl, due_tells 7 ta ma (wr.heap.size + 2) (wr.heap.size + 2 + 1) one W1 HT1.out HN1.out⟩ rfl (Below.refl _ _) hgs (fun _ => rfl)
          (JS ta ma one (M) (PA w wr.heap.size (wr.heap.size + 1) tb mb M [] [])) (MS ta ma one (M) (PA w wr.heap.size (wr.heap.size + 1) tb mb M [] [])) (fun _ _ => False)
          (loop_adm HPS1.out HI1.out.2) (loop_own HPS1.out HI1.out.1 HI1.out.2) (loop_ownM HPS1.out HI1.out.1 HI1.out.2)
          (fun c s X Y row hs _ _ => hs) (loop_ownE HI1.out.1 HI1.out.2) (loop_start HD1.out HP1.out)
        case hassign =>
          intro l x W K hK
          simp only [encE]
          gi_wp2
          exact hK
        case hstop =>
          rintro D c V hD h hK
          exact h.elim
        case hbody =>
          rintro lr kk ⟨x, t⟩ V hVs hm
          have HMS := Lib.hid hm
          obtain ⟨done, rest, a1, a2, a3, a4, a5, hpa⟩ := hm
          have hadd := add_bytes (cat ([] ++ done)) (str x) (Nat.le_trans (cat_part (m := 2) (n := 200) (by simpa using a1) HM.out.mem HM2.out) (by decide))
          have cg := (Ppa.x hpa).cell
          have fg := (Ppa.x hpa).frozen
          rw [List.nil_append] at hadd cg
          have HCG := Lib.hid cg
          clear a1 a2 a3 a4 a5 hpa
          gi_wp2
          have hG := HG.out
          have hS := HS1.out
          refine ⟨kept_set (by omega) (by simp; try omega), loop_next HMS.out (fun L h => h.set (by omega) (by omega)) (fun d hp => pa_next hp HCG.out (by omega) (by omega) (by omega) (by omega) (by simp))⟩
        case hdone =>
          rintro D1 k1 V1 hD1 hj hf hK
          obtain ⟨done, rest, e1, e2, hd, _, hp⟩ := loop_end hj hf
          have HQ1 := Lib.hid (And.intro e1 e2); have HDa1 := Lib.hid hd; have HPa1 := Lib.hid hp; have HK1 := Lib.hid hK
          have HB1 : Hid (wr.heap.size + 4 ≤ D1 ∧ D1 < V1.heap.size ∧ wr.heap.size + 4 ≤ V1.heap.size) := Lib.hid (by
            have h1 := (Array.getElem?_eq_some_iff.1 hK).1
            have h2 := HS1.out
            omega)
          clear e1 e2 hd hp hj hf hK hD1 hgs
          go_wp2_with fail
          refine (due_any _ _ _).mono ?_
          rintro e v7 ⟨rfl, rfl⟩
          go_wp2_with fail
          obtain ⟨hT2, hN2, hb2, hs2⟩ := it_cells V1 ta two
          generalize (V1.alloc (.cells #[.pointer (some ⟨ta, 0, none⟩)] 25)).alloc (.cells #[.int .i64 two] 3) = W2 at *
          have HP2 : Hid (PA w wr.heap.size (wr.heap.size + 1) tb mb M [D1] done [] W2) := Lib.hid (by
            show Ppa _ _ _ _ _ _ _ (cat (done ++ [])) _ _
            rw [List.append_nil]
            exact (Ppa.mark HPa1.out HK1.out).after hb2)
          have HD2 : Hid (Du W2 ta ma rest) := Lib.hid (HDa1.out.after hb2)
          have HT2 := Lib.hid hT2; have HN2 := Lib.hid hN2; have HS2 := Lib.hid hs2
          have hgs2 : ∀ g ∈ [V1.heap.size, V1.heap.size + 1], g < W2.heap.size := by intro g hg; simp at hg; omega
          have HPS2 : Hid (Still W2 ma (PA w wr.heap.size (wr.heap.size + 1) tb mb M [D1] done)) := Lib.hid (by
            have hG := HG.out
            have hW := HBW.out
            have hB := HB1.out
            exact ppa_still (X := fun d => cat (done ++ d)) (Y := fun _ => ByteArray.empty) (by omega) (by omega) (by omega) (by omega) (by omega) (by omega) (by omega) (by omega) (by simp; omega))
          have HI2 : Hid (ta < W2.heap.size ∧ ma < W2.heap.size) := Lib.hid (by have := HG.out; have := HS2.out; have := HB1.out; omega)
          have HLR : Hid (∀ (d2 r2 : List En) (e : En), rest = d2 ++ e :: r2 → M = (done ++ d2) ++ e :: r2) := Lib.hid (fun d2 r2 e he => by rw [List.append_assoc, ← he]; exact HQ1.out.1)
          clear hb2 hT2 hN2 hs2
          have HY1 := Lib.hid (show True from trivial)
          obtain ⟨d1, hd1⟩ : ∃ d1, d1 = done := ⟨_, rfl⟩
          obtain ⟨r1, hr1⟩ : ∃ r1, r1 = rest := ⟨_, rfl⟩
          rw [← hd1] at HQ1 HPa1 HP2 HPS2 HLR
          rw [← hr1] at HQ1 HDa1 HD2 HLR
          clear hd1 hr1
          refine (wpIn_wide (n := 8)).1 ?_
          apply range_stand (F := Fence.wide) (n := 8) (f := 23) (own := #[.pointer (some ⟨V1.heap.size, 0, none⟩), .pointer (some ⟨V1.heap.size + 1, 0, none⟩)]) (k0 := (r1).length)
            ⟨rfl, by omega, trivial, enters_of Try.func23 (by kernel_rfl) rfl, due_tells 7 ta ma (V1.heap.size) (V1.heap.size + 1) two W2 HT2.out HN2.out⟩ rfl (Below.refl _ _) hgs2 (fun _ => rfl)
            (JS ta ma two (r1) (PA w wr.heap.size (wr.heap.size + 1) tb mb M [D1] d1)) (MS ta ma two (r1) (PA w wr.heap.size (wr.heap.size + 1) tb mb M [D1] d1)) (fun _ _ => False)
            (loop_adm HPS2.out HI2.out.2) (loop_own HPS2.out HI2.out.1 HI2.out.2) (loop_ownM HPS2.out HI2.out.1 HI2.out.2)
            (fun c s X Y row hs _ _ => hs) (loop_ownE HI2.out.1 HI2.out.2) (loop_start HD2.out HP2.out)
          case hassign =>
            intro l x W K hK
            simp only [encE]
            gi_wp2
            exact hK
          case hstop =>
            rintro D c V hD h hK
            exact h.elim
          case hbody =>
            rintro lr kk ⟨x, t⟩ V hVs hm
            have HMS := Lib.hid hm
            obtain ⟨done, rest, a1, a2, a3, a4, a5, hpa⟩ := hm
            have hadd := add_bytes (cat (d1 ++ done)) (str x) (Nat.le_trans (cat_part (m := 2) (n := 200) (HLR.out _ _ _ a1) HM.out.mem HM2.out) (by decide))
            have cg := (Ppa.x hpa).cell
            have fg := (Ppa.x hpa).frozen
            have HCG := Lib.hid cg
            clear a1 a2 a3 a4 a5 hpa
            gi_wp2
            have hG := HG.out
            have hS := HS2.out
            have hB1 := HB1.out
            exact ⟨kept_set (by omega) (by simp; try omega), loop_next HMS.out (fun L h => h.set (by omega) (by omega)) (fun d hp => pa_next hp HCG.out (by omega) (by omega) (by omega) (by omega) (by simp; have := HB1.out; omega))⟩
          case hdone =>
            rintro D2 k2 V2 hD2 hj hf hK
            obtain ⟨done, rest, e1, e2, hd, _, hp⟩ := loop_end hj hf
            have HQ2 := Lib.hid (And.intro e1 e2); have HDa2 := Lib.hid hd; have HPa2 := Lib.hid hp; have HK2 := Lib.hid hK
            have HB2 : Hid (V1.heap.size + 2 ≤ D2 ∧ D2 < V2.heap.size ∧ V1.heap.size + 2 ≤ V2.heap.size) := Lib.hid (by
              have h1 := (Array.getElem?_eq_some_iff.1 hK).1
              have h2 := HS2.out
              omega)
            clear e1 e2 hd hp hj hf hK hD2 hgs2
            go_wp2_with fail
            refine (due_any _ _ _).mono ?_
            rintro e v8 ⟨rfl, rfl⟩
            go_wp2_with fail
            obtain ⟨hT3, hN3, hb3, hs3⟩ := it_cells V2 tb two
            generalize (V2.alloc (.cells #[.pointer (some ⟨tb, 0, none⟩)] 25)).alloc (.cells #[.int .i64 two] 3) = W3 at *
            have HP3 : Hid (PB w wr.heap.size (wr.heap.size + 1) ta ma rest [D2, D1] (cat (d1 ++ done)) [] W3) := Lib.hid (((Ppa.mark HPa2.out HK2.out).swap HDa2.out).after hb3)
            have HD3 : Hid (Du W3 tb mb M) := Lib.hid (HPa2.out.du.after hb3)
            have HT3 := Lib.hid hT3; have HN3 := Lib.hid hN3; have HS3 := Lib.hid hs3
            have hgs3 : ∀ g ∈ [V2.heap.size, V2.heap.size + 1], g < W3.heap.size := by intro g hg; simp at hg; omega
            have HPS3 : Hid (Still W3 mb (PB w wr.heap.size (wr.heap.size + 1) ta ma rest [D2, D1] (cat (d1 ++ done)))) := Lib.hid (by
              have hG := HG.out
              have hW := HBW.out
              have hB := HB1.out
              have hB2 := HB2.out
              exact ppa_still (X := fun _ => cat (d1 ++ done)) (Y := fun d => cat d) (by omega) (by omega) (by omega) (by omega) (by omega) (by omega) (by omega) (by omega) (by simp; omega))
            have HI3 : Hid (tb < W3.heap.size ∧ mb < W3.heap.size) := Lib.hid (by have := HG.out; have := HS3.out; have := HB1.out; have := HB2.out; omega)
            clear hb3 hT3 hN3 hs3
            obtain ⟨d2, hd2⟩ : ∃ d2, d2 = done := ⟨_, rfl⟩
            obtain ⟨r2, hr2⟩ : ∃ r2, r2 = rest := ⟨_, rfl⟩
            rw [← hd2] at HQ2 HPa2 HP3 HPS3
            rw [← hr2] at HQ2 HDa2 HP3 HPS3
            clear hd2 hr2
            refine (wpIn_wide (n := 8)).1 ?_
            apply range_stand (F := Fence.wide) (n := 8) (f := 23) (own := #[.pointer (some ⟨V2.heap.size, 0, none⟩), .pointer (some ⟨V2.heap.size + 1, 0, none⟩)]) (k0 := (M).length)
              ⟨rfl, by omega, trivial, enters_of Try.func23 (by kernel_rfl) rfl, due_tells 7 tb mb (V2.heap.size) (V2.heap.size + 1) two W3 HT3.out HN3.out⟩ rfl (Below.refl _ _) hgs3 (fun _ => rfl)
              (JS tb mb two (M) (PB w wr.heap.size (wr.heap.size + 1) ta ma r2 [D2, D1] (cat (d1 ++ d2)))) (MS tb mb two (M) (PB w wr.heap.size (wr.heap.size + 1) ta ma r2 [D2, D1] (cat (d1 ++ d2)))) (fun _ _ => False)
              (loop_adm HPS3.out HI3.out.2) (loop_own HPS3.out HI3.out.1 HI3.out.2) (loop_ownM HPS3.out HI3.out.1 HI3.out.2)
              (fun c s X Y row hs _ _ => hs) (loop_ownE HI3.out.1 HI3.out.2) (loop_start HD3.out HP3.out)
            case hassign =>
              intro l x W K hK
              simp only [encE]
              gi_wp2
              exact hK
            case hstop =>
              rintro D c V hD h hK
              exact h.elim
            case hbody =>
              rintro lr kk ⟨x, t⟩ V hVs hm
              have HMS := Lib.hid hm
              obtain ⟨done, rest, a1, a2, a3, a4, a5, hpa⟩ := hm
              have hadd := add_bytes (cat (done)) (str x) (Nat.le_trans (cat_part (m := 2) (n := 200) a1 HM.out.mem HM2.out) (by decide))
              have cg := (Ppa.y hpa).cell
              have fg := (Ppa.y hpa).frozen
              have HCG := Lib.hid cg
              clear a1 a2 a3 a4 a5 hpa
              gi_wp2
              have hG := HG.out
              have hS := HS3.out
              have hB1 := HB1.out
              have hB2 := HB2.out
              exact ⟨kept_set (by omega) (by simp; try omega), loop_next HMS.out (fun L h => h.set (by omega) (by omega)) (fun d hp => pb_next hp HCG.out (by omega) (by omega) (by omega) (by omega) (by simp; have := HB1.out; have := HB2.out; omega))⟩
            case hdone =>
              rintro D3 k3 V3 hD3 hj hf hK
              obtain ⟨done, rest, e1, e2, hd, _, hp⟩ := loop_end hj hf
              obtain ⟨hcat, hrr⟩ := take_parts HLE.out HQ1.out.1 HQ1.out.2 HQ2.out.1 HQ2.out.2 e1 e2
              rw [← hrr] at hd
              have hx := Ppa.x hp
              have hy := Ppa.y hp
              rw [← hcat] at hy
              have cx := hx.cell
              have cy := hy.cell
              have HDb3 := Lib.hid hd; have HDa3 := Lib.hid (Ppa.du hp); have HPB := Lib.hid (Ppa.below hp); have HMk := Lib.hid (Ppa.marks hp); have HK3 := Lib.hid hK
              have HB3 : Hid (V2.heap.size + 2 ≤ D3 ∧ D3 < V3.heap.size) := Lib.hid (by
                have h1 := (Array.getElem?_eq_some_iff.1 hK).1
                have h2 := HS3.out
                omega)
              have hst : ((cat (d1 ++ d2)).toList == (cat (d1 ++ d2)).toList) = true := by simp
              clear hcat hrr e1 e2 hd hp hj hf hK hD3 hgs3 hx hy
              go_wp2_with fail
              refine (names_any ta ma r2 _ HDa3.out).mono ?_
              rintro e v9 ⟨n9, rfl, ⟨A9, c9, rfl, hc9, _⟩, hb9⟩
              have HDb4 := Lib.hid (HDb3.out.after hb9); have HB9 := Lib.hid hb9
              clear hb9
              go_wp2_with fail
              refine (names_any tb mb r2 _ HDb4.out).mono ?_
              rintro e v10 ⟨n10, rfl, ⟨A10, c10, rfl, hc10, _⟩, hb10⟩
              have HB10 := Lib.hid (HB9.out.trans (hb10.mono HB9.out.size))
              clear hb10
              go_wp2
              have hk3 : v10.heap[D3]? = some (.deferred (some [])) := (HB10.out.block D3 (Array.getElem?_eq_some_iff.1 HK3.out).1).trans HK3.out
              have hk2 : v10.heap[D2]? = some (.deferred (some [])) := (HB10.out.block D2 (Array.getElem?_eq_some_iff.1 (HMk.out D2 (by simp))).1).trans (HMk.out D2 (by simp))
              have hk1 : v10.heap[D1]? = some (.deferred (some [])) := (HB10.out.block D1 (Array.getElem?_eq_some_iff.1 (HMk.out D1 (by simp))).1).trans (HMk.out D1 (by simp))
              have hb1 := HB1.out
              have hb2 := HB2.out
              have hb3 := HB3.out
              have hg := HG.out
              have hk2' : (v10.putObj D3 (.deferred none)).heap[D2]? = some (.deferred (some [])) := ((grownBy_putObj' v10 D3 (.deferred none)).block D2 (Array.getElem?_eq_some_iff.1 hk2).1 (by intro e; have := Option.some.inj e; omega)).trans hk2
              have hk1' : (v10.putObj D3 (.deferred none)).heap[D1]? = some (.deferred (some [])) := ((grownBy_putObj' v10 D3 (.deferred none)).block D1 (Array.getElem?_eq_some_iff.1 hk1).1 (by intro e; have := Option.some.inj e; omega)).trans hk1
              have hk1'' : ((v10.putObj D3 (.deferred none)).putObj D2 (.deferred none)).heap[D1]? = some (.deferred (some [])) := ((grownBy_putObj' (v10.putObj D3 (.deferred none)) D2 (.deferred none)).block D1 (Array.getElem?_eq_some_iff.1 hk1').1 (by intro e; have := Option.some.inj e; omega)).trans hk1'
              have hB : Below w.heap.size w v10 := HPB.out.trans (HB10.out.mono HPB.out.size)
              refine ⟨by simp, .inl ⟨_, _, rfl, run_takeDeferred hk3, ?_⟩⟩
              refine ⟨by simp, .inl ⟨_, _, rfl, run_takeDeferred hk2', ?_⟩⟩
              refine ⟨by simp, .inl ⟨_, _, rfl, run_takeDeferred hk1'', ?_⟩⟩
              exact ⟨.bool true, by simp [results, Try.results6, go_sem], rfl, ((hB.trans (belowK_b (w := w) (Nat.le_refl _) _ D3 _ _ (by omega) hk3 rfl rfl)).trans (belowK_b (w := w) (Nat.le_refl _) _ D2 _ _ (by omega) hk2' rfl rfl)).trans (belowK_b (w := w) (Nat.le_refl _) _ D1 _ _ (by omega) hk1'' rfl rfl)⟩
  · have l0 : decide ((60 : Int) < (n0 : Int)) = true := by simp; omega
    go_wp2
    exact ⟨.bool true, by simp [results, Try.results6, go_sem], rfl, HB1.out⟩

/-! ### THE ROW's STEP: WRITTEN OUT: LEAVE IT -/
set_option maxRecDepth 100000 in
theorem lifted (os : Os) (started : os.Started) (H : Type) (enc : TypeId × Value → H) :
    ReturnsInHanded {} Try.checked os 6 .any (Rows.duePartsSpec.pre6 enc Try.prog Try.f6 Rows.duePartsRow.domain false) (Rows.duePartsSpec.post enc Try.prog Try.f6 false true false false) := by
  refine returnsInHanded_of_change (C := Try.checked) own started (by kernel_rfl) Try.func6
    (ChangeSpec.witness6 (enc := enc) (C := Try.checked) false ⟨#[], #[.slice none 0 0, .agg #[.int .u16 0, .int .u16 0]], []⟩ 8 (by kernel_rfl) (by kernel_rfl) (by kernel_rfl) (by kernel_rfl)) ?_
  intro W base args ds gs before hval0 hW hcnd _
  have hval : ∀ (j : Nat) t v, Try.f6.params[j]? = some t → args[j]? = some v → Value.okWide Try.prog W .any base t v := hval0
  have hW' := hW
  obtain ⟨p, q, hA0, hV, rfl, hfz, hnd⟩ := hW
  have hA : DataW.TrodAll enc Try.prog W 0 (fun _ => true) true Try.f6.params.toList args.toList ds p := hA0
  rw [Try.params6] at hA hval
  obtain ⟨v0, vs0, d0, ds0, p0, q0, hargs, rfl, rfl, h0, r0⟩ := trodAll_cons hA
  obtain ⟨v1, vs1, d1, ds1, p1, q1, rfl, rfl, rfl, h1, r1⟩ := trodAll_cons r0
  obtain ⟨rfl, rfl, rfl⟩ := trodAll_nil r1
  obtain rfl : args = #[v0, v1] := by cases args; simp_all
  obtain ⟨rfl, rfl⟩ := trodVars_none hV
  have k0 := h0
  have lt0 : ∀ x ∈ p0, x.block < W.heap.size := by obtain ⟨m, hm⟩ := k0; exact DataW.trod_lt m _ _ _ hm
  obtain ⟨s0, w0⟩ := open_tms (hval 0 44 v0 rfl rfl) h0
  have k1 := h1
  have lt1 : ∀ x ∈ p1, x.block < W.heap.size := by obtain ⟨m, hm⟩ := k1; exact DataW.trod_lt m _ _ _ hm
  obtain ⟨s1, w1⟩ := open_two (hval 1 55 v1 rfl rfl) h1
  clear hA0 hval0
  refine (walk v0 s0 v1 s1 W w0 w1).mono fun e W' ⟨he, bel⟩ => ?_
  subst he
  exact ⟨_, rfl, _, _, _, [], _, [], hW', trodAll_mk1 (shut_bool Try.underlying4 _), (trodAll_cons_mk (Below.trod laidOut (by kernel_rfl) (of_decide_eq_true (by kernel_rfl)) k0 bel lt0) (trodAll_cons_mk (Below.trod laidOut (by kernel_rfl) (of_decide_eq_true (by kernel_rfl)) k1 bel lt1) trodAll_mk0)), rfl, bel.frame _, fun h => by cases h⟩

theorem over : Rows.duePartsRow.holds Try.pinned (OpenSpec.ofChange Rows.duePartsSpec) :=
  OpenClaim.holds_of_wide 6 Try.f6 rfl rfl rfl rfl rfl rfl rfl ⟨rfl, rfl, rfl, rfl, rfl⟩ rfl rfl rfl rfl rfl (by kernel_rfl) Try.func6 (by kernel_rfl)
    (of_decide_eq_true (by kernel_rfl)) (by unfold Func.isWrapper; first | (rw [if_pos (by decide +kernel)]; kernel_rfl) | (rw [if_neg (by decide +kernel)]; exact ⟨rfl, rfl⟩))
    (fun os started H enc _ => lifted os started H enc)

/-- ████ THE STATEMENT ████ -/
theorem proved : Rows.DuePartsSaid := over
#print axioms proved
end Go.Proofs.Ytahccfljgmleiaa.dueParts
