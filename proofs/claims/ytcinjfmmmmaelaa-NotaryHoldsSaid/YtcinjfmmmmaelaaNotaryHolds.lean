/-
  The statement NotaryHolds holds: what was minted is checked, whatever comes behind, for just its peer and its text, and a text that was never minted for a peer has no tag. Conditions: none beyond the row's own.
-/
import Derived.Test.YtcinjfmmmmaelaaDo
import Derived.Test.YtcinjfmmmmaelaaRows
import Derived.WalkKit
import Derived.ProofKit
import Derived.OpenShut
import Derived.ShutString
import Derived.ChangeOld
import Derived.Below
namespace Go.Proofs.Ytcinjfmmmmaelaa.notaryHolds
open Go.ChangeShapes Go.WideShapes Go.ChangeAt Go.RowKit
open Go.ChangeMaps (open_string shut_string)
set_option linter.unusedVariables false

theorem own : ownKnob Try.prog.godebug = none := by kernel_rfl
theorem laidOut : laidOutB Try.prog = true := by kernel_rfl

/-- behind the first entry, whatever is minted: what is known of the entries when k steps are done, x the first entry, o another one, m: has o been minted, as far as the steps tell? -/
structure Run (x o : Item) (k : Nat) (L : List Item) (m : Bool) : Prop where
  first : L[0]? = some x
  len : L.length ≤ k + 1
  minted : o ∈ L → m = true
theorem Run.start (x o : Item) (m : Bool) (h : x = o → m = true) : Run x o 0 [x] m := ⟨rfl, by simp, fun h' => h (List.mem_singleton.1 h').symm⟩
theorem Run.skip {x o : Item} {k : Nat} {L : List Item} {m : Bool} (h : Run x o k L m) (m' : Bool) (hm : m = true → m' = true) : Run x o (k + 1) L m' := ⟨h.first, by have := h.len; omega, fun h' => hm (h.minted h')⟩
theorem Run.mint {x o y : Item} {k : Nat} {L : List Item} {m : Bool} (h : Run x o k L m) (m' : Bool) (hm : m = true → m' = true) (hy : y = o → m' = true) : Run x o (k + 1) (mintL L y) m' := by
  refine ⟨?_, by have := mintL_len L y; have := h.len; omega, fun h' => ?_⟩
  · unfold mintL
    split
    · exact h.first
    · rw [List.getElem?_append_left]
      · exact h.first
      · exact (List.getElem?_eq_some_iff.1 h.first).1
  · unfold mintL at h'
    split at h'
    · exact hm (h.minted h')
    · rcases List.mem_append.1 h' with h1 | h1
      · exact hm (h.minted h1)
      · exact hy (List.mem_singleton.1 h1).symm
theorem Run.check {x o y : Item} {k : Nat} {L : List Item} {m : Bool} (h : Run x o k L m) : checkL L y 1 = if x = y then 0 else 12 := by
  unfold checkL
  rw [h.first]
  simp

theorem Run.step {x o y : Item} {k : Nat} {L L' : List Item} {m : Bool} (h : Run x o k L m) (hL : L' = L ∨ L' = mintL L y) (m' : Bool) (hm : m = true → m' = true) (hy : y = o → m' = true) : Run x o (k + 1) L' m' := by
  rcases hL with rfl | rfl
  · exact h.skip m' hm
  · exact h.mint m' hm hy
theorem mint_x (Z nb : Nat) (L : List Item) (p : Int) (A : Option Addr) (n c : Nat) (zs : List Int) (w : World) (h : Nota w (Z ≤ ·) nb L) (hZ : Z ≤ w.heap.size) (hnc : n ≤ c) (hc : c ≤ maxLen) (hb : Bts w A n zs) (hL : L.length ≤ 1000000) :
    Calls Try.prog 12 #[.pointer (some ⟨nb, 0, none⟩), .int .i64 p, .slice A n c] w fun e w' => ∃ t r L', e = .returned (.tuple #[.int .u64 t, .int .i64 r]) ∧ (L' = L ∨ L' = mintL L (p, zs)) ∧ Nota w' (Z ≤ ·) nb L' ∧ Below Z w w' := by
  by_cases hp : 1 ≤ p ∧ p ≤ 2147483647
  · exact (mint_b Z nb L p A n c zs w h hZ hp hnc hc hb hL _ _ rfl rfl).mono fun e w' h' => ⟨_, _, _, h'.1, .inr rfl, h'.2.1, h'.2.2⟩
  · exact (mint_arg nb p A n c w hp).mono fun e w' h' => ⟨_, _, L, h'.1, .inl rfl, h'.2 ▸ h, h'.2 ▸ Below.refl _ _⟩

def Fnd (f : Bool) (o : Item) (L : List Item) : Prop := f = true → o ∈ L
theorem checkL_two (L : List Item) (y : Item) (j : Nat) : (checkL L y j = 0 ∧ y ∈ L) ∨ checkL L y j = 12 := by
  unfold checkL
  split
  · rename_i h
    exact .inl ⟨rfl, List.mem_of_getElem? h.2⟩
  · exact .inr rfl
theorem boxes (w : World) (X Y : Array Value) : Below w.heap.size w ((w.alloc (.cells X 34)).alloc (.cells Y 34)) ∧ ((w.alloc (.cells X 34)).alloc (.cells Y 34)).heap.size = w.heap.size + 2 ∧
    ((w.alloc (.cells X 34)).alloc (.cells Y 34)).heap[w.heap.size]? = some (.cells X 34 (0, 0)) ∧ ((w.alloc (.cells X 34)).alloc (.cells Y 34)).heap[w.heap.size + 1]? = some (.cells Y 34 (0, 0)) := by
  refine ⟨((Below.refl _ _).alloc (Nat.le_refl _) _).alloc (by simp) _, by simp, ?_, ?_⟩
  · exact (Below.heap_alloc _ _ _ (by simp)).trans (MapKept.heap_alloc w _).1
  · have := (MapKept.heap_alloc (w.alloc (.cells X 34)) (.cells Y 34)).1
    simpa using this
/-- the two boxes' cells, in whatever world that is as W0 was below its end -/
theorem box_cells {W0 W : World} {b n c : Nat} {q : Int} {A : Option Addr} {x0 x3 : Value} (h : W0.heap[b]? = some (.cells #[x0, .int .i64 q, .slice A n c, x3] 34 (0, 0))) (hb : Below W0.heap.size W0 W) :
    W.cell? ⟨b, 1, none⟩ = some (.int .i64 q) ∧ W.cell? ⟨b, 2, none⟩ = some (.slice A n c) := by
  have h' := (hb.block b (Array.getElem?_eq_some_iff.1 h).1).trans h
  exact ⟨by simpa using (cells_of h' 1).1, by simpa using (cells_of h' 2).1⟩

set_option maxRecDepth 100000 in
set_option maxHeartbeats 8000000 in
theorem core_ne0 (k0 : Bool) (p0 : Int) (z0 : List Int) (t0 : Nat) (A0 : Option Addr) (n0 c0 : Nat) (k1 : Bool) (p1 : Int) (z1 : List Int) (t1 : Nat) (A1 : Option Addr) (n1 c1 : Nat) (A2 : Option Addr) (c2 : Nat) (w : World) (hb0 : Bts w A0 n0 z0) (hb1 : Bts w A1 n1 z1) (hnc0 : n0 ≤ c0) (hc0 : c0 ≤ 9223372036854775807) (hnc1 : n1 ≤ c1) (hc1 : c1 ≤ 9223372036854775807) (hD : IsDos w (.slice A2 ([] : List Step).length c2) [])
    (hm2 : ([] : List Step).length ≤ 9223372036854775807) (hpa : 1 ≤ p0) (hpb : p0 ≤ 2147483647) (hn0 : n0 ≤ 200) (hn1 : n1 ≤ 200) (hsm : smallL ([] : List Step) = true) (hne : ¬ p1 = p0)  :
    Calls Try.prog 4 #[.agg #[.bool k0, .int .i64 p0, .slice A0 n0 c0, .int .u64 (t0 : Int)], .agg #[.bool k1, .int .i64 p1, .slice A1 n1 c1, .int .u64 (t1 : Int)], .slice A2 ([] : List Step).length c2] w fun e w' => e = .returned (.bool true) ∧ Below w.heap.size w w' := by
  have HB0 := Lib.hid hb0; have HB1 := Lib.hid hb1; have HD := Lib.hid hD; have HSM := Lib.hid hsm; clear hb0 hb1 hsm
  obtain ⟨o, ho⟩ : ∃ o : Item, o = (p1, z1) := ⟨_, rfl⟩
  have HO := Lib.hid ho; clear ho
  clear hD
  go_enter Try.func4, Try.ntmps4
  go_wp2_with fail
  refine (awake_any _).mono ?_
  rintro e v1 ⟨rfl, hb⟩
  have HV1 := Lib.hid hb; clear hb
  obtain ⟨hQ, hz, hx, hy⟩ := boxes w #[.bool k0, .int .i64 p0, .slice A0 n0 c0, .int .u64 (t0 : Int)] #[.bool k1, .int .i64 p1, .slice A1 n1 c1, .int .u64 (t1 : Int)]
  generalize (w.alloc (.cells #[.bool k0, .int .i64 p0, .slice A0 n0 c0, .int .u64 (t0 : Int)] 34)).alloc (.cells #[.bool k1, .int .i64 p1, .slice A1 n1 c1, .int .u64 (t1 : Int)] 34) = W0 at *
  have HQ := Lib.hid hQ; have HZ := Lib.hid hz; have HX := Lib.hid hx; have HY := Lib.hid hy; clear hQ hz hx hy
  have HT0 : Hid (∀ W, Below W0.heap.size W0 W → Bts W A0 n0 z0) := Lib.hid (fun W hb => (HB0.out.below HQ.out).below hb)
  have HT1 : Hid (∀ W, Below W0.heap.size W0 W → Bts W A1 n1 z1) := Lib.hid (fun W hb => (HB1.out.below HQ.out).below hb)
  obtain ⟨a1, a2⟩ := box_cells HX.out HV1.out
  obtain ⟨b1, b2⟩ := box_cells HY.out HV1.out
  go_wp2_with fail
  refine (small_any _ [] _ (HD.out.below (HQ.out.trans (HV1.out.mono HQ.out.size))) true HSM.out).mono ?_
  rintro e v2 ⟨rfl, rfl⟩
  go_wp2_with fail
  refine (new_any _).mono ?_
  rintro e v2 ⟨nb, rfl, hN2, hb2⟩
  have HN2 : Hid (Nota v2 (W0.heap.size ≤ ·) nb []) := Lib.hid (hN2.mono (fun k hk => Nat.le_trans HV1.out.size hk))
  have HV2 : Hid (Below W0.heap.size W0 v2) := Lib.hid (HV1.out.trans (hb2.mono HV1.out.size)); clear hb2 hN2
  clear a1 a2 b1 b2
  go_wp2_with fail
  refine (mint_b W0.heap.size nb [] p0 A0 n0 c0 z0 _ HN2.out HV2.out.size ⟨hpa, hpb⟩ hnc0 (by unfold maxLen; omega) (HT0.out _ HV2.out) (by simp) 1 [(p0, z0)] rfl rfl).mono ?_
  rintro e v3 ⟨rfl, hN3, hb3⟩
  have HN3 := Lib.hid hN3; have HV3 : Hid (Below W0.heap.size W0 v3) := Lib.hid (HV2.out.trans hb3); clear hN3 hb3
  obtain ⟨b1, b2⟩ := box_cells HY.out HV3.out
  have hcv0 := conv_str (c := c0) (HT0.out _ HV3.out)
  have hcv1 := conv_str (c := c1) (HT1.out _ HV3.out)
  have t1 : (p1 == p0) = false := by simpa using hne
  have HNE : Hid (¬ (p0, z0) = o) := Lib.hid (fun e => hne (by rw [HO.out] at e; simp only [Prod.mk.injEq] at e; exact e.1.symm))
  clear hne
  have HCK : Hid (∀ {k : Nat} {L : List Item} {m : Bool}, Run (p0, z0) o k L m → checkL L o 1 = 12) := Lib.hid (fun hR => by rw [hR.check, if_neg HNE.out])
  have HST : Hid (Run (p0, z0) o 0 [(p0, z0)] false) := Lib.hid (Run.start _ _ _ (fun e => absurd e HNE.out))
  go_wp2
  clear t1 hcv0 hcv1 b1 b2
  refine wp_loop_rounds 1 ?_
  rw [rounds_succ]
  have HLN : Hid ([(p0, z0)].length ≤ 101) := Lib.hid (by simp)
  obtain ⟨b1, b2⟩ := box_cells HY.out HV3.out
  go_wp2_with fail
  refine (check_b nb _ [(p0, z0)] p0 A0 n0 c0 1 z0 _ HN3.out (by have := HLN.out; omega) (HT0.out _ HV3.out) (by omega) 0 (by rw [HST.out.check, if_pos rfl])).mono ?_
  rintro e v6 ⟨rfl, q6, rfl⟩
  go_wp2_with fail
  refine (check_b nb _ [(p0, z0)] p1 A1 n1 c1 1 z1 _ (HN3.out.drewN _) (by have := HLN.out; omega) ((HT1.out _ HV3.out).drewN _) (by omega) 12 (by have h := HCK.out HST.out; rw [HO.out] at h; exact h)).mono ?_
  rintro e v7 ⟨rfl, q7, rfl⟩
  have HN7 : Hid (Nota ((v3.drewN q6).drewN q7) (W0.heap.size ≤ ·) nb [(p0, z0)]) := Lib.hid ((HN3.out.drewN _).drewN _)
  have HV7 : Hid (Below W0.heap.size W0 ((v3.drewN q6).drewN q7)) := Lib.hid (below_drewN' (below_drewN' HV3.out _) _)
  generalize (v3.drewN q6).drewN q7 = v7 at *
  clear b1 b2
  go_wp2
  go_loopw [15, 16] (fun ff i wx => ∃ (j : Nat) (f : Bool), j ≤ 103 ∧ i = .int .i64 j ∧ ff = .bool f ∧ Nota wx (W0.heap.size ≤ ·) nb [(p0, z0)] ∧ Fnd f o [(p0, z0)] ∧ Below W0.heap.size W0 wx) (fun _ i _ => 103 - (intOf i).toNat)
  case atStart => exact ⟨0, false, by omega, rfl, rfl, HN7.out, (fun h => by cases h), HV7.out⟩
  case round =>
    obtain ⟨j, f, hj, rfl, rfl, hN, hF, hB⟩ := hrel
    have HN8 := Lib.hid hN; have HF := Lib.hid hF; have HV8 := Lib.hid hB; clear hN hF hB
    have hln : [(p0, z0)].length ≤ 101 := HLN.out
    have HCNT := Lib.hid (count_any nb _ [(p0, z0)] _ HN8.out (by have := HLN.out; omega))
    by_cases hle : j ≤ 1 + 1
    · have t2 : decide ((j : Int) ≤ (1 : Int) + 1) = true := by simp; omega
      have t3 : decide (j ≤ 1 + 1) = true := by simpa using hle
      obtain ⟨b1, b2⟩ := box_cells HY.out HV8.out
      cases f with
      | true =>
        go_wp2_with fail
        refine HCNT.out.mono ?_
        rintro e v9 ⟨rfl, rfl⟩
        go_wp2
        go_roundw
        case rel => exact ⟨j + 1, true, by have := HLN.out; omega, by go_num, rfl, HN8.out, HF.out, HV8.out⟩
        case measure => simp [intOf]; have := HLN.out; omega
      | false =>
        rcases checkL_two [(p0, z0)] o j with ⟨hc, hmem⟩ | hc
        · have HMEM := Lib.hid hmem; have HC := Lib.hid hc; clear hc hmem
          go_wp2_with fail
          refine HCNT.out.mono ?_
          rintro e v9 ⟨rfl, rfl⟩
          go_wp2_with fail
          refine (check_b nb _ [(p0, z0)] p1 A1 n1 c1 j z1 _ HN8.out (by have := HLN.out; omega) (HT1.out _ HV8.out) (by omega) 0 (by have h := HC.out; rw [HO.out] at h; exact h)).mono ?_
          rintro e v9 ⟨rfl, q9, rfl⟩
          go_wp2
          go_roundw
          case rel => exact ⟨j + 1, true, by have := HLN.out; omega, by go_num, rfl, HN8.out.drewN _, fun _ => HMEM.out, below_drewN' HV8.out _⟩
          case measure => simp [intOf]; have := HLN.out; omega
        · have HC := Lib.hid hc; clear hc
          go_wp2_with fail
          refine HCNT.out.mono ?_
          rintro e v9 ⟨rfl, rfl⟩
          go_wp2_with fail
          refine (check_b nb _ [(p0, z0)] p1 A1 n1 c1 j z1 _ HN8.out (by have := HLN.out; omega) (HT1.out _ HV8.out) (by omega) 12 (by have h := HC.out; rw [HO.out] at h; exact h)).mono ?_
          rintro e v9 ⟨rfl, q9, rfl⟩
          go_wp2
          go_roundw
          case rel => exact ⟨j + 1, false, by have := HLN.out; omega, by go_num, rfl, HN8.out.drewN _, HF.out, below_drewN' HV8.out _⟩
          case measure => simp [intOf]; have := HLN.out; omega
    · have t2 : decide ((j : Int) ≤ (1 : Int) + 1) = false := by simp; omega
      have t3 : decide (j ≤ 1 + 1) = false := by simpa using hle
      have t4 : ¬ (j : Int) ≤ (1 : Int) + 1 := by omega
      cases f with
      | true =>
        exfalso; have := HST.out.minted (HF.out rfl); cases this
      | false =>
        go_wp2_with fail
        refine HCNT.out.mono ?_
        rintro e v9 ⟨rfl, rfl⟩
        go_wp2
        go_ret
        exact ⟨rfl, (HQ.out.trans (HV8.out.mono HQ.out.size))⟩

set_option maxRecDepth 100000 in
set_option maxHeartbeats 8000000 in
theorem core_ne (k0 : Bool) (p0 : Int) (z0 : List Int) (t0 : Nat) (A0 : Option Addr) (n0 c0 : Nat) (k1 : Bool) (p1 : Int) (z1 : List Int) (t1 : Nat) (A1 : Option Addr) (n1 c1 : Nat) (s2 : List Step) (A2 : Option Addr) (c2 : Nat) (w : World) (hb0 : Bts w A0 n0 z0) (hb1 : Bts w A1 n1 z1) (hnc0 : n0 ≤ c0) (hc0 : c0 ≤ 9223372036854775807) (hnc1 : n1 ≤ c1) (hc1 : c1 ≤ 9223372036854775807) (hD : IsDos w (.slice A2 s2.length c2) s2)
    (hm2 : s2.length ≤ 9223372036854775807) (hpa : 1 ≤ p0) (hpb : p0 ≤ 2147483647) (hn0 : n0 ≤ 200) (hn1 : n1 ≤ 200) (hsm : smallL s2 = true) (hne : ¬ p1 = p0) (hz2 : 0 < s2.length) :
    Calls Try.prog 4 #[.agg #[.bool k0, .int .i64 p0, .slice A0 n0 c0, .int .u64 (t0 : Int)], .agg #[.bool k1, .int .i64 p1, .slice A1 n1 c1, .int .u64 (t1 : Int)], .slice A2 s2.length c2] w fun e w' => e = .returned (.bool true) ∧ Below w.heap.size w w' := by
  have HB0 := Lib.hid hb0; have HB1 := Lib.hid hb1; have HD := Lib.hid hD; have HSM := Lib.hid hsm; clear hb0 hb1 hsm
  obtain ⟨o, ho⟩ : ∃ o : Item, o = (p1, z1) := ⟨_, rfl⟩
  have HO := Lib.hid ho; clear ho
  obtain ⟨_, _, hAA, _, _, hd2⟩ := hD
  simp only [Value.slice.injEq] at hAA
  obtain ⟨rfl, _, rfl⟩ := hAA
  obtain ⟨b, off, rfl, hb, hdd⟩ := hd2 hz2
  have HDD := Lib.hid hdd; clear hdd hd2
  go_enter Try.func4, Try.ntmps4
  go_wp2_with fail
  refine (awake_any _).mono ?_
  rintro e v1 ⟨rfl, hb⟩
  have HV1 := Lib.hid hb; clear hb
  obtain ⟨hQ, hz, hx, hy⟩ := boxes w #[.bool k0, .int .i64 p0, .slice A0 n0 c0, .int .u64 (t0 : Int)] #[.bool k1, .int .i64 p1, .slice A1 n1 c1, .int .u64 (t1 : Int)]
  generalize (w.alloc (.cells #[.bool k0, .int .i64 p0, .slice A0 n0 c0, .int .u64 (t0 : Int)] 34)).alloc (.cells #[.bool k1, .int .i64 p1, .slice A1 n1 c1, .int .u64 (t1 : Int)] 34) = W0 at *
  have HQ := Lib.hid hQ; have HZ := Lib.hid hz; have HX := Lib.hid hx; have HY := Lib.hid hy; clear hQ hz hx hy
  have HT0 : Hid (∀ W, Below W0.heap.size W0 W → Bts W A0 n0 z0) := Lib.hid (fun W hb => (HB0.out.below HQ.out).below hb)
  have HT1 : Hid (∀ W, Below W0.heap.size W0 W → Bts W A1 n1 z1) := Lib.hid (fun W hb => (HB1.out.below HQ.out).below hb)
  obtain ⟨a1, a2⟩ := box_cells HX.out HV1.out
  obtain ⟨b1, b2⟩ := box_cells HY.out HV1.out
  go_wp2_with fail
  refine (small_any _ s2 _ (HD.out.below (HQ.out.trans (HV1.out.mono HQ.out.size))) true HSM.out).mono ?_
  rintro e v2 ⟨rfl, rfl⟩
  go_wp2_with fail
  refine (new_any _).mono ?_
  rintro e v2 ⟨nb, rfl, hN2, hb2⟩
  have HN2 : Hid (Nota v2 (W0.heap.size ≤ ·) nb []) := Lib.hid (hN2.mono (fun k hk => Nat.le_trans HV1.out.size hk))
  have HV2 : Hid (Below W0.heap.size W0 v2) := Lib.hid (HV1.out.trans (hb2.mono HV1.out.size)); clear hb2 hN2
  clear a1 a2 b1 b2
  go_wp2_with fail
  refine (mint_b W0.heap.size nb [] p0 A0 n0 c0 z0 _ HN2.out HV2.out.size ⟨hpa, hpb⟩ hnc0 (by unfold maxLen; omega) (HT0.out _ HV2.out) (by simp) 1 [(p0, z0)] rfl rfl).mono ?_
  rintro e v3 ⟨rfl, hN3, hb3⟩
  have HN3 := Lib.hid hN3; have HV3 : Hid (Below W0.heap.size W0 v3) := Lib.hid (HV2.out.trans hb3); clear hN3 hb3
  obtain ⟨b1, b2⟩ := box_cells HY.out HV3.out
  have hcv0 := conv_str (c := c0) (HT0.out _ HV3.out)
  have hcv1 := conv_str (c := c1) (HT1.out _ HV3.out)
  have t1 : (p1 == p0) = false := by simpa using hne
  have HNE : Hid (¬ (p0, z0) = o) := Lib.hid (fun e => hne (by rw [HO.out] at e; simp only [Prod.mk.injEq] at e; exact e.1.symm))
  clear hne
  have HCK : Hid (∀ {k : Nat} {L : List Item} {m : Bool}, Run (p0, z0) o k L m → checkL L o 1 = 12) := Lib.hid (fun hR => by rw [hR.check, if_neg HNE.out])
  have HST : Hid (Run (p0, z0) o 0 [(p0, z0)] false) := Lib.hid (Run.start _ _ _ (fun e => absurd e HNE.out))
  go_wp2
  clear t1 hcv0 hcv1 b1 b2
  go_loopw [13, 14] (fun mm i wr => ∃ (k : Nat) (L : List Item) (m : Bool), k ≤ s2.length ∧ k ≤ 100 ∧ i = .int .i64 k ∧ mm = .bool m ∧ Nota wr (W0.heap.size ≤ ·) nb L ∧ Run (p0, z0) o k L m ∧ Below W0.heap.size W0 wr) (fun _ i _ => s2.length - (intOf i).toNat)
  case atStart => exact ⟨0, _, _, by omega, by omega, rfl, rfl, HN3.out, HST.out, HV3.out⟩
  case round =>
    rename_i mm i wr
    obtain ⟨k, L, m, hk, hk2, rfl, rfl, hN, hR, hB⟩ := hrel
    have HN := Lib.hid hN; have HR := Lib.hid hR; have HB := Lib.hid hB; clear hN hR hB
    by_cases h1 : k < s2.length
    · by_cases h2 : k < 100
      · obtain ⟨Ak, nk, ck, d0, d1, d2, d3, hbt, hnck, hck, hwf, _, hbl⟩ := (((HDD.out k h1).below HQ.out).below HB.out).parts
        have HTKa : ∀ W, Below W0.heap.size W0 W → Bts W Ak nk (s2.getD k default).text := fun W hW => by
          obtain ⟨A', n', c', _, _, f2, _, hbt', _⟩ := ((HDD.out k h1).below HQ.out).parts
          have f2' := (HB.out.cell (p := ⟨b, off + k * 4 + 2, none⟩) (Nat.lt_of_lt_of_le hb HQ.out.size)).trans f2
          rw [d2] at f2'
          simp only [Option.some.injEq, Value.slice.injEq] at f2'
          obtain ⟨rfl, rfl, rfl⟩ := f2'
          exact hbt'.below hW
        obtain ⟨dk, hdk⟩ : ∃ d, s2.getD k default = d := ⟨_, rfl⟩
        rw [hdk] at d0 d1 d3 hbt hwf HTKa
        clear hdk
        obtain ⟨kk, pk, zk, tk⟩ := dk
        simp only at d0 d1 d3 hbt hwf HTKa
        have HBT := Lib.hid hbt; clear hbt hwf
        have HBW : Hid (b < W0.heap.size) := Lib.hid (Nat.lt_of_lt_of_le hb HQ.out.size)
        have HTK : Hid (∀ W, Below W0.heap.size W0 W → Bts W Ak nk zk) := Lib.hid HTKa
        cases kk with
        | true =>
          go_wp2
          go_roundw
          case rel => exact ⟨k + 1, L, m, by omega, by omega, by go_num, rfl, HN.out, HR.out.skip m id, HB.out⟩
          case measure => simp [intOf]; omega
        | false =>
          cases m with
          | true =>
            go_wp2
            go_still_tail 11, (by kernel_rfl)
            go_wp2_with fail
            refine (mint_x W0.heap.size nb L pk Ak nk ck zk _ (HN.out.drewN 1) HB.out.size hnck hck (HBT.out.drewN 1) (by have := HR.out.len; omega)).mono ?_
            rintro e v5 ⟨t5, r5, L5, rfl, hL5, hN5, hb5⟩
            have HV5 : Hid (Below W0.heap.size W0 v5) := Lib.hid ((below_drewN' HB.out 1).trans hb5)
            have HL5 := Lib.hid hL5; have HN5 := Lib.hid hN5; clear hL5 hN5
            obtain ⟨b1, b2⟩ := box_cells HY.out HV5.out
            have e1 : v5.cell? ⟨b, off + k * 4 + 1, none⟩ = some (.int .i64 pk) := (hb5.cell (p := ⟨b, off + k * 4 + 1, none⟩) HBW.out).trans d1
            have e2 : v5.cell? ⟨b, off + k * 4 + 2, none⟩ = some (.slice Ak nk ck) := (hb5.cell (p := ⟨b, off + k * 4 + 2, none⟩) HBW.out).trans d2
            have HBT5 := Lib.hid (HTK.out _ HV5.out)
            clear hb5 d0 d1 d2 d3
            go_wp2
            go_quiet (fail)
            go_wp2
            go_roundw
            case rel => exact ⟨k + 1, L5, true, by omega, by omega, by go_num, rfl, HN5.out.drewN _, HR.out.step HL5.out true (fun _ => rfl) (fun _ => rfl), below_drewN' HV5.out _⟩
            case measure => simp [intOf]; omega
          | false =>
            by_cases hqp : pk = o.1
            · have HQP := Lib.hid hqp
              have hqq : pk = p1 := by rw [hqp, HO.out]
              by_cases hqz : zk = z1
              · have HQZ := Lib.hid hqz
                have HYO : Hid ((pk, zk) = o) := Lib.hid (by rw [HO.out, hqq, hqz])
                obtain rfl : z1 = zk := hqz.symm
                clear hqp
                obtain rfl : p1 = pk := hqq.symm
                go_wp2
                go_still_tail 11, (by kernel_rfl)
                go_wp2_with fail
                refine (mint_x W0.heap.size nb L p1 Ak nk ck z1 _ (HN.out.drewN 1) HB.out.size hnck hck (HBT.out.drewN 1) (by have := HR.out.len; omega)).mono ?_
                rintro e v5 ⟨t5, r5, L5, rfl, hL5, hN5, hb5⟩
                have HV5 : Hid (Below W0.heap.size W0 v5) := Lib.hid ((below_drewN' HB.out 1).trans hb5)
                have HL5 := Lib.hid hL5; have HN5 := Lib.hid hN5; clear hL5 hN5
                obtain ⟨b1, b2⟩ := box_cells HY.out HV5.out
                have e1 : v5.cell? ⟨b, off + k * 4 + 1, none⟩ = some (.int .i64 p1) := (hb5.cell (p := ⟨b, off + k * 4 + 1, none⟩) HBW.out).trans d1
                have e2 : v5.cell? ⟨b, off + k * 4 + 2, none⟩ = some (.slice Ak nk ck) := (hb5.cell (p := ⟨b, off + k * 4 + 2, none⟩) HBW.out).trans d2
                have HBT5 := Lib.hid (HTK.out _ HV5.out)
                clear hb5 d0 d1 d2 d3
                have hcvk : ∀ q, (convert 31 9 (.slice Ak nk ck)).run Try.prog (v5.drewN q) = .ok (.string (str z1)) (v5.drewN q) := fun q => conv_str (HBT5.out.drewN q)
                have hcvo : ∀ q, (convert 31 9 (.slice A1 n1 c1)).run Try.prog (v5.drewN q) = .ok (.string (str z1)) (v5.drewN q) := fun q => conv_str ((HT1.out _ HV5.out).drewN q)
                go_wp2
                go_quiet (fail)
                go_wp2
                go_roundw
                case rel => exact ⟨k + 1, L5, true, by omega, by omega, by go_num, rfl, HN5.out.drewN _, HR.out.step HL5.out true (fun _ => rfl) (fun _ => rfl), below_drewN' HV5.out _⟩
                case measure => simp [intOf]; omega
              · have HYO : Hid (¬ (pk, zk) = o) := Lib.hid (fun e => hqz (by rw [HO.out] at e; simp only [Prod.mk.injEq] at e; exact e.2))
                have HQZ := Lib.hid hqz
                clear hqp hqz
                obtain rfl : p1 = pk := hqq.symm
                go_wp2
                go_still_tail 11, (by kernel_rfl)
                go_wp2_with fail
                refine (mint_x W0.heap.size nb L p1 Ak nk ck zk _ (HN.out.drewN 1) HB.out.size hnck hck (HBT.out.drewN 1) (by have := HR.out.len; omega)).mono ?_
                rintro e v5 ⟨t5, r5, L5, rfl, hL5, hN5, hb5⟩
                have HV5 : Hid (Below W0.heap.size W0 v5) := Lib.hid ((below_drewN' HB.out 1).trans hb5)
                have HL5 := Lib.hid hL5; have HN5 := Lib.hid hN5; clear hL5 hN5
                obtain ⟨b1, b2⟩ := box_cells HY.out HV5.out
                have e1 : v5.cell? ⟨b, off + k * 4 + 1, none⟩ = some (.int .i64 p1) := (hb5.cell (p := ⟨b, off + k * 4 + 1, none⟩) HBW.out).trans d1
                have e2 : v5.cell? ⟨b, off + k * 4 + 2, none⟩ = some (.slice Ak nk ck) := (hb5.cell (p := ⟨b, off + k * 4 + 2, none⟩) HBW.out).trans d2
                have HBT5 := Lib.hid (HTK.out _ HV5.out)
                clear hb5 d0 d1 d2 d3
                have hcvk : ∀ q, (convert 31 9 (.slice Ak nk ck)).run Try.prog (v5.drewN q) = .ok (.string (str zk)) (v5.drewN q) := fun q => conv_str (HBT5.out.drewN q)
                have hcvo : ∀ q, (convert 31 9 (.slice A1 n1 c1)).run Try.prog (v5.drewN q) = .ok (.string (str z1)) (v5.drewN q) := fun q => conv_str ((HT1.out _ HV5.out).drewN q)
                have h3 : ((str zk).toList == (str z1).toList) = false := by rw [beq_eq_false_iff_ne]; exact fun e => HQZ.out (str_toList HBT5.out.bd (HT1.out _ HV5.out).bd e)
                go_wp2
                go_quiet (fail)
                go_wp2
                go_roundw
                case rel => exact ⟨k + 1, L5, false, by omega, by omega, by go_num, rfl, HN5.out.drewN _, HR.out.step HL5.out false (fun h => h) (fun h => absurd h HYO.out), below_drewN' HV5.out _⟩
                case measure => simp [intOf]; omega
            · have HYO : Hid (¬ (pk, zk) = o) := Lib.hid (fun e => hqp (by rw [← e]))
              have hqq : (pk == p1) = false := by rw [HO.out] at hqp; simpa using hqp
              clear hqp
              go_wp2
              go_still_tail 11, (by kernel_rfl)
              go_wp2_with fail
              refine (mint_x W0.heap.size nb L pk Ak nk ck zk _ (HN.out.drewN 1) HB.out.size hnck hck (HBT.out.drewN 1) (by have := HR.out.len; omega)).mono ?_
              rintro e v5 ⟨t5, r5, L5, rfl, hL5, hN5, hb5⟩
              have HV5 : Hid (Below W0.heap.size W0 v5) := Lib.hid ((below_drewN' HB.out 1).trans hb5)
              have HL5 := Lib.hid hL5; have HN5 := Lib.hid hN5; clear hL5 hN5
              obtain ⟨b1, b2⟩ := box_cells HY.out HV5.out
              have e1 : v5.cell? ⟨b, off + k * 4 + 1, none⟩ = some (.int .i64 pk) := (hb5.cell (p := ⟨b, off + k * 4 + 1, none⟩) HBW.out).trans d1
              have e2 : v5.cell? ⟨b, off + k * 4 + 2, none⟩ = some (.slice Ak nk ck) := (hb5.cell (p := ⟨b, off + k * 4 + 2, none⟩) HBW.out).trans d2
              have HBT5 := Lib.hid (HTK.out _ HV5.out)
              clear hb5 d0 d1 d2 d3
              go_wp2
              go_quiet (fail)
              go_wp2
              go_roundw
              case rel => exact ⟨k + 1, L5, false, by omega, by omega, by go_num, rfl, HN5.out.drewN _, HR.out.step HL5.out false (fun h => h) (fun h => absurd h HYO.out), below_drewN' HV5.out _⟩
              case measure => simp [intOf]; omega
      · have HLN : Hid (L.length ≤ 101) := Lib.hid (by have := HR.out.len; omega)
        obtain ⟨b1, b2⟩ := box_cells HY.out HB.out
        go_wp2_with fail
        refine (check_b nb _ L p0 A0 n0 c0 1 z0 _ HN.out (by have := HLN.out; omega) (HT0.out _ HB.out) (by omega) 0 (by rw [HR.out.check, if_pos rfl])).mono ?_
        rintro e v6 ⟨rfl, q6, rfl⟩
        go_wp2_with fail
        refine (check_b nb _ L p1 A1 n1 c1 1 z1 _ (HN.out.drewN _) (by have := HLN.out; omega) ((HT1.out _ HB.out).drewN _) (by omega) 12 (by have h := HCK.out HR.out; rw [HO.out] at h; exact h)).mono ?_
        rintro e v7 ⟨rfl, q7, rfl⟩
        have HN7 : Hid (Nota ((wr.drewN q6).drewN q7) (W0.heap.size ≤ ·) nb L) := Lib.hid ((HN.out.drewN _).drewN _)
        have HV7 : Hid (Below W0.heap.size W0 ((wr.drewN q6).drewN q7)) := Lib.hid (below_drewN' (below_drewN' HB.out _) _)
        generalize (wr.drewN q6).drewN q7 = v7 at *
        clear b1 b2
        go_wp2
        go_loopw [15, 16] (fun ff i wx => ∃ (j : Nat) (f : Bool), j ≤ 103 ∧ i = .int .i64 j ∧ ff = .bool f ∧ Nota wx (W0.heap.size ≤ ·) nb L ∧ Fnd f o L ∧ Below W0.heap.size W0 wx) (fun _ i _ => 103 - (intOf i).toNat)
        case atStart => exact ⟨0, false, by omega, rfl, rfl, HN7.out, (fun h => by cases h), HV7.out⟩
        case round =>
          obtain ⟨j, f, hj, rfl, rfl, hN, hF, hB⟩ := hrel
          have HN8 := Lib.hid hN; have HF := Lib.hid hF; have HV8 := Lib.hid hB; clear hN hF hB
          have hln : L.length ≤ 101 := HLN.out
          have HCNT := Lib.hid (count_any nb _ L _ HN8.out (by have := HLN.out; omega))
          by_cases hle : j ≤ L.length + 1
          · have t2 : decide ((j : Int) ≤ (L.length : Int) + 1) = true := by simp; omega
            have t3 : decide (j ≤ L.length + 1) = true := by simpa using hle
            obtain ⟨b1, b2⟩ := box_cells HY.out HV8.out
            cases f with
            | true =>
              go_wp2_with fail
              refine HCNT.out.mono ?_
              rintro e v9 ⟨rfl, rfl⟩
              go_wp2
              go_roundw
              case rel => exact ⟨j + 1, true, by have := HLN.out; omega, by go_num, rfl, HN8.out, HF.out, HV8.out⟩
              case measure => simp [intOf]; have := HLN.out; omega
            | false =>
              rcases checkL_two L o j with ⟨hc, hmem⟩ | hc
              · have HMEM := Lib.hid hmem; have HC := Lib.hid hc; clear hc hmem
                go_wp2_with fail
                refine HCNT.out.mono ?_
                rintro e v9 ⟨rfl, rfl⟩
                go_wp2_with fail
                refine (check_b nb _ L p1 A1 n1 c1 j z1 _ HN8.out (by have := HLN.out; omega) (HT1.out _ HV8.out) (by omega) 0 (by have h := HC.out; rw [HO.out] at h; exact h)).mono ?_
                rintro e v9 ⟨rfl, q9, rfl⟩
                go_wp2
                go_roundw
                case rel => exact ⟨j + 1, true, by have := HLN.out; omega, by go_num, rfl, HN8.out.drewN _, fun _ => HMEM.out, below_drewN' HV8.out _⟩
                case measure => simp [intOf]; have := HLN.out; omega
              · have HC := Lib.hid hc; clear hc
                go_wp2_with fail
                refine HCNT.out.mono ?_
                rintro e v9 ⟨rfl, rfl⟩
                go_wp2_with fail
                refine (check_b nb _ L p1 A1 n1 c1 j z1 _ HN8.out (by have := HLN.out; omega) (HT1.out _ HV8.out) (by omega) 12 (by have h := HC.out; rw [HO.out] at h; exact h)).mono ?_
                rintro e v9 ⟨rfl, q9, rfl⟩
                go_wp2
                go_roundw
                case rel => exact ⟨j + 1, false, by have := HLN.out; omega, by go_num, rfl, HN8.out.drewN _, HF.out, below_drewN' HV8.out _⟩
                case measure => simp [intOf]; have := HLN.out; omega
          · have t2 : decide ((j : Int) ≤ (L.length : Int) + 1) = false := by simp; omega
            have t3 : decide (j ≤ L.length + 1) = false := by simpa using hle
            have t4 : ¬ (j : Int) ≤ (L.length : Int) + 1 := by omega
            cases f with
            | true =>
              obtain rfl : true = m := (HR.out.minted (HF.out rfl)).symm
              go_wp2_with fail
              refine HCNT.out.mono ?_
              rintro e v9 ⟨rfl, rfl⟩
              go_wp2
              go_ret
              exact ⟨rfl, (HQ.out.trans (HV8.out.mono HQ.out.size))⟩
            | false =>
              go_wp2_with fail
              refine HCNT.out.mono ?_
              rintro e v9 ⟨rfl, rfl⟩
              go_wp2
              go_ret
              exact ⟨rfl, (HQ.out.trans (HV8.out.mono HQ.out.size))⟩
    · have HLN : Hid (L.length ≤ 101) := Lib.hid (by have := HR.out.len; omega)
      obtain ⟨b1, b2⟩ := box_cells HY.out HB.out
      go_wp2_with fail
      refine (check_b nb _ L p0 A0 n0 c0 1 z0 _ HN.out (by have := HLN.out; omega) (HT0.out _ HB.out) (by omega) 0 (by rw [HR.out.check, if_pos rfl])).mono ?_
      rintro e v6 ⟨rfl, q6, rfl⟩
      go_wp2_with fail
      refine (check_b nb _ L p1 A1 n1 c1 1 z1 _ (HN.out.drewN _) (by have := HLN.out; omega) ((HT1.out _ HB.out).drewN _) (by omega) 12 (by have h := HCK.out HR.out; rw [HO.out] at h; exact h)).mono ?_
      rintro e v7 ⟨rfl, q7, rfl⟩
      have HN7 : Hid (Nota ((wr.drewN q6).drewN q7) (W0.heap.size ≤ ·) nb L) := Lib.hid ((HN.out.drewN _).drewN _)
      have HV7 : Hid (Below W0.heap.size W0 ((wr.drewN q6).drewN q7)) := Lib.hid (below_drewN' (below_drewN' HB.out _) _)
      generalize (wr.drewN q6).drewN q7 = v7 at *
      clear b1 b2
      go_wp2
      go_loopw [15, 16] (fun ff i wx => ∃ (j : Nat) (f : Bool), j ≤ 103 ∧ i = .int .i64 j ∧ ff = .bool f ∧ Nota wx (W0.heap.size ≤ ·) nb L ∧ Fnd f o L ∧ Below W0.heap.size W0 wx) (fun _ i _ => 103 - (intOf i).toNat)
      case atStart => exact ⟨0, false, by omega, rfl, rfl, HN7.out, (fun h => by cases h), HV7.out⟩
      case round =>
        obtain ⟨j, f, hj, rfl, rfl, hN, hF, hB⟩ := hrel
        have HN8 := Lib.hid hN; have HF := Lib.hid hF; have HV8 := Lib.hid hB; clear hN hF hB
        have hln : L.length ≤ 101 := HLN.out
        have HCNT := Lib.hid (count_any nb _ L _ HN8.out (by have := HLN.out; omega))
        by_cases hle : j ≤ L.length + 1
        · have t2 : decide ((j : Int) ≤ (L.length : Int) + 1) = true := by simp; omega
          have t3 : decide (j ≤ L.length + 1) = true := by simpa using hle
          obtain ⟨b1, b2⟩ := box_cells HY.out HV8.out
          cases f with
          | true =>
            go_wp2_with fail
            refine HCNT.out.mono ?_
            rintro e v9 ⟨rfl, rfl⟩
            go_wp2
            go_roundw
            case rel => exact ⟨j + 1, true, by have := HLN.out; omega, by go_num, rfl, HN8.out, HF.out, HV8.out⟩
            case measure => simp [intOf]; have := HLN.out; omega
          | false =>
            rcases checkL_two L o j with ⟨hc, hmem⟩ | hc
            · have HMEM := Lib.hid hmem; have HC := Lib.hid hc; clear hc hmem
              go_wp2_with fail
              refine HCNT.out.mono ?_
              rintro e v9 ⟨rfl, rfl⟩
              go_wp2_with fail
              refine (check_b nb _ L p1 A1 n1 c1 j z1 _ HN8.out (by have := HLN.out; omega) (HT1.out _ HV8.out) (by omega) 0 (by have h := HC.out; rw [HO.out] at h; exact h)).mono ?_
              rintro e v9 ⟨rfl, q9, rfl⟩
              go_wp2
              go_roundw
              case rel => exact ⟨j + 1, true, by have := HLN.out; omega, by go_num, rfl, HN8.out.drewN _, fun _ => HMEM.out, below_drewN' HV8.out _⟩
              case measure => simp [intOf]; have := HLN.out; omega
            · have HC := Lib.hid hc; clear hc
              go_wp2_with fail
              refine HCNT.out.mono ?_
              rintro e v9 ⟨rfl, rfl⟩
              go_wp2_with fail
              refine (check_b nb _ L p1 A1 n1 c1 j z1 _ HN8.out (by have := HLN.out; omega) (HT1.out _ HV8.out) (by omega) 12 (by have h := HC.out; rw [HO.out] at h; exact h)).mono ?_
              rintro e v9 ⟨rfl, q9, rfl⟩
              go_wp2
              go_roundw
              case rel => exact ⟨j + 1, false, by have := HLN.out; omega, by go_num, rfl, HN8.out.drewN _, HF.out, below_drewN' HV8.out _⟩
              case measure => simp [intOf]; have := HLN.out; omega
        · have t2 : decide ((j : Int) ≤ (L.length : Int) + 1) = false := by simp; omega
          have t3 : decide (j ≤ L.length + 1) = false := by simpa using hle
          have t4 : ¬ (j : Int) ≤ (L.length : Int) + 1 := by omega
          cases f with
          | true =>
            obtain rfl : true = m := (HR.out.minted (HF.out rfl)).symm
            go_wp2_with fail
            refine HCNT.out.mono ?_
            rintro e v9 ⟨rfl, rfl⟩
            go_wp2
            go_ret
            exact ⟨rfl, (HQ.out.trans (HV8.out.mono HQ.out.size))⟩
          | false =>
            go_wp2_with fail
            refine HCNT.out.mono ?_
            rintro e v9 ⟨rfl, rfl⟩
            go_wp2
            go_ret
            exact ⟨rfl, (HQ.out.trans (HV8.out.mono HQ.out.size))⟩

set_option maxRecDepth 100000 in
set_option maxHeartbeats 8000000 in
theorem core_nz0 (k0 : Bool) (p0 : Int) (z0 : List Int) (t0 : Nat) (A0 : Option Addr) (n0 c0 : Nat) (k1 : Bool) (z1 : List Int) (t1 : Nat) (A1 : Option Addr) (n1 c1 : Nat) (A2 : Option Addr) (c2 : Nat) (w : World) (hb0 : Bts w A0 n0 z0) (hb1 : Bts w A1 n1 z1) (hnc0 : n0 ≤ c0) (hc0 : c0 ≤ 9223372036854775807) (hnc1 : n1 ≤ c1) (hc1 : c1 ≤ 9223372036854775807) (hD : IsDos w (.slice A2 ([] : List Step).length c2) [])
    (hm2 : ([] : List Step).length ≤ 9223372036854775807) (hpa : 1 ≤ p0) (hpb : p0 ≤ 2147483647) (hn0 : n0 ≤ 200) (hn1 : n1 ≤ 200) (hsm : smallL ([] : List Step) = true) (hne : ¬ z1 = z0)  :
    Calls Try.prog 4 #[.agg #[.bool k0, .int .i64 p0, .slice A0 n0 c0, .int .u64 (t0 : Int)], .agg #[.bool k1, .int .i64 p0, .slice A1 n1 c1, .int .u64 (t1 : Int)], .slice A2 ([] : List Step).length c2] w fun e w' => e = .returned (.bool true) ∧ Below w.heap.size w w' := by
  have HB0 := Lib.hid hb0; have HB1 := Lib.hid hb1; have HD := Lib.hid hD; have HSM := Lib.hid hsm; clear hb0 hb1 hsm
  obtain ⟨o, ho⟩ : ∃ o : Item, o = (p0, z1) := ⟨_, rfl⟩
  have HO := Lib.hid ho; clear ho
  clear hD
  go_enter Try.func4, Try.ntmps4
  go_wp2_with fail
  refine (awake_any _).mono ?_
  rintro e v1 ⟨rfl, hb⟩
  have HV1 := Lib.hid hb; clear hb
  obtain ⟨hQ, hz, hx, hy⟩ := boxes w #[.bool k0, .int .i64 p0, .slice A0 n0 c0, .int .u64 (t0 : Int)] #[.bool k1, .int .i64 p0, .slice A1 n1 c1, .int .u64 (t1 : Int)]
  generalize (w.alloc (.cells #[.bool k0, .int .i64 p0, .slice A0 n0 c0, .int .u64 (t0 : Int)] 34)).alloc (.cells #[.bool k1, .int .i64 p0, .slice A1 n1 c1, .int .u64 (t1 : Int)] 34) = W0 at *
  have HQ := Lib.hid hQ; have HZ := Lib.hid hz; have HX := Lib.hid hx; have HY := Lib.hid hy; clear hQ hz hx hy
  have HT0 : Hid (∀ W, Below W0.heap.size W0 W → Bts W A0 n0 z0) := Lib.hid (fun W hb => (HB0.out.below HQ.out).below hb)
  have HT1 : Hid (∀ W, Below W0.heap.size W0 W → Bts W A1 n1 z1) := Lib.hid (fun W hb => (HB1.out.below HQ.out).below hb)
  obtain ⟨a1, a2⟩ := box_cells HX.out HV1.out
  obtain ⟨b1, b2⟩ := box_cells HY.out HV1.out
  go_wp2_with fail
  refine (small_any _ [] _ (HD.out.below (HQ.out.trans (HV1.out.mono HQ.out.size))) true HSM.out).mono ?_
  rintro e v2 ⟨rfl, rfl⟩
  go_wp2_with fail
  refine (new_any _).mono ?_
  rintro e v2 ⟨nb, rfl, hN2, hb2⟩
  have HN2 : Hid (Nota v2 (W0.heap.size ≤ ·) nb []) := Lib.hid (hN2.mono (fun k hk => Nat.le_trans HV1.out.size hk))
  have HV2 : Hid (Below W0.heap.size W0 v2) := Lib.hid (HV1.out.trans (hb2.mono HV1.out.size)); clear hb2 hN2
  clear a1 a2 b1 b2
  go_wp2_with fail
  refine (mint_b W0.heap.size nb [] p0 A0 n0 c0 z0 _ HN2.out HV2.out.size ⟨hpa, hpb⟩ hnc0 (by unfold maxLen; omega) (HT0.out _ HV2.out) (by simp) 1 [(p0, z0)] rfl rfl).mono ?_
  rintro e v3 ⟨rfl, hN3, hb3⟩
  have HN3 := Lib.hid hN3; have HV3 : Hid (Below W0.heap.size W0 v3) := Lib.hid (HV2.out.trans hb3); clear hN3 hb3
  obtain ⟨b1, b2⟩ := box_cells HY.out HV3.out
  have hcv0 := conv_str (c := c0) (HT0.out _ HV3.out)
  have hcv1 := conv_str (c := c1) (HT1.out _ HV3.out)
  have t1 : ((str z1).toList == (str z0).toList) = false := by rw [beq_eq_false_iff_ne]; exact fun e => hne (str_toList (HT1.out _ HV3.out).bd (HT0.out _ HV3.out).bd e)
  have HNE : Hid (¬ (p0, z0) = o) := Lib.hid (fun e => hne (by rw [HO.out] at e; simp only [Prod.mk.injEq] at e; exact e.2.symm))
  clear hne
  have HCK : Hid (∀ {k : Nat} {L : List Item} {m : Bool}, Run (p0, z0) o k L m → checkL L o 1 = 12) := Lib.hid (fun hR => by rw [hR.check, if_neg HNE.out])
  have HST : Hid (Run (p0, z0) o 0 [(p0, z0)] false) := Lib.hid (Run.start _ _ _ (fun e => absurd e HNE.out))
  go_wp2
  clear t1 hcv0 hcv1 b1 b2
  refine wp_loop_rounds 1 ?_
  rw [rounds_succ]
  have HLN : Hid ([(p0, z0)].length ≤ 101) := Lib.hid (by simp)
  obtain ⟨b1, b2⟩ := box_cells HY.out HV3.out
  go_wp2_with fail
  refine (check_b nb _ [(p0, z0)] p0 A0 n0 c0 1 z0 _ HN3.out (by have := HLN.out; omega) (HT0.out _ HV3.out) (by omega) 0 (by rw [HST.out.check, if_pos rfl])).mono ?_
  rintro e v6 ⟨rfl, q6, rfl⟩
  go_wp2_with fail
  refine (check_b nb _ [(p0, z0)] p0 A1 n1 c1 1 z1 _ (HN3.out.drewN _) (by have := HLN.out; omega) ((HT1.out _ HV3.out).drewN _) (by omega) 12 (by have h := HCK.out HST.out; rw [HO.out] at h; exact h)).mono ?_
  rintro e v7 ⟨rfl, q7, rfl⟩
  have HN7 : Hid (Nota ((v3.drewN q6).drewN q7) (W0.heap.size ≤ ·) nb [(p0, z0)]) := Lib.hid ((HN3.out.drewN _).drewN _)
  have HV7 : Hid (Below W0.heap.size W0 ((v3.drewN q6).drewN q7)) := Lib.hid (below_drewN' (below_drewN' HV3.out _) _)
  generalize (v3.drewN q6).drewN q7 = v7 at *
  clear b1 b2
  go_wp2
  go_loopw [15, 16] (fun ff i wx => ∃ (j : Nat) (f : Bool), j ≤ 103 ∧ i = .int .i64 j ∧ ff = .bool f ∧ Nota wx (W0.heap.size ≤ ·) nb [(p0, z0)] ∧ Fnd f o [(p0, z0)] ∧ Below W0.heap.size W0 wx) (fun _ i _ => 103 - (intOf i).toNat)
  case atStart => exact ⟨0, false, by omega, rfl, rfl, HN7.out, (fun h => by cases h), HV7.out⟩
  case round =>
    obtain ⟨j, f, hj, rfl, rfl, hN, hF, hB⟩ := hrel
    have HN8 := Lib.hid hN; have HF := Lib.hid hF; have HV8 := Lib.hid hB; clear hN hF hB
    have hln : [(p0, z0)].length ≤ 101 := HLN.out
    have HCNT := Lib.hid (count_any nb _ [(p0, z0)] _ HN8.out (by have := HLN.out; omega))
    by_cases hle : j ≤ 1 + 1
    · have t2 : decide ((j : Int) ≤ (1 : Int) + 1) = true := by simp; omega
      have t3 : decide (j ≤ 1 + 1) = true := by simpa using hle
      obtain ⟨b1, b2⟩ := box_cells HY.out HV8.out
      cases f with
      | true =>
        go_wp2_with fail
        refine HCNT.out.mono ?_
        rintro e v9 ⟨rfl, rfl⟩
        go_wp2
        go_roundw
        case rel => exact ⟨j + 1, true, by have := HLN.out; omega, by go_num, rfl, HN8.out, HF.out, HV8.out⟩
        case measure => simp [intOf]; have := HLN.out; omega
      | false =>
        rcases checkL_two [(p0, z0)] o j with ⟨hc, hmem⟩ | hc
        · have HMEM := Lib.hid hmem; have HC := Lib.hid hc; clear hc hmem
          go_wp2_with fail
          refine HCNT.out.mono ?_
          rintro e v9 ⟨rfl, rfl⟩
          go_wp2_with fail
          refine (check_b nb _ [(p0, z0)] p0 A1 n1 c1 j z1 _ HN8.out (by have := HLN.out; omega) (HT1.out _ HV8.out) (by omega) 0 (by have h := HC.out; rw [HO.out] at h; exact h)).mono ?_
          rintro e v9 ⟨rfl, q9, rfl⟩
          go_wp2
          go_roundw
          case rel => exact ⟨j + 1, true, by have := HLN.out; omega, by go_num, rfl, HN8.out.drewN _, fun _ => HMEM.out, below_drewN' HV8.out _⟩
          case measure => simp [intOf]; have := HLN.out; omega
        · have HC := Lib.hid hc; clear hc
          go_wp2_with fail
          refine HCNT.out.mono ?_
          rintro e v9 ⟨rfl, rfl⟩
          go_wp2_with fail
          refine (check_b nb _ [(p0, z0)] p0 A1 n1 c1 j z1 _ HN8.out (by have := HLN.out; omega) (HT1.out _ HV8.out) (by omega) 12 (by have h := HC.out; rw [HO.out] at h; exact h)).mono ?_
          rintro e v9 ⟨rfl, q9, rfl⟩
          go_wp2
          go_roundw
          case rel => exact ⟨j + 1, false, by have := HLN.out; omega, by go_num, rfl, HN8.out.drewN _, HF.out, below_drewN' HV8.out _⟩
          case measure => simp [intOf]; have := HLN.out; omega
    · have t2 : decide ((j : Int) ≤ (1 : Int) + 1) = false := by simp; omega
      have t3 : decide (j ≤ 1 + 1) = false := by simpa using hle
      have t4 : ¬ (j : Int) ≤ (1 : Int) + 1 := by omega
      cases f with
      | true =>
        exfalso; have := HST.out.minted (HF.out rfl); cases this
      | false =>
        go_wp2_with fail
        refine HCNT.out.mono ?_
        rintro e v9 ⟨rfl, rfl⟩
        go_wp2
        go_ret
        exact ⟨rfl, (HQ.out.trans (HV8.out.mono HQ.out.size))⟩

set_option maxRecDepth 100000 in
set_option maxHeartbeats 8000000 in
theorem core_nz (k0 : Bool) (p0 : Int) (z0 : List Int) (t0 : Nat) (A0 : Option Addr) (n0 c0 : Nat) (k1 : Bool) (z1 : List Int) (t1 : Nat) (A1 : Option Addr) (n1 c1 : Nat) (s2 : List Step) (A2 : Option Addr) (c2 : Nat) (w : World) (hb0 : Bts w A0 n0 z0) (hb1 : Bts w A1 n1 z1) (hnc0 : n0 ≤ c0) (hc0 : c0 ≤ 9223372036854775807) (hnc1 : n1 ≤ c1) (hc1 : c1 ≤ 9223372036854775807) (hD : IsDos w (.slice A2 s2.length c2) s2)
    (hm2 : s2.length ≤ 9223372036854775807) (hpa : 1 ≤ p0) (hpb : p0 ≤ 2147483647) (hn0 : n0 ≤ 200) (hn1 : n1 ≤ 200) (hsm : smallL s2 = true) (hne : ¬ z1 = z0) (hz2 : 0 < s2.length) :
    Calls Try.prog 4 #[.agg #[.bool k0, .int .i64 p0, .slice A0 n0 c0, .int .u64 (t0 : Int)], .agg #[.bool k1, .int .i64 p0, .slice A1 n1 c1, .int .u64 (t1 : Int)], .slice A2 s2.length c2] w fun e w' => e = .returned (.bool true) ∧ Below w.heap.size w w' := by
  have HB0 := Lib.hid hb0; have HB1 := Lib.hid hb1; have HD := Lib.hid hD; have HSM := Lib.hid hsm; clear hb0 hb1 hsm
  obtain ⟨o, ho⟩ : ∃ o : Item, o = (p0, z1) := ⟨_, rfl⟩
  have HO := Lib.hid ho; clear ho
  obtain ⟨_, _, hAA, _, _, hd2⟩ := hD
  simp only [Value.slice.injEq] at hAA
  obtain ⟨rfl, _, rfl⟩ := hAA
  obtain ⟨b, off, rfl, hb, hdd⟩ := hd2 hz2
  have HDD := Lib.hid hdd; clear hdd hd2
  go_enter Try.func4, Try.ntmps4
  go_wp2_with fail
  refine (awake_any _).mono ?_
  rintro e v1 ⟨rfl, hb⟩
  have HV1 := Lib.hid hb; clear hb
  obtain ⟨hQ, hz, hx, hy⟩ := boxes w #[.bool k0, .int .i64 p0, .slice A0 n0 c0, .int .u64 (t0 : Int)] #[.bool k1, .int .i64 p0, .slice A1 n1 c1, .int .u64 (t1 : Int)]
  generalize (w.alloc (.cells #[.bool k0, .int .i64 p0, .slice A0 n0 c0, .int .u64 (t0 : Int)] 34)).alloc (.cells #[.bool k1, .int .i64 p0, .slice A1 n1 c1, .int .u64 (t1 : Int)] 34) = W0 at *
  have HQ := Lib.hid hQ; have HZ := Lib.hid hz; have HX := Lib.hid hx; have HY := Lib.hid hy; clear hQ hz hx hy
  have HT0 : Hid (∀ W, Below W0.heap.size W0 W → Bts W A0 n0 z0) := Lib.hid (fun W hb => (HB0.out.below HQ.out).below hb)
  have HT1 : Hid (∀ W, Below W0.heap.size W0 W → Bts W A1 n1 z1) := Lib.hid (fun W hb => (HB1.out.below HQ.out).below hb)
  obtain ⟨a1, a2⟩ := box_cells HX.out HV1.out
  obtain ⟨b1, b2⟩ := box_cells HY.out HV1.out
  go_wp2_with fail
  refine (small_any _ s2 _ (HD.out.below (HQ.out.trans (HV1.out.mono HQ.out.size))) true HSM.out).mono ?_
  rintro e v2 ⟨rfl, rfl⟩
  go_wp2_with fail
  refine (new_any _).mono ?_
  rintro e v2 ⟨nb, rfl, hN2, hb2⟩
  have HN2 : Hid (Nota v2 (W0.heap.size ≤ ·) nb []) := Lib.hid (hN2.mono (fun k hk => Nat.le_trans HV1.out.size hk))
  have HV2 : Hid (Below W0.heap.size W0 v2) := Lib.hid (HV1.out.trans (hb2.mono HV1.out.size)); clear hb2 hN2
  clear a1 a2 b1 b2
  go_wp2_with fail
  refine (mint_b W0.heap.size nb [] p0 A0 n0 c0 z0 _ HN2.out HV2.out.size ⟨hpa, hpb⟩ hnc0 (by unfold maxLen; omega) (HT0.out _ HV2.out) (by simp) 1 [(p0, z0)] rfl rfl).mono ?_
  rintro e v3 ⟨rfl, hN3, hb3⟩
  have HN3 := Lib.hid hN3; have HV3 : Hid (Below W0.heap.size W0 v3) := Lib.hid (HV2.out.trans hb3); clear hN3 hb3
  obtain ⟨b1, b2⟩ := box_cells HY.out HV3.out
  have hcv0 := conv_str (c := c0) (HT0.out _ HV3.out)
  have hcv1 := conv_str (c := c1) (HT1.out _ HV3.out)
  have t1 : ((str z1).toList == (str z0).toList) = false := by rw [beq_eq_false_iff_ne]; exact fun e => hne (str_toList (HT1.out _ HV3.out).bd (HT0.out _ HV3.out).bd e)
  have HNE : Hid (¬ (p0, z0) = o) := Lib.hid (fun e => hne (by rw [HO.out] at e; simp only [Prod.mk.injEq] at e; exact e.2.symm))
  clear hne
  have HCK : Hid (∀ {k : Nat} {L : List Item} {m : Bool}, Run (p0, z0) o k L m → checkL L o 1 = 12) := Lib.hid (fun hR => by rw [hR.check, if_neg HNE.out])
  have HST : Hid (Run (p0, z0) o 0 [(p0, z0)] false) := Lib.hid (Run.start _ _ _ (fun e => absurd e HNE.out))
  go_wp2
  clear t1 hcv0 hcv1 b1 b2
  go_loopw [13, 14] (fun mm i wr => ∃ (k : Nat) (L : List Item) (m : Bool), k ≤ s2.length ∧ k ≤ 100 ∧ i = .int .i64 k ∧ mm = .bool m ∧ Nota wr (W0.heap.size ≤ ·) nb L ∧ Run (p0, z0) o k L m ∧ Below W0.heap.size W0 wr) (fun _ i _ => s2.length - (intOf i).toNat)
  case atStart => exact ⟨0, _, _, by omega, by omega, rfl, rfl, HN3.out, HST.out, HV3.out⟩
  case round =>
    rename_i mm i wr
    obtain ⟨k, L, m, hk, hk2, rfl, rfl, hN, hR, hB⟩ := hrel
    have HN := Lib.hid hN; have HR := Lib.hid hR; have HB := Lib.hid hB; clear hN hR hB
    by_cases h1 : k < s2.length
    · by_cases h2 : k < 100
      · obtain ⟨Ak, nk, ck, d0, d1, d2, d3, hbt, hnck, hck, hwf, _, hbl⟩ := (((HDD.out k h1).below HQ.out).below HB.out).parts
        have HTKa : ∀ W, Below W0.heap.size W0 W → Bts W Ak nk (s2.getD k default).text := fun W hW => by
          obtain ⟨A', n', c', _, _, f2, _, hbt', _⟩ := ((HDD.out k h1).below HQ.out).parts
          have f2' := (HB.out.cell (p := ⟨b, off + k * 4 + 2, none⟩) (Nat.lt_of_lt_of_le hb HQ.out.size)).trans f2
          rw [d2] at f2'
          simp only [Option.some.injEq, Value.slice.injEq] at f2'
          obtain ⟨rfl, rfl, rfl⟩ := f2'
          exact hbt'.below hW
        obtain ⟨dk, hdk⟩ : ∃ d, s2.getD k default = d := ⟨_, rfl⟩
        rw [hdk] at d0 d1 d3 hbt hwf HTKa
        clear hdk
        obtain ⟨kk, pk, zk, tk⟩ := dk
        simp only at d0 d1 d3 hbt hwf HTKa
        have HBT := Lib.hid hbt; clear hbt hwf
        have HBW : Hid (b < W0.heap.size) := Lib.hid (Nat.lt_of_lt_of_le hb HQ.out.size)
        have HTK : Hid (∀ W, Below W0.heap.size W0 W → Bts W Ak nk zk) := Lib.hid HTKa
        cases kk with
        | true =>
          go_wp2
          go_roundw
          case rel => exact ⟨k + 1, L, m, by omega, by omega, by go_num, rfl, HN.out, HR.out.skip m id, HB.out⟩
          case measure => simp [intOf]; omega
        | false =>
          cases m with
          | true =>
            go_wp2
            go_still_tail 11, (by kernel_rfl)
            go_wp2_with fail
            refine (mint_x W0.heap.size nb L pk Ak nk ck zk _ (HN.out.drewN 1) HB.out.size hnck hck (HBT.out.drewN 1) (by have := HR.out.len; omega)).mono ?_
            rintro e v5 ⟨t5, r5, L5, rfl, hL5, hN5, hb5⟩
            have HV5 : Hid (Below W0.heap.size W0 v5) := Lib.hid ((below_drewN' HB.out 1).trans hb5)
            have HL5 := Lib.hid hL5; have HN5 := Lib.hid hN5; clear hL5 hN5
            obtain ⟨b1, b2⟩ := box_cells HY.out HV5.out
            have e1 : v5.cell? ⟨b, off + k * 4 + 1, none⟩ = some (.int .i64 pk) := (hb5.cell (p := ⟨b, off + k * 4 + 1, none⟩) HBW.out).trans d1
            have e2 : v5.cell? ⟨b, off + k * 4 + 2, none⟩ = some (.slice Ak nk ck) := (hb5.cell (p := ⟨b, off + k * 4 + 2, none⟩) HBW.out).trans d2
            have HBT5 := Lib.hid (HTK.out _ HV5.out)
            clear hb5 d0 d1 d2 d3
            go_wp2
            go_quiet (fail)
            go_wp2
            go_roundw
            case rel => exact ⟨k + 1, L5, true, by omega, by omega, by go_num, rfl, HN5.out.drewN _, HR.out.step HL5.out true (fun _ => rfl) (fun _ => rfl), below_drewN' HV5.out _⟩
            case measure => simp [intOf]; omega
          | false =>
            by_cases hqp : pk = o.1
            · have HQP := Lib.hid hqp
              have hqq : pk = p0 := by rw [hqp, HO.out]
              by_cases hqz : zk = z1
              · have HQZ := Lib.hid hqz
                have HYO : Hid ((pk, zk) = o) := Lib.hid (by rw [HO.out, hqq, hqz])
                obtain rfl : z1 = zk := hqz.symm
                clear hqp
                obtain rfl : p0 = pk := hqq.symm
                go_wp2
                go_still_tail 11, (by kernel_rfl)
                go_wp2_with fail
                refine (mint_x W0.heap.size nb L p0 Ak nk ck z1 _ (HN.out.drewN 1) HB.out.size hnck hck (HBT.out.drewN 1) (by have := HR.out.len; omega)).mono ?_
                rintro e v5 ⟨t5, r5, L5, rfl, hL5, hN5, hb5⟩
                have HV5 : Hid (Below W0.heap.size W0 v5) := Lib.hid ((below_drewN' HB.out 1).trans hb5)
                have HL5 := Lib.hid hL5; have HN5 := Lib.hid hN5; clear hL5 hN5
                obtain ⟨b1, b2⟩ := box_cells HY.out HV5.out
                have e1 : v5.cell? ⟨b, off + k * 4 + 1, none⟩ = some (.int .i64 p0) := (hb5.cell (p := ⟨b, off + k * 4 + 1, none⟩) HBW.out).trans d1
                have e2 : v5.cell? ⟨b, off + k * 4 + 2, none⟩ = some (.slice Ak nk ck) := (hb5.cell (p := ⟨b, off + k * 4 + 2, none⟩) HBW.out).trans d2
                have HBT5 := Lib.hid (HTK.out _ HV5.out)
                clear hb5 d0 d1 d2 d3
                have hcvk : ∀ q, (convert 31 9 (.slice Ak nk ck)).run Try.prog (v5.drewN q) = .ok (.string (str z1)) (v5.drewN q) := fun q => conv_str (HBT5.out.drewN q)
                have hcvo : ∀ q, (convert 31 9 (.slice A1 n1 c1)).run Try.prog (v5.drewN q) = .ok (.string (str z1)) (v5.drewN q) := fun q => conv_str ((HT1.out _ HV5.out).drewN q)
                go_wp2
                go_quiet (fail)
                go_wp2
                go_roundw
                case rel => exact ⟨k + 1, L5, true, by omega, by omega, by go_num, rfl, HN5.out.drewN _, HR.out.step HL5.out true (fun _ => rfl) (fun _ => rfl), below_drewN' HV5.out _⟩
                case measure => simp [intOf]; omega
              · have HYO : Hid (¬ (pk, zk) = o) := Lib.hid (fun e => hqz (by rw [HO.out] at e; simp only [Prod.mk.injEq] at e; exact e.2))
                have HQZ := Lib.hid hqz
                clear hqp hqz
                obtain rfl : p0 = pk := hqq.symm
                go_wp2
                go_still_tail 11, (by kernel_rfl)
                go_wp2_with fail
                refine (mint_x W0.heap.size nb L p0 Ak nk ck zk _ (HN.out.drewN 1) HB.out.size hnck hck (HBT.out.drewN 1) (by have := HR.out.len; omega)).mono ?_
                rintro e v5 ⟨t5, r5, L5, rfl, hL5, hN5, hb5⟩
                have HV5 : Hid (Below W0.heap.size W0 v5) := Lib.hid ((below_drewN' HB.out 1).trans hb5)
                have HL5 := Lib.hid hL5; have HN5 := Lib.hid hN5; clear hL5 hN5
                obtain ⟨b1, b2⟩ := box_cells HY.out HV5.out
                have e1 : v5.cell? ⟨b, off + k * 4 + 1, none⟩ = some (.int .i64 p0) := (hb5.cell (p := ⟨b, off + k * 4 + 1, none⟩) HBW.out).trans d1
                have e2 : v5.cell? ⟨b, off + k * 4 + 2, none⟩ = some (.slice Ak nk ck) := (hb5.cell (p := ⟨b, off + k * 4 + 2, none⟩) HBW.out).trans d2
                have HBT5 := Lib.hid (HTK.out _ HV5.out)
                clear hb5 d0 d1 d2 d3
                have hcvk : ∀ q, (convert 31 9 (.slice Ak nk ck)).run Try.prog (v5.drewN q) = .ok (.string (str zk)) (v5.drewN q) := fun q => conv_str (HBT5.out.drewN q)
                have hcvo : ∀ q, (convert 31 9 (.slice A1 n1 c1)).run Try.prog (v5.drewN q) = .ok (.string (str z1)) (v5.drewN q) := fun q => conv_str ((HT1.out _ HV5.out).drewN q)
                have h3 : ((str zk).toList == (str z1).toList) = false := by rw [beq_eq_false_iff_ne]; exact fun e => HQZ.out (str_toList HBT5.out.bd (HT1.out _ HV5.out).bd e)
                go_wp2
                go_quiet (fail)
                go_wp2
                go_roundw
                case rel => exact ⟨k + 1, L5, false, by omega, by omega, by go_num, rfl, HN5.out.drewN _, HR.out.step HL5.out false (fun h => h) (fun h => absurd h HYO.out), below_drewN' HV5.out _⟩
                case measure => simp [intOf]; omega
            · have HYO : Hid (¬ (pk, zk) = o) := Lib.hid (fun e => hqp (by rw [← e]))
              have hqq : (pk == p0) = false := by rw [HO.out] at hqp; simpa using hqp
              clear hqp
              go_wp2
              go_still_tail 11, (by kernel_rfl)
              go_wp2_with fail
              refine (mint_x W0.heap.size nb L pk Ak nk ck zk _ (HN.out.drewN 1) HB.out.size hnck hck (HBT.out.drewN 1) (by have := HR.out.len; omega)).mono ?_
              rintro e v5 ⟨t5, r5, L5, rfl, hL5, hN5, hb5⟩
              have HV5 : Hid (Below W0.heap.size W0 v5) := Lib.hid ((below_drewN' HB.out 1).trans hb5)
              have HL5 := Lib.hid hL5; have HN5 := Lib.hid hN5; clear hL5 hN5
              obtain ⟨b1, b2⟩ := box_cells HY.out HV5.out
              have e1 : v5.cell? ⟨b, off + k * 4 + 1, none⟩ = some (.int .i64 pk) := (hb5.cell (p := ⟨b, off + k * 4 + 1, none⟩) HBW.out).trans d1
              have e2 : v5.cell? ⟨b, off + k * 4 + 2, none⟩ = some (.slice Ak nk ck) := (hb5.cell (p := ⟨b, off + k * 4 + 2, none⟩) HBW.out).trans d2
              have HBT5 := Lib.hid (HTK.out _ HV5.out)
              clear hb5 d0 d1 d2 d3
              go_wp2
              go_quiet (fail)
              go_wp2
              go_roundw
              case rel => exact ⟨k + 1, L5, false, by omega, by omega, by go_num, rfl, HN5.out.drewN _, HR.out.step HL5.out false (fun h => h) (fun h => absurd h HYO.out), below_drewN' HV5.out _⟩
              case measure => simp [intOf]; omega
      · have HLN : Hid (L.length ≤ 101) := Lib.hid (by have := HR.out.len; omega)
        obtain ⟨b1, b2⟩ := box_cells HY.out HB.out
        go_wp2_with fail
        refine (check_b nb _ L p0 A0 n0 c0 1 z0 _ HN.out (by have := HLN.out; omega) (HT0.out _ HB.out) (by omega) 0 (by rw [HR.out.check, if_pos rfl])).mono ?_
        rintro e v6 ⟨rfl, q6, rfl⟩
        go_wp2_with fail
        refine (check_b nb _ L p0 A1 n1 c1 1 z1 _ (HN.out.drewN _) (by have := HLN.out; omega) ((HT1.out _ HB.out).drewN _) (by omega) 12 (by have h := HCK.out HR.out; rw [HO.out] at h; exact h)).mono ?_
        rintro e v7 ⟨rfl, q7, rfl⟩
        have HN7 : Hid (Nota ((wr.drewN q6).drewN q7) (W0.heap.size ≤ ·) nb L) := Lib.hid ((HN.out.drewN _).drewN _)
        have HV7 : Hid (Below W0.heap.size W0 ((wr.drewN q6).drewN q7)) := Lib.hid (below_drewN' (below_drewN' HB.out _) _)
        generalize (wr.drewN q6).drewN q7 = v7 at *
        clear b1 b2
        go_wp2
        go_loopw [15, 16] (fun ff i wx => ∃ (j : Nat) (f : Bool), j ≤ 103 ∧ i = .int .i64 j ∧ ff = .bool f ∧ Nota wx (W0.heap.size ≤ ·) nb L ∧ Fnd f o L ∧ Below W0.heap.size W0 wx) (fun _ i _ => 103 - (intOf i).toNat)
        case atStart => exact ⟨0, false, by omega, rfl, rfl, HN7.out, (fun h => by cases h), HV7.out⟩
        case round =>
          obtain ⟨j, f, hj, rfl, rfl, hN, hF, hB⟩ := hrel
          have HN8 := Lib.hid hN; have HF := Lib.hid hF; have HV8 := Lib.hid hB; clear hN hF hB
          have hln : L.length ≤ 101 := HLN.out
          have HCNT := Lib.hid (count_any nb _ L _ HN8.out (by have := HLN.out; omega))
          by_cases hle : j ≤ L.length + 1
          · have t2 : decide ((j : Int) ≤ (L.length : Int) + 1) = true := by simp; omega
            have t3 : decide (j ≤ L.length + 1) = true := by simpa using hle
            obtain ⟨b1, b2⟩ := box_cells HY.out HV8.out
            cases f with
            | true =>
              go_wp2_with fail
              refine HCNT.out.mono ?_
              rintro e v9 ⟨rfl, rfl⟩
              go_wp2
              go_roundw
              case rel => exact ⟨j + 1, true, by have := HLN.out; omega, by go_num, rfl, HN8.out, HF.out, HV8.out⟩
              case measure => simp [intOf]; have := HLN.out; omega
            | false =>
              rcases checkL_two L o j with ⟨hc, hmem⟩ | hc
              · have HMEM := Lib.hid hmem; have HC := Lib.hid hc; clear hc hmem
                go_wp2_with fail
                refine HCNT.out.mono ?_
                rintro e v9 ⟨rfl, rfl⟩
                go_wp2_with fail
                refine (check_b nb _ L p0 A1 n1 c1 j z1 _ HN8.out (by have := HLN.out; omega) (HT1.out _ HV8.out) (by omega) 0 (by have h := HC.out; rw [HO.out] at h; exact h)).mono ?_
                rintro e v9 ⟨rfl, q9, rfl⟩
                go_wp2
                go_roundw
                case rel => exact ⟨j + 1, true, by have := HLN.out; omega, by go_num, rfl, HN8.out.drewN _, fun _ => HMEM.out, below_drewN' HV8.out _⟩
                case measure => simp [intOf]; have := HLN.out; omega
              · have HC := Lib.hid hc; clear hc
                go_wp2_with fail
                refine HCNT.out.mono ?_
                rintro e v9 ⟨rfl, rfl⟩
                go_wp2_with fail
                refine (check_b nb _ L p0 A1 n1 c1 j z1 _ HN8.out (by have := HLN.out; omega) (HT1.out _ HV8.out) (by omega) 12 (by have h := HC.out; rw [HO.out] at h; exact h)).mono ?_
                rintro e v9 ⟨rfl, q9, rfl⟩
                go_wp2
                go_roundw
                case rel => exact ⟨j + 1, false, by have := HLN.out; omega, by go_num, rfl, HN8.out.drewN _, HF.out, below_drewN' HV8.out _⟩
                case measure => simp [intOf]; have := HLN.out; omega
          · have t2 : decide ((j : Int) ≤ (L.length : Int) + 1) = false := by simp; omega
            have t3 : decide (j ≤ L.length + 1) = false := by simpa using hle
            have t4 : ¬ (j : Int) ≤ (L.length : Int) + 1 := by omega
            cases f with
            | true =>
              obtain rfl : true = m := (HR.out.minted (HF.out rfl)).symm
              go_wp2_with fail
              refine HCNT.out.mono ?_
              rintro e v9 ⟨rfl, rfl⟩
              go_wp2
              go_ret
              exact ⟨rfl, (HQ.out.trans (HV8.out.mono HQ.out.size))⟩
            | false =>
              go_wp2_with fail
              refine HCNT.out.mono ?_
              rintro e v9 ⟨rfl, rfl⟩
              go_wp2
              go_ret
              exact ⟨rfl, (HQ.out.trans (HV8.out.mono HQ.out.size))⟩
    · have HLN : Hid (L.length ≤ 101) := Lib.hid (by have := HR.out.len; omega)
      obtain ⟨b1, b2⟩ := box_cells HY.out HB.out
      go_wp2_with fail
      refine (check_b nb _ L p0 A0 n0 c0 1 z0 _ HN.out (by have := HLN.out; omega) (HT0.out _ HB.out) (by omega) 0 (by rw [HR.out.check, if_pos rfl])).mono ?_
      rintro e v6 ⟨rfl, q6, rfl⟩
      go_wp2_with fail
      refine (check_b nb _ L p0 A1 n1 c1 1 z1 _ (HN.out.drewN _) (by have := HLN.out; omega) ((HT1.out _ HB.out).drewN _) (by omega) 12 (by have h := HCK.out HR.out; rw [HO.out] at h; exact h)).mono ?_
      rintro e v7 ⟨rfl, q7, rfl⟩
      have HN7 : Hid (Nota ((wr.drewN q6).drewN q7) (W0.heap.size ≤ ·) nb L) := Lib.hid ((HN.out.drewN _).drewN _)
      have HV7 : Hid (Below W0.heap.size W0 ((wr.drewN q6).drewN q7)) := Lib.hid (below_drewN' (below_drewN' HB.out _) _)
      generalize (wr.drewN q6).drewN q7 = v7 at *
      clear b1 b2
      go_wp2
      go_loopw [15, 16] (fun ff i wx => ∃ (j : Nat) (f : Bool), j ≤ 103 ∧ i = .int .i64 j ∧ ff = .bool f ∧ Nota wx (W0.heap.size ≤ ·) nb L ∧ Fnd f o L ∧ Below W0.heap.size W0 wx) (fun _ i _ => 103 - (intOf i).toNat)
      case atStart => exact ⟨0, false, by omega, rfl, rfl, HN7.out, (fun h => by cases h), HV7.out⟩
      case round =>
        obtain ⟨j, f, hj, rfl, rfl, hN, hF, hB⟩ := hrel
        have HN8 := Lib.hid hN; have HF := Lib.hid hF; have HV8 := Lib.hid hB; clear hN hF hB
        have hln : L.length ≤ 101 := HLN.out
        have HCNT := Lib.hid (count_any nb _ L _ HN8.out (by have := HLN.out; omega))
        by_cases hle : j ≤ L.length + 1
        · have t2 : decide ((j : Int) ≤ (L.length : Int) + 1) = true := by simp; omega
          have t3 : decide (j ≤ L.length + 1) = true := by simpa using hle
          obtain ⟨b1, b2⟩ := box_cells HY.out HV8.out
          cases f with
          | true =>
            go_wp2_with fail
            refine HCNT.out.mono ?_
            rintro e v9 ⟨rfl, rfl⟩
            go_wp2
            go_roundw
            case rel => exact ⟨j + 1, true, by have := HLN.out; omega, by go_num, rfl, HN8.out, HF.out, HV8.out⟩
            case measure => simp [intOf]; have := HLN.out; omega
          | false =>
            rcases checkL_two L o j with ⟨hc, hmem⟩ | hc
            · have HMEM := Lib.hid hmem; have HC := Lib.hid hc; clear hc hmem
              go_wp2_with fail
              refine HCNT.out.mono ?_
              rintro e v9 ⟨rfl, rfl⟩
              go_wp2_with fail
              refine (check_b nb _ L p0 A1 n1 c1 j z1 _ HN8.out (by have := HLN.out; omega) (HT1.out _ HV8.out) (by omega) 0 (by have h := HC.out; rw [HO.out] at h; exact h)).mono ?_
              rintro e v9 ⟨rfl, q9, rfl⟩
              go_wp2
              go_roundw
              case rel => exact ⟨j + 1, true, by have := HLN.out; omega, by go_num, rfl, HN8.out.drewN _, fun _ => HMEM.out, below_drewN' HV8.out _⟩
              case measure => simp [intOf]; have := HLN.out; omega
            · have HC := Lib.hid hc; clear hc
              go_wp2_with fail
              refine HCNT.out.mono ?_
              rintro e v9 ⟨rfl, rfl⟩
              go_wp2_with fail
              refine (check_b nb _ L p0 A1 n1 c1 j z1 _ HN8.out (by have := HLN.out; omega) (HT1.out _ HV8.out) (by omega) 12 (by have h := HC.out; rw [HO.out] at h; exact h)).mono ?_
              rintro e v9 ⟨rfl, q9, rfl⟩
              go_wp2
              go_roundw
              case rel => exact ⟨j + 1, false, by have := HLN.out; omega, by go_num, rfl, HN8.out.drewN _, HF.out, below_drewN' HV8.out _⟩
              case measure => simp [intOf]; have := HLN.out; omega
        · have t2 : decide ((j : Int) ≤ (L.length : Int) + 1) = false := by simp; omega
          have t3 : decide (j ≤ L.length + 1) = false := by simpa using hle
          have t4 : ¬ (j : Int) ≤ (L.length : Int) + 1 := by omega
          cases f with
          | true =>
            obtain rfl : true = m := (HR.out.minted (HF.out rfl)).symm
            go_wp2_with fail
            refine HCNT.out.mono ?_
            rintro e v9 ⟨rfl, rfl⟩
            go_wp2
            go_ret
            exact ⟨rfl, (HQ.out.trans (HV8.out.mono HQ.out.size))⟩
          | false =>
            go_wp2_with fail
            refine HCNT.out.mono ?_
            rintro e v9 ⟨rfl, rfl⟩
            go_wp2
            go_ret
            exact ⟨rfl, (HQ.out.trans (HV8.out.mono HQ.out.size))⟩

set_option maxRecDepth 100000 in
set_option maxHeartbeats 8000000 in
theorem core_eq0 (k0 : Bool) (p0 : Int) (z0 : List Int) (t0 : Nat) (A0 : Option Addr) (n0 c0 : Nat) (k1 : Bool) (t1 : Nat) (A1 : Option Addr) (n1 c1 : Nat) (A2 : Option Addr) (c2 : Nat) (w : World) (hb0 : Bts w A0 n0 z0) (hb1 : Bts w A1 n1 z0) (hnc0 : n0 ≤ c0) (hc0 : c0 ≤ 9223372036854775807) (hnc1 : n1 ≤ c1) (hc1 : c1 ≤ 9223372036854775807) (hD : IsDos w (.slice A2 ([] : List Step).length c2) [])
    (hm2 : ([] : List Step).length ≤ 9223372036854775807) (hpa : 1 ≤ p0) (hpb : p0 ≤ 2147483647) (hn0 : n0 ≤ 200) (hn1 : n1 ≤ 200) (hsm : smallL ([] : List Step) = true)   :
    Calls Try.prog 4 #[.agg #[.bool k0, .int .i64 p0, .slice A0 n0 c0, .int .u64 (t0 : Int)], .agg #[.bool k1, .int .i64 p0, .slice A1 n1 c1, .int .u64 (t1 : Int)], .slice A2 ([] : List Step).length c2] w fun e w' => e = .returned (.bool true) ∧ Below w.heap.size w w' := by
  have HB0 := Lib.hid hb0; have HB1 := Lib.hid hb1; have HD := Lib.hid hD; have HSM := Lib.hid hsm; clear hb0 hb1 hsm
  obtain ⟨o, ho⟩ : ∃ o : Item, o = (p0, z0) := ⟨_, rfl⟩
  have HO := Lib.hid ho; clear ho
  clear hD
  go_enter Try.func4, Try.ntmps4
  go_wp2_with fail
  refine (awake_any _).mono ?_
  rintro e v1 ⟨rfl, hb⟩
  have HV1 := Lib.hid hb; clear hb
  obtain ⟨hQ, hz, hx, hy⟩ := boxes w #[.bool k0, .int .i64 p0, .slice A0 n0 c0, .int .u64 (t0 : Int)] #[.bool k1, .int .i64 p0, .slice A1 n1 c1, .int .u64 (t1 : Int)]
  generalize (w.alloc (.cells #[.bool k0, .int .i64 p0, .slice A0 n0 c0, .int .u64 (t0 : Int)] 34)).alloc (.cells #[.bool k1, .int .i64 p0, .slice A1 n1 c1, .int .u64 (t1 : Int)] 34) = W0 at *
  have HQ := Lib.hid hQ; have HZ := Lib.hid hz; have HX := Lib.hid hx; have HY := Lib.hid hy; clear hQ hz hx hy
  have HT0 : Hid (∀ W, Below W0.heap.size W0 W → Bts W A0 n0 z0) := Lib.hid (fun W hb => (HB0.out.below HQ.out).below hb)
  have HT1 : Hid (∀ W, Below W0.heap.size W0 W → Bts W A1 n1 z0) := Lib.hid (fun W hb => (HB1.out.below HQ.out).below hb)
  obtain ⟨a1, a2⟩ := box_cells HX.out HV1.out
  obtain ⟨b1, b2⟩ := box_cells HY.out HV1.out
  go_wp2_with fail
  refine (small_any _ [] _ (HD.out.below (HQ.out.trans (HV1.out.mono HQ.out.size))) true HSM.out).mono ?_
  rintro e v2 ⟨rfl, rfl⟩
  go_wp2_with fail
  refine (new_any _).mono ?_
  rintro e v2 ⟨nb, rfl, hN2, hb2⟩
  have HN2 : Hid (Nota v2 (W0.heap.size ≤ ·) nb []) := Lib.hid (hN2.mono (fun k hk => Nat.le_trans HV1.out.size hk))
  have HV2 : Hid (Below W0.heap.size W0 v2) := Lib.hid (HV1.out.trans (hb2.mono HV1.out.size)); clear hb2 hN2
  clear a1 a2 b1 b2
  go_wp2_with fail
  refine (mint_b W0.heap.size nb [] p0 A0 n0 c0 z0 _ HN2.out HV2.out.size ⟨hpa, hpb⟩ hnc0 (by unfold maxLen; omega) (HT0.out _ HV2.out) (by simp) 1 [(p0, z0)] rfl rfl).mono ?_
  rintro e v3 ⟨rfl, hN3, hb3⟩
  have HN3 := Lib.hid hN3; have HV3 : Hid (Below W0.heap.size W0 v3) := Lib.hid (HV2.out.trans hb3); clear hN3 hb3
  obtain ⟨b1, b2⟩ := box_cells HY.out HV3.out
  have hcv0 := conv_str (c := c0) (HT0.out _ HV3.out)
  have hcv1 := conv_str (c := c1) (HT1.out _ HV3.out)
  have t1 : True := trivial
  have HNE : Hid ((p0, z0) = o) := Lib.hid HO.out.symm
  have HCK : Hid (∀ {k : Nat} {L : List Item} {m : Bool}, Run (p0, z0) o k L m → checkL L o 1 = 0) := Lib.hid (fun hR => by rw [hR.check, if_pos HNE.out])
  have HST : Hid (Run (p0, z0) o 0 [(p0, z0)] true) := Lib.hid (Run.start _ _ _ (fun e => rfl))
  go_wp2
  clear t1 hcv0 hcv1 b1 b2
  refine wp_loop_rounds 1 ?_
  rw [rounds_succ]
  have HLN : Hid ([(p0, z0)].length ≤ 101) := Lib.hid (by simp)
  obtain ⟨b1, b2⟩ := box_cells HY.out HV3.out
  go_wp2_with fail
  refine (check_b nb _ [(p0, z0)] p0 A0 n0 c0 1 z0 _ HN3.out (by have := HLN.out; omega) (HT0.out _ HV3.out) (by omega) 0 (by rw [HST.out.check, if_pos rfl])).mono ?_
  rintro e v6 ⟨rfl, q6, rfl⟩
  go_wp2_with fail
  refine (check_b nb _ [(p0, z0)] p0 A1 n1 c1 1 z0 _ (HN3.out.drewN _) (by have := HLN.out; omega) ((HT1.out _ HV3.out).drewN _) (by omega) 0 (by have h := HCK.out HST.out; rw [HO.out] at h; exact h)).mono ?_
  rintro e v7 ⟨rfl, q7, rfl⟩
  have HN7 : Hid (Nota ((v3.drewN q6).drewN q7) (W0.heap.size ≤ ·) nb [(p0, z0)]) := Lib.hid ((HN3.out.drewN _).drewN _)
  have HV7 : Hid (Below W0.heap.size W0 ((v3.drewN q6).drewN q7)) := Lib.hid (below_drewN' (below_drewN' HV3.out _) _)
  generalize (v3.drewN q6).drewN q7 = v7 at *
  clear b1 b2
  go_wp2
  go_loopw [15, 16] (fun ff i wx => ∃ (j : Nat) (f : Bool), j ≤ 103 ∧ i = .int .i64 j ∧ ff = .bool f ∧ Nota wx (W0.heap.size ≤ ·) nb [(p0, z0)] ∧ Fnd f o [(p0, z0)] ∧ Below W0.heap.size W0 wx) (fun _ i _ => 103 - (intOf i).toNat)
  case atStart => exact ⟨0, false, by omega, rfl, rfl, HN7.out, (fun h => by cases h), HV7.out⟩
  case round =>
    obtain ⟨j, f, hj, rfl, rfl, hN, hF, hB⟩ := hrel
    have HN8 := Lib.hid hN; have HF := Lib.hid hF; have HV8 := Lib.hid hB; clear hN hF hB
    have hln : [(p0, z0)].length ≤ 101 := HLN.out
    have HCNT := Lib.hid (count_any nb _ [(p0, z0)] _ HN8.out (by have := HLN.out; omega))
    by_cases hle : j ≤ 1 + 1
    · have t2 : decide ((j : Int) ≤ (1 : Int) + 1) = true := by simp; omega
      have t3 : decide (j ≤ 1 + 1) = true := by simpa using hle
      obtain ⟨b1, b2⟩ := box_cells HY.out HV8.out
      cases f with
      | true =>
        go_wp2_with fail
        refine HCNT.out.mono ?_
        rintro e v9 ⟨rfl, rfl⟩
        go_wp2
        go_roundw
        case rel => exact ⟨j + 1, true, by have := HLN.out; omega, by go_num, rfl, HN8.out, HF.out, HV8.out⟩
        case measure => simp [intOf]; have := HLN.out; omega
      | false =>
        rcases checkL_two [(p0, z0)] o j with ⟨hc, hmem⟩ | hc
        · have HMEM := Lib.hid hmem; have HC := Lib.hid hc; clear hc hmem
          go_wp2_with fail
          refine HCNT.out.mono ?_
          rintro e v9 ⟨rfl, rfl⟩
          go_wp2_with fail
          refine (check_b nb _ [(p0, z0)] p0 A1 n1 c1 j z0 _ HN8.out (by have := HLN.out; omega) (HT1.out _ HV8.out) (by omega) 0 (by have h := HC.out; rw [HO.out] at h; exact h)).mono ?_
          rintro e v9 ⟨rfl, q9, rfl⟩
          go_wp2
          go_roundw
          case rel => exact ⟨j + 1, true, by have := HLN.out; omega, by go_num, rfl, HN8.out.drewN _, fun _ => HMEM.out, below_drewN' HV8.out _⟩
          case measure => simp [intOf]; have := HLN.out; omega
        · have HC := Lib.hid hc; clear hc
          go_wp2_with fail
          refine HCNT.out.mono ?_
          rintro e v9 ⟨rfl, rfl⟩
          go_wp2_with fail
          refine (check_b nb _ [(p0, z0)] p0 A1 n1 c1 j z0 _ HN8.out (by have := HLN.out; omega) (HT1.out _ HV8.out) (by omega) 12 (by have h := HC.out; rw [HO.out] at h; exact h)).mono ?_
          rintro e v9 ⟨rfl, q9, rfl⟩
          go_wp2
          go_roundw
          case rel => exact ⟨j + 1, false, by have := HLN.out; omega, by go_num, rfl, HN8.out.drewN _, HF.out, below_drewN' HV8.out _⟩
          case measure => simp [intOf]; have := HLN.out; omega
    · have t2 : decide ((j : Int) ≤ (1 : Int) + 1) = false := by simp; omega
      have t3 : decide (j ≤ 1 + 1) = false := by simpa using hle
      have t4 : ¬ (j : Int) ≤ (1 : Int) + 1 := by omega
      cases f with
      | true =>
        go_wp2_with fail
        refine HCNT.out.mono ?_
        rintro e v9 ⟨rfl, rfl⟩
        go_wp2
        go_ret
        exact ⟨rfl, (HQ.out.trans (HV8.out.mono HQ.out.size))⟩
      | false =>
        go_wp2_with fail
        refine HCNT.out.mono ?_
        rintro e v9 ⟨rfl, rfl⟩
        go_wp2
        go_ret
        exact ⟨rfl, (HQ.out.trans (HV8.out.mono HQ.out.size))⟩

set_option maxRecDepth 100000 in
set_option maxHeartbeats 8000000 in
theorem core_eq (k0 : Bool) (p0 : Int) (z0 : List Int) (t0 : Nat) (A0 : Option Addr) (n0 c0 : Nat) (k1 : Bool) (t1 : Nat) (A1 : Option Addr) (n1 c1 : Nat) (s2 : List Step) (A2 : Option Addr) (c2 : Nat) (w : World) (hb0 : Bts w A0 n0 z0) (hb1 : Bts w A1 n1 z0) (hnc0 : n0 ≤ c0) (hc0 : c0 ≤ 9223372036854775807) (hnc1 : n1 ≤ c1) (hc1 : c1 ≤ 9223372036854775807) (hD : IsDos w (.slice A2 s2.length c2) s2)
    (hm2 : s2.length ≤ 9223372036854775807) (hpa : 1 ≤ p0) (hpb : p0 ≤ 2147483647) (hn0 : n0 ≤ 200) (hn1 : n1 ≤ 200) (hsm : smallL s2 = true)  (hz2 : 0 < s2.length) :
    Calls Try.prog 4 #[.agg #[.bool k0, .int .i64 p0, .slice A0 n0 c0, .int .u64 (t0 : Int)], .agg #[.bool k1, .int .i64 p0, .slice A1 n1 c1, .int .u64 (t1 : Int)], .slice A2 s2.length c2] w fun e w' => e = .returned (.bool true) ∧ Below w.heap.size w w' := by
  have HB0 := Lib.hid hb0; have HB1 := Lib.hid hb1; have HD := Lib.hid hD; have HSM := Lib.hid hsm; clear hb0 hb1 hsm
  obtain ⟨o, ho⟩ : ∃ o : Item, o = (p0, z0) := ⟨_, rfl⟩
  have HO := Lib.hid ho; clear ho
  obtain ⟨_, _, hAA, _, _, hd2⟩ := hD
  simp only [Value.slice.injEq] at hAA
  obtain ⟨rfl, _, rfl⟩ := hAA
  obtain ⟨b, off, rfl, hb, hdd⟩ := hd2 hz2
  have HDD := Lib.hid hdd; clear hdd hd2
  go_enter Try.func4, Try.ntmps4
  go_wp2_with fail
  refine (awake_any _).mono ?_
  rintro e v1 ⟨rfl, hb⟩
  have HV1 := Lib.hid hb; clear hb
  obtain ⟨hQ, hz, hx, hy⟩ := boxes w #[.bool k0, .int .i64 p0, .slice A0 n0 c0, .int .u64 (t0 : Int)] #[.bool k1, .int .i64 p0, .slice A1 n1 c1, .int .u64 (t1 : Int)]
  generalize (w.alloc (.cells #[.bool k0, .int .i64 p0, .slice A0 n0 c0, .int .u64 (t0 : Int)] 34)).alloc (.cells #[.bool k1, .int .i64 p0, .slice A1 n1 c1, .int .u64 (t1 : Int)] 34) = W0 at *
  have HQ := Lib.hid hQ; have HZ := Lib.hid hz; have HX := Lib.hid hx; have HY := Lib.hid hy; clear hQ hz hx hy
  have HT0 : Hid (∀ W, Below W0.heap.size W0 W → Bts W A0 n0 z0) := Lib.hid (fun W hb => (HB0.out.below HQ.out).below hb)
  have HT1 : Hid (∀ W, Below W0.heap.size W0 W → Bts W A1 n1 z0) := Lib.hid (fun W hb => (HB1.out.below HQ.out).below hb)
  obtain ⟨a1, a2⟩ := box_cells HX.out HV1.out
  obtain ⟨b1, b2⟩ := box_cells HY.out HV1.out
  go_wp2_with fail
  refine (small_any _ s2 _ (HD.out.below (HQ.out.trans (HV1.out.mono HQ.out.size))) true HSM.out).mono ?_
  rintro e v2 ⟨rfl, rfl⟩
  go_wp2_with fail
  refine (new_any _).mono ?_
  rintro e v2 ⟨nb, rfl, hN2, hb2⟩
  have HN2 : Hid (Nota v2 (W0.heap.size ≤ ·) nb []) := Lib.hid (hN2.mono (fun k hk => Nat.le_trans HV1.out.size hk))
  have HV2 : Hid (Below W0.heap.size W0 v2) := Lib.hid (HV1.out.trans (hb2.mono HV1.out.size)); clear hb2 hN2
  clear a1 a2 b1 b2
  go_wp2_with fail
  refine (mint_b W0.heap.size nb [] p0 A0 n0 c0 z0 _ HN2.out HV2.out.size ⟨hpa, hpb⟩ hnc0 (by unfold maxLen; omega) (HT0.out _ HV2.out) (by simp) 1 [(p0, z0)] rfl rfl).mono ?_
  rintro e v3 ⟨rfl, hN3, hb3⟩
  have HN3 := Lib.hid hN3; have HV3 : Hid (Below W0.heap.size W0 v3) := Lib.hid (HV2.out.trans hb3); clear hN3 hb3
  obtain ⟨b1, b2⟩ := box_cells HY.out HV3.out
  have hcv0 := conv_str (c := c0) (HT0.out _ HV3.out)
  have hcv1 := conv_str (c := c1) (HT1.out _ HV3.out)
  have t1 : True := trivial
  have HNE : Hid ((p0, z0) = o) := Lib.hid HO.out.symm
  have HCK : Hid (∀ {k : Nat} {L : List Item} {m : Bool}, Run (p0, z0) o k L m → checkL L o 1 = 0) := Lib.hid (fun hR => by rw [hR.check, if_pos HNE.out])
  have HST : Hid (Run (p0, z0) o 0 [(p0, z0)] true) := Lib.hid (Run.start _ _ _ (fun e => rfl))
  go_wp2
  clear t1 hcv0 hcv1 b1 b2
  go_loopw [13, 14] (fun mm i wr => ∃ (k : Nat) (L : List Item) (m : Bool), k ≤ s2.length ∧ k ≤ 100 ∧ i = .int .i64 k ∧ mm = .bool m ∧ Nota wr (W0.heap.size ≤ ·) nb L ∧ Run (p0, z0) o k L m ∧ Below W0.heap.size W0 wr) (fun _ i _ => s2.length - (intOf i).toNat)
  case atStart => exact ⟨0, _, _, by omega, by omega, rfl, rfl, HN3.out, HST.out, HV3.out⟩
  case round =>
    rename_i mm i wr
    obtain ⟨k, L, m, hk, hk2, rfl, rfl, hN, hR, hB⟩ := hrel
    have HN := Lib.hid hN; have HR := Lib.hid hR; have HB := Lib.hid hB; clear hN hR hB
    by_cases h1 : k < s2.length
    · by_cases h2 : k < 100
      · obtain ⟨Ak, nk, ck, d0, d1, d2, d3, hbt, hnck, hck, hwf, _, hbl⟩ := (((HDD.out k h1).below HQ.out).below HB.out).parts
        have HTKa : ∀ W, Below W0.heap.size W0 W → Bts W Ak nk (s2.getD k default).text := fun W hW => by
          obtain ⟨A', n', c', _, _, f2, _, hbt', _⟩ := ((HDD.out k h1).below HQ.out).parts
          have f2' := (HB.out.cell (p := ⟨b, off + k * 4 + 2, none⟩) (Nat.lt_of_lt_of_le hb HQ.out.size)).trans f2
          rw [d2] at f2'
          simp only [Option.some.injEq, Value.slice.injEq] at f2'
          obtain ⟨rfl, rfl, rfl⟩ := f2'
          exact hbt'.below hW
        obtain ⟨dk, hdk⟩ : ∃ d, s2.getD k default = d := ⟨_, rfl⟩
        rw [hdk] at d0 d1 d3 hbt hwf HTKa
        clear hdk
        obtain ⟨kk, pk, zk, tk⟩ := dk
        simp only at d0 d1 d3 hbt hwf HTKa
        have HBT := Lib.hid hbt; clear hbt hwf
        have HBW : Hid (b < W0.heap.size) := Lib.hid (Nat.lt_of_lt_of_le hb HQ.out.size)
        have HTK : Hid (∀ W, Below W0.heap.size W0 W → Bts W Ak nk zk) := Lib.hid HTKa
        cases kk with
        | true =>
          go_wp2
          go_roundw
          case rel => exact ⟨k + 1, L, m, by omega, by omega, by go_num, rfl, HN.out, HR.out.skip m id, HB.out⟩
          case measure => simp [intOf]; omega
        | false =>
          cases m with
          | true =>
            go_wp2
            go_still_tail 11, (by kernel_rfl)
            go_wp2_with fail
            refine (mint_x W0.heap.size nb L pk Ak nk ck zk _ (HN.out.drewN 1) HB.out.size hnck hck (HBT.out.drewN 1) (by have := HR.out.len; omega)).mono ?_
            rintro e v5 ⟨t5, r5, L5, rfl, hL5, hN5, hb5⟩
            have HV5 : Hid (Below W0.heap.size W0 v5) := Lib.hid ((below_drewN' HB.out 1).trans hb5)
            have HL5 := Lib.hid hL5; have HN5 := Lib.hid hN5; clear hL5 hN5
            obtain ⟨b1, b2⟩ := box_cells HY.out HV5.out
            have e1 : v5.cell? ⟨b, off + k * 4 + 1, none⟩ = some (.int .i64 pk) := (hb5.cell (p := ⟨b, off + k * 4 + 1, none⟩) HBW.out).trans d1
            have e2 : v5.cell? ⟨b, off + k * 4 + 2, none⟩ = some (.slice Ak nk ck) := (hb5.cell (p := ⟨b, off + k * 4 + 2, none⟩) HBW.out).trans d2
            have HBT5 := Lib.hid (HTK.out _ HV5.out)
            clear hb5 d0 d1 d2 d3
            go_wp2
            go_quiet (fail)
            go_wp2
            go_roundw
            case rel => exact ⟨k + 1, L5, true, by omega, by omega, by go_num, rfl, HN5.out.drewN _, HR.out.step HL5.out true (fun _ => rfl) (fun _ => rfl), below_drewN' HV5.out _⟩
            case measure => simp [intOf]; omega
          | false =>
            by_cases hqp : pk = o.1
            · have HQP := Lib.hid hqp
              have hqq : pk = p0 := by rw [hqp, HO.out]
              by_cases hqz : zk = z0
              · have HQZ := Lib.hid hqz
                have HYO : Hid ((pk, zk) = o) := Lib.hid (by rw [HO.out, hqq, hqz])
                obtain rfl : z0 = zk := hqz.symm
                clear hqp
                obtain rfl : p0 = pk := hqq.symm
                go_wp2
                go_still_tail 11, (by kernel_rfl)
                go_wp2_with fail
                refine (mint_x W0.heap.size nb L p0 Ak nk ck z0 _ (HN.out.drewN 1) HB.out.size hnck hck (HBT.out.drewN 1) (by have := HR.out.len; omega)).mono ?_
                rintro e v5 ⟨t5, r5, L5, rfl, hL5, hN5, hb5⟩
                have HV5 : Hid (Below W0.heap.size W0 v5) := Lib.hid ((below_drewN' HB.out 1).trans hb5)
                have HL5 := Lib.hid hL5; have HN5 := Lib.hid hN5; clear hL5 hN5
                obtain ⟨b1, b2⟩ := box_cells HY.out HV5.out
                have e1 : v5.cell? ⟨b, off + k * 4 + 1, none⟩ = some (.int .i64 p0) := (hb5.cell (p := ⟨b, off + k * 4 + 1, none⟩) HBW.out).trans d1
                have e2 : v5.cell? ⟨b, off + k * 4 + 2, none⟩ = some (.slice Ak nk ck) := (hb5.cell (p := ⟨b, off + k * 4 + 2, none⟩) HBW.out).trans d2
                have HBT5 := Lib.hid (HTK.out _ HV5.out)
                clear hb5 d0 d1 d2 d3
                have hcvk : ∀ q, (convert 31 9 (.slice Ak nk ck)).run Try.prog (v5.drewN q) = .ok (.string (str z0)) (v5.drewN q) := fun q => conv_str (HBT5.out.drewN q)
                have hcvo : ∀ q, (convert 31 9 (.slice A1 n1 c1)).run Try.prog (v5.drewN q) = .ok (.string (str z0)) (v5.drewN q) := fun q => conv_str ((HT1.out _ HV5.out).drewN q)
                go_wp2
                go_quiet (fail)
                go_wp2
                go_roundw
                case rel => exact ⟨k + 1, L5, true, by omega, by omega, by go_num, rfl, HN5.out.drewN _, HR.out.step HL5.out true (fun _ => rfl) (fun _ => rfl), below_drewN' HV5.out _⟩
                case measure => simp [intOf]; omega
              · have HYO : Hid (¬ (pk, zk) = o) := Lib.hid (fun e => hqz (by rw [HO.out] at e; simp only [Prod.mk.injEq] at e; exact e.2))
                have HQZ := Lib.hid hqz
                clear hqp hqz
                obtain rfl : p0 = pk := hqq.symm
                go_wp2
                go_still_tail 11, (by kernel_rfl)
                go_wp2_with fail
                refine (mint_x W0.heap.size nb L p0 Ak nk ck zk _ (HN.out.drewN 1) HB.out.size hnck hck (HBT.out.drewN 1) (by have := HR.out.len; omega)).mono ?_
                rintro e v5 ⟨t5, r5, L5, rfl, hL5, hN5, hb5⟩
                have HV5 : Hid (Below W0.heap.size W0 v5) := Lib.hid ((below_drewN' HB.out 1).trans hb5)
                have HL5 := Lib.hid hL5; have HN5 := Lib.hid hN5; clear hL5 hN5
                obtain ⟨b1, b2⟩ := box_cells HY.out HV5.out
                have e1 : v5.cell? ⟨b, off + k * 4 + 1, none⟩ = some (.int .i64 p0) := (hb5.cell (p := ⟨b, off + k * 4 + 1, none⟩) HBW.out).trans d1
                have e2 : v5.cell? ⟨b, off + k * 4 + 2, none⟩ = some (.slice Ak nk ck) := (hb5.cell (p := ⟨b, off + k * 4 + 2, none⟩) HBW.out).trans d2
                have HBT5 := Lib.hid (HTK.out _ HV5.out)
                clear hb5 d0 d1 d2 d3
                have hcvk : ∀ q, (convert 31 9 (.slice Ak nk ck)).run Try.prog (v5.drewN q) = .ok (.string (str zk)) (v5.drewN q) := fun q => conv_str (HBT5.out.drewN q)
                have hcvo : ∀ q, (convert 31 9 (.slice A1 n1 c1)).run Try.prog (v5.drewN q) = .ok (.string (str z0)) (v5.drewN q) := fun q => conv_str ((HT1.out _ HV5.out).drewN q)
                have h3 : ((str zk).toList == (str z0).toList) = false := by rw [beq_eq_false_iff_ne]; exact fun e => HQZ.out (str_toList HBT5.out.bd (HT1.out _ HV5.out).bd e)
                go_wp2
                go_quiet (fail)
                go_wp2
                go_roundw
                case rel => exact ⟨k + 1, L5, false, by omega, by omega, by go_num, rfl, HN5.out.drewN _, HR.out.step HL5.out false (fun h => h) (fun h => absurd h HYO.out), below_drewN' HV5.out _⟩
                case measure => simp [intOf]; omega
            · have HYO : Hid (¬ (pk, zk) = o) := Lib.hid (fun e => hqp (by rw [← e]))
              have hqq : (pk == p0) = false := by rw [HO.out] at hqp; simpa using hqp
              clear hqp
              go_wp2
              go_still_tail 11, (by kernel_rfl)
              go_wp2_with fail
              refine (mint_x W0.heap.size nb L pk Ak nk ck zk _ (HN.out.drewN 1) HB.out.size hnck hck (HBT.out.drewN 1) (by have := HR.out.len; omega)).mono ?_
              rintro e v5 ⟨t5, r5, L5, rfl, hL5, hN5, hb5⟩
              have HV5 : Hid (Below W0.heap.size W0 v5) := Lib.hid ((below_drewN' HB.out 1).trans hb5)
              have HL5 := Lib.hid hL5; have HN5 := Lib.hid hN5; clear hL5 hN5
              obtain ⟨b1, b2⟩ := box_cells HY.out HV5.out
              have e1 : v5.cell? ⟨b, off + k * 4 + 1, none⟩ = some (.int .i64 pk) := (hb5.cell (p := ⟨b, off + k * 4 + 1, none⟩) HBW.out).trans d1
              have e2 : v5.cell? ⟨b, off + k * 4 + 2, none⟩ = some (.slice Ak nk ck) := (hb5.cell (p := ⟨b, off + k * 4 + 2, none⟩) HBW.out).trans d2
              have HBT5 := Lib.hid (HTK.out _ HV5.out)
              clear hb5 d0 d1 d2 d3
              go_wp2
              go_quiet (fail)
              go_wp2
              go_roundw
              case rel => exact ⟨k + 1, L5, false, by omega, by omega, by go_num, rfl, HN5.out.drewN _, HR.out.step HL5.out false (fun h => h) (fun h => absurd h HYO.out), below_drewN' HV5.out _⟩
              case measure => simp [intOf]; omega
      · have HLN : Hid (L.length ≤ 101) := Lib.hid (by have := HR.out.len; omega)
        obtain ⟨b1, b2⟩ := box_cells HY.out HB.out
        go_wp2_with fail
        refine (check_b nb _ L p0 A0 n0 c0 1 z0 _ HN.out (by have := HLN.out; omega) (HT0.out _ HB.out) (by omega) 0 (by rw [HR.out.check, if_pos rfl])).mono ?_
        rintro e v6 ⟨rfl, q6, rfl⟩
        go_wp2_with fail
        refine (check_b nb _ L p0 A1 n1 c1 1 z0 _ (HN.out.drewN _) (by have := HLN.out; omega) ((HT1.out _ HB.out).drewN _) (by omega) 0 (by have h := HCK.out HR.out; rw [HO.out] at h; exact h)).mono ?_
        rintro e v7 ⟨rfl, q7, rfl⟩
        have HN7 : Hid (Nota ((wr.drewN q6).drewN q7) (W0.heap.size ≤ ·) nb L) := Lib.hid ((HN.out.drewN _).drewN _)
        have HV7 : Hid (Below W0.heap.size W0 ((wr.drewN q6).drewN q7)) := Lib.hid (below_drewN' (below_drewN' HB.out _) _)
        generalize (wr.drewN q6).drewN q7 = v7 at *
        clear b1 b2
        go_wp2
        go_loopw [15, 16] (fun ff i wx => ∃ (j : Nat) (f : Bool), j ≤ 103 ∧ i = .int .i64 j ∧ ff = .bool f ∧ Nota wx (W0.heap.size ≤ ·) nb L ∧ Fnd f o L ∧ Below W0.heap.size W0 wx) (fun _ i _ => 103 - (intOf i).toNat)
        case atStart => exact ⟨0, false, by omega, rfl, rfl, HN7.out, (fun h => by cases h), HV7.out⟩
        case round =>
          obtain ⟨j, f, hj, rfl, rfl, hN, hF, hB⟩ := hrel
          have HN8 := Lib.hid hN; have HF := Lib.hid hF; have HV8 := Lib.hid hB; clear hN hF hB
          have hln : L.length ≤ 101 := HLN.out
          have HCNT := Lib.hid (count_any nb _ L _ HN8.out (by have := HLN.out; omega))
          by_cases hle : j ≤ L.length + 1
          · have t2 : decide ((j : Int) ≤ (L.length : Int) + 1) = true := by simp; omega
            have t3 : decide (j ≤ L.length + 1) = true := by simpa using hle
            obtain ⟨b1, b2⟩ := box_cells HY.out HV8.out
            cases f with
            | true =>
              go_wp2_with fail
              refine HCNT.out.mono ?_
              rintro e v9 ⟨rfl, rfl⟩
              go_wp2
              go_roundw
              case rel => exact ⟨j + 1, true, by have := HLN.out; omega, by go_num, rfl, HN8.out, HF.out, HV8.out⟩
              case measure => simp [intOf]; have := HLN.out; omega
            | false =>
              rcases checkL_two L o j with ⟨hc, hmem⟩ | hc
              · have HMEM := Lib.hid hmem; have HC := Lib.hid hc; clear hc hmem
                go_wp2_with fail
                refine HCNT.out.mono ?_
                rintro e v9 ⟨rfl, rfl⟩
                go_wp2_with fail
                refine (check_b nb _ L p0 A1 n1 c1 j z0 _ HN8.out (by have := HLN.out; omega) (HT1.out _ HV8.out) (by omega) 0 (by have h := HC.out; rw [HO.out] at h; exact h)).mono ?_
                rintro e v9 ⟨rfl, q9, rfl⟩
                go_wp2
                go_roundw
                case rel => exact ⟨j + 1, true, by have := HLN.out; omega, by go_num, rfl, HN8.out.drewN _, fun _ => HMEM.out, below_drewN' HV8.out _⟩
                case measure => simp [intOf]; have := HLN.out; omega
              · have HC := Lib.hid hc; clear hc
                go_wp2_with fail
                refine HCNT.out.mono ?_
                rintro e v9 ⟨rfl, rfl⟩
                go_wp2_with fail
                refine (check_b nb _ L p0 A1 n1 c1 j z0 _ HN8.out (by have := HLN.out; omega) (HT1.out _ HV8.out) (by omega) 12 (by have h := HC.out; rw [HO.out] at h; exact h)).mono ?_
                rintro e v9 ⟨rfl, q9, rfl⟩
                go_wp2
                go_roundw
                case rel => exact ⟨j + 1, false, by have := HLN.out; omega, by go_num, rfl, HN8.out.drewN _, HF.out, below_drewN' HV8.out _⟩
                case measure => simp [intOf]; have := HLN.out; omega
          · have t2 : decide ((j : Int) ≤ (L.length : Int) + 1) = false := by simp; omega
            have t3 : decide (j ≤ L.length + 1) = false := by simpa using hle
            have t4 : ¬ (j : Int) ≤ (L.length : Int) + 1 := by omega
            cases f with
            | true =>
              obtain rfl : true = m := (HR.out.minted (HF.out rfl)).symm
              go_wp2_with fail
              refine HCNT.out.mono ?_
              rintro e v9 ⟨rfl, rfl⟩
              go_wp2
              go_ret
              exact ⟨rfl, (HQ.out.trans (HV8.out.mono HQ.out.size))⟩
            | false =>
              go_wp2_with fail
              refine HCNT.out.mono ?_
              rintro e v9 ⟨rfl, rfl⟩
              go_wp2
              go_ret
              exact ⟨rfl, (HQ.out.trans (HV8.out.mono HQ.out.size))⟩
    · have HLN : Hid (L.length ≤ 101) := Lib.hid (by have := HR.out.len; omega)
      obtain ⟨b1, b2⟩ := box_cells HY.out HB.out
      go_wp2_with fail
      refine (check_b nb _ L p0 A0 n0 c0 1 z0 _ HN.out (by have := HLN.out; omega) (HT0.out _ HB.out) (by omega) 0 (by rw [HR.out.check, if_pos rfl])).mono ?_
      rintro e v6 ⟨rfl, q6, rfl⟩
      go_wp2_with fail
      refine (check_b nb _ L p0 A1 n1 c1 1 z0 _ (HN.out.drewN _) (by have := HLN.out; omega) ((HT1.out _ HB.out).drewN _) (by omega) 0 (by have h := HCK.out HR.out; rw [HO.out] at h; exact h)).mono ?_
      rintro e v7 ⟨rfl, q7, rfl⟩
      have HN7 : Hid (Nota ((wr.drewN q6).drewN q7) (W0.heap.size ≤ ·) nb L) := Lib.hid ((HN.out.drewN _).drewN _)
      have HV7 : Hid (Below W0.heap.size W0 ((wr.drewN q6).drewN q7)) := Lib.hid (below_drewN' (below_drewN' HB.out _) _)
      generalize (wr.drewN q6).drewN q7 = v7 at *
      clear b1 b2
      go_wp2
      go_loopw [15, 16] (fun ff i wx => ∃ (j : Nat) (f : Bool), j ≤ 103 ∧ i = .int .i64 j ∧ ff = .bool f ∧ Nota wx (W0.heap.size ≤ ·) nb L ∧ Fnd f o L ∧ Below W0.heap.size W0 wx) (fun _ i _ => 103 - (intOf i).toNat)
      case atStart => exact ⟨0, false, by omega, rfl, rfl, HN7.out, (fun h => by cases h), HV7.out⟩
      case round =>
        obtain ⟨j, f, hj, rfl, rfl, hN, hF, hB⟩ := hrel
        have HN8 := Lib.hid hN; have HF := Lib.hid hF; have HV8 := Lib.hid hB; clear hN hF hB
        have hln : L.length ≤ 101 := HLN.out
        have HCNT := Lib.hid (count_any nb _ L _ HN8.out (by have := HLN.out; omega))
        by_cases hle : j ≤ L.length + 1
        · have t2 : decide ((j : Int) ≤ (L.length : Int) + 1) = true := by simp; omega
          have t3 : decide (j ≤ L.length + 1) = true := by simpa using hle
          obtain ⟨b1, b2⟩ := box_cells HY.out HV8.out
          cases f with
          | true =>
            go_wp2_with fail
            refine HCNT.out.mono ?_
            rintro e v9 ⟨rfl, rfl⟩
            go_wp2
            go_roundw
            case rel => exact ⟨j + 1, true, by have := HLN.out; omega, by go_num, rfl, HN8.out, HF.out, HV8.out⟩
            case measure => simp [intOf]; have := HLN.out; omega
          | false =>
            rcases checkL_two L o j with ⟨hc, hmem⟩ | hc
            · have HMEM := Lib.hid hmem; have HC := Lib.hid hc; clear hc hmem
              go_wp2_with fail
              refine HCNT.out.mono ?_
              rintro e v9 ⟨rfl, rfl⟩
              go_wp2_with fail
              refine (check_b nb _ L p0 A1 n1 c1 j z0 _ HN8.out (by have := HLN.out; omega) (HT1.out _ HV8.out) (by omega) 0 (by have h := HC.out; rw [HO.out] at h; exact h)).mono ?_
              rintro e v9 ⟨rfl, q9, rfl⟩
              go_wp2
              go_roundw
              case rel => exact ⟨j + 1, true, by have := HLN.out; omega, by go_num, rfl, HN8.out.drewN _, fun _ => HMEM.out, below_drewN' HV8.out _⟩
              case measure => simp [intOf]; have := HLN.out; omega
            · have HC := Lib.hid hc; clear hc
              go_wp2_with fail
              refine HCNT.out.mono ?_
              rintro e v9 ⟨rfl, rfl⟩
              go_wp2_with fail
              refine (check_b nb _ L p0 A1 n1 c1 j z0 _ HN8.out (by have := HLN.out; omega) (HT1.out _ HV8.out) (by omega) 12 (by have h := HC.out; rw [HO.out] at h; exact h)).mono ?_
              rintro e v9 ⟨rfl, q9, rfl⟩
              go_wp2
              go_roundw
              case rel => exact ⟨j + 1, false, by have := HLN.out; omega, by go_num, rfl, HN8.out.drewN _, HF.out, below_drewN' HV8.out _⟩
              case measure => simp [intOf]; have := HLN.out; omega
        · have t2 : decide ((j : Int) ≤ (L.length : Int) + 1) = false := by simp; omega
          have t3 : decide (j ≤ L.length + 1) = false := by simpa using hle
          have t4 : ¬ (j : Int) ≤ (L.length : Int) + 1 := by omega
          cases f with
          | true =>
            obtain rfl : true = m := (HR.out.minted (HF.out rfl)).symm
            go_wp2_with fail
            refine HCNT.out.mono ?_
            rintro e v9 ⟨rfl, rfl⟩
            go_wp2
            go_ret
            exact ⟨rfl, (HQ.out.trans (HV8.out.mono HQ.out.size))⟩
          | false =>
            go_wp2_with fail
            refine HCNT.out.mono ?_
            rintro e v9 ⟨rfl, rfl⟩
            go_wp2
            go_ret
            exact ⟨rfl, (HQ.out.trans (HV8.out.mono HQ.out.size))⟩

set_option maxRecDepth 100000 in
set_option maxHeartbeats 4000000 in
theorem early (k0 : Bool) (p0 : Int) (z0 : List Int) (t0 : Nat) (A0 : Option Addr) (n0 c0 : Nat) (k1 : Bool) (p1 : Int) (z1 : List Int) (t1 : Nat) (A1 : Option Addr) (n1 c1 : Nat) (s2 : List Step) (A2 : Option Addr) (c2 : Nat) (w : World) (hb0 : Bts w A0 n0 z0) (hb1 : Bts w A1 n1 z1) (hnc0 : n0 ≤ c0) (hc0 : c0 ≤ 9223372036854775807) (hnc1 : n1 ≤ c1) (hc1 : c1 ≤ 9223372036854775807) (hD : IsDos w (.slice A2 s2.length c2) s2)
    (hm2 : s2.length ≤ 9223372036854775807) (hall : ¬ (((1 ≤ p0 ∧ p0 ≤ 2147483647) ∧ n0 ≤ 200 ∧ n1 ≤ 200) ∧ smallL s2 = true)) :
    Calls Try.prog 4 #[.agg #[.bool k0, .int .i64 p0, .slice A0 n0 c0, .int .u64 (t0 : Int)], .agg #[.bool k1, .int .i64 p1, .slice A1 n1 c1, .int .u64 (t1 : Int)], .slice A2 s2.length c2] w fun e w' => e = .returned (.bool true) ∧ Below w.heap.size w w' := by
  have HB0 := Lib.hid hb0; have HB1 := Lib.hid hb1; have HD := Lib.hid hD; clear hb0 hb1 hD
  have HALL := Lib.hid hall; clear hall
  go_enter Try.func4, Try.ntmps4
  go_wp2_with fail
  refine (awake_any _).mono ?_
  rintro e v1 ⟨rfl, hb⟩
  have HV1 := Lib.hid hb; clear hb
  obtain ⟨hQ, hz, hx, hy⟩ := boxes w #[.bool k0, .int .i64 p0, .slice A0 n0 c0, .int .u64 (t0 : Int)] #[.bool k1, .int .i64 p1, .slice A1 n1 c1, .int .u64 (t1 : Int)]
  generalize (w.alloc (.cells #[.bool k0, .int .i64 p0, .slice A0 n0 c0, .int .u64 (t0 : Int)] 34)).alloc (.cells #[.bool k1, .int .i64 p1, .slice A1 n1 c1, .int .u64 (t1 : Int)] 34) = W0 at *
  have HQ := Lib.hid hQ; have HZ := Lib.hid hz; have HX := Lib.hid hx; have HY := Lib.hid hy; clear hQ hz hx hy
  have HT0 : Hid (∀ W, Below W0.heap.size W0 W → Bts W A0 n0 z0) := Lib.hid (fun W hb => (HB0.out.below HQ.out).below hb)
  have HT1 : Hid (∀ W, Below W0.heap.size W0 W → Bts W A1 n1 z1) := Lib.hid (fun W hb => (HB1.out.below HQ.out).below hb)
  obtain ⟨a1, a2⟩ := box_cells HX.out HV1.out
  obtain ⟨b1, b2⟩ := box_cells HY.out HV1.out
  by_cases g1 : p0 < 1
  · go_wp2
    go_ret
    exact ⟨rfl, HQ.out.trans (HV1.out.mono HQ.out.size)⟩
  · by_cases g2 : 2147483647 < p0
    · go_wp2
      go_ret
      exact ⟨rfl, HQ.out.trans (HV1.out.mono HQ.out.size)⟩
    · by_cases g3 : 200 < n0
      · go_wp2
        go_ret
        exact ⟨rfl, HQ.out.trans (HV1.out.mono HQ.out.size)⟩
      · by_cases g4 : 200 < n1
        · go_wp2
          go_ret
          exact ⟨rfl, HQ.out.trans (HV1.out.mono HQ.out.size)⟩
        · have HSM : Hid (smallL s2 = false) := Lib.hid (by
            cases hs : smallL s2
            · rfl
            · exact absurd ⟨⟨⟨by omega, by omega⟩, by omega, by omega⟩, hs⟩ HALL.out)
          go_wp2_with fail
          refine (small_any _ s2 _ (HD.out.below (HQ.out.trans (HV1.out.mono HQ.out.size))) false HSM.out).mono ?_
          rintro e v2 ⟨rfl, rfl⟩
          go_wp2
          go_ret
          exact ⟨rfl, HQ.out.trans (HV1.out.mono HQ.out.size)⟩

set_option maxRecDepth 100000 in
set_option maxHeartbeats 4000000 in
theorem walk (v0 : Value) (s0 : Step) (v1 : Value) (s1 : Step) (v2 : Value) (s2 : List Step) (w : World) (w0 : IsDo w v0 s0) (w1 : IsDo w v1 s1) (w2 : IsDos w v2 s2) :
    Calls Try.prog 4 #[v0, v1, v2] w fun e w' => e = .returned (.bool true) ∧ Below w.heap.size w w' := by
  obtain ⟨k0, p0, z0, t0⟩ := s0
  obtain ⟨k1, p1, z1, t1⟩ := s1
  obtain ⟨x0, x1, x2, x3, rfl, rfl, rfl, ⟨A0, n0, c0, rfl, hb0, hnc0, hc0⟩, rfl, hp0, ht0⟩ := w0
  obtain ⟨x0, x1, x2, x3, rfl, rfl, rfl, ⟨A1, n1, c1, rfl, hb1, hnc1, hc1⟩, rfl, hp1, ht1⟩ := w1
  simp only at *
  unfold maxLen at hc0 hc1
  have hD := w2
  obtain ⟨A2, c2, rfl, hl2, hm2, _⟩ := w2
  unfold maxLen at hm2
  by_cases hall : ((1 ≤ p0 ∧ p0 ≤ 2147483647) ∧ n0 ≤ 200 ∧ n1 ≤ 200) ∧ smallL s2 = true
  · obtain ⟨⟨⟨hpa, hpb⟩, hn0, hn1⟩, hsm⟩ := hall
    rcases Nat.eq_zero_or_pos s2.length with hz | hz
    · obtain rfl : s2 = [] := List.eq_nil_of_length_eq_zero hz
      by_cases e1 : p1 = p0
      · subst e1
        by_cases e2 : z1 = z0
        · subst e2
          exact core_eq0 k0 p1 z1 t0 A0 n0 c0 k1 t1 A1 n1 c1 A2 c2 w hb0 hb1 hnc0 hc0 hnc1 hc1 hD (by simp) hpa hpb hn0 hn1 hsm
        · exact core_nz0 k0 p1 z0 t0 A0 n0 c0 k1 z1 t1 A1 n1 c1 A2 c2 w hb0 hb1 hnc0 hc0 hnc1 hc1 hD (by simp) hpa hpb hn0 hn1 hsm e2
      · exact core_ne0 k0 p0 z0 t0 A0 n0 c0 k1 p1 z1 t1 A1 n1 c1 A2 c2 w hb0 hb1 hnc0 hc0 hnc1 hc1 hD (by simp) hpa hpb hn0 hn1 hsm e1
    · by_cases e1 : p1 = p0
      · subst e1
        by_cases e2 : z1 = z0
        · subst e2
          exact core_eq k0 p1 z1 t0 A0 n0 c0 k1 t1 A1 n1 c1 s2 A2 c2 w hb0 hb1 hnc0 hc0 hnc1 hc1 hD (by omega) hpa hpb hn0 hn1 hsm hz
        · exact core_nz k0 p1 z0 t0 A0 n0 c0 k1 z1 t1 A1 n1 c1 s2 A2 c2 w hb0 hb1 hnc0 hc0 hnc1 hc1 hD (by omega) hpa hpb hn0 hn1 hsm e2 hz
      · exact core_ne k0 p0 z0 t0 A0 n0 c0 k1 p1 z1 t1 A1 n1 c1 s2 A2 c2 w hb0 hb1 hnc0 hc0 hnc1 hc1 hD (by omega) hpa hpb hn0 hn1 hsm e1 hz
  · exact early k0 p0 z0 t0 A0 n0 c0 k1 p1 z1 t1 A1 n1 c1 s2 A2 c2 w hb0 hb1 hnc0 hc0 hnc1 hc1 hD (by omega) hall

/-! ### THE ROW's STEP: WRITTEN OUT: LEAVE IT -/
set_option maxRecDepth 100000 in
theorem lifted (os : Os) (started : os.Started) (H : Type) (enc : TypeId × Value → H) :
    ReturnsInHanded {} Try.checked os 4 .any (Rows.notaryHoldsSpec.pre6 enc Try.prog Try.f4 Rows.notaryHoldsRow.domain false) (Rows.notaryHoldsSpec.post enc Try.prog Try.f4 false true false false) := by
  refine returnsInHanded_of_change (C := Try.checked) own started (by kernel_rfl) Try.func4
    (ChangeSpec.witness6 (enc := enc) (C := Try.checked) false ⟨#[], #[.agg #[.bool false, .int .i64 0, .slice none 0 0, .int .u64 0], .agg #[.bool false, .int .i64 0, .slice none 0 0, .int .u64 0], .slice none 0 0], []⟩ 8 (by kernel_rfl) (by kernel_rfl) (by kernel_rfl) (by kernel_rfl)) ?_
  intro W base args ds gs before hval0 hW hcnd _
  have hval : ∀ (j : Nat) t v, Try.f4.params[j]? = some t → args[j]? = some v → Value.okWide Try.prog W .any base t v := hval0
  have hW' := hW
  obtain ⟨p, q, hA0, hV, rfl, hfz, hnd⟩ := hW
  have hA : DataW.TrodAll enc Try.prog W 0 (fun _ => true) true Try.f4.params.toList args.toList ds p := hA0
  rw [Try.params4] at hA hval
  obtain ⟨v0, vs0, d0, ds0, p0, q0, hargs, rfl, rfl, h0, r0⟩ := trodAll_cons hA
  obtain ⟨v1, vs1, d1, ds1, p1, q1, rfl, rfl, rfl, h1, r1⟩ := trodAll_cons r0
  obtain ⟨v2, vs2, d2, ds2, p2, q2, rfl, rfl, rfl, h2, r2⟩ := trodAll_cons r1
  obtain ⟨rfl, rfl, rfl⟩ := trodAll_nil r2
  obtain rfl : args = #[v0, v1, v2] := by cases args; simp_all
  obtain ⟨rfl, rfl⟩ := trodVars_none hV
  have k0 := h0
  have lt0 : ∀ x ∈ p0, x.block < W.heap.size := by obtain ⟨m, hm⟩ := k0; exact DataW.trod_lt m _ _ _ hm
  obtain ⟨s0, w0⟩ := open_do (hval 0 34 v0 rfl rfl) h0
  have k1 := h1
  have lt1 : ∀ x ∈ p1, x.block < W.heap.size := by obtain ⟨m, hm⟩ := k1; exact DataW.trod_lt m _ _ _ hm
  obtain ⟨s1, w1⟩ := open_do (hval 1 34 v1 rfl rfl) h1
  have k2 := h2
  have lt2 : ∀ x ∈ p2, x.block < W.heap.size := by obtain ⟨m, hm⟩ := k2; exact DataW.trod_lt m _ _ _ hm
  obtain ⟨s2, w2⟩ := open_dos (hval 2 22 v2 rfl rfl) h2
  clear hA0 hval0
  refine (walk v0 s0 v1 s1 v2 s2 W w0 w1 w2).mono fun e W' ⟨he, bel⟩ => ?_
  subst he
  exact ⟨_, rfl, _, _, _, [], _, [], hW', trodAll_mk1 (shut_bool Try.underlying4 _), (trodAll_cons_mk (Below.trod laidOut (by kernel_rfl) (of_decide_eq_true (by kernel_rfl)) k0 bel lt0) (trodAll_cons_mk (Below.trod laidOut (by kernel_rfl) (of_decide_eq_true (by kernel_rfl)) k1 bel lt1) (trodAll_cons_mk (Below.trod laidOut (by kernel_rfl) (of_decide_eq_true (by kernel_rfl)) k2 bel lt2) trodAll_mk0))), rfl, bel.frame _, fun h => by cases h⟩

theorem over : Rows.notaryHoldsRow.holds Try.pinned (OpenSpec.ofChange Rows.notaryHoldsSpec) :=
  OpenClaim.holds_of_wide 4 Try.f4 rfl rfl rfl rfl rfl rfl rfl ⟨rfl, rfl, rfl, rfl, rfl⟩ rfl rfl rfl rfl rfl (by kernel_rfl) Try.func4 (by kernel_rfl)
    (of_decide_eq_true (by kernel_rfl)) (by unfold Func.isWrapper; first | (rw [if_pos (by decide +kernel)]; kernel_rfl) | (rw [if_neg (by decide +kernel)]; exact ⟨rfl, rfl⟩))
    (fun os started H enc _ => lifted os started H enc)

/-- ████ THE STATEMENT ████ -/
theorem proved : Rows.NotaryHoldsSaid := over
#print axioms proved
end Go.Proofs.Ytcinjfmmmmaelaa.notaryHolds
