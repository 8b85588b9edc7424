/-
  What is proved: what was granted by PCP is neither dropped nor renewed by a request with another number, and by its own it is (GateKeeps answers true for every input). Conditions: none beside the statement's own.
-/
import Derived.BigQuiet
import Derived.Deep.QuietTactic
import Derived.Deep.RegionWith
import Derived.Deep.Cut
import Derived.Deep.RegionHeld
import Derived.Test.YtemlnkcokeckmaaMh23
import Derived.Test.YtemlnkcokeckmaaGx
import Derived.Test.YtemlnkcokeckmaaGw
import Derived.Test.YtemlnkcokeckmaaRows
import Derived.WalkKit
import Derived.ProofKit
import Derived.OpenShut
import Derived.ShutString
import Derived.ChangeOld
import Derived.Below
namespace Go.Proofs.Ytemlnkcokeckmaa.gateKeeps
open Go.ChangeShapes Go.WideShapes Go.ChangeAt Go.RowKit
open Go.ChangeMaps (open_string shut_string)
set_option linter.unusedVariables false

theorem own : ownKnob Try.prog.godebug = none := by kernel_rfl
theorem laidOut : laidOutB Try.prog = true := by kernel_rfl

set_option linter.unusedSimpArgs false
set_option maxRecDepth 100000 in
set_option maxHeartbeats 80000000 in
theorem walk (v0 : Value) (s0 : Pp.Le) (v1 : Value) (s1 : A2) (v2 : Value) (s2 : (Int × Int)) (w : World) (w0 : IsLe w v0 s0) (w1 : IsAdr w v1 s1) (w2 : IsTwo w v2 s2) :
    Calls Try.prog 10 #[v0, v1, v2] w fun e w' => e = .returned (.bool true) ∧ Below w.heap.size w w' := by
  obtain ⟨oth, secs⟩ := s2
  obtain ⟨rfl, hl0⟩ := w0
  obtain ⟨rfl, ha⟩ := w1
  obtain ⟨rfl, ⟨o0, o1⟩, ⟨c0, c1⟩⟩ := w2
  dsimp only at o0 o1 c0 c1 ⊢
  have HA := Lib.hid ha
  have HL0 := Lib.hid hl0
  obtain ⟨h0, h1⟩ := ha.1
  obtain ⟨n0, n1⟩ := hl0.non
  clear ha hl0
  unfold adr
  have hs0 := (((Hs.nil w).box (Pp.leA s0) 64 rfl).box (k := w.heap.size + 1) #[.int .u32 s1.1, .int .i64 s1.2] 38 (by simp)).box (k := w.heap.size + 2) #[.int .u16 oth, .int .u16 secs] 79 (by simp)
  unfold Pp.leV
  have HLA : Hid (∀ (W : World), W.heap[w.heap.size]? = some (.cells (Pp.leA s0) 64 (0, 0)) → True) := Lib.hid (fun _ _ => trivial)
  clear HLA
  go_enter Try.func10, Try.ntmps10
  go_wp2_with fail
  refine (gawake_any _).mono ?_
  rintro e w1 ⟨rfl, hb1⟩
  have hs1 := hs0.below hb1
  have hcA := fun j => (hs1.cells (b := w.heap.size + 2) (C := #[.int .u16 oth, .int .u16 secs]) (t := 79) (by simp) j).1
  have p0 := hcA 0
  have p1 := hcA 1
  have pl := (Array.getElem?_eq_some_iff.1 (hs1.held (w.heap.size + 2, .cells #[.int .u16 oth, .int .u16 secs] 79 (0, 0)) (by simp))).1
  simp only [List.getElem?_toArray, List.getElem?_cons_zero, List.getElem?_cons_succ] at p0 p1
  dsimp only at pl
  have HS1 := Lib.hid hs1
  clear hs0 hb1 hs1 hcA
  go_wp2_with fail
  have h25 := box25 0 (by omega) w1
  refine h25.mono ?_
  rintro e w2 ⟨rfl, hb2⟩
  have HNEW := Lib.hid (new_hs (bxC 0) (bxC_is 0) (bxC_2 0) (HS1.out.below hb2))
  clear hb2 h25 p0 p1 pl HS1
  go_wp2_with fail
  refine HNEW.out.mono ?_
  rintro e V1 ⟨g, rfl, hp1⟩
  have HGN := Lib.hid (gnew_pl hp1 false true 100 0 ⟨by omega, by omega⟩ ⟨by omega, by omega⟩)
  clear hp1 HNEW
  go_wp2_with fail
  refine HGN.out.mono ?_
  rintro e V2 ⟨gb, nm, av, os', rfl, hg2, han⟩
  obtain ⟨os0, hos⟩ : ∃ os0, os0 = os' ++ [(w.heap.size + 2, Obj.cells #[.int .u16 oth, .int .u16 secs] 79 (0, 0)), (w.heap.size + 1, Obj.cells #[.int .u32 s1.1, .int .i64 s1.2] 38 (0, 0)), (w.heap.size, Obj.cells (Pp.leA s0) 64 (0, 0))] := ⟨_, rfl⟩
  rw [← hos] at hg2 han
  have HFM : Hid ((w.heap.size + 1, Obj.cells #[.int .u32 s1.1, .int .i64 s1.2] 38 (0, 0)) ∈ os0) := Lib.hid (by rw [hos]; simp)
  have HFL : Hid ((w.heap.size, Obj.cells (Pp.leA s0) 64 (0, 0)) ∈ os0) := Lib.hid (by rw [hos]; simp)
  have HG2 := Lib.hid hg2
  have HAN := Lib.hid han
  clear hg2 han hos HGN
  go_upto_region 11 with (fail)
  have hok0 : Okb (bxC 0) [] := Okb.nil (by decide)
  have hisA : Pp.isL ⟨2, s0.ins, s0.prt, 50, s0.non, 0, 0, 0⟩ := by obtain ⟨_, i1, i2, _, i4, _, _, _⟩ := HL0.out; constructor <;> simp only [Pp.W64] at * <;> omega
  obtain ⟨P, hP⟩ : ∃ P, P = wish0 (bxC 0) s0.prt := ⟨_, rfl⟩
  have hPb := wish_bd (n := 0) s0.prt
  rw [← hP] at hPb
  have HX : Hid (∃ (RZ : List Int) (L1 : Pp.Le) (e1 : Int) (f1 : Nf) (c1 : Nat) (M1 : List Bn),
      (∀ os' W u, Gm w gb g nm (bxC 0) 100 0 av f0 0 0 [] os' W → (∀ r ∈ os0, r ∈ os') → (∀ s' f' c' n' M' os1 W, Gm w gb g nm (bxC 0) 100 s' av f' c' n' M' os1 W → (∀ r ∈ os', r ∈ os1) → Pp.Row W u (Pp.paskR ⟨2, s0.ins, s0.prt, 50, s0.non, 0, 0, 0⟩ s1.1)) → Calls Try.prog 32 #[.pointer (some ⟨gb, 0, none⟩), .int .i64 0, adr s1, u] W fun e V' => ∃ u', e = .returned u' ∧ Pp.Row V' u' RZ ∧ Gm w gb g nm (bxC 0) 100 0 av f1 c1 0 M1 os' V') ∧
      (∀ W u, Pp.Row W u RZ → Calls Try.prog 35 #[u] W fun e W' => e = .returned (Pp.pbT L1 e1) ∧ Below W.heap.size W W') ∧
      (e1 = 3 ∨ (e1 = 0 ∧ L1.res = 3) ∨ (e1 = 0 ∧ L1 = ⟨2, s0.ins, P, 50, s0.non, 0, 0, 3405803777⟩ ∧ M1 = [askB (s1.1, s0.ins) P 50] ∧ f1 (s1.1, s0.ins) = some s0.non ∧ c1 = 1 ∧ mayA s1 = true ∧ Pp.Pas ⟨2, s0.ins, s0.prt, 50, s0.non, 0, 0, 0⟩ ∧ 1 ≤ s0.ins))) := Lib.hid (by
    cases hma : mayA s1 with
    | false =>
      refine ⟨[], Pp.zeroL, 3, f0, 0, [], fun os' W u hW hm hr => ?_, fun W u hr => ?_, .inl rfl⟩
      · refine (hear_pask hW (bxC_ok 0) hok0 ok_nil 0 s1 HA.out u ⟨2, s0.ins, s0.prt, 50, s0.non, 0, 0, 0⟩ s1.1 hisA ⟨h0, by omega⟩ (an_more HAN.out hm) (fun s' f' n' M' os1 W => hr s' f' 0 n' M' os1 W) (by omega) (by omega) (by omega) (by decide) (by unfold maxLen; decide) (by decide)).mono fun e V' hq => ?_
        obtain ⟨u', rfl, r, f', c', n', M', q1, q2, q3⟩ := hq
        rcases q3 with ⟨_, rfl, rfl, rfl, rfl, rfl⟩ | ⟨hh, _⟩ | ⟨hh, _⟩
        · exact ⟨u', rfl, q1, q2⟩
        · rw [hma] at hh; simp at hh
        · rw [hma] at hh; simp at hh
      · have h := pread_ans hr
        rwa [Pp.pbR_no hr.bd pans_nil] at h
    | true =>
      have hgo : (goes 0 0 && mayA s1) = true := by rw [hma]; decide
      by_cases hp : Pp.Pas ⟨2, s0.ins, s0.prt, 50, s0.non, 0, 0, 0⟩
      · have hear := fun os' W u (hW : Gm w gb g nm (bxC 0) 100 0 av f0 0 0 [] os' W) (hm : ∀ r ∈ os0, r ∈ os') hr => hear_pyes hW (bxC_ok 0) hok0 ok_nil 0 s1 HA.out u ⟨2, s0.ins, s0.prt, 50, s0.non, 0, 0, 0⟩ s1.1 hisA ⟨h0, by omega⟩ (an_more HAN.out hm) hr (by omega) (by omega) (by omega) (by decide) (by unfold maxLen; decide) (by decide) hgo hp
        have hins := hp.1.2.1
        have hprt := hp.1.2.2.1
        dsimp only at hins hprt
        by_cases hin : 1 ≤ s0.ins
        · have hsv := srv_new (x := bxC 0) (bxC_ok 0) (by decide) (most := 100) (t := 0) (a := (s1.1, s0.ins)) (p := s0.prt) (s := 50) (by decide) (mayA_t (by unfold mayA at hma; simp at hma; exact hma.1.1) hin hins.2) (by decide) (by decide) (by decide)
          have hpc : pcpS (bxC 0) 100 0 (keptF f0 (liveM [] 0)) 0 (liveM [] 0) 0 s1 ⟨2, s0.ins, s0.prt, 50, s0.non, 0, 0, 0⟩ s1.1 = ⟨⟨2, s0.ins, P, 50, s0.non, 0, 0, 3405803777⟩, putF (cutIf true (keptF f0 (liveM [] 0)) (s1.1, s0.ins)) (s1.1, s0.ins) s0.non, 0 + 1, [askB (s1.1, s0.ins) P 50]⟩ := by
            unfold pcpS
            rw [if_neg (by simp), show liveM [] 0 = [] from rfl, if_neg (by simp)]
            dsimp only
            rw [hsv, ← hP]
            dsimp only
            rw [if_neg (by omega)]
            rfl
          rw [hpc] at hear
          refine ⟨_, ⟨2, s0.ins, P, 50, s0.non, 0, 0, 3405803777⟩, 0, _, _, _, hear, fun W u hr => ?_, .inr (.inr ⟨rfl, rfl, rfl, by simp [putF], rfl, rfl, hp, hin⟩)⟩
          have h := pread_ans hr
          rwa [Pp.pbR_yes ⟨by obtain ⟨_, i1, i2, _, i4, _, _, _⟩ := HL0.out; constructor <;> simp only [Pp.W64] at * <;> omega, by unfold Pp.Pan; dsimp only; omega, rfl⟩] at h
        · have hz : s0.ins = 0 := by omega
          have hsv := srv_bad (x := bxC 0) (most := 100) (t := 0) (a := (s1.1, s0.ins)) (p := s0.prt) (s := 50) (by decide) (mayA_f (.inr (.inl (by show s0.ins < 1; omega)))) (by decide) (by decide)
          have hpc : pcpS (bxC 0) 100 0 (keptF f0 (liveM [] 0)) 0 (liveM [] 0) 0 s1 ⟨2, s0.ins, s0.prt, 50, s0.non, 0, 0, 0⟩ s1.1 = ⟨⟨2, s0.ins, 0, 0, s0.non, 3, 0, 0⟩, cutIf false (keptF f0 (liveM [] 0)) (s1.1, s0.ins), 0, []⟩ := by
            unfold pcpS
            rw [if_neg (by simp), show liveM [] 0 = [] from rfl, if_neg (by simp)]
            dsimp only
            rw [hsv]
            dsimp only
            rw [if_pos rfl]
            rfl
          rw [hpc] at hear
          refine ⟨_, ⟨2, s0.ins, 0, 0, s0.non, 3, 0, 0⟩, 0, _, _, _, hear, fun W u hr => ?_, .inr (.inl ⟨rfl, rfl⟩)⟩
          have h := pread_ans hr
          rwa [Pp.pbR_yes ⟨by obtain ⟨_, i1, i2, _, i4, _, _, _⟩ := HL0.out; constructor <;> simp only [Pp.W64] at * <;> omega, by unfold Pp.Pan; dsimp only; omega, rfl⟩] at h
      · refine ⟨[], Pp.zeroL, 3, keptF f0 (liveM [] 0), 0, [], fun os' W u hW hm hr => ?_, fun W u hr => ?_, .inl rfl⟩
        · refine (hear_pask hW (bxC_ok 0) hok0 ok_nil 0 s1 HA.out u ⟨2, s0.ins, s0.prt, 50, s0.non, 0, 0, 0⟩ s1.1 hisA ⟨h0, by omega⟩ (an_more HAN.out hm) (fun s' f' n' M' os1 W => hr s' f' 0 n' M' os1 W) (by omega) (by omega) (by omega) (by decide) (by unfold maxLen; decide) (by decide)).mono fun e V' hq => ?_
          obtain ⟨u', rfl, r, f', c', n', M', q1, q2, q3⟩ := hq
          rcases q3 with ⟨hh, _⟩ | ⟨_, _, rfl, rfl, rfl, rfl, rfl⟩ | ⟨_, hh, _⟩
          · rw [hgo] at hh; cases hh
          · exact ⟨u', rfl, q1, q2⟩
          · exact absurd hh hp
        · have h := pread_ans hr
          rwa [Pp.pbR_no hr.bd pans_nil] at h)
  obtain ⟨RZ, L1, e1, f1, c1', M1, hhear, hread, hfact⟩ := HX.out
  have HHEAR := Lib.hid hhear
  have HREAD := Lib.hid hread
  have HFACT := Lib.hid hfact
  have HP := Lib.hid hP
  have HASK : Hid (∀ os' W, Gm w gb g nm (bxC 0) 100 0 av f0 0 0 [] os' W → Calls Try.prog 36 #[Pp.leV ⟨2, s0.ins, s0.prt, 50, s0.non, 0, 0, 0⟩, .int .u32 s1.1] W fun e V' => ∃ u OB, e = .returned u ∧ Gm w gb g nm (bxC 0) 100 0 av f0 0 0 [] (OB ++ os') V' ∧ (∀ s' f' c' n' M' os1 W, Gm w gb g nm (bxC 0) 100 s' av f' c' n' M' os1 W → (∀ r ∈ OB, r ∈ os1) → Pp.Row W u (Pp.paskR ⟨2, s0.ins, s0.prt, 50, s0.non, 0, 0, 0⟩ s1.1))) := Lib.hid (fun os' W hW => pask_gm hW ⟨2, s0.ins, s0.prt, 50, s0.non, 0, 0, 0⟩ hisA s1.1 ⟨h0, by omega⟩)
  have HS : Hid (∀ f' c' n' M' os1 W, Gm w gb g nm (bxC 0) 100 0 av f' c' n' M' os1 W → (∀ r ∈ os0, r ∈ os1) → (fun W => W.heap[w.heap.size]? = some (.cells (Pp.leA s0) 64 (0, 0)) ∧ W.heap[w.heap.size + 1]? = some (.cells #[.int .u32 s1.1, .int .i64 s1.2] 38 (0, 0))) W) := Lib.hid (fun f' c' n' M' os1 W hW hm => ⟨hW.held (hm _ HFL.out), hW.held (hm _ HFM.out)⟩)
  clear HX hhear hread hfact hP hok0 hisA
  unfold Pp.leV Pp.leA at HASK
  unfold adr at HHEAR
  unfold Pp.pbT Pp.leV Pp.leA at HREAD
  dsimp only at HASK
  go_cut [13, 14] from 19 (fun v13 v14 wc => ∃ q : Nat, v13 = .pointer (some ⟨q, 0, none⟩) ∧ v14 = .int .i64 e1 ∧ Hid (Gm w gb g nm (bxC 0) 100 0 av f1 c1' 0 M1 ((q, .cells (Pp.leA L1) 64 (0, 0)) :: os0) wc))
  case first =>
    have HC := Lib.hid (HG2.out.drewN 1)
    refine wp_region_held_drew (S := (fun W => W.heap[w.heap.size]? = some (.cells (Pp.leA s0) 64 (0, 0)) ∧ W.heap[w.heap.size + 1]? = some (.cells #[.int .u32 s1.1, .int .i64 s1.2] 38 (0, 0)))) (by kernel_rfl) (HS.out _ _ _ _ _ _ HC.out (fun r hr => by simp [hr])) (fun hHeld => ?_)
    refine wpAnyH_take (i := 0) (oi := _) (v := ?_) rfl (by kernel_rfl) (by kernel_rfl) (by kernel_rfl) (fun _ _ _ h => h) (Or.inl ⟨by rfl, ?_⟩) (by assumption) ?_
    case refine_2 => intro w hSw; (try dsimp only at hSw); obtain ⟨hS1, hS2⟩ := hSw; obtain ⟨k0, k1, kl⟩ := ad_cells hS2; obtain ⟨⟨m0, m1, m2, m3, m4, m5, m6, m7⟩, mf, ml⟩ := le_cells hS1; clear hS1 hS2 mf; go_simp; first | done | (with_reducible rfl)
    try simp only [Act.put, List.getElem_toArray, List.getElem_cons_zero, List.getElem_cons_succ, List.setIfInBounds_toArray, List.set_cons_zero, List.set_cons_succ]
    refine wpAnyH_take (i := 1) (oi := _) (v := ?_) rfl (by kernel_rfl) (by kernel_rfl) (by kernel_rfl) (fun _ _ _ h => h) (Or.inl ⟨by rfl, ?_⟩) (by assumption) ?_
    case refine_2 => intro w hSw; (try dsimp only at hSw); obtain ⟨hS1, hS2⟩ := hSw; obtain ⟨k0, k1, kl⟩ := ad_cells hS2; obtain ⟨⟨m0, m1, m2, m3, m4, m5, m6, m7⟩, mf, ml⟩ := le_cells hS1; clear hS1 hS2 mf; go_simp; first | done | (with_reducible rfl)
    try simp only [Act.put, List.getElem_toArray, List.getElem_cons_zero, List.getElem_cons_succ, List.setIfInBounds_toArray, List.set_cons_zero, List.set_cons_succ]
    refine wpAnyH_take (i := 2) (oi := _) (v := ?_) rfl (by kernel_rfl) (by kernel_rfl) (by kernel_rfl) (fun _ _ _ h => h) (Or.inl ⟨by rfl, ?_⟩) (by assumption) ?_
    case refine_2 => intro w hSw; (try dsimp only at hSw); obtain ⟨hS1, hS2⟩ := hSw; obtain ⟨k0, k1, kl⟩ := ad_cells hS2; obtain ⟨⟨m0, m1, m2, m3, m4, m5, m6, m7⟩, mf, ml⟩ := le_cells hS1; clear hS1 hS2 mf; go_simp; first | done | (with_reducible rfl)
    try simp only [Act.put, List.getElem_toArray, List.getElem_cons_zero, List.getElem_cons_succ, List.setIfInBounds_toArray, List.set_cons_zero, List.set_cons_succ]
    refine wpAnyH_take (i := 3) (oi := _) (v := ?_) rfl (by kernel_rfl) (by kernel_rfl) (by kernel_rfl) (fun _ _ _ h => h) (Or.inl ⟨by rfl, ?_⟩) (by assumption) ?_
    case refine_2 => intro w hSw; (try dsimp only at hSw); obtain ⟨hS1, hS2⟩ := hSw; obtain ⟨k0, k1, kl⟩ := ad_cells hS2; obtain ⟨⟨m0, m1, m2, m3, m4, m5, m6, m7⟩, mf, ml⟩ := le_cells hS1; clear hS1 hS2 mf; go_simp; first | done | (with_reducible rfl)
    try simp only [Act.put, List.getElem_toArray, List.getElem_cons_zero, List.getElem_cons_succ, List.setIfInBounds_toArray, List.set_cons_zero, List.set_cons_succ]
    refine wpAnyH_take (i := 4) (oi := _) (v := ?_) rfl (by kernel_rfl) (by kernel_rfl) (by kernel_rfl) (fun _ _ _ h => h) (Or.inl ⟨by rfl, ?_⟩) (by assumption) ?_
    case refine_2 => intro w hSw; (try dsimp only at hSw); obtain ⟨hS1, hS2⟩ := hSw; obtain ⟨k0, k1, kl⟩ := ad_cells hS2; obtain ⟨⟨m0, m1, m2, m3, m4, m5, m6, m7⟩, mf, ml⟩ := le_cells hS1; clear hS1 hS2 mf; go_simp; first | done | (with_reducible rfl)
    try simp only [Act.put, List.getElem_toArray, List.getElem_cons_zero, List.getElem_cons_succ, List.setIfInBounds_toArray, List.set_cons_zero, List.set_cons_succ]
    refine wpAnyH_take (i := 5) (oi := _) (v := ?_) rfl (by kernel_rfl) (by kernel_rfl) (by kernel_rfl) (fun _ _ _ h => h) (Or.inl ⟨by rfl, ?_⟩) (by assumption) ?_
    case refine_2 => intro w hSw; (try dsimp only at hSw); obtain ⟨hS1, hS2⟩ := hSw; obtain ⟨k0, k1, kl⟩ := ad_cells hS2; obtain ⟨⟨m0, m1, m2, m3, m4, m5, m6, m7⟩, mf, ml⟩ := le_cells hS1; clear hS1 hS2 mf; go_simp; first | done | (with_reducible rfl)
    try simp only [Act.put, List.getElem_toArray, List.getElem_cons_zero, List.getElem_cons_succ, List.setIfInBounds_toArray, List.set_cons_zero, List.set_cons_succ]
    refine wpAnyH_take (i := 6) (oi := _) (v := ?_) rfl (by kernel_rfl) (by kernel_rfl) (by kernel_rfl) (fun _ _ _ h => h) (Or.inl ⟨by rfl, ?_⟩) (by assumption) ?_
    case refine_2 => intro w hSw; (try dsimp only at hSw); obtain ⟨hS1, hS2⟩ := hSw; obtain ⟨k0, k1, kl⟩ := ad_cells hS2; obtain ⟨⟨m0, m1, m2, m3, m4, m5, m6, m7⟩, mf, ml⟩ := le_cells hS1; clear hS1 hS2 mf; go_simp; first | done | (with_reducible rfl)
    try simp only [Act.put, List.getElem_toArray, List.getElem_cons_zero, List.getElem_cons_succ, List.setIfInBounds_toArray, List.set_cons_zero, List.set_cons_succ]
    refine wpAnyH_take (i := 7) (oi := _) (v := ?_) rfl (by kernel_rfl) (by kernel_rfl) (by kernel_rfl) (fun _ _ _ h => h) (Or.inl ⟨by rfl, ?_⟩) (by assumption) ?_
    case refine_2 => intro w hSw; (try dsimp only at hSw); obtain ⟨hS1, hS2⟩ := hSw; obtain ⟨k0, k1, kl⟩ := ad_cells hS2; obtain ⟨⟨m0, m1, m2, m3, m4, m5, m6, m7⟩, mf, ml⟩ := le_cells hS1; clear hS1 hS2 mf; go_simp; first | done | (with_reducible rfl)
    try simp only [Act.put, List.getElem_toArray, List.getElem_cons_zero, List.getElem_cons_succ, List.setIfInBounds_toArray, List.set_cons_zero, List.set_cons_succ]
    refine wpAnyH_take (i := 8) (oi := _) (v := ?_) rfl (by kernel_rfl) (by kernel_rfl) (by kernel_rfl) (fun _ _ _ h => h) (Or.inl ⟨by rfl, ?_⟩) (by assumption) ?_
    case refine_2 => intro w hSw; (try dsimp only at hSw); obtain ⟨hS1, hS2⟩ := hSw; obtain ⟨k0, k1, kl⟩ := ad_cells hS2; obtain ⟨⟨m0, m1, m2, m3, m4, m5, m6, m7⟩, mf, ml⟩ := le_cells hS1; clear hS1 hS2 mf; go_simp; first | done | (with_reducible rfl)
    try simp only [Act.put, List.getElem_toArray, List.getElem_cons_zero, List.getElem_cons_succ, List.setIfInBounds_toArray, List.set_cons_zero, List.set_cons_succ]
    refine wpAnyH_take (i := 9) (oi := _) (v := ?_) rfl (by kernel_rfl) (by kernel_rfl) (by kernel_rfl) (fun _ _ _ h => h) (Or.inl ⟨by rfl, ?_⟩) (by assumption) ?_
    case refine_2 => intro w hSw; (try dsimp only at hSw); obtain ⟨hS1, hS2⟩ := hSw; obtain ⟨k0, k1, kl⟩ := ad_cells hS2; obtain ⟨⟨m0, m1, m2, m3, m4, m5, m6, m7⟩, mf, ml⟩ := le_cells hS1; clear hS1 hS2 mf; go_simp; first | done | (with_reducible rfl)
    try simp only [Act.put, List.getElem_toArray, List.getElem_cons_zero, List.getElem_cons_succ, List.setIfInBounds_toArray, List.set_cons_zero, List.set_cons_succ]
    refine wpAnyH_take (i := 10) (oi := _) (v := ?_) rfl (by kernel_rfl) (by kernel_rfl) (by kernel_rfl) (fun _ _ _ h => h) (Or.inl ⟨by rfl, ?_⟩) (by assumption) ?_
    case refine_2 => intro w hSw; (try dsimp only at hSw); obtain ⟨hS1, hS2⟩ := hSw; obtain ⟨k0, k1, kl⟩ := ad_cells hS2; obtain ⟨⟨m0, m1, m2, m3, m4, m5, m6, m7⟩, mf, ml⟩ := le_cells hS1; clear hS1 hS2 mf; go_simp; first | done | (with_reducible rfl)
    try simp only [Act.put, List.getElem_toArray, List.getElem_cons_zero, List.getElem_cons_succ, List.setIfInBounds_toArray, List.set_cons_zero, List.set_cons_succ]
    refine wpAnyH_ready (rs := [11, 17]) (by kernel_rfl) (by simp) ?_
    refine (AllReadyH.cons rfl (fun K hK => ?_) (AllReadyH.cons rfl (fun K hK => ?_) AllReadyH.nil))
    · go_simp
      go_at_call 36
      refine (HASK.out _ _ HC.out).mono ?_
      rintro e W1b ⟨u, OB, rfl, hg, hrw⟩
      have HC := Lib.hid hg
      have HRW := Lib.hid hrw
      clear hg hrw
      refine hK.out _ _ (HS.out _ _ _ _ _ _ HC.out (fun r hr => by simp [hr])) (fun hHeld => ?_)
      clear hK K
      try simp only [Act.put, List.getElem_toArray, List.getElem_cons_zero, List.getElem_cons_succ, List.setIfInBounds_toArray, List.set_cons_zero, List.set_cons_succ]
      refine wpAnyH_ready (rs := [12, 17]) (by kernel_rfl) (by simp) ?_
      refine (AllReadyH.cons rfl (fun K hK => ?_) (AllReadyH.cons rfl (fun K hK => ?_) AllReadyH.nil))
      · go_simp
        go_at_call 32
        refine (HHEAR.out _ _ _ HC.out (fun r hr => by simp [hr]) (fun s1 f1 c1 n1 M1 os1 W hW hs => HRW.out s1 f1 c1 n1 M1 os1 W hW (fun r hr => hs r (by simp [hr])))).mono ?_
        rintro e W2b ⟨u2, rfl, hro, hg⟩
        have HC := Lib.hid hg
        have HRO := Lib.hid hro
        obtain ⟨A2, d2, rfl⟩ := row_form hro
        clear hg hro
        refine hK.out _ _ (HS.out _ _ _ _ _ _ HC.out (fun r hr => by simp [hr])) (fun hHeld => ?_)
        clear hK K
        try simp only [Act.put, List.getElem_toArray, List.getElem_cons_zero, List.getElem_cons_succ, List.setIfInBounds_toArray, List.set_cons_zero, List.set_cons_succ]
        refine wpAnyH_ready (rs := [13, 17]) (by kernel_rfl) (by simp) ?_
        refine (AllReadyH.cons rfl (fun K hK => ?_) (AllReadyH.cons rfl (fun K hK => ?_) AllReadyH.nil))
        · go_simp
          go_at_call 35
          refine (HREAD.out _ _ HRO.out).mono ?_
          rintro e W3b ⟨rfl, hb⟩
          have HC := Lib.hid ((HC.out.below hb).sub (os' := os0) (fun r hr => by simp [hr]))
          clear hb
          refine hK.out _ _ (HS.out _ _ _ _ _ _ HC.out (fun r hr => by simp [hr])) (fun hHeld => ?_)
          clear hK K
          try simp only [Act.put, List.getElem_toArray, List.getElem_cons_zero, List.getElem_cons_succ, List.setIfInBounds_toArray, List.set_cons_zero, List.set_cons_succ]
          refine wpAnyH_take (i := 14) (oi := _) (v := ?_) rfl (by kernel_rfl) (by kernel_rfl) (by kernel_rfl) (fun _ _ _ h => h) (Or.inl ⟨by rfl, ?_⟩) (by assumption) ?_
          case refine_2 => intro w hSw; (try dsimp only at hSw); obtain ⟨hS1, hS2⟩ := hSw; obtain ⟨k0, k1, kl⟩ := ad_cells hS2; obtain ⟨⟨m0, m1, m2, m3, m4, m5, m6, m7⟩, mf, ml⟩ := le_cells hS1; clear hS1 hS2 mf; go_simp; first | done | (with_reducible rfl)
          try simp only [Act.put, List.getElem_toArray, List.getElem_cons_zero, List.getElem_cons_succ, List.setIfInBounds_toArray, List.set_cons_zero, List.set_cons_succ]
          refine wpAnyH_take (i := 15) (oi := _) (v := ?_) rfl (by kernel_rfl) (by kernel_rfl) (by kernel_rfl) (fun _ _ _ h => h) (Or.inl ⟨by rfl, ?_⟩) (by assumption) ?_
          case refine_2 => intro w hSw; (try dsimp only at hSw); obtain ⟨hS1, hS2⟩ := hSw; obtain ⟨k0, k1, kl⟩ := ad_cells hS2; obtain ⟨⟨m0, m1, m2, m3, m4, m5, m6, m7⟩, mf, ml⟩ := le_cells hS1; clear hS1 hS2 mf; go_simp; first | done | (with_reducible rfl)
          try simp only [Act.put, List.getElem_toArray, List.getElem_cons_zero, List.getElem_cons_succ, List.setIfInBounds_toArray, List.set_cons_zero, List.set_cons_succ]
          refine wpAnyH_take (i := 16) (oi := _) (v := ?_) rfl (by kernel_rfl) (by kernel_rfl) (by kernel_rfl) (fun _ _ _ h => h) (Or.inl ⟨by rfl, ?_⟩) (by assumption) ?_
          case refine_2 => intro w hSw; (try dsimp only at hSw); obtain ⟨hS1, hS2⟩ := hSw; obtain ⟨k0, k1, kl⟩ := ad_cells hS2; obtain ⟨⟨m0, m1, m2, m3, m4, m5, m6, m7⟩, mf, ml⟩ := le_cells hS1; clear hS1 hS2 mf; go_simp; first | done | (with_reducible rfl)
          try simp only [Act.put, List.getElem_toArray, List.getElem_cons_zero, List.getElem_cons_succ, List.setIfInBounds_toArray, List.set_cons_zero, List.set_cons_succ]
          refine wpAnyH_ready (rs := [17]) (by kernel_rfl) (by simp) ?_
          refine (AllReadyH.cons rfl (fun K hK => ?_) AllReadyH.nil)
          go_simp
          have HN : Hid (∀ r ∈ os0, r.1 ≠ W3b.heap.size) := Lib.hid (fun r hr e => by have hlt : r.1 < W3b.heap.size := HC.out.lt (p := r) (by simp [hr]); omega)
          have HLW : Hid (w.heap.size ≤ W3b.heap.size) := Lib.hid HC.out.low.size
          have HPRE := Lib.hid HC.out
          have HC := Lib.hid (HC.out.box (k := W3b.heap.size) #[.int .i64 0, .int .i64 0, .int .i64 0, .int .i64 0, .int .u64 0, .int .i64 0, .int .i64 0, .int .u32 0] 64 rfl)
          refine hK.out _ _ (HS.out _ _ _ _ _ _ HC.out (fun r hr => by simp [hr])) (fun hHeld => ?_)
          clear hK K
          try simp only [Act.put, List.getElem_toArray, List.getElem_cons_zero, List.getElem_cons_succ, List.setIfInBounds_toArray, List.set_cons_zero, List.set_cons_succ]
          refine wpAnyH_ready (rs := [18]) (by kernel_rfl) (by simp) ?_
          refine (AllReadyH.cons rfl (fun K hK => ?_) AllReadyH.nil)
          have HU := Lib.hid (le_cells (l := Pp.zeroL) (g := W3b.heap.size) (HC.out.held (p := (W3b.heap.size, .cells #[.int .i64 0, .int .i64 0, .int .i64 0, .int .i64 0, .int .u64 0, .int .i64 0, .int .i64 0, .int .u32 0] 64 (0, 0))) List.mem_cons_self))
          obtain ⟨⟨y0, y1, y2, y3, y4, y5, y6, y7⟩, fz, yl⟩ := HU.out
          go_simp
          clear y0 y1 y2 y3 y4 y5 y6 y7 fz yl HU
          have HC := Lib.hid (HPRE.out.box (k := W3b.heap.size) (Pp.leA L1) 64 rfl)
          refine hK.out _ _ (HS.out _ _ _ _ _ _ HC.out (fun r hr => by simp [hr])) (fun hHeld => ?_)
          clear hK K
          try simp only [Act.put, List.getElem_toArray, List.getElem_cons_zero, List.getElem_cons_succ, List.setIfInBounds_toArray, List.set_cons_zero, List.set_cons_succ]
          refine wpAnyH_take (i := 19) (oi := _) (v := ?_) rfl (by kernel_rfl) (by kernel_rfl) (by kernel_rfl) (fun _ _ _ h => h) (Or.inl ⟨by rfl, ?_⟩) (by assumption) ?_
          case refine_2 => intro w hSw; (try dsimp only at hSw); obtain ⟨hS1, hS2⟩ := hSw; obtain ⟨k0, k1, kl⟩ := ad_cells hS2; obtain ⟨⟨m0, m1, m2, m3, m4, m5, m6, m7⟩, mf, ml⟩ := le_cells hS1; clear hS1 hS2 mf; go_simp; first | done | (with_reducible rfl)
          try simp only [Act.put, List.getElem_toArray, List.getElem_cons_zero, List.getElem_cons_succ, List.setIfInBounds_toArray, List.set_cons_zero, List.set_cons_succ]
          refine wpAnyH_done (by kernel_rfl) ?_ _
          go_wp2
          go_meet
          case rel => exact ⟨_, rfl, rfl, HC⟩
        · go_simp
          have HN : Hid (∀ r ∈ os0, r.1 ≠ W2b.heap.size) := Lib.hid (fun r hr e => by have hlt : r.1 < W2b.heap.size := HC.out.lt (p := r) (by simp [hr]); omega)
          have HLW : Hid (w.heap.size ≤ W2b.heap.size) := Lib.hid HC.out.low.size
          have HC := Lib.hid (HC.out.box (k := W2b.heap.size) #[.int .i64 0, .int .i64 0, .int .i64 0, .int .i64 0, .int .u64 0, .int .i64 0, .int .i64 0, .int .u32 0] 64 rfl)
          have HRO := Lib.hid (HRO.out.below ((Below.refl _ _).alloc (Nat.le_refl _) (.cells #[.int .i64 0, .int .i64 0, .int .i64 0, .int .i64 0, .int .u64 0, .int .i64 0, .int .i64 0, .int .u32 0] 64)))
          refine hK.out _ _ (HS.out _ _ _ _ _ _ HC.out (fun r hr => by simp [hr])) (fun hHeld => ?_)
          clear hK K
          try simp only [Act.put, List.getElem_toArray, List.getElem_cons_zero, List.getElem_cons_succ, List.setIfInBounds_toArray, List.set_cons_zero, List.set_cons_succ]
          refine wpAnyH_ready (rs := [13]) (by kernel_rfl) (by simp) ?_
          refine (AllReadyH.cons rfl (fun K hK => ?_) AllReadyH.nil)
          go_simp
          go_at_call 35
          refine (HREAD.out _ _ HRO.out).mono ?_
          rintro e W3a ⟨rfl, hb⟩
          have HC := Lib.hid ((HC.out.below hb).sub (os' := (W2b.heap.size, .cells #[.int .i64 0, .int .i64 0, .int .i64 0, .int .i64 0, .int .u64 0, .int .i64 0, .int .i64 0, .int .u32 0] 64 (0, 0)) :: os0) (fun r hr => by rcases List.mem_cons.1 hr with hr | hr; (subst hr; simp); simp [hr]))
          clear hb
          refine hK.out _ _ (HS.out _ _ _ _ _ _ HC.out (fun r hr => by simp [hr])) (fun hHeld => ?_)
          clear hK K
          try simp only [Act.put, List.getElem_toArray, List.getElem_cons_zero, List.getElem_cons_succ, List.setIfInBounds_toArray, List.set_cons_zero, List.set_cons_succ]
          refine wpAnyH_take (i := 14) (oi := _) (v := ?_) rfl (by kernel_rfl) (by kernel_rfl) (by kernel_rfl) (fun _ _ _ h => h) (Or.inl ⟨by rfl, ?_⟩) (by assumption) ?_
          case refine_2 => intro w hSw; (try dsimp only at hSw); obtain ⟨hS1, hS2⟩ := hSw; obtain ⟨k0, k1, kl⟩ := ad_cells hS2; obtain ⟨⟨m0, m1, m2, m3, m4, m5, m6, m7⟩, mf, ml⟩ := le_cells hS1; clear hS1 hS2 mf; go_simp; first | done | (with_reducible rfl)
          try simp only [Act.put, List.getElem_toArray, List.getElem_cons_zero, List.getElem_cons_succ, List.setIfInBounds_toArray, List.set_cons_zero, List.set_cons_succ]
          refine wpAnyH_take (i := 15) (oi := _) (v := ?_) rfl (by kernel_rfl) (by kernel_rfl) (by kernel_rfl) (fun _ _ _ h => h) (Or.inl ⟨by rfl, ?_⟩) (by assumption) ?_
          case refine_2 => intro w hSw; (try dsimp only at hSw); obtain ⟨hS1, hS2⟩ := hSw; obtain ⟨k0, k1, kl⟩ := ad_cells hS2; obtain ⟨⟨m0, m1, m2, m3, m4, m5, m6, m7⟩, mf, ml⟩ := le_cells hS1; clear hS1 hS2 mf; go_simp; first | done | (with_reducible rfl)
          try simp only [Act.put, List.getElem_toArray, List.getElem_cons_zero, List.getElem_cons_succ, List.setIfInBounds_toArray, List.set_cons_zero, List.set_cons_succ]
          refine wpAnyH_take (i := 16) (oi := _) (v := ?_) rfl (by kernel_rfl) (by kernel_rfl) (by kernel_rfl) (fun _ _ _ h => h) (Or.inl ⟨by rfl, ?_⟩) (by assumption) ?_
          case refine_2 => intro w hSw; (try dsimp only at hSw); obtain ⟨hS1, hS2⟩ := hSw; obtain ⟨k0, k1, kl⟩ := ad_cells hS2; obtain ⟨⟨m0, m1, m2, m3, m4, m5, m6, m7⟩, mf, ml⟩ := le_cells hS1; clear hS1 hS2 mf; go_simp; first | done | (with_reducible rfl)
          try simp only [Act.put, List.getElem_toArray, List.getElem_cons_zero, List.getElem_cons_succ, List.setIfInBounds_toArray, List.set_cons_zero, List.set_cons_succ]
          refine wpAnyH_ready (rs := [18]) (by kernel_rfl) (by simp) ?_
          refine (AllReadyH.cons rfl (fun K hK => ?_) AllReadyH.nil)
          have HU := Lib.hid (le_cells (l := Pp.zeroL) (g := W2b.heap.size) (HC.out.held (p := (W2b.heap.size, .cells #[.int .i64 0, .int .i64 0, .int .i64 0, .int .i64 0, .int .u64 0, .int .i64 0, .int .i64 0, .int .u32 0] 64 (0, 0))) List.mem_cons_self))
          obtain ⟨⟨y0, y1, y2, y3, y4, y5, y6, y7⟩, fz, yl⟩ := HU.out
          go_simp
          clear y0 y1 y2 y3 y4 y5 y6 y7 fz yl HU
          have HC := Lib.hid (HC.out.put8 L1 HN.out HLW.out (l0 := Pp.zeroL))
          refine hK.out _ _ (HS.out _ _ _ _ _ _ HC.out (fun r hr => by simp [hr])) (fun hHeld => ?_)
          clear hK K
          try simp only [Act.put, List.getElem_toArray, List.getElem_cons_zero, List.getElem_cons_succ, List.setIfInBounds_toArray, List.set_cons_zero, List.set_cons_succ]
          refine wpAnyH_take (i := 19) (oi := _) (v := ?_) rfl (by kernel_rfl) (by kernel_rfl) (by kernel_rfl) (fun _ _ _ h => h) (Or.inl ⟨by rfl, ?_⟩) (by assumption) ?_
          case refine_2 => intro w hSw; (try dsimp only at hSw); obtain ⟨hS1, hS2⟩ := hSw; obtain ⟨k0, k1, kl⟩ := ad_cells hS2; obtain ⟨⟨m0, m1, m2, m3, m4, m5, m6, m7⟩, mf, ml⟩ := le_cells hS1; clear hS1 hS2 mf; go_simp; first | done | (with_reducible rfl)
          try simp only [Act.put, List.getElem_toArray, List.getElem_cons_zero, List.getElem_cons_succ, List.setIfInBounds_toArray, List.set_cons_zero, List.set_cons_succ]
          refine wpAnyH_done (by kernel_rfl) ?_ _
          go_wp2
          go_meet
          case rel => exact ⟨_, rfl, rfl, HC⟩
      · go_simp
        have HN : Hid (∀ r ∈ os0, r.1 ≠ W1b.heap.size) := Lib.hid (fun r hr e => by have hlt : r.1 < W1b.heap.size := HC.out.lt (p := r) (by simp [hr]); omega)
        have HLW : Hid (w.heap.size ≤ W1b.heap.size) := Lib.hid HC.out.low.size
        have HC := Lib.hid (HC.out.box (k := W1b.heap.size) #[.int .i64 0, .int .i64 0, .int .i64 0, .int .i64 0, .int .u64 0, .int .i64 0, .int .i64 0, .int .u32 0] 64 rfl)
        refine hK.out _ _ (HS.out _ _ _ _ _ _ HC.out (fun r hr => by simp [hr])) (fun hHeld => ?_)
        clear hK K
        try simp only [Act.put, List.getElem_toArray, List.getElem_cons_zero, List.getElem_cons_succ, List.setIfInBounds_toArray, List.set_cons_zero, List.set_cons_succ]
        refine wpAnyH_ready (rs := [12]) (by kernel_rfl) (by simp) ?_
        refine (AllReadyH.cons rfl (fun K hK => ?_) AllReadyH.nil)
        go_simp
        go_at_call 32
        refine (HHEAR.out _ _ _ HC.out (fun r hr => by simp [hr]) (fun s1 f1 c1 n1 M1 os1 W hW hs => HRW.out s1 f1 c1 n1 M1 os1 W hW (fun r hr => hs r (by simp [hr])))).mono ?_
        rintro e W2a ⟨u2, rfl, hro, hg⟩
        have HC := Lib.hid hg
        have HRO := Lib.hid hro
        obtain ⟨A2, d2, rfl⟩ := row_form hro
        clear hg hro
        refine hK.out _ _ (HS.out _ _ _ _ _ _ HC.out (fun r hr => by simp [hr])) (fun hHeld => ?_)
        clear hK K
        try simp only [Act.put, List.getElem_toArray, List.getElem_cons_zero, List.getElem_cons_succ, List.setIfInBounds_toArray, List.set_cons_zero, List.set_cons_succ]
        refine wpAnyH_ready (rs := [13]) (by kernel_rfl) (by simp) ?_
        refine (AllReadyH.cons rfl (fun K hK => ?_) AllReadyH.nil)
        go_simp
        go_at_call 35
        refine (HREAD.out _ _ HRO.out).mono ?_
        rintro e W3a ⟨rfl, hb⟩
        have HC := Lib.hid ((HC.out.below hb).sub (os' := (W1b.heap.size, .cells #[.int .i64 0, .int .i64 0, .int .i64 0, .int .i64 0, .int .u64 0, .int .i64 0, .int .i64 0, .int .u32 0] 64 (0, 0)) :: os0) (fun r hr => by rcases List.mem_cons.1 hr with hr | hr; (subst hr; simp); simp [hr]))
        clear hb
        refine hK.out _ _ (HS.out _ _ _ _ _ _ HC.out (fun r hr => by simp [hr])) (fun hHeld => ?_)
        clear hK K
        try simp only [Act.put, List.getElem_toArray, List.getElem_cons_zero, List.getElem_cons_succ, List.setIfInBounds_toArray, List.set_cons_zero, List.set_cons_succ]
        refine wpAnyH_take (i := 14) (oi := _) (v := ?_) rfl (by kernel_rfl) (by kernel_rfl) (by kernel_rfl) (fun _ _ _ h => h) (Or.inl ⟨by rfl, ?_⟩) (by assumption) ?_
        case refine_2 => intro w hSw; (try dsimp only at hSw); obtain ⟨hS1, hS2⟩ := hSw; obtain ⟨k0, k1, kl⟩ := ad_cells hS2; obtain ⟨⟨m0, m1, m2, m3, m4, m5, m6, m7⟩, mf, ml⟩ := le_cells hS1; clear hS1 hS2 mf; go_simp; first | done | (with_reducible rfl)
        try simp only [Act.put, List.getElem_toArray, List.getElem_cons_zero, List.getElem_cons_succ, List.setIfInBounds_toArray, List.set_cons_zero, List.set_cons_succ]
        refine wpAnyH_take (i := 15) (oi := _) (v := ?_) rfl (by kernel_rfl) (by kernel_rfl) (by kernel_rfl) (fun _ _ _ h => h) (Or.inl ⟨by rfl, ?_⟩) (by assumption) ?_
        case refine_2 => intro w hSw; (try dsimp only at hSw); obtain ⟨hS1, hS2⟩ := hSw; obtain ⟨k0, k1, kl⟩ := ad_cells hS2; obtain ⟨⟨m0, m1, m2, m3, m4, m5, m6, m7⟩, mf, ml⟩ := le_cells hS1; clear hS1 hS2 mf; go_simp; first | done | (with_reducible rfl)
        try simp only [Act.put, List.getElem_toArray, List.getElem_cons_zero, List.getElem_cons_succ, List.setIfInBounds_toArray, List.set_cons_zero, List.set_cons_succ]
        refine wpAnyH_take (i := 16) (oi := _) (v := ?_) rfl (by kernel_rfl) (by kernel_rfl) (by kernel_rfl) (fun _ _ _ h => h) (Or.inl ⟨by rfl, ?_⟩) (by assumption) ?_
        case refine_2 => intro w hSw; (try dsimp only at hSw); obtain ⟨hS1, hS2⟩ := hSw; obtain ⟨k0, k1, kl⟩ := ad_cells hS2; obtain ⟨⟨m0, m1, m2, m3, m4, m5, m6, m7⟩, mf, ml⟩ := le_cells hS1; clear hS1 hS2 mf; go_simp; first | done | (with_reducible rfl)
        try simp only [Act.put, List.getElem_toArray, List.getElem_cons_zero, List.getElem_cons_succ, List.setIfInBounds_toArray, List.set_cons_zero, List.set_cons_succ]
        refine wpAnyH_ready (rs := [18]) (by kernel_rfl) (by simp) ?_
        refine (AllReadyH.cons rfl (fun K hK => ?_) AllReadyH.nil)
        have HU := Lib.hid (le_cells (l := Pp.zeroL) (g := W1b.heap.size) (HC.out.held (p := (W1b.heap.size, .cells #[.int .i64 0, .int .i64 0, .int .i64 0, .int .i64 0, .int .u64 0, .int .i64 0, .int .i64 0, .int .u32 0] 64 (0, 0))) List.mem_cons_self))
        obtain ⟨⟨y0, y1, y2, y3, y4, y5, y6, y7⟩, fz, yl⟩ := HU.out
        go_simp
        clear y0 y1 y2 y3 y4 y5 y6 y7 fz yl HU
        have HC := Lib.hid (HC.out.put8 L1 HN.out HLW.out (l0 := Pp.zeroL))
        refine hK.out _ _ (HS.out _ _ _ _ _ _ HC.out (fun r hr => by simp [hr])) (fun hHeld => ?_)
        clear hK K
        try simp only [Act.put, List.getElem_toArray, List.getElem_cons_zero, List.getElem_cons_succ, List.setIfInBounds_toArray, List.set_cons_zero, List.set_cons_succ]
        refine wpAnyH_take (i := 19) (oi := _) (v := ?_) rfl (by kernel_rfl) (by kernel_rfl) (by kernel_rfl) (fun _ _ _ h => h) (Or.inl ⟨by rfl, ?_⟩) (by assumption) ?_
        case refine_2 => intro w hSw; (try dsimp only at hSw); obtain ⟨hS1, hS2⟩ := hSw; obtain ⟨k0, k1, kl⟩ := ad_cells hS2; obtain ⟨⟨m0, m1, m2, m3, m4, m5, m6, m7⟩, mf, ml⟩ := le_cells hS1; clear hS1 hS2 mf; go_simp; first | done | (with_reducible rfl)
        try simp only [Act.put, List.getElem_toArray, List.getElem_cons_zero, List.getElem_cons_succ, List.setIfInBounds_toArray, List.set_cons_zero, List.set_cons_succ]
        refine wpAnyH_done (by kernel_rfl) ?_ _
        go_wp2
        go_meet
        case rel => exact ⟨_, rfl, rfl, HC⟩
    · go_simp
      have HN : Hid (∀ r ∈ os0, r.1 ≠ V2.heap.size) := Lib.hid (fun r hr e => by have hlt : r.1 < V2.heap.size := HC.out.lt (p := r) (by simp [hr]); omega)
      have HLW : Hid (w.heap.size ≤ V2.heap.size) := Lib.hid HC.out.low.size
      have HC := Lib.hid (HC.out.box (k := V2.heap.size) #[.int .i64 0, .int .i64 0, .int .i64 0, .int .i64 0, .int .u64 0, .int .i64 0, .int .i64 0, .int .u32 0] 64 rfl)
      refine hK.out _ _ (HS.out _ _ _ _ _ _ HC.out (fun r hr => by simp [hr])) (fun hHeld => ?_)
      clear hK K
      try simp only [Act.put, List.getElem_toArray, List.getElem_cons_zero, List.getElem_cons_succ, List.setIfInBounds_toArray, List.set_cons_zero, List.set_cons_succ]
      refine wpAnyH_ready (rs := [11]) (by kernel_rfl) (by simp) ?_
      refine (AllReadyH.cons rfl (fun K hK => ?_) AllReadyH.nil)
      go_simp
      go_at_call 36
      refine (HASK.out _ _ HC.out).mono ?_
      rintro e W1a ⟨u, OB, rfl, hg, hrw⟩
      have HC := Lib.hid hg
      have HRW := Lib.hid hrw
      clear hg hrw
      refine hK.out _ _ (HS.out _ _ _ _ _ _ HC.out (fun r hr => by simp [hr])) (fun hHeld => ?_)
      clear hK K
      try simp only [Act.put, List.getElem_toArray, List.getElem_cons_zero, List.getElem_cons_succ, List.setIfInBounds_toArray, List.set_cons_zero, List.set_cons_succ]
      refine wpAnyH_ready (rs := [12]) (by kernel_rfl) (by simp) ?_
      refine (AllReadyH.cons rfl (fun K hK => ?_) AllReadyH.nil)
      go_simp
      go_at_call 32
      refine (HHEAR.out _ _ _ HC.out (fun r hr => by simp [hr]) (fun s1 f1 c1 n1 M1 os1 W hW hs => HRW.out s1 f1 c1 n1 M1 os1 W hW (fun r hr => hs r (by simp [hr])))).mono ?_
      rintro e W2a ⟨u2, rfl, hro, hg⟩
      have HC := Lib.hid hg
      have HRO := Lib.hid hro
      obtain ⟨A2, d2, rfl⟩ := row_form hro
      clear hg hro
      refine hK.out _ _ (HS.out _ _ _ _ _ _ HC.out (fun r hr => by simp [hr])) (fun hHeld => ?_)
      clear hK K
      try simp only [Act.put, List.getElem_toArray, List.getElem_cons_zero, List.getElem_cons_succ, List.setIfInBounds_toArray, List.set_cons_zero, List.set_cons_succ]
      refine wpAnyH_ready (rs := [13]) (by kernel_rfl) (by simp) ?_
      refine (AllReadyH.cons rfl (fun K hK => ?_) AllReadyH.nil)
      go_simp
      go_at_call 35
      refine (HREAD.out _ _ HRO.out).mono ?_
      rintro e W3a ⟨rfl, hb⟩
      have HC := Lib.hid ((HC.out.below hb).sub (os' := (V2.heap.size, .cells #[.int .i64 0, .int .i64 0, .int .i64 0, .int .i64 0, .int .u64 0, .int .i64 0, .int .i64 0, .int .u32 0] 64 (0, 0)) :: os0) (fun r hr => by rcases List.mem_cons.1 hr with hr | hr; (subst hr; simp); simp [hr]))
      clear hb
      refine hK.out _ _ (HS.out _ _ _ _ _ _ HC.out (fun r hr => by simp [hr])) (fun hHeld => ?_)
      clear hK K
      try simp only [Act.put, List.getElem_toArray, List.getElem_cons_zero, List.getElem_cons_succ, List.setIfInBounds_toArray, List.set_cons_zero, List.set_cons_succ]
      refine wpAnyH_take (i := 14) (oi := _) (v := ?_) rfl (by kernel_rfl) (by kernel_rfl) (by kernel_rfl) (fun _ _ _ h => h) (Or.inl ⟨by rfl, ?_⟩) (by assumption) ?_
      case refine_2 => intro w hSw; (try dsimp only at hSw); obtain ⟨hS1, hS2⟩ := hSw; obtain ⟨k0, k1, kl⟩ := ad_cells hS2; obtain ⟨⟨m0, m1, m2, m3, m4, m5, m6, m7⟩, mf, ml⟩ := le_cells hS1; clear hS1 hS2 mf; go_simp; first | done | (with_reducible rfl)
      try simp only [Act.put, List.getElem_toArray, List.getElem_cons_zero, List.getElem_cons_succ, List.setIfInBounds_toArray, List.set_cons_zero, List.set_cons_succ]
      refine wpAnyH_take (i := 15) (oi := _) (v := ?_) rfl (by kernel_rfl) (by kernel_rfl) (by kernel_rfl) (fun _ _ _ h => h) (Or.inl ⟨by rfl, ?_⟩) (by assumption) ?_
      case refine_2 => intro w hSw; (try dsimp only at hSw); obtain ⟨hS1, hS2⟩ := hSw; obtain ⟨k0, k1, kl⟩ := ad_cells hS2; obtain ⟨⟨m0, m1, m2, m3, m4, m5, m6, m7⟩, mf, ml⟩ := le_cells hS1; clear hS1 hS2 mf; go_simp; first | done | (with_reducible rfl)
      try simp only [Act.put, List.getElem_toArray, List.getElem_cons_zero, List.getElem_cons_succ, List.setIfInBounds_toArray, List.set_cons_zero, List.set_cons_succ]
      refine wpAnyH_take (i := 16) (oi := _) (v := ?_) rfl (by kernel_rfl) (by kernel_rfl) (by kernel_rfl) (fun _ _ _ h => h) (Or.inl ⟨by rfl, ?_⟩) (by assumption) ?_
      case refine_2 => intro w hSw; (try dsimp only at hSw); obtain ⟨hS1, hS2⟩ := hSw; obtain ⟨k0, k1, kl⟩ := ad_cells hS2; obtain ⟨⟨m0, m1, m2, m3, m4, m5, m6, m7⟩, mf, ml⟩ := le_cells hS1; clear hS1 hS2 mf; go_simp; first | done | (with_reducible rfl)
      try simp only [Act.put, List.getElem_toArray, List.getElem_cons_zero, List.getElem_cons_succ, List.setIfInBounds_toArray, List.set_cons_zero, List.set_cons_succ]
      refine wpAnyH_ready (rs := [18]) (by kernel_rfl) (by simp) ?_
      refine (AllReadyH.cons rfl (fun K hK => ?_) AllReadyH.nil)
      have HU := Lib.hid (le_cells (l := Pp.zeroL) (g := V2.heap.size) (HC.out.held (p := (V2.heap.size, .cells #[.int .i64 0, .int .i64 0, .int .i64 0, .int .i64 0, .int .u64 0, .int .i64 0, .int .i64 0, .int .u32 0] 64 (0, 0))) List.mem_cons_self))
      obtain ⟨⟨y0, y1, y2, y3, y4, y5, y6, y7⟩, fz, yl⟩ := HU.out
      go_simp
      clear y0 y1 y2 y3 y4 y5 y6 y7 fz yl HU
      have HC := Lib.hid (HC.out.put8 L1 HN.out HLW.out (l0 := Pp.zeroL))
      refine hK.out _ _ (HS.out _ _ _ _ _ _ HC.out (fun r hr => by simp [hr])) (fun hHeld => ?_)
      clear hK K
      try simp only [Act.put, List.getElem_toArray, List.getElem_cons_zero, List.getElem_cons_succ, List.setIfInBounds_toArray, List.set_cons_zero, List.set_cons_succ]
      refine wpAnyH_take (i := 19) (oi := _) (v := ?_) rfl (by kernel_rfl) (by kernel_rfl) (by kernel_rfl) (fun _ _ _ h => h) (Or.inl ⟨by rfl, ?_⟩) (by assumption) ?_
      case refine_2 => intro w hSw; (try dsimp only at hSw); obtain ⟨hS1, hS2⟩ := hSw; obtain ⟨k0, k1, kl⟩ := ad_cells hS2; obtain ⟨⟨m0, m1, m2, m3, m4, m5, m6, m7⟩, mf, ml⟩ := le_cells hS1; clear hS1 hS2 mf; go_simp; first | done | (with_reducible rfl)
      try simp only [Act.put, List.getElem_toArray, List.getElem_cons_zero, List.getElem_cons_succ, List.setIfInBounds_toArray, List.set_cons_zero, List.set_cons_succ]
      refine wpAnyH_done (by kernel_rfl) ?_ _
      go_wp2
      go_meet
      case rel => exact ⟨_, rfl, rfl, HC⟩
  case rest =>
    obtain ⟨q1, rfl, rfl, HQ⟩ := hcut
    clear HASK HHEAR HREAD HG2 HS
    have hy := le_cells (l := L1) (g := q1) (HQ.out.held (p := (q1, .cells (Pp.leA L1) 64 (0, 0))) List.mem_cons_self)
    have HLOW := Lib.hid HQ.out.low
    rcases HFACT.out with he | ⟨he, hr⟩ | ⟨he, hL1, hM1, hf1, hc1, hma, hpas, hin⟩
    · subst he
      clear hy
      go_wp2
      go_ret
      exact ⟨rfl, HLOW.out⟩
    · subst he
      obtain ⟨⟨y0, y1, y2, y3, y4, y5, y6, y7⟩, yf, yl⟩ := hy
      rw [hr] at y5
      clear hr y0 y1 y2 y3 y4 y6 y7
      go_wp2
      go_ret
      exact ⟨rfl, HLOW.out⟩
    · subst he hL1 hM1 hc1
      dsimp only at hy
      obtain ⟨⟨y0, y1, y2, y3, y4, y5, y6, y7⟩, yf, yl⟩ := hy
      have HMA := Lib.hid hma
      have HF1 := Lib.hid hf1
      have HPAS := Lib.hid hpas
      have hins := hpas.1.2.1
      have hprt := hpas.1.2.2.1
      dsimp only at hins hprt
      obtain ⟨ins0, ins1⟩ := hins
      obtain ⟨prt0, prt1⟩ := hprt
      have HIN := Lib.hid (mayA_t (a := (s1.1, s0.ins)) (by unfold mayA at hma; simp at hma; exact hma.1.1) hin ins1)
      have hal := all_gm HQ.out (ok_one _ _ _) 1 (by decide)
      rw [live_ask (by decide)] at hal
      have HALL := Lib.hid hal
      clear hal hma hf1 hpas HFACT HLOW
      go_wp2_with fail
      refine HALL.out.mono ?_
      rintro e V4 ⟨⟨v, l4, rfl, hp4, hbs4⟩, hg4⟩
      have e4 := List.perm_singleton.1 hp4
      subst e4
      obtain ⟨bb, CC, hbb, hold⟩ := isBs_hold hbs4 (by simp)
      have hg5 := hg4.row hbb
      obtain ⟨b4, c4, rfl, _, _⟩ := isBs_one hbs4
      have HOLD := Lib.hid hold
      obtain ⟨os2, hos2⟩ : ∃ os2, os2 = (bb, Obj.cells CC 54 (0, 0)) :: (q1, Obj.cells (Pp.leA ⟨2, s0.ins, P, 50, s0.non, 0, 0, 3405803777⟩) 64 (0, 0)) :: os0 := ⟨_, rfl⟩
      rw [← hos2] at hg5
      have HG5 := Lib.hid hg5
      have HM0 : Hid (∀ r ∈ os0, r ∈ os2) := Lib.hid (fun r hr => by rw [hos2]; simp [hr])
      have HMB : Hid ((bb, Obj.cells CC 54 (0, 0)) ∈ os2) := Lib.hid (by rw [hos2]; simp)
      have HMQ : Hid ((q1, Obj.cells (Pp.leA ⟨2, s0.ins, P, 50, s0.non, 0, 0, 3405803777⟩) 64 (0, 0)) ∈ os2) := Lib.hid (by rw [hos2]; simp)
      clear hp4 hbs4 hg4 HALL hbb hold hg5 hos2 HQ y0 y1 y2 y3 y4 y5 y6 y7 yf yl
      go_upto_region 15 with (fail)
      have hlv : liveM [askB (s1.1, s0.ins) P 50] 1 = [askB (s1.1, s0.ins) P 50] := live_ask (by decide)
      have hgo : (goes 1 1 && mayA s1) = true := by rw [HMA.out]; decide
      have hok1 : Okb (bxC 0) [askB (s1.1, s0.ins) P 50] := ⟨by show (1 : Int) ≤ 12; decide, by simp, fun d hd => by simp at hd; subst hd; exact ⟨by show (40000 : Int) ≤ P; omega, by show P ≤ (40009 : Int); omega, by simp [askB]⟩⟩
      have hisB : Pp.isL ⟨2, s0.ins, s0.prt, secs, oth, 0, 0, 0⟩ := by constructor <;> simp only [Pp.W64] <;> omega
      have hpasB : Pp.Pas ⟨2, s0.ins, s0.prt, secs, oth, 0, 0, 0⟩ := by unfold Pp.Pas Pp.Pan; dsimp only; omega
      have hne : s1.1 ≠ 0 := by have := HMA.out; unfold mayA at this; simp at this; exact this.1.1
      have HX : Hid (∃ (L2 : Pp.Le) (M2 : List Bn) (f2 : Nf) (c2 : Nat), pcpS (bxC 0) 100 0 (keptF f1 [askB (s1.1, s0.ins) P 50]) 1 [askB (s1.1, s0.ins) P 50] 1 s1 ⟨2, s0.ins, s0.prt, secs, oth, 0, 0, 0⟩ s1.1 = ⟨L2, f2, c2, M2⟩ ∧ (Pp.isL L2 ∧ Pp.Pan L2) ∧
          ((oth ≠ s0.non ∧ L2 = ⟨2, s0.ins, 0, 0, oth, 2, 1, 0⟩ ∧ M2 = [askB (s1.1, s0.ins) P 50]) ∨ (oth = s0.non ∧ secs = 0 ∧ L2 = ⟨2, s0.ins, 0, 0, oth, 0, 1, 0⟩ ∧ M2 = []) ∨ (oth = s0.non ∧ 1 ≤ secs ∧ L2 = ⟨2, s0.ins, P, min secs 100, oth, 0, 1, 3405803777⟩ ∧ M2 = [askB (s1.1, s0.ins) P (1 + min secs 100)]))) := Lib.hid (by
        have hany : [askB (s1.1, s0.ins) P 50].any (askF (s1.1, s0.ins)) = true := by simp [askF, askB]
        have hoth : othB (keptF f1 [askB (s1.1, s0.ins) P 50]) (s1.1, s0.ins) oth = (s0.non != oth) := by unfold othB; rw [kept_one, HF1.out]
        by_cases ho : oth = s0.non
        · have hob : (s0.non != oth) = false := by simp [ho]
          by_cases hs : secs = 0
          · have hsv := srv_drop (x := bxC 0) (most := 100) (t := 1) (u := 50) (a := (s1.1, s0.ins)) (p := s0.prt) (P := P) (by decide) (by decide) (by decide)
            refine ⟨⟨2, s0.ins, 0, 0, oth, 0, 1, 0⟩, [], cutIf true (keptF f1 [askB (s1.1, s0.ins) P 50]) (s1.1, s0.ins), 1, ?_, ⟨by constructor <;> simp only [Pp.W64] <;> omega, by unfold Pp.Pan; dsimp only; omega⟩, .inr (.inl ⟨ho, hs, rfl, rfl⟩)⟩
            unfold pcpS
            dsimp only
            rw [if_neg (by simp), hany, hoth, hob, if_neg (by simp), hs, hsv]
            dsimp only
            rw [if_pos rfl]
            rfl
          · have hsv := srv_again (x := bxC 0) (most := 100) (t := 1) (u := 50) (a := (s1.1, s0.ins)) (p := s0.prt) (s := secs) (P := P) (by decide) HIN.out (by omega) (by decide) (by omega) (by decide)
            refine ⟨⟨2, s0.ins, P, min secs 100, oth, 0, 1, 3405803777⟩, [askB (s1.1, s0.ins) P (1 + min secs 100)], putF (cutIf true (keptF f1 [askB (s1.1, s0.ins) P 50]) (s1.1, s0.ins)) (s1.1, s0.ins) oth, 1 + 1, ?_, ⟨by constructor <;> simp only [Pp.W64] <;> omega, by unfold Pp.Pan; dsimp only; omega⟩, .inr (.inr ⟨ho, by omega, rfl, rfl⟩)⟩
            unfold pcpS
            dsimp only
            rw [if_neg (by simp), hany, hoth, hob, if_neg (by simp), hsv]
            dsimp only
            rw [if_neg (by omega)]
            rfl
        · have hob : (s0.non != oth) = true := by simp; omega
          refine ⟨⟨2, s0.ins, 0, 0, oth, 2, 1, 0⟩, [askB (s1.1, s0.ins) P 50], keptF f1 [askB (s1.1, s0.ins) P 50], 1, ?_, ⟨by constructor <;> simp only [Pp.W64] <;> omega, by unfold Pp.Pan; dsimp only; omega⟩, .inl ⟨ho, rfl, rfl⟩⟩
          unfold pcpS
          dsimp only
          rw [if_neg (by simp), hany, hoth, hob, if_pos (by simp)]
          rfl)
      obtain ⟨L2, M2, f2, c2, hpc, hL2i, hfact2⟩ := HX.out
      have HFACT := Lib.hid hfact2
      have HASK : Hid (∀ os' W, Gm w gb g nm (bxC 0) 100 0 av f1 1 1 [askB (s1.1, s0.ins) P 50] os' W → Calls Try.prog 36 #[Pp.leV ⟨2, s0.ins, s0.prt, secs, oth, 0, 0, 0⟩, .int .u32 s1.1] W fun e V' => ∃ u OB, e = .returned u ∧ Gm w gb g nm (bxC 0) 100 0 av f1 1 1 [askB (s1.1, s0.ins) P 50] (OB ++ os') V' ∧ (∀ s' f' c' n' M' os1 W, Gm w gb g nm (bxC 0) 100 s' av f' c' n' M' os1 W → (∀ r ∈ OB, r ∈ os1) → Pp.Row W u (Pp.paskR ⟨2, s0.ins, s0.prt, secs, oth, 0, 0, 0⟩ s1.1))) := Lib.hid (fun os' W hW => pask_gm hW ⟨2, s0.ins, s0.prt, secs, oth, 0, 0, 0⟩ hisB s1.1 ⟨h0, by omega⟩)
      have HHEAR : Hid (∀ os' W u, Gm w gb g nm (bxC 0) 100 0 av f1 1 1 [askB (s1.1, s0.ins) P 50] os' W → (∀ r ∈ os2, r ∈ os') → (∀ s' f' c' n' M' os1 W, Gm w gb g nm (bxC 0) 100 s' av f' c' n' M' os1 W → (∀ r ∈ os', r ∈ os1) → Pp.Row W u (Pp.paskR ⟨2, s0.ins, s0.prt, secs, oth, 0, 0, 0⟩ s1.1)) → Calls Try.prog 32 #[.pointer (some ⟨gb, 0, none⟩), .int .i64 1, adr s1, u] W fun e V' => ∃ u', e = .returned u' ∧ Pp.Row V' u' (Pp.pansR L2) ∧ Gm w gb g nm (bxC 0) 100 0 av f2 c2 1 M2 os' V') := Lib.hid (fun os' W u hW hm hr => by
        have h := hear_pyes hW (bxC_ok 0) hok1 (ok_one _ _ _) 1 s1 HA.out u ⟨2, s0.ins, s0.prt, secs, oth, 0, 0, 0⟩ s1.1 hisB ⟨h0, by omega⟩ (an_more HAN.out (fun r hr => hm r (HM0.out r hr))) hr (by omega) (by omega) (by omega) (by decide) (by unfold maxLen; decide) (by decide) hgo hpasB
        rw [hlv, hpc] at h
        exact h)
      have HREAD : Hid (∀ W u, Pp.Row W u (Pp.pansR L2) → Calls Try.prog 35 #[u] W fun e W' => e = .returned (Pp.pbT L2 0) ∧ Below W.heap.size W W') := Lib.hid (fun W u hr => by
        have h := pread_ans hr
        rwa [Pp.pbR_yes ⟨hL2i.1, hL2i.2, rfl⟩] at h)
      have HS : Hid (∀ f' c' n' M' os1 W, Gm w gb g nm (bxC 0) 100 0 av f' c' n' M' os1 W → (∀ r ∈ os2, r ∈ os1) → (fun W => W.heap[w.heap.size]? = some (.cells (Pp.leA s0) 64 (0, 0)) ∧ W.heap[w.heap.size + 1]? = some (.cells #[.int .u32 s1.1, .int .i64 s1.2] 38 (0, 0))) W) := Lib.hid (fun f' c' n' M' os1 W hW hm => ⟨hW.held (hm _ (HM0.out _ HFL.out)), hW.held (hm _ (HM0.out _ HFM.out))⟩)
      have hwr : IntKind.i64.wrap secs = secs := IntWalk.i64_in _ (by omega)
      have HWR := Lib.hid hwr
      clear hpc hL2i hfact2 HX hlv hgo hok1 hisB hpasB
      unfold Pp.leV Pp.leA at HASK
      unfold adr at HHEAR
      unfold Pp.pbT Pp.leV Pp.leA at HREAD
      dsimp only at HASK
      go_cut [16, 17] from 19 (fun v16 v17 wc => ∃ q : Nat, v16 = .pointer (some ⟨q, 0, none⟩) ∧ v17 = .int .i64 0 ∧ Hid (Gm w gb g nm (bxC 0) 100 0 av f2 c2 1 M2 ((q, .cells (Pp.leA L2) 64 (0, 0)) :: os2) wc))
      case first =>
        have HC := Lib.hid (HG5.out.drewN 1)
        refine wp_region_held_drew (S := (fun W => W.heap[w.heap.size]? = some (.cells (Pp.leA s0) 64 (0, 0)) ∧ W.heap[w.heap.size + 1]? = some (.cells #[.int .u32 s1.1, .int .i64 s1.2] 38 (0, 0)))) (by kernel_rfl) (HS.out _ _ _ _ _ _ HC.out (fun r hr => by simp [hr])) (fun hHeld => ?_)
        refine wpAnyH_take (i := 0) (oi := _) (v := ?_) rfl (by kernel_rfl) (by kernel_rfl) (by kernel_rfl) (fun _ _ _ h => h) (Or.inl ⟨by rfl, ?_⟩) (by assumption) ?_
        case refine_2 => intro w hSw; (try dsimp only at hSw); obtain ⟨hS1, hS2⟩ := hSw; obtain ⟨k0, k1, kl⟩ := ad_cells hS2; obtain ⟨⟨m0, m1, m2, m3, m4, m5, m6, m7⟩, mf, ml⟩ := le_cells hS1; clear hS1 hS2 mf; go_simp; first | done | (with_reducible rfl)
        try simp only [Act.put, List.getElem_toArray, List.getElem_cons_zero, List.getElem_cons_succ, List.setIfInBounds_toArray, List.set_cons_zero, List.set_cons_succ]
        refine wpAnyH_take (i := 1) (oi := _) (v := ?_) rfl (by kernel_rfl) (by kernel_rfl) (by kernel_rfl) (fun _ _ _ h => h) (Or.inl ⟨by rfl, ?_⟩) (by assumption) ?_
        case refine_2 => intro w hSw; (try dsimp only at hSw); obtain ⟨hS1, hS2⟩ := hSw; obtain ⟨k0, k1, kl⟩ := ad_cells hS2; obtain ⟨⟨m0, m1, m2, m3, m4, m5, m6, m7⟩, mf, ml⟩ := le_cells hS1; clear hS1 hS2 mf; go_simp; first | done | (with_reducible rfl)
        try simp only [Act.put, List.getElem_toArray, List.getElem_cons_zero, List.getElem_cons_succ, List.setIfInBounds_toArray, List.set_cons_zero, List.set_cons_succ]
        refine wpAnyH_take (i := 2) (oi := _) (v := ?_) rfl (by kernel_rfl) (by kernel_rfl) (by kernel_rfl) (fun _ _ _ h => h) (Or.inl ⟨by rfl, ?_⟩) (by assumption) ?_
        case refine_2 => intro w hSw; (try dsimp only at hSw); obtain ⟨hS1, hS2⟩ := hSw; obtain ⟨k0, k1, kl⟩ := ad_cells hS2; obtain ⟨⟨m0, m1, m2, m3, m4, m5, m6, m7⟩, mf, ml⟩ := le_cells hS1; clear hS1 hS2 mf; go_simp; first | done | (with_reducible rfl)
        try simp only [Act.put, List.getElem_toArray, List.getElem_cons_zero, List.getElem_cons_succ, List.setIfInBounds_toArray, List.set_cons_zero, List.set_cons_succ]
        refine wpAnyH_take (i := 3) (oi := _) (v := ?_) rfl (by kernel_rfl) (by kernel_rfl) (by kernel_rfl) (fun _ _ _ h => h) (Or.inl ⟨by rfl, ?_⟩) (by assumption) ?_
        case refine_2 => intro w hSw; (try dsimp only at hSw); obtain ⟨hS1, hS2⟩ := hSw; obtain ⟨k0, k1, kl⟩ := ad_cells hS2; obtain ⟨⟨m0, m1, m2, m3, m4, m5, m6, m7⟩, mf, ml⟩ := le_cells hS1; clear hS1 hS2 mf; go_simp; first | done | (with_reducible rfl)
        try simp only [Act.put, List.getElem_toArray, List.getElem_cons_zero, List.getElem_cons_succ, List.setIfInBounds_toArray, List.set_cons_zero, List.set_cons_succ]
        refine wpAnyH_take (i := 4) (oi := _) (v := ?_) rfl (by kernel_rfl) (by kernel_rfl) (by kernel_rfl) (fun _ _ _ h => h) (Or.inl ⟨by rfl, ?_⟩) (by assumption) ?_
        case refine_2 => intro w hSw; (try dsimp only at hSw); obtain ⟨hS1, hS2⟩ := hSw; obtain ⟨k0, k1, kl⟩ := ad_cells hS2; obtain ⟨⟨m0, m1, m2, m3, m4, m5, m6, m7⟩, mf, ml⟩ := le_cells hS1; clear hS1 hS2 mf; go_simp; first | done | (with_reducible rfl)
        try simp only [Act.put, List.getElem_toArray, List.getElem_cons_zero, List.getElem_cons_succ, List.setIfInBounds_toArray, List.set_cons_zero, List.set_cons_succ]
        refine wpAnyH_take (i := 5) (oi := _) (v := ?_) rfl (by kernel_rfl) (by kernel_rfl) (by kernel_rfl) (fun _ _ _ h => h) (Or.inl ⟨by rfl, ?_⟩) (by assumption) ?_
        case refine_2 => intro w hSw; (try dsimp only at hSw); obtain ⟨hS1, hS2⟩ := hSw; obtain ⟨k0, k1, kl⟩ := ad_cells hS2; obtain ⟨⟨m0, m1, m2, m3, m4, m5, m6, m7⟩, mf, ml⟩ := le_cells hS1; clear hS1 hS2 mf; go_simp; first | done | (with_reducible rfl)
        try simp only [Act.put, List.getElem_toArray, List.getElem_cons_zero, List.getElem_cons_succ, List.setIfInBounds_toArray, List.set_cons_zero, List.set_cons_succ]
        refine wpAnyH_take (i := 6) (oi := _) (v := ?_) rfl (by kernel_rfl) (by kernel_rfl) (by kernel_rfl) (fun _ _ _ h => h) (Or.inl ⟨by rfl, ?_⟩) (by assumption) ?_
        case refine_2 => intro w hSw; (try dsimp only at hSw); obtain ⟨hS1, hS2⟩ := hSw; obtain ⟨k0, k1, kl⟩ := ad_cells hS2; obtain ⟨⟨m0, m1, m2, m3, m4, m5, m6, m7⟩, mf, ml⟩ := le_cells hS1; clear hS1 hS2 mf; go_simp; first | done | (with_reducible rfl)
        try simp only [Act.put, List.getElem_toArray, List.getElem_cons_zero, List.getElem_cons_succ, List.setIfInBounds_toArray, List.set_cons_zero, List.set_cons_succ]
        refine wpAnyH_take (i := 7) (oi := _) (v := ?_) rfl (by kernel_rfl) (by kernel_rfl) (by kernel_rfl) (fun _ _ _ h => h) (Or.inl ⟨by rfl, ?_⟩) (by assumption) ?_
        case refine_2 => intro w hSw; (try dsimp only at hSw); obtain ⟨hS1, hS2⟩ := hSw; obtain ⟨k0, k1, kl⟩ := ad_cells hS2; obtain ⟨⟨m0, m1, m2, m3, m4, m5, m6, m7⟩, mf, ml⟩ := le_cells hS1; clear hS1 hS2 mf; go_simp; first | done | (with_reducible rfl)
        try simp only [Act.put, List.getElem_toArray, List.getElem_cons_zero, List.getElem_cons_succ, List.setIfInBounds_toArray, List.set_cons_zero, List.set_cons_succ]
        refine wpAnyH_take (i := 8) (oi := _) (v := ?_) rfl (by kernel_rfl) (by kernel_rfl) (by kernel_rfl) (fun _ _ _ h => h) (Or.inl ⟨by rfl, ?_⟩) (by assumption) ?_
        case refine_2 => intro w hSw; (try dsimp only at hSw); obtain ⟨hS1, hS2⟩ := hSw; obtain ⟨k0, k1, kl⟩ := ad_cells hS2; obtain ⟨⟨m0, m1, m2, m3, m4, m5, m6, m7⟩, mf, ml⟩ := le_cells hS1; clear hS1 hS2 mf; go_simp; first | done | (with_reducible rfl)
        try simp only [Act.put, List.getElem_toArray, List.getElem_cons_zero, List.getElem_cons_succ, List.setIfInBounds_toArray, List.set_cons_zero, List.set_cons_succ]
        refine wpAnyH_take (i := 9) (oi := _) (v := ?_) rfl (by kernel_rfl) (by kernel_rfl) (by kernel_rfl) (fun _ _ _ h => h) (Or.inl ⟨by rfl, ?_⟩) (by assumption) ?_
        case refine_2 => intro w hSw; (try dsimp only at hSw); obtain ⟨hS1, hS2⟩ := hSw; obtain ⟨k0, k1, kl⟩ := ad_cells hS2; obtain ⟨⟨m0, m1, m2, m3, m4, m5, m6, m7⟩, mf, ml⟩ := le_cells hS1; clear hS1 hS2 mf; go_simp; first | done | (with_reducible rfl)
        try simp only [Act.put, List.getElem_toArray, List.getElem_cons_zero, List.getElem_cons_succ, List.setIfInBounds_toArray, List.set_cons_zero, List.set_cons_succ]
        refine wpAnyH_take (i := 10) (oi := _) (v := ?_) rfl (by kernel_rfl) (by kernel_rfl) (by kernel_rfl) (fun _ _ _ h => h) (Or.inl ⟨by rfl, ?_⟩) (by assumption) ?_
        case refine_2 => intro w hSw; (try dsimp only at hSw); obtain ⟨hS1, hS2⟩ := hSw; obtain ⟨k0, k1, kl⟩ := ad_cells hS2; obtain ⟨⟨m0, m1, m2, m3, m4, m5, m6, m7⟩, mf, ml⟩ := le_cells hS1; clear hS1 hS2 mf; go_simp; first | done | (with_reducible rfl)
        try simp only [Act.put, List.getElem_toArray, List.getElem_cons_zero, List.getElem_cons_succ, List.setIfInBounds_toArray, List.set_cons_zero, List.set_cons_succ]
        refine wpAnyH_take (i := 11) (oi := _) (v := ?_) rfl (by kernel_rfl) (by kernel_rfl) (by kernel_rfl) (fun _ _ _ h => h) (Or.inl ⟨by rfl, ?_⟩) (by assumption) ?_
        case refine_2 => intro w hSw; (try dsimp only at hSw); obtain ⟨hS1, hS2⟩ := hSw; obtain ⟨k0, k1, kl⟩ := ad_cells hS2; obtain ⟨⟨m0, m1, m2, m3, m4, m5, m6, m7⟩, mf, ml⟩ := le_cells hS1; clear hS1 hS2 mf; go_simp; first | done | (with_reducible rfl)
        try simp only [Act.put, List.getElem_toArray, List.getElem_cons_zero, List.getElem_cons_succ, List.setIfInBounds_toArray, List.set_cons_zero, List.set_cons_succ]
        refine wpAnyH_ready (rs := [12, 18]) (by kernel_rfl) (by simp) ?_
        refine (AllReadyH.cons rfl (fun K hK => ?_) (AllReadyH.cons rfl (fun K hK => ?_) AllReadyH.nil))
        · go_simp
          go_at_call 36
          refine (HASK.out _ _ HC.out).mono ?_
          rintro e W1b ⟨u, OB, rfl, hg, hrw⟩
          have HC := Lib.hid hg
          have HRW := Lib.hid hrw
          clear hg hrw
          refine hK.out _ _ (HS.out _ _ _ _ _ _ HC.out (fun r hr => by simp [hr])) (fun hHeld => ?_)
          clear hK K
          try simp only [Act.put, List.getElem_toArray, List.getElem_cons_zero, List.getElem_cons_succ, List.setIfInBounds_toArray, List.set_cons_zero, List.set_cons_succ]
          refine wpAnyH_ready (rs := [13, 18]) (by kernel_rfl) (by simp) ?_
          refine (AllReadyH.cons rfl (fun K hK => ?_) (AllReadyH.cons rfl (fun K hK => ?_) AllReadyH.nil))
          · go_simp
            go_at_call 32
            refine (HHEAR.out _ _ _ HC.out (fun r hr => by simp [hr]) (fun s1 f1 c1 n1 M1 os1 W hW hs => HRW.out s1 f1 c1 n1 M1 os1 W hW (fun r hr => hs r (by simp [hr])))).mono ?_
            rintro e W2b ⟨u2, rfl, hro, hg⟩
            have HC := Lib.hid hg
            have HRO := Lib.hid hro
            obtain ⟨A2, d2, rfl⟩ := row_form hro
            clear hg hro
            refine hK.out _ _ (HS.out _ _ _ _ _ _ HC.out (fun r hr => by simp [hr])) (fun hHeld => ?_)
            clear hK K
            try simp only [Act.put, List.getElem_toArray, List.getElem_cons_zero, List.getElem_cons_succ, List.setIfInBounds_toArray, List.set_cons_zero, List.set_cons_succ]
            refine wpAnyH_ready (rs := [14, 18]) (by kernel_rfl) (by simp) ?_
            refine (AllReadyH.cons rfl (fun K hK => ?_) (AllReadyH.cons rfl (fun K hK => ?_) AllReadyH.nil))
            · go_simp
              go_at_call 35
              refine (HREAD.out _ _ HRO.out).mono ?_
              rintro e W3b ⟨rfl, hb⟩
              have HC := Lib.hid ((HC.out.below hb).sub (os' := os2) (fun r hr => by simp [hr]))
              clear hb
              refine hK.out _ _ (HS.out _ _ _ _ _ _ HC.out (fun r hr => by simp [hr])) (fun hHeld => ?_)
              clear hK K
              try simp only [Act.put, List.getElem_toArray, List.getElem_cons_zero, List.getElem_cons_succ, List.setIfInBounds_toArray, List.set_cons_zero, List.set_cons_succ]
              refine wpAnyH_take (i := 15) (oi := _) (v := ?_) rfl (by kernel_rfl) (by kernel_rfl) (by kernel_rfl) (fun _ _ _ h => h) (Or.inl ⟨by rfl, ?_⟩) (by assumption) ?_
              case refine_2 => intro w hSw; (try dsimp only at hSw); obtain ⟨hS1, hS2⟩ := hSw; obtain ⟨k0, k1, kl⟩ := ad_cells hS2; obtain ⟨⟨m0, m1, m2, m3, m4, m5, m6, m7⟩, mf, ml⟩ := le_cells hS1; clear hS1 hS2 mf; go_simp; first | done | (with_reducible rfl)
              try simp only [Act.put, List.getElem_toArray, List.getElem_cons_zero, List.getElem_cons_succ, List.setIfInBounds_toArray, List.set_cons_zero, List.set_cons_succ]
              refine wpAnyH_take (i := 16) (oi := _) (v := ?_) rfl (by kernel_rfl) (by kernel_rfl) (by kernel_rfl) (fun _ _ _ h => h) (Or.inl ⟨by rfl, ?_⟩) (by assumption) ?_
              case refine_2 => intro w hSw; (try dsimp only at hSw); obtain ⟨hS1, hS2⟩ := hSw; obtain ⟨k0, k1, kl⟩ := ad_cells hS2; obtain ⟨⟨m0, m1, m2, m3, m4, m5, m6, m7⟩, mf, ml⟩ := le_cells hS1; clear hS1 hS2 mf; go_simp; first | done | (with_reducible rfl)
              try simp only [Act.put, List.getElem_toArray, List.getElem_cons_zero, List.getElem_cons_succ, List.setIfInBounds_toArray, List.set_cons_zero, List.set_cons_succ]
              refine wpAnyH_take (i := 17) (oi := _) (v := ?_) rfl (by kernel_rfl) (by kernel_rfl) (by kernel_rfl) (fun _ _ _ h => h) (Or.inl ⟨by rfl, ?_⟩) (by assumption) ?_
              case refine_2 => intro w hSw; (try dsimp only at hSw); obtain ⟨hS1, hS2⟩ := hSw; obtain ⟨k0, k1, kl⟩ := ad_cells hS2; obtain ⟨⟨m0, m1, m2, m3, m4, m5, m6, m7⟩, mf, ml⟩ := le_cells hS1; clear hS1 hS2 mf; go_simp; first | done | (with_reducible rfl)
              try simp only [Act.put, List.getElem_toArray, List.getElem_cons_zero, List.getElem_cons_succ, List.setIfInBounds_toArray, List.set_cons_zero, List.set_cons_succ]
              refine wpAnyH_ready (rs := [18]) (by kernel_rfl) (by simp) ?_
              refine (AllReadyH.cons rfl (fun K hK => ?_) AllReadyH.nil)
              go_simp
              have HN : Hid (∀ r ∈ os2, r.1 ≠ W3b.heap.size) := Lib.hid (fun r hr e => by have hlt : r.1 < W3b.heap.size := HC.out.lt (p := r) (by simp [hr]); omega)
              have HLW : Hid (w.heap.size ≤ W3b.heap.size) := Lib.hid HC.out.low.size
              have HPRE := Lib.hid HC.out
              have HC := Lib.hid (HC.out.box (k := W3b.heap.size) #[.int .i64 0, .int .i64 0, .int .i64 0, .int .i64 0, .int .u64 0, .int .i64 0, .int .i64 0, .int .u32 0] 64 rfl)
              refine hK.out _ _ (HS.out _ _ _ _ _ _ HC.out (fun r hr => by simp [hr])) (fun hHeld => ?_)
              clear hK K
              try simp only [Act.put, List.getElem_toArray, List.getElem_cons_zero, List.getElem_cons_succ, List.setIfInBounds_toArray, List.set_cons_zero, List.set_cons_succ]
              refine wpAnyH_ready (rs := [19]) (by kernel_rfl) (by simp) ?_
              refine (AllReadyH.cons rfl (fun K hK => ?_) AllReadyH.nil)
              have HU := Lib.hid (le_cells (l := Pp.zeroL) (g := W3b.heap.size) (HC.out.held (p := (W3b.heap.size, .cells #[.int .i64 0, .int .i64 0, .int .i64 0, .int .i64 0, .int .u64 0, .int .i64 0, .int .i64 0, .int .u32 0] 64 (0, 0))) List.mem_cons_self))
              obtain ⟨⟨y0, y1, y2, y3, y4, y5, y6, y7⟩, fz, yl⟩ := HU.out
              go_simp
              clear y0 y1 y2 y3 y4 y5 y6 y7 fz yl HU
              have HC := Lib.hid (HPRE.out.box (k := W3b.heap.size) (Pp.leA L2) 64 rfl)
              refine hK.out _ _ (HS.out _ _ _ _ _ _ HC.out (fun r hr => by simp [hr])) (fun hHeld => ?_)
              clear hK K
              try simp only [Act.put, List.getElem_toArray, List.getElem_cons_zero, List.getElem_cons_succ, List.setIfInBounds_toArray, List.set_cons_zero, List.set_cons_succ]
              refine wpAnyH_take (i := 20) (oi := _) (v := ?_) rfl (by kernel_rfl) (by kernel_rfl) (by kernel_rfl) (fun _ _ _ h => h) (Or.inl ⟨by rfl, ?_⟩) (by assumption) ?_
              case refine_2 => intro w hSw; (try dsimp only at hSw); obtain ⟨hS1, hS2⟩ := hSw; obtain ⟨k0, k1, kl⟩ := ad_cells hS2; obtain ⟨⟨m0, m1, m2, m3, m4, m5, m6, m7⟩, mf, ml⟩ := le_cells hS1; clear hS1 hS2 mf; go_simp; first | done | (with_reducible rfl)
              try simp only [Act.put, List.getElem_toArray, List.getElem_cons_zero, List.getElem_cons_succ, List.setIfInBounds_toArray, List.set_cons_zero, List.set_cons_succ]
              refine wpAnyH_done (by kernel_rfl) ?_ _
              go_wp2
              go_meet
              case rel => exact ⟨_, rfl, rfl, HC⟩
            · go_simp
              have HN : Hid (∀ r ∈ os2, r.1 ≠ W2b.heap.size) := Lib.hid (fun r hr e => by have hlt : r.1 < W2b.heap.size := HC.out.lt (p := r) (by simp [hr]); omega)
              have HLW : Hid (w.heap.size ≤ W2b.heap.size) := Lib.hid HC.out.low.size
              have HC := Lib.hid (HC.out.box (k := W2b.heap.size) #[.int .i64 0, .int .i64 0, .int .i64 0, .int .i64 0, .int .u64 0, .int .i64 0, .int .i64 0, .int .u32 0] 64 rfl)
              have HRO := Lib.hid (HRO.out.below ((Below.refl _ _).alloc (Nat.le_refl _) (.cells #[.int .i64 0, .int .i64 0, .int .i64 0, .int .i64 0, .int .u64 0, .int .i64 0, .int .i64 0, .int .u32 0] 64)))
              refine hK.out _ _ (HS.out _ _ _ _ _ _ HC.out (fun r hr => by simp [hr])) (fun hHeld => ?_)
              clear hK K
              try simp only [Act.put, List.getElem_toArray, List.getElem_cons_zero, List.getElem_cons_succ, List.setIfInBounds_toArray, List.set_cons_zero, List.set_cons_succ]
              refine wpAnyH_ready (rs := [14]) (by kernel_rfl) (by simp) ?_
              refine (AllReadyH.cons rfl (fun K hK => ?_) AllReadyH.nil)
              go_simp
              go_at_call 35
              refine (HREAD.out _ _ HRO.out).mono ?_
              rintro e W3a ⟨rfl, hb⟩
              have HC := Lib.hid ((HC.out.below hb).sub (os' := (W2b.heap.size, .cells #[.int .i64 0, .int .i64 0, .int .i64 0, .int .i64 0, .int .u64 0, .int .i64 0, .int .i64 0, .int .u32 0] 64 (0, 0)) :: os2) (fun r hr => by rcases List.mem_cons.1 hr with hr | hr; (subst hr; simp); simp [hr]))
              clear hb
              refine hK.out _ _ (HS.out _ _ _ _ _ _ HC.out (fun r hr => by simp [hr])) (fun hHeld => ?_)
              clear hK K
              try simp only [Act.put, List.getElem_toArray, List.getElem_cons_zero, List.getElem_cons_succ, List.setIfInBounds_toArray, List.set_cons_zero, List.set_cons_succ]
              refine wpAnyH_take (i := 15) (oi := _) (v := ?_) rfl (by kernel_rfl) (by kernel_rfl) (by kernel_rfl) (fun _ _ _ h => h) (Or.inl ⟨by rfl, ?_⟩) (by assumption) ?_
              case refine_2 => intro w hSw; (try dsimp only at hSw); obtain ⟨hS1, hS2⟩ := hSw; obtain ⟨k0, k1, kl⟩ := ad_cells hS2; obtain ⟨⟨m0, m1, m2, m3, m4, m5, m6, m7⟩, mf, ml⟩ := le_cells hS1; clear hS1 hS2 mf; go_simp; first | done | (with_reducible rfl)
              try simp only [Act.put, List.getElem_toArray, List.getElem_cons_zero, List.getElem_cons_succ, List.setIfInBounds_toArray, List.set_cons_zero, List.set_cons_succ]
              refine wpAnyH_take (i := 16) (oi := _) (v := ?_) rfl (by kernel_rfl) (by kernel_rfl) (by kernel_rfl) (fun _ _ _ h => h) (Or.inl ⟨by rfl, ?_⟩) (by assumption) ?_
              case refine_2 => intro w hSw; (try dsimp only at hSw); obtain ⟨hS1, hS2⟩ := hSw; obtain ⟨k0, k1, kl⟩ := ad_cells hS2; obtain ⟨⟨m0, m1, m2, m3, m4, m5, m6, m7⟩, mf, ml⟩ := le_cells hS1; clear hS1 hS2 mf; go_simp; first | done | (with_reducible rfl)
              try simp only [Act.put, List.getElem_toArray, List.getElem_cons_zero, List.getElem_cons_succ, List.setIfInBounds_toArray, List.set_cons_zero, List.set_cons_succ]
              refine wpAnyH_take (i := 17) (oi := _) (v := ?_) rfl (by kernel_rfl) (by kernel_rfl) (by kernel_rfl) (fun _ _ _ h => h) (Or.inl ⟨by rfl, ?_⟩) (by assumption) ?_
              case refine_2 => intro w hSw; (try dsimp only at hSw); obtain ⟨hS1, hS2⟩ := hSw; obtain ⟨k0, k1, kl⟩ := ad_cells hS2; obtain ⟨⟨m0, m1, m2, m3, m4, m5, m6, m7⟩, mf, ml⟩ := le_cells hS1; clear hS1 hS2 mf; go_simp; first | done | (with_reducible rfl)
              try simp only [Act.put, List.getElem_toArray, List.getElem_cons_zero, List.getElem_cons_succ, List.setIfInBounds_toArray, List.set_cons_zero, List.set_cons_succ]
              refine wpAnyH_ready (rs := [19]) (by kernel_rfl) (by simp) ?_
              refine (AllReadyH.cons rfl (fun K hK => ?_) AllReadyH.nil)
              have HU := Lib.hid (le_cells (l := Pp.zeroL) (g := W2b.heap.size) (HC.out.held (p := (W2b.heap.size, .cells #[.int .i64 0, .int .i64 0, .int .i64 0, .int .i64 0, .int .u64 0, .int .i64 0, .int .i64 0, .int .u32 0] 64 (0, 0))) List.mem_cons_self))
              obtain ⟨⟨y0, y1, y2, y3, y4, y5, y6, y7⟩, fz, yl⟩ := HU.out
              go_simp
              clear y0 y1 y2 y3 y4 y5 y6 y7 fz yl HU
              have HC := Lib.hid (HC.out.put8 L2 HN.out HLW.out (l0 := Pp.zeroL))
              refine hK.out _ _ (HS.out _ _ _ _ _ _ HC.out (fun r hr => by simp [hr])) (fun hHeld => ?_)
              clear hK K
              try simp only [Act.put, List.getElem_toArray, List.getElem_cons_zero, List.getElem_cons_succ, List.setIfInBounds_toArray, List.set_cons_zero, List.set_cons_succ]
              refine wpAnyH_take (i := 20) (oi := _) (v := ?_) rfl (by kernel_rfl) (by kernel_rfl) (by kernel_rfl) (fun _ _ _ h => h) (Or.inl ⟨by rfl, ?_⟩) (by assumption) ?_
              case refine_2 => intro w hSw; (try dsimp only at hSw); obtain ⟨hS1, hS2⟩ := hSw; obtain ⟨k0, k1, kl⟩ := ad_cells hS2; obtain ⟨⟨m0, m1, m2, m3, m4, m5, m6, m7⟩, mf, ml⟩ := le_cells hS1; clear hS1 hS2 mf; go_simp; first | done | (with_reducible rfl)
              try simp only [Act.put, List.getElem_toArray, List.getElem_cons_zero, List.getElem_cons_succ, List.setIfInBounds_toArray, List.set_cons_zero, List.set_cons_succ]
              refine wpAnyH_done (by kernel_rfl) ?_ _
              go_wp2
              go_meet
              case rel => exact ⟨_, rfl, rfl, HC⟩
          · go_simp
            have HN : Hid (∀ r ∈ os2, r.1 ≠ W1b.heap.size) := Lib.hid (fun r hr e => by have hlt : r.1 < W1b.heap.size := HC.out.lt (p := r) (by simp [hr]); omega)
            have HLW : Hid (w.heap.size ≤ W1b.heap.size) := Lib.hid HC.out.low.size
            have HC := Lib.hid (HC.out.box (k := W1b.heap.size) #[.int .i64 0, .int .i64 0, .int .i64 0, .int .i64 0, .int .u64 0, .int .i64 0, .int .i64 0, .int .u32 0] 64 rfl)
            refine hK.out _ _ (HS.out _ _ _ _ _ _ HC.out (fun r hr => by simp [hr])) (fun hHeld => ?_)
            clear hK K
            try simp only [Act.put, List.getElem_toArray, List.getElem_cons_zero, List.getElem_cons_succ, List.setIfInBounds_toArray, List.set_cons_zero, List.set_cons_succ]
            refine wpAnyH_ready (rs := [13]) (by kernel_rfl) (by simp) ?_
            refine (AllReadyH.cons rfl (fun K hK => ?_) AllReadyH.nil)
            go_simp
            go_at_call 32
            refine (HHEAR.out _ _ _ HC.out (fun r hr => by simp [hr]) (fun s1 f1 c1 n1 M1 os1 W hW hs => HRW.out s1 f1 c1 n1 M1 os1 W hW (fun r hr => hs r (by simp [hr])))).mono ?_
            rintro e W2a ⟨u2, rfl, hro, hg⟩
            have HC := Lib.hid hg
            have HRO := Lib.hid hro
            obtain ⟨A2, d2, rfl⟩ := row_form hro
            clear hg hro
            refine hK.out _ _ (HS.out _ _ _ _ _ _ HC.out (fun r hr => by simp [hr])) (fun hHeld => ?_)
            clear hK K
            try simp only [Act.put, List.getElem_toArray, List.getElem_cons_zero, List.getElem_cons_succ, List.setIfInBounds_toArray, List.set_cons_zero, List.set_cons_succ]
            refine wpAnyH_ready (rs := [14]) (by kernel_rfl) (by simp) ?_
            refine (AllReadyH.cons rfl (fun K hK => ?_) AllReadyH.nil)
            go_simp
            go_at_call 35
            refine (HREAD.out _ _ HRO.out).mono ?_
            rintro e W3a ⟨rfl, hb⟩
            have HC := Lib.hid ((HC.out.below hb).sub (os' := (W1b.heap.size, .cells #[.int .i64 0, .int .i64 0, .int .i64 0, .int .i64 0, .int .u64 0, .int .i64 0, .int .i64 0, .int .u32 0] 64 (0, 0)) :: os2) (fun r hr => by rcases List.mem_cons.1 hr with hr | hr; (subst hr; simp); simp [hr]))
            clear hb
            refine hK.out _ _ (HS.out _ _ _ _ _ _ HC.out (fun r hr => by simp [hr])) (fun hHeld => ?_)
            clear hK K
            try simp only [Act.put, List.getElem_toArray, List.getElem_cons_zero, List.getElem_cons_succ, List.setIfInBounds_toArray, List.set_cons_zero, List.set_cons_succ]
            refine wpAnyH_take (i := 15) (oi := _) (v := ?_) rfl (by kernel_rfl) (by kernel_rfl) (by kernel_rfl) (fun _ _ _ h => h) (Or.inl ⟨by rfl, ?_⟩) (by assumption) ?_
            case refine_2 => intro w hSw; (try dsimp only at hSw); obtain ⟨hS1, hS2⟩ := hSw; obtain ⟨k0, k1, kl⟩ := ad_cells hS2; obtain ⟨⟨m0, m1, m2, m3, m4, m5, m6, m7⟩, mf, ml⟩ := le_cells hS1; clear hS1 hS2 mf; go_simp; first | done | (with_reducible rfl)
            try simp only [Act.put, List.getElem_toArray, List.getElem_cons_zero, List.getElem_cons_succ, List.setIfInBounds_toArray, List.set_cons_zero, List.set_cons_succ]
            refine wpAnyH_take (i := 16) (oi := _) (v := ?_) rfl (by kernel_rfl) (by kernel_rfl) (by kernel_rfl) (fun _ _ _ h => h) (Or.inl ⟨by rfl, ?_⟩) (by assumption) ?_
            case refine_2 => intro w hSw; (try dsimp only at hSw); obtain ⟨hS1, hS2⟩ := hSw; obtain ⟨k0, k1, kl⟩ := ad_cells hS2; obtain ⟨⟨m0, m1, m2, m3, m4, m5, m6, m7⟩, mf, ml⟩ := le_cells hS1; clear hS1 hS2 mf; go_simp; first | done | (with_reducible rfl)
            try simp only [Act.put, List.getElem_toArray, List.getElem_cons_zero, List.getElem_cons_succ, List.setIfInBounds_toArray, List.set_cons_zero, List.set_cons_succ]
            refine wpAnyH_take (i := 17) (oi := _) (v := ?_) rfl (by kernel_rfl) (by kernel_rfl) (by kernel_rfl) (fun _ _ _ h => h) (Or.inl ⟨by rfl, ?_⟩) (by assumption) ?_
            case refine_2 => intro w hSw; (try dsimp only at hSw); obtain ⟨hS1, hS2⟩ := hSw; obtain ⟨k0, k1, kl⟩ := ad_cells hS2; obtain ⟨⟨m0, m1, m2, m3, m4, m5, m6, m7⟩, mf, ml⟩ := le_cells hS1; clear hS1 hS2 mf; go_simp; first | done | (with_reducible rfl)
            try simp only [Act.put, List.getElem_toArray, List.getElem_cons_zero, List.getElem_cons_succ, List.setIfInBounds_toArray, List.set_cons_zero, List.set_cons_succ]
            refine wpAnyH_ready (rs := [19]) (by kernel_rfl) (by simp) ?_
            refine (AllReadyH.cons rfl (fun K hK => ?_) AllReadyH.nil)
            have HU := Lib.hid (le_cells (l := Pp.zeroL) (g := W1b.heap.size) (HC.out.held (p := (W1b.heap.size, .cells #[.int .i64 0, .int .i64 0, .int .i64 0, .int .i64 0, .int .u64 0, .int .i64 0, .int .i64 0, .int .u32 0] 64 (0, 0))) List.mem_cons_self))
            obtain ⟨⟨y0, y1, y2, y3, y4, y5, y6, y7⟩, fz, yl⟩ := HU.out
            go_simp
            clear y0 y1 y2 y3 y4 y5 y6 y7 fz yl HU
            have HC := Lib.hid (HC.out.put8 L2 HN.out HLW.out (l0 := Pp.zeroL))
            refine hK.out _ _ (HS.out _ _ _ _ _ _ HC.out (fun r hr => by simp [hr])) (fun hHeld => ?_)
            clear hK K
            try simp only [Act.put, List.getElem_toArray, List.getElem_cons_zero, List.getElem_cons_succ, List.setIfInBounds_toArray, List.set_cons_zero, List.set_cons_succ]
            refine wpAnyH_take (i := 20) (oi := _) (v := ?_) rfl (by kernel_rfl) (by kernel_rfl) (by kernel_rfl) (fun _ _ _ h => h) (Or.inl ⟨by rfl, ?_⟩) (by assumption) ?_
            case refine_2 => intro w hSw; (try dsimp only at hSw); obtain ⟨hS1, hS2⟩ := hSw; obtain ⟨k0, k1, kl⟩ := ad_cells hS2; obtain ⟨⟨m0, m1, m2, m3, m4, m5, m6, m7⟩, mf, ml⟩ := le_cells hS1; clear hS1 hS2 mf; go_simp; first | done | (with_reducible rfl)
            try simp only [Act.put, List.getElem_toArray, List.getElem_cons_zero, List.getElem_cons_succ, List.setIfInBounds_toArray, List.set_cons_zero, List.set_cons_succ]
            refine wpAnyH_done (by kernel_rfl) ?_ _
            go_wp2
            go_meet
            case rel => exact ⟨_, rfl, rfl, HC⟩
        · go_simp
          have HN : Hid (∀ r ∈ os2, r.1 ≠ V4.heap.size) := Lib.hid (fun r hr e => by have hlt : r.1 < V4.heap.size := HC.out.lt (p := r) (by simp [hr]); omega)
          have HLW : Hid (w.heap.size ≤ V4.heap.size) := Lib.hid HC.out.low.size
          have HC := Lib.hid (HC.out.box (k := V4.heap.size) #[.int .i64 0, .int .i64 0, .int .i64 0, .int .i64 0, .int .u64 0, .int .i64 0, .int .i64 0, .int .u32 0] 64 rfl)
          refine hK.out _ _ (HS.out _ _ _ _ _ _ HC.out (fun r hr => by simp [hr])) (fun hHeld => ?_)
          clear hK K
          try simp only [Act.put, List.getElem_toArray, List.getElem_cons_zero, List.getElem_cons_succ, List.setIfInBounds_toArray, List.set_cons_zero, List.set_cons_succ]
          refine wpAnyH_ready (rs := [12]) (by kernel_rfl) (by simp) ?_
          refine (AllReadyH.cons rfl (fun K hK => ?_) AllReadyH.nil)
          go_simp
          go_at_call 36
          refine (HASK.out _ _ HC.out).mono ?_
          rintro e W1a ⟨u, OB, rfl, hg, hrw⟩
          have HC := Lib.hid hg
          have HRW := Lib.hid hrw
          clear hg hrw
          refine hK.out _ _ (HS.out _ _ _ _ _ _ HC.out (fun r hr => by simp [hr])) (fun hHeld => ?_)
          clear hK K
          try simp only [Act.put, List.getElem_toArray, List.getElem_cons_zero, List.getElem_cons_succ, List.setIfInBounds_toArray, List.set_cons_zero, List.set_cons_succ]
          refine wpAnyH_ready (rs := [13]) (by kernel_rfl) (by simp) ?_
          refine (AllReadyH.cons rfl (fun K hK => ?_) AllReadyH.nil)
          go_simp
          go_at_call 32
          refine (HHEAR.out _ _ _ HC.out (fun r hr => by simp [hr]) (fun s1 f1 c1 n1 M1 os1 W hW hs => HRW.out s1 f1 c1 n1 M1 os1 W hW (fun r hr => hs r (by simp [hr])))).mono ?_
          rintro e W2a ⟨u2, rfl, hro, hg⟩
          have HC := Lib.hid hg
          have HRO := Lib.hid hro
          obtain ⟨A2, d2, rfl⟩ := row_form hro
          clear hg hro
          refine hK.out _ _ (HS.out _ _ _ _ _ _ HC.out (fun r hr => by simp [hr])) (fun hHeld => ?_)
          clear hK K
          try simp only [Act.put, List.getElem_toArray, List.getElem_cons_zero, List.getElem_cons_succ, List.setIfInBounds_toArray, List.set_cons_zero, List.set_cons_succ]
          refine wpAnyH_ready (rs := [14]) (by kernel_rfl) (by simp) ?_
          refine (AllReadyH.cons rfl (fun K hK => ?_) AllReadyH.nil)
          go_simp
          go_at_call 35
          refine (HREAD.out _ _ HRO.out).mono ?_
          rintro e W3a ⟨rfl, hb⟩
          have HC := Lib.hid ((HC.out.below hb).sub (os' := (V4.heap.size, .cells #[.int .i64 0, .int .i64 0, .int .i64 0, .int .i64 0, .int .u64 0, .int .i64 0, .int .i64 0, .int .u32 0] 64 (0, 0)) :: os2) (fun r hr => by rcases List.mem_cons.1 hr with hr | hr; (subst hr; simp); simp [hr]))
          clear hb
          refine hK.out _ _ (HS.out _ _ _ _ _ _ HC.out (fun r hr => by simp [hr])) (fun hHeld => ?_)
          clear hK K
          try simp only [Act.put, List.getElem_toArray, List.getElem_cons_zero, List.getElem_cons_succ, List.setIfInBounds_toArray, List.set_cons_zero, List.set_cons_succ]
          refine wpAnyH_take (i := 15) (oi := _) (v := ?_) rfl (by kernel_rfl) (by kernel_rfl) (by kernel_rfl) (fun _ _ _ h => h) (Or.inl ⟨by rfl, ?_⟩) (by assumption) ?_
          case refine_2 => intro w hSw; (try dsimp only at hSw); obtain ⟨hS1, hS2⟩ := hSw; obtain ⟨k0, k1, kl⟩ := ad_cells hS2; obtain ⟨⟨m0, m1, m2, m3, m4, m5, m6, m7⟩, mf, ml⟩ := le_cells hS1; clear hS1 hS2 mf; go_simp; first | done | (with_reducible rfl)
          try simp only [Act.put, List.getElem_toArray, List.getElem_cons_zero, List.getElem_cons_succ, List.setIfInBounds_toArray, List.set_cons_zero, List.set_cons_succ]
          refine wpAnyH_take (i := 16) (oi := _) (v := ?_) rfl (by kernel_rfl) (by kernel_rfl) (by kernel_rfl) (fun _ _ _ h => h) (Or.inl ⟨by rfl, ?_⟩) (by assumption) ?_
          case refine_2 => intro w hSw; (try dsimp only at hSw); obtain ⟨hS1, hS2⟩ := hSw; obtain ⟨k0, k1, kl⟩ := ad_cells hS2; obtain ⟨⟨m0, m1, m2, m3, m4, m5, m6, m7⟩, mf, ml⟩ := le_cells hS1; clear hS1 hS2 mf; go_simp; first | done | (with_reducible rfl)
          try simp only [Act.put, List.getElem_toArray, List.getElem_cons_zero, List.getElem_cons_succ, List.setIfInBounds_toArray, List.set_cons_zero, List.set_cons_succ]
          refine wpAnyH_take (i := 17) (oi := _) (v := ?_) rfl (by kernel_rfl) (by kernel_rfl) (by kernel_rfl) (fun _ _ _ h => h) (Or.inl ⟨by rfl, ?_⟩) (by assumption) ?_
          case refine_2 => intro w hSw; (try dsimp only at hSw); obtain ⟨hS1, hS2⟩ := hSw; obtain ⟨k0, k1, kl⟩ := ad_cells hS2; obtain ⟨⟨m0, m1, m2, m3, m4, m5, m6, m7⟩, mf, ml⟩ := le_cells hS1; clear hS1 hS2 mf; go_simp; first | done | (with_reducible rfl)
          try simp only [Act.put, List.getElem_toArray, List.getElem_cons_zero, List.getElem_cons_succ, List.setIfInBounds_toArray, List.set_cons_zero, List.set_cons_succ]
          refine wpAnyH_ready (rs := [19]) (by kernel_rfl) (by simp) ?_
          refine (AllReadyH.cons rfl (fun K hK => ?_) AllReadyH.nil)
          have HU := Lib.hid (le_cells (l := Pp.zeroL) (g := V4.heap.size) (HC.out.held (p := (V4.heap.size, .cells #[.int .i64 0, .int .i64 0, .int .i64 0, .int .i64 0, .int .u64 0, .int .i64 0, .int .i64 0, .int .u32 0] 64 (0, 0))) List.mem_cons_self))
          obtain ⟨⟨y0, y1, y2, y3, y4, y5, y6, y7⟩, fz, yl⟩ := HU.out
          go_simp
          clear y0 y1 y2 y3 y4 y5 y6 y7 fz yl HU
          have HC := Lib.hid (HC.out.put8 L2 HN.out HLW.out (l0 := Pp.zeroL))
          refine hK.out _ _ (HS.out _ _ _ _ _ _ HC.out (fun r hr => by simp [hr])) (fun hHeld => ?_)
          clear hK K
          try simp only [Act.put, List.getElem_toArray, List.getElem_cons_zero, List.getElem_cons_succ, List.setIfInBounds_toArray, List.set_cons_zero, List.set_cons_succ]
          refine wpAnyH_take (i := 20) (oi := _) (v := ?_) rfl (by kernel_rfl) (by kernel_rfl) (by kernel_rfl) (fun _ _ _ h => h) (Or.inl ⟨by rfl, ?_⟩) (by assumption) ?_
          case refine_2 => intro w hSw; (try dsimp only at hSw); obtain ⟨hS1, hS2⟩ := hSw; obtain ⟨k0, k1, kl⟩ := ad_cells hS2; obtain ⟨⟨m0, m1, m2, m3, m4, m5, m6, m7⟩, mf, ml⟩ := le_cells hS1; clear hS1 hS2 mf; go_simp; first | done | (with_reducible rfl)
          try simp only [Act.put, List.getElem_toArray, List.getElem_cons_zero, List.getElem_cons_succ, List.setIfInBounds_toArray, List.set_cons_zero, List.set_cons_succ]
          refine wpAnyH_done (by kernel_rfl) ?_ _
          go_wp2
          go_meet
          case rel => exact ⟨_, rfl, rfl, HC⟩
      case rest =>
        obtain ⟨q2, rfl, rfl, HQ⟩ := hcut
        clear HASK HHEAR HREAD HG5 HS hwr
        have hs0' := HQ.out.held (p := (w.heap.size, Obj.cells (Pp.leA s0) 64 (0, 0))) (by simp [HM0.out _ HFL.out])
        obtain ⟨⟨x0, x1, x2, x3, x4, x5, x6, x7⟩, xf, xl⟩ := le_cells (l := s0) hs0'
        have hz1 := HQ.out.held (p := (q1, Obj.cells (Pp.leA ⟨2, s0.ins, P, 50, s0.non, 0, 0, 3405803777⟩) 64 (0, 0))) (by simp [HMQ.out])
        have hzc := le_cells (l := ⟨2, s0.ins, P, 50, s0.non, 0, 0, 3405803777⟩) (g := q1) hz1
        dsimp only at hzc
        obtain ⟨⟨z0, z1, z2, z3, z4, z5, z6, z7⟩, zf, zl⟩ := hzc
        have hy := le_cells (l := L2) (g := q2) (HQ.out.held (p := (q2, .cells (Pp.leA L2) 64 (0, 0))) List.mem_cons_self)
        have HBS := Lib.hid (HOLD.out wc (HQ.out.held (p := (bb, Obj.cells CC 54 (0, 0))) (by simp [HMB.out])))
        clear hs0' hz1 x0 x1 x2 x3 x5 x6 x7 xf z0 z1 z5 z6 z7 zf
        rcases HFACT.out with ⟨ho, hL2, hM2⟩ | ⟨ho, hs, hL2, hM2⟩ | ⟨ho, hs, hL2, hM2⟩
        · subst hL2 hM2
          dsimp only at hy
          obtain ⟨⟨y0, y1, y2, y3, y4, y5, y6, y7⟩, yf, yl⟩ := hy
          have hob : (oth != s0.non) = true := by simpa using ho
          have HO := Lib.hid ho
          have hal := all_gm HQ.out (ok_one _ _ _) 1 (by decide)
          rw [live_ask (by decide)] at hal
          have HALL := Lib.hid hal
          clear hal ho HFACT
          go_wp2_with fail
          refine HALL.out.mono ?_
          rintro e V6 ⟨⟨v, l6, rfl, hp6, hbs6⟩, hg6⟩
          have e6 := List.perm_singleton.1 hp6
          subst e6
          have hbs7 := HOLD.out V6 (hg6.held (p := (bb, Obj.cells CC 54 (0, 0))) (by simp [HMB.out]))
          have HSM := Lib.hid (rsame_any hbs6 hbs7 rfl (fun k b c hb hc => by rw [hb] at hc; cases hc; simp [sameB]))
          obtain ⟨b6, c6, rfl, _, _⟩ := isBs_one hbs6
          have HG6 := Lib.hid hg6
          clear hp6 hbs6 hbs7 hg6 HALL y0 y1 y2 y3 y4 y5 y6 y7 yf yl x4 xl z2 z3 z4 zl
          go_wp2_with fail
          refine HSM.out.mono ?_
          rintro e V8 ⟨rfl, hb8⟩
          have HL8 := Lib.hid (HG6.out.below hb8).low
          clear hb8
          go_wp2
          go_ret
          exact ⟨rfl, HL8.out⟩
        · subst hL2 hM2
          dsimp only at hy
          obtain ⟨⟨y0, y1, y2, y3, y4, y5, y6, y7⟩, yf, yl⟩ := hy
          have hob : (oth != s0.non) = false := by simp [ho]
          have HO := Lib.hid ho
          have HSS := Lib.hid hs
          have hsb : (secs == (0 : Int)) = true := by simp [hs]
          have HALL := Lib.hid (all_gm HQ.out ok_nil 1 (by decide))
          clear ho hs HFACT
          go_wp2_with fail
          refine HALL.out.mono ?_
          rintro e V6 ⟨⟨v, l6, rfl, hp6, hbs6⟩, hg6⟩
          have e6 : l6 = [] := hp6.eq_nil
          subst e6
          obtain ⟨A6, c6, rfl⟩ : ∃ A c, v = .slice A 0 c := by obtain ⟨A, c, e, _⟩ := hbs6; exact ⟨A, c, e⟩
          have HL6 := Lib.hid hg6.low
          clear hp6 hbs6 hg6 HALL y0 y1 y2 y3 y4 y5 y6 y7 yf yl x4 xl z2 z3 z4 zl
          go_wp2
          go_ret
          exact ⟨rfl, HL6.out⟩
        · subst hL2 hM2
          dsimp only at hy
          obtain ⟨⟨y0, y1, y2, y3, y4, y5, y6, y7⟩, yf, yl⟩ := hy
          have hob : (oth != s0.non) = false := by simp [ho]
          have HO := Lib.hid ho
          have hsb : (secs == (0 : Int)) = false := by simp; omega
          have hal := all_gm HQ.out (ok_one _ _ _) 1 (by decide)
          rw [live_ask (by omega)] at hal
          have HALL := Lib.hid hal
          clear hal ho HFACT
          go_wp2_with fail
          refine HALL.out.mono ?_
          rintro e V6 ⟨⟨v, l6, rfl, hp6, hbs6⟩, hg6⟩
          have e6 := List.perm_singleton.1 hp6
          subst e6
          obtain ⟨b6, c6, rfl, hb6, hc6⟩ := isBs_one hbs6
          have d5 : V6.cell? ⟨b6, 5, none⟩ = some (.int .i64 (1 + min secs 100)) := hc6 5 (by omega)
          obtain ⟨⟨y0, y1, y2, y3, y4, y5, y6, y7⟩, yf, yl⟩ := le_cells (l := ⟨2, s0.ins, P, min secs 100, oth, 0, 1, 3405803777⟩) (g := q2) (hg6.held (p := (q2, .cells (Pp.leA ⟨2, s0.ins, P, min secs 100, oth, 0, 1, 3405803777⟩) 64 (0, 0))) List.mem_cons_self)
          have hzc := le_cells (l := ⟨2, s0.ins, P, 50, s0.non, 0, 0, 3405803777⟩) (g := q1) (hg6.held (p := (q1, Obj.cells (Pp.leA ⟨2, s0.ins, P, 50, s0.non, 0, 0, 3405803777⟩) 64 (0, 0))) (by simp [HMQ.out]))
          dsimp only at hzc y0 y1 y2 y3 y4 y5 y6 y7
          obtain ⟨⟨z0, z1, z2, z3, z4, z5, z6, z7⟩, zf, zl⟩ := hzc
          have HL6 := Lib.hid hg6.low
          obtain ⟨T, hT⟩ : ∃ T, T = min secs 100 := ⟨_, rfl⟩
          have hT0 : 1 ≤ T := by omega
          have hT1 : T ≤ 100 := by omega
          rw [← hT] at d5 y3
          have hwr := HWR.out
          have hmn : min secs 100 = T := hT.symm
          clear hp6 hbs6 hg6 HALL x4 xl y0 y1 y4 y6 y7 yf z0 z1 z3 z4 z5 z6 z7 zf hc6 HQ HBS hT
          go_upto_region 23 with (fail)
          go_quiet (fail)
          go_wp2
          go_ret
          exact ⟨rfl, below_drw HL6.out _⟩

/-! ### THE ROW's STEP: WRITTEN OUT: LEAVE IT -/
set_option maxRecDepth 100000 in
theorem lifted (os : Os) (started : os.Started) (H : Type) (enc : TypeId × Value → H) :
    ReturnsInHanded {} Try.checked os 10 .any (Rows.gateKeepsSpec.pre6 enc Try.prog Try.f10 Rows.gateKeepsRow.domain false) (Rows.gateKeepsSpec.post enc Try.prog Try.f10 false true false false) := by
  refine returnsInHanded_of_change (C := Try.checked) own started (by kernel_rfl) Try.func10
    (ChangeSpec.witness6 (enc := enc) (C := Try.checked) false ⟨#[], #[.agg #[.int .i64 0, .int .i64 0, .int .i64 0, .int .i64 0, .int .u64 0, .int .i64 0, .int .i64 0, .int .u32 0], .agg #[.int .u32 0, .int .i64 0], .agg #[.int .u16 0, .int .u16 0]], []⟩ 8 (by kernel_rfl) (by kernel_rfl) (by kernel_rfl) (by kernel_rfl)) ?_
  intro W base args ds gs before hval0 hW hcnd _
  have hval : ∀ (j : Nat) t v, Try.f10.params[j]? = some t → args[j]? = some v → Value.okWide Try.prog W .any base t v := hval0
  have hW' := hW
  obtain ⟨p, q, hA0, hV, rfl, hfz, hnd⟩ := hW
  have hA : DataW.TrodAll enc Try.prog W 0 (fun _ => true) true Try.f10.params.toList args.toList ds p := hA0
  rw [Try.params10] at hA hval
  obtain ⟨v0, vs0, d0, ds0, p0, q0, hargs, rfl, rfl, h0, r0⟩ := trodAll_cons hA
  obtain ⟨v1, vs1, d1, ds1, p1, q1, rfl, rfl, rfl, h1, r1⟩ := trodAll_cons r0
  obtain ⟨v2, vs2, d2, ds2, p2, q2, rfl, rfl, rfl, h2, r2⟩ := trodAll_cons r1
  obtain ⟨rfl, rfl, rfl⟩ := trodAll_nil r2
  obtain rfl : args = #[v0, v1, v2] := by cases args; simp_all
  obtain ⟨rfl, rfl⟩ := trodVars_none hV
  have k0 := h0
  have lt0 : ∀ x ∈ p0, x.block < W.heap.size := by obtain ⟨m, hm⟩ := k0; exact DataW.trod_lt m _ _ _ hm
  obtain ⟨s0, w0⟩ := open_le (hval 0 64 v0 rfl rfl) h0
  have k1 := h1
  have lt1 : ∀ x ∈ p1, x.block < W.heap.size := by obtain ⟨m, hm⟩ := k1; exact DataW.trod_lt m _ _ _ hm
  obtain ⟨s1, w1⟩ := open_adr (hval 1 38 v1 rfl rfl) h1
  have k2 := h2
  have lt2 : ∀ x ∈ p2, x.block < W.heap.size := by obtain ⟨m, hm⟩ := k2; exact DataW.trod_lt m _ _ _ hm
  obtain ⟨s2, w2⟩ := open_two (hval 2 79 v2 rfl rfl) h2
  clear hA0 hval0
  refine (walk v0 s0 v1 s1 v2 s2 W w0 w1 w2).mono fun e W' ⟨he, bel⟩ => ?_
  subst he
  exact ⟨_, rfl, _, _, _, [], _, [], hW', trodAll_mk1 (shut_bool Try.underlying4 _), (trodAll_cons_mk (Below.trod laidOut (by kernel_rfl) (of_decide_eq_true (by kernel_rfl)) k0 bel lt0) (trodAll_cons_mk (Below.trod laidOut (by kernel_rfl) (of_decide_eq_true (by kernel_rfl)) k1 bel lt1) (trodAll_cons_mk (Below.trod laidOut (by kernel_rfl) (of_decide_eq_true (by kernel_rfl)) k2 bel lt2) trodAll_mk0))), rfl, bel.frame _, fun h => by cases h⟩

theorem over : Rows.gateKeepsRow.holds Try.pinned (OpenSpec.ofChange Rows.gateKeepsSpec) :=
  OpenClaim.holds_of_wide 10 Try.f10 rfl rfl rfl rfl rfl rfl rfl ⟨rfl, rfl, rfl, rfl, rfl⟩ rfl rfl rfl rfl rfl (by kernel_rfl) Try.func10 (by kernel_rfl)
    (of_decide_eq_true (by kernel_rfl)) (by unfold Func.isWrapper; first | (rw [if_pos (by decide +kernel)]; kernel_rfl) | (rw [if_neg (by decide +kernel)]; exact ⟨rfl, rfl⟩))
    (fun os started H enc _ => lifted os started H enc)

/-- ████ THE STATEMENT ████ -/
theorem proved : Rows.GateKeepsSaid := over
#print axioms proved
end Go.Proofs.Ytemlnkcokeckmaa.gateKeeps
