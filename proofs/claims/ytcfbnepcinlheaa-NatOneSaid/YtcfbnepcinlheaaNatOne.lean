/-
  A law of the box: mapped by nothing one who sends has one port for all, mapped by hosts one for each host, mapped by addresses one for each address. Conditions: none.
-/
import Derived.Deep.QuietTactic
import Derived.Deep.RegionWith
import Derived.Deep.Cut
import Derived.Test.YtcfbnepcinlheaaOnp
import Derived.Test.YtcfbnepcinlheaaRows
import Derived.WalkKit
import Derived.ProofKit
import Derived.OpenShut
import Derived.ShutString
import Derived.ChangeOld
import Derived.Below
namespace Go.Proofs.Ytcfbnepcinlheaa.natOne
open Go.ChangeShapes Go.WideShapes Go.ChangeAt Go.RowKit
open Go.ChangeMaps (open_string shut_string)
set_option linter.unusedVariables false

theorem own : ownKnob Try.prog.godebug = none := by kernel_rfl
theorem laidOut : laidOutB Try.prog = true := by kernel_rfl

set_option maxRecDepth 100000 in
set_option maxHeartbeats 8000000 in
theorem walk (a0 : Int) (v1 : Value) (s1 : A2) (v2 : Value) (s2 : List A2) (w : World) (w0 : (Lit.int .u8 a0).wf = true) (w1 : IsAdr w v1 s1) (w2 : IsAdrs w v2 s2) :
    Calls Try.prog 5 #[.int .u8 a0, v1, v2] w fun e w' => e = .returned (.bool true) ∧ Below w.heap.size w w' := by
  obtain ⟨q0, q1⟩ := bounds_u8 w0
  obtain ⟨n, rfl⟩ := Int.eq_ofNat_of_zero_le q0
  obtain ⟨a, ha2⟩ : ∃ a, a = s1 := ⟨_, rfl⟩
  obtain ⟨rfl, ha⟩ := w1
  rw [← ha2] at ha ⊢
  obtain ⟨A, cap, rfl, hnc, hcm, hads, haz⟩ := w2
  unfold maxLen at hcm
  have HADS := Lib.hid hads; have HAZ := Lib.hid haz; have HA := Lib.hid ha
  have hg38 := noGuard38
  obtain ⟨x, hx⟩ : ∃ x, x = bxC n := ⟨_, rfl⟩
  have HOK : Hid (OkB x) := Lib.hid (by rw [hx]; exact bxC_ok n)
  have HMOST : Hid (x.most = 12) := Lib.hid (by rw [hx]; rfl)
  have HLIFE : Hid (x.life = 30) := Lib.hid (by rw [hx]; rfl)
  have HPT : Hid (ports x = 10) := Lib.hid (by rw [hx]; rfl)
  have HMAP : Hid (0 ≤ x.map ∧ x.map ≤ 2) := Lib.hid (by rw [hx]; unfold bxC; dsimp only; omega)
  have H25 := Lib.hid (fun W => box25 n (by omega) W)
  have HNEW : Hid (∀ (os : List (Nat × Obj)) V, Hs w os V → Calls Try.prog 10 #[.agg (boxCells x)] V fun e V' => ∃ g, e = .returned (.tuple #[.pointer (some ⟨g, 0, none⟩), .int .i64 0]) ∧ Pl w g x 0 [] os V') := Lib.hid (fun os V h => new_hs x (by rw [hx]; exact bxC_is n) (by rw [hx]; exact bxC_2 n) h)
  rw [← hx] at H25
  clear w0 hads haz ha ha2 hx q0 q1
  have hs0 := (Hs.nil w).box #[.int .u32 a.1, .int .i64 a.2] 38 rfl
  unfold adr
  go_enter Try.func5, Try.ntmps5
  go_wp2_with fail
  refine (awake_any _).mono ?_
  rintro e w1 ⟨rfl, hb1⟩
  have hs1 := hs0.below hb1
  clear hs0 hb1
  go_wp2_with fail
  refine (H25.out _).mono ?_
  rintro e w2 ⟨rfl, hb2⟩
  have hs3 := (hs1.below hb2).box (boxCells x) 24 rfl
  clear hs1 hb2
  have hN := HNEW.out _ _ hs3
  clear hs3
  unfold boxCells at hN ⊢
  go_wp2_with fail
  refine hN.mono ?_
  rintro e V ⟨g, rfl, hp⟩
  obtain ⟨XO, hXO⟩ : ∃ o : Nat × Obj, o = (w2.heap.size, .cells (boxCells x) 24 (0, 0)) := ⟨_, rfl⟩
  obtain ⟨AO, hAO⟩ : ∃ o : Nat × Obj, o = (w.heap.size, .cells #[.int .u32 a.1, .int .i64 a.2] 38 (0, 0)) := ⟨_, rfl⟩
  have hp : Pl w g x 0 [] [XO, AO] V := by rw [hXO, hAO]; exact hp
  have HCELL : Hid (∀ os now M W, Pl w g x now M os W → AO ∈ os → XO ∈ os → (W.cell? ⟨w.heap.size, 0, none⟩ = some (.int .u32 a.1) ∧ W.cell? ⟨w.heap.size, 1, none⟩ = some (.int .i64 a.2) ∧ w.heap.size < W.heap.size) ∧ W.cell? ⟨w2.heap.size, 3, none⟩ = some (.int .i64 x.map) ∧ w2.heap.size < W.heap.size) := Lib.hid (fun os now M W hp h1 h2 => by
    rw [hAO] at h1; rw [hXO] at h2
    exact ⟨⟨(hp.c2 h1).1, (hp.c2 h1).2, hp.lt h1⟩, (hp.cells h2 3).1, hp.lt h2⟩)
  have HXN : Hid (AO.1 = w.heap.size ∧ XO.1 = w2.heap.size) := Lib.hid ⟨by rw [hAO], by rw [hXO]⟩
  have HP := Lib.hid hp
  clear hN hp hXO hAO
  by_cases hlen : s2.length ≤ 8
  · have hlz : ¬ (8 : Int) < (s2.length : Int) := by omega
    go_wp2
    go_loopw [10, 11] (fun sv iv wr => ∃ (k : Nat) (now : Int) (M : List Bn) (ps : List Int), k ≤ s2.length ∧ iv = .int .i64 (k : Int) ∧ ps.length = k ∧ Hid (∃ A n c, sv = .slice A n c) ∧ Hid ((now = 0 ∨ now = 1) ∧ M.length ≤ k ∧ Ones x a (1 + x.life) M ∧ Ports x M s2 ps) ∧ Hid (Pp w g x now M [XO, AO] sv ps wr)) (fun _ iv _ => s2.length - (intOf iv).toNat)
    case atStart => exact ⟨0, 0, [], [], by omega, rfl, rfl, Lib.hid ⟨_, _, _, rfl⟩, Lib.hid ⟨.inl rfl, by simp, Ones.nil x a _, Ports.nil x s2⟩, Lib.hid (Pp.nil HP.out)⟩
    case round =>
      obtain ⟨k, now, M, ps, hk, rfl, hpk, HSL, HST, HPR⟩ := hrel
      clear HP
      by_cases hkl : k < s2.length
      · have hkz : (k : Int) < (s2.length : Int) := by omega
        obtain ⟨b, hz⟩ : ∃ b, s2[k]? = some b := ⟨_, List.getElem?_eq_getElem hkl⟩
        have HZ := Lib.hid hz
        have HB := Lib.hid (HAZ.out b (List.mem_of_getElem? hz))
        obtain ⟨bb, off, rfl, hbl, hbc⟩ := HADS.out (by omega)
        have HKEEP : Hid (∀ (j : Nat) (c : A2) W, s2[j]? = some c → Below w.heap.size w W → W.cell? ⟨bb, off + j * 2, none⟩ = some (.int .u32 c.1) ∧ W.cell? ⟨bb, off + j * 2 + 1, none⟩ = some (.int .i64 c.2) ∧ bb < W.heap.size) := Lib.hid (fun j c W hj hW => ⟨(hW.cell (p := ⟨bb, off + j * 2, none⟩) hbl).trans (hbc j c hj).1, (hW.cell (p := ⟨bb, off + j * 2 + 1, none⟩) hbl).trans (hbc j c hj).2, Nat.lt_of_lt_of_le hbl hW.size⟩)
        obtain ⟨d2, d3, hbl2⟩ := HKEEP.out k b wr hz HPR.out.pl.low
        obtain ⟨⟨p0, p1, hwl⟩, -⟩ := HCELL.out _ _ _ _ HPR.out.pl (by simp) (by simp)
        have hn0 : 0 ≤ now := by rcases HST.out.1 with h | h <;> omega
        have HG1 : Hid (goes now 1 = true) := Lib.hid (by rcases HST.out.1 with rfl | rfl <;> decide)
        have HCW := Lib.hid (fun os W (hp : Pp w g x now M os u10 ps W) => out_pp hp HOK.out (HST.out.2.2.1.ok (by have := HST.out.2.1; omega)) 1 a b HA.out HB.out hn0)
        obtain ⟨R, hR⟩ : ∃ R, R = outS x now M 1 a b := ⟨_, rfl⟩
        rw [← hR] at HCW
        have HR := Lib.hid hR
        obtain ⟨⟨r1, r2⟩, rc, rn, rM⟩ := R
        unfold ansA adr at HCW
        dsimp only at HCW
        clear hR hn0 hz hbc
        have HPA := Lib.hid (HPR.out.drewN 1)
        have HPB := Lib.hid ((HPR.out.drewN 1).hold' #[.int .u32 0, .int .i64 0] 38)
        have HXR : Hid (w.heap.size ≠ wr.heap.size ∧ w2.heap.size ≠ wr.heap.size ∧ w.heap.size ≤ wr.heap.size) := Lib.hid (by
          have h1 := HPR.out.pl.lt (p := XO) (by simp)
          have h2 := HPR.out.pl.lt (p := AO) (by simp)
          rw [HXN.out.2] at h1; rw [HXN.out.1] at h2
          exact ⟨by omega, by omega, HPR.out.pl.low.size⟩)
        clear HPR
        go_upto_region 11 with (fail)
        go_cut [12, 13] from 1000 (fun v12 v13 wc => ∃ q : Nat, v12 = .pointer (some ⟨q, 0, none⟩) ∧ v13 = .int .i64 rc ∧ Hid (Pp w g x rn rM [(q, .cells #[.int .u32 r1, .int .i64 r2] 38 (0, 0)), XO, AO] u10 ps wc))
        case first =>
          have HCA := Lib.hid (HCW.out [XO, AO])
          have HCB := Lib.hid (HCW.out [(wr.heap.size, .cells #[.int .u32 0, .int .i64 0] 38 (0, 0)), XO, AO])
          have HDIF : Hid (∀ p ∈ [XO, AO], p.1 ≠ wr.heap.size) := Lib.hid (by
            intro p hp
            simp only [List.mem_cons, List.not_mem_nil, or_false] at hp
            rcases hp with rfl | rfl
            · rw [HXN.out.2]; exact HXR.out.2.1
            · rw [HXN.out.1]; exact HXR.out.1)
          clear HCW HKEEP
          go_region_with (go_at_call 13; first
            | (refine (HCA.out _ ?_).mono ?_; exact HPA.out; rintro e V3 ⟨rfl, hp3⟩; have HP3 := Lib.hid hp3; clear hp3)
            | (refine (HCB.out _ ?_).mono ?_; exact HPB.out; rintro e V3 ⟨rfl, hp3⟩; have HP3 := Lib.hid hp3; obtain ⟨t0, t1⟩ := hp3.pl.cells (b := wr.heap.size) (C := #[.int .u32 0, .int .i64 0]) (t := 38) (by simp) 0; obtain ⟨t2, t3⟩ := hp3.pl.cells (b := wr.heap.size) (C := #[.int .u32 0, .int .i64 0]) (t := 38) (by simp) 1; clear hp3))
          all_goals go_wp2
          all_goals (try simp only [Act.put, List.getElem_toArray, List.getElem_cons_zero, List.getElem_cons_succ, List.setIfInBounds_toArray, List.set_cons_zero, List.set_cons_succ])
          all_goals (go_meet; case rel => first | exact ⟨_, rfl, rfl, Lib.hid (HP3.out.box _ 38 rfl)⟩ | exact ⟨_, rfl, rfl, Lib.hid ((HP3.out.store (j := 0) (v := .int .u32 r1) HDIF.out HXR.out.2.2).store (j := 1) (v := .int .i64 r2) HDIF.out HXR.out.2.2)⟩)
        case rest =>
          obtain ⟨q, rfl, rfl, HPC⟩ := hcut
          clear HPA HPB p0 p1 d2 d3 hbl2 HCW hwl
          by_cases hm : mayA a = true ∧ mayA b = true
          · obtain ⟨M', p, hS, hO, hlm, hE1, hE2⟩ := ones_out HOK.out HST.out.2.2.1 HG1.out hm.1 hm.2 (by rw [HLIFE.out]; decide) (by rw [HMOST.out]; have := HST.out.2.1; omega) (by rw [HPT.out]; have := HST.out.2.1; omega)
            have hR := HR.out.trans hS
            simp only [Prod.mk.injEq] at hR
            obtain ⟨⟨rfl, rfl⟩, rfl, rfl, rfl⟩ := hR
            have HO := Lib.hid hO
            have HLM : Hid (rM.length ≤ k + 1) := Lib.hid (by have := HST.out.2.1; omega)
            have hln : (ps ++ [r2]).length = k + 1 := by simp [hpk]
            have HPN := Lib.hid (Ports.snoc HST.out.2.2.2 (by rw [hpk]; exact HZ.out) hE1 hE2)
            obtain ⟨f0, f1⟩ := HPC.out.pl.c2 (k := q) (u := .int .u32 x.host) (v := .int .i64 r2) (by simp)
            have hql := World.block_lt_of_cell? wc _ f0
            dsimp only at hql
            obtain ⟨sv2, W2, t1, t2, t3⟩ := app_pp HPC.out r2 (by omega)
            obtain ⟨A9, N9, C9, rfl⟩ := t2
            obtain ⟨g2, cap2, e9, hc1, hc2, -⟩ := t3.at_ (j := k) (by omega)
            rw [hln] at e9 hc1
            obtain ⟨rfl, rfl, rfl⟩ : A9 = some ⟨g2, 0, none⟩ ∧ N9 = k + 1 ∧ C9 = cap2 := by simpa using e9
            unfold maxLen at hc2
            have T1 := Lib.hid t1
            have HPI0 := Lib.hid (t3.sub (os' := [XO, AO]) (fun q hq => List.mem_cons_of_mem _ hq))
            clear hm hS hO hlm hE1 hE2 t1 t3 HPC HR e9 HG1 HST
            go_wp2_with (at_builtin; refine wpList_run rfl (.tmp 59) (.tmp 62) 57 rfl rfl rfl T1.out ?_)
            go_loopw [14] (fun jv wi => ∃ j : Nat, j ≤ k ∧ jv = .int .i64 (j : Int) ∧ Hid (Pp w g x 1 rM [XO, AO] (.slice (some ⟨g2, 0, none⟩) (k + 1) C9) (ps ++ [r2]) wi)) (fun jv _ => k - (intOf jv).toNat)
            case atStart => exact ⟨0, by omega, rfl, HPI0⟩
            case round =>
              obtain ⟨j, hj, rfl, HPI⟩ := hrel
              clear HPI0 f0 f1 hql T1
              by_cases hjk : j < k
              · have hjz : (j : Int) < (k : Int) := by omega
                obtain ⟨c, hc⟩ : ∃ c, s2[j]? = some c := ⟨_, List.getElem?_eq_getElem (by omega)⟩
                obtain ⟨pj, hpj⟩ : ∃ pj, (ps ++ [r2])[j]? = some pj := ⟨_, List.getElem?_eq_getElem (by omega)⟩
                have hpk2 : (ps ++ [r2])[k]? = some r2 := by rw [← hpk, List.getElem?_append_right (Nat.le_refl _)]; simp
                have hsame := Ports.same HPN.out HO.out hpk2 hpj HZ.out hc
                have hsv := sameV_iff HMAP.out b c
                obtain ⟨g3, cap3, e3, -, -, hat⟩ := HPI.out.at_ (j := k) (by omega)
                have e4 : g2 = g3 := by simp at e3; exact e3.1
                subst e4
                have m1 := hat k r2 hpk2
                have m2 := hat j pj hpj
                obtain ⟨d2, d3, hbl2⟩ := HKEEP.out k b _ HZ.out HPI.out.pl.low
                obtain ⟨d4, d5, -⟩ := HKEEP.out j c _ hc HPI.out.pl.low
                obtain ⟨-, m0, -⟩ := HCELL.out _ _ _ _ HPI.out.pl (by simp) (by simp)
                have hkn : (k : Int) < (k : Int) + 1 := by omega
                have hjn : (j : Int) < (k : Int) + 1 := by omega
                have hkn2 : (k : Int) < ((k + 1 : Nat) : Int) := by omega
                have hjn2 : (j : Int) < ((k + 1 : Nat) : Int) := by omega
                have hjs : (j : Int) < (s2.length : Int) := by omega
                have hcase : (x.map = 0 ∧ r2 = pj) ∨ (¬ x.map = 0 ∧ ¬ b.1 = c.1 ∧ ¬ r2 = pj) ∨ (¬ x.map = 0 ∧ b.1 = c.1 ∧ x.map = 1 ∧ r2 = pj) ∨ (¬ x.map = 0 ∧ b.1 = c.1 ∧ ¬ x.map = 1 ∧ b.2 = c.2 ∧ r2 = pj) ∨ (¬ x.map = 0 ∧ b.1 = c.1 ∧ ¬ x.map = 1 ∧ ¬ b.2 = c.2 ∧ ¬ r2 = pj) := by
                  rw [← hsv] at hsame
                  unfold sameV at hsame
                  by_cases h0 : x.map = 0
                  · exact .inl ⟨h0, hsame.2 (by simp [h0])⟩
                  · refine .inr ?_
                    by_cases h1 : b.1 = c.1
                    · refine .inr ?_
                      by_cases h2 : x.map = 1
                      · exact .inl ⟨h0, h1, h2, hsame.2 (by simp [h1, h2])⟩
                      · refine .inr ?_
                        by_cases h3 : b.2 = c.2
                        · exact .inl ⟨h0, h1, h2, h3, hsame.2 (by simp [h1, h3])⟩
                        · exact .inr ⟨h0, h1, h2, h3, fun e => by have := hsame.1 e; simp [h0, h2, h3] at this⟩
                    · exact .inl ⟨h0, h1, fun e => by have := hsame.1 e; simp [h0, h1] at this⟩
                have HDR : Hid (∀ q, Pp w g x 1 rM [XO, AO] (.slice (some ⟨g2, 0, none⟩) (k + 1) C9) (ps ++ [r2]) (wr.drewN q)) := Lib.hid (fun q => HPI.out.drewN q)
                have HNX := Lib.hid (show j + 1 ≤ k by omega)
                clear hsame hsv hat e3 hc hpj hpk2
                go_upto_region 18 with (fail)
                rcases hcase with ⟨h0, h1⟩ | ⟨h0, h1, h2⟩ | ⟨h0, h1, h2, h3⟩ | ⟨h0, h1, h2, h3, h4⟩ | ⟨h0, h1, h2, h3, h4⟩
                · rw [h0] at m0
                  rw [← h1] at m2
                  clear h0 h1
                  go_quiet (fail)
                  go_upto_region 19 with (fail)
                  go_quiet (fail)
                  go_wp2
                  go_roundw
                  case rel => exact ⟨j + 1, HNX.out, by go_num, Lib.hid (HDR.out _)⟩
                  case measure => simp [intOf]; omega
                · have bh0 : (x.map == (0 : Int)) = false := by simpa using h0
                  have dh0 : decide (x.map = (0 : Int)) = false := decide_eq_false h0
                  have bh1 : (b.1 == c.1) = false := by simpa using h1
                  have dh1 : decide (b.1 = c.1) = false := decide_eq_false h1
                  have bh2 : (r2 == pj) = false := by simpa using h2
                  have dh2 : decide (r2 = pj) = false := decide_eq_false h2
                  go_quiet (fail)
                  go_upto_region 19 with (fail)
                  go_quiet (fail)
                  go_wp2
                  go_roundw
                  case rel => exact ⟨j + 1, HNX.out, by go_num, Lib.hid (HDR.out _)⟩
                  case measure => simp [intOf]; omega
                · rw [h2] at m0 h0
                  rw [h1] at d2
                  rw [← h3] at m2
                  clear h1 h2 h3
                  go_quiet (fail)
                  go_upto_region 19 with (fail)
                  go_quiet (fail)
                  go_wp2
                  go_roundw
                  case rel => exact ⟨j + 1, HNX.out, by go_num, Lib.hid (HDR.out _)⟩
                  case measure => simp [intOf]; omega
                · rw [h1] at d2
                  rw [h3] at d3
                  rw [← h4] at m2
                  clear h1 h3 h4
                  go_quiet (fail)
                  go_upto_region 19 with (fail)
                  go_quiet (fail)
                  go_wp2
                  go_roundw
                  case rel => exact ⟨j + 1, HNX.out, by go_num, Lib.hid (HDR.out _)⟩
                  case measure => simp [intOf]; omega
                · have bh0 : (x.map == (0 : Int)) = false := by simpa using h0
                  have dh0 : decide (x.map = (0 : Int)) = false := decide_eq_false h0
                  have bh2 : (x.map == (1 : Int)) = false := by simpa using h2
                  have dh2 : decide (x.map = (1 : Int)) = false := decide_eq_false h2
                  have bh3 : (b.2 == c.2) = false := by simpa using h3
                  have dh3 : decide (b.2 = c.2) = false := decide_eq_false h3
                  have bh4 : (r2 == pj) = false := by simpa using h4
                  have dh4 : decide (r2 = pj) = false := decide_eq_false h4
                  rw [h1] at d2
                  clear h1
                  go_quiet (fail)
                  go_upto_region 19 with (fail)
                  go_quiet (fail)
                  go_wp2
                  go_roundw
                  case rel => exact ⟨j + 1, HNX.out, by go_num, Lib.hid (HDR.out _)⟩
                  case measure => simp [intOf]; omega
              · have hjz : ¬ (j : Int) < (k : Int) := by omega
                go_wp2
                go_roundw
                case rel => exact ⟨k + 1, 1, rM, ps ++ [r2], by omega, by go_num, hln, Lib.hid ⟨_, _, _, rfl⟩, Lib.hid ⟨.inr rfl, HLM.out, HO.out, HPN.out⟩, HPI⟩
                case measure => simp [intOf]; omega
          · obtain ⟨b1, b2⟩ := ones_bad (x := x) (M := M) HG1.out hm
            rw [← HR.out] at b1 b2
            simp only [Prod.mk.injEq] at b1 b2
            obtain rfl := b1
            obtain ⟨rfl, rfl⟩ := b2
            have HE := Lib.hid HPC.out.pl.low
            clear HPC HR HG1 hm
            go_wp2
            go_ret
            exact ⟨rfl, HE.out⟩
      · have hkz : ¬ (k : Int) < (s2.length : Int) := by omega
        have HE := Lib.hid HPR.out.pl.low
        clear HPR
        go_wp2
        go_ret
        exact ⟨rfl, HE.out⟩
  · have hlz : (8 : Int) < (s2.length : Int) := by omega
    have HE := Lib.hid HP.out.low
    clear HP
    go_wp2
    go_ret
    exact ⟨rfl, HE.out⟩

/-! ### THE ROW's STEP: WRITTEN OUT: LEAVE IT -/
set_option maxRecDepth 100000 in
theorem lifted (os : Os) (started : os.Started) (H : Type) (enc : TypeId × Value → H) :
    ReturnsInHanded {} Try.checked os 5 .any (Rows.natOneSpec.pre6 enc Try.prog Try.f5 Rows.natOneRow.domain false) (Rows.natOneSpec.post enc Try.prog Try.f5 false true false false) := by
  refine returnsInHanded_of_change (C := Try.checked) own started (by kernel_rfl) Try.func5
    (ChangeSpec.witness6 (enc := enc) (C := Try.checked) false ⟨#[], #[.int .u8 0, .agg #[.int .u32 0, .int .i64 0], .slice none 0 0], []⟩ 8 (by kernel_rfl) (by kernel_rfl) (by kernel_rfl) (by kernel_rfl)) ?_
  intro W base args ds gs before hval0 hW hcnd _
  have hval : ∀ (j : Nat) t v, Try.f5.params[j]? = some t → args[j]? = some v → Value.okWide Try.prog W .any base t v := hval0
  have hW' := hW
  obtain ⟨p, q, hA0, hV, rfl, hfz, hnd⟩ := hW
  have hA : DataW.TrodAll enc Try.prog W 0 (fun _ => true) true Try.f5.params.toList args.toList ds p := hA0
  rw [Try.params5] at hA hval
  obtain ⟨v0, vs0, d0, ds0, p0, q0, hargs, rfl, rfl, h0, r0⟩ := trodAll_cons hA
  obtain ⟨v1, vs1, d1, ds1, p1, q1, rfl, rfl, rfl, h1, r1⟩ := trodAll_cons r0
  obtain ⟨v2, vs2, d2, ds2, p2, q2, rfl, rfl, rfl, h2, r2⟩ := trodAll_cons r1
  obtain ⟨rfl, rfl, rfl⟩ := trodAll_nil r2
  obtain rfl : args = #[v0, v1, v2] := by cases args; simp_all
  obtain ⟨rfl, rfl⟩ := trodVars_none hV
  obtain ⟨a0, rfl, rfl, rfl, w0⟩ := open_int Try.underlying5 (hval 0 5 v0 rfl rfl) h0
  have k1 := h1
  have lt1 : ∀ x ∈ p1, x.block < W.heap.size := by obtain ⟨m, hm⟩ := k1; exact DataW.trod_lt m _ _ _ hm
  obtain ⟨s1, w1⟩ := open_adr (hval 1 38 v1 rfl rfl) h1
  have k2 := h2
  have lt2 : ∀ x ∈ p2, x.block < W.heap.size := by obtain ⟨m, hm⟩ := k2; exact DataW.trod_lt m _ _ _ hm
  obtain ⟨s2, w2⟩ := open_adrs (hval 2 56 v2 rfl rfl) h2
  clear hA0 hval0
  refine (walk a0 v1 s1 v2 s2 W w0 w1 w2).mono fun e W' ⟨he, bel⟩ => ?_
  subst he
  exact ⟨_, rfl, _, _, _, [], _, [], hW', trodAll_mk1 (shut_bool Try.underlying4 _), (trodAll_cons_mk (shut_int Try.underlying5 w0) (trodAll_cons_mk (Below.trod laidOut (by kernel_rfl) (of_decide_eq_true (by kernel_rfl)) k1 bel lt1) (trodAll_cons_mk (Below.trod laidOut (by kernel_rfl) (of_decide_eq_true (by kernel_rfl)) k2 bel lt2) trodAll_mk0))), rfl, bel.frame _, fun h => by cases h⟩

theorem over : Rows.natOneRow.holds Try.pinned (OpenSpec.ofChange Rows.natOneSpec) :=
  OpenClaim.holds_of_wide 5 Try.f5 rfl rfl rfl rfl rfl rfl rfl ⟨rfl, rfl, rfl, rfl, rfl⟩ rfl rfl rfl rfl rfl (by kernel_rfl) Try.func5 (by kernel_rfl)
    (of_decide_eq_true (by kernel_rfl)) (by unfold Func.isWrapper; first | (rw [if_pos (by decide +kernel)]; kernel_rfl) | (rw [if_neg (by decide +kernel)]; exact ⟨rfl, rfl⟩))
    (fun os started H enc _ => lifted os started H enc)

/-- ████ THE STATEMENT ████ -/
theorem proved : Rows.NatOneSaid := over
#print axioms proved
end Go.Proofs.Ytcfbnepcinlheaa.natOne
