/-
  NatBack: what comes back from where something was sent to goes to who sent it, as long as the binding lasts, whatever else goes out (60 steps); no two bindings have one port; from a host to which nothing was sent it doesn't come in, unless the box filters by nothing. Conditions: none.
-/
import Derived.Deep.QuietTactic
import Derived.Deep.RegionWith
import Derived.Deep.Cut
import Derived.Test.YtcfbnepcinlheaaBke
import Derived.Test.YtcfbnepcinlheaaOds
import Derived.Test.YtcfbnepcinlheaaRows
import Derived.WalkKit
import Derived.ProofKit
import Derived.OpenShut
import Derived.ShutString
import Derived.ChangeOld
import Derived.Below
namespace Go.Proofs.Ytcfbnepcinlheaa.natBack
open Go.ChangeShapes Go.WideShapes Go.ChangeAt Go.RowKit
open Go.ChangeMaps (open_string shut_string)
set_option linter.unusedVariables false

theorem own : ownKnob Try.prog.godebug = none := by kernel_rfl
theorem laidOut : laidOutB Try.prog = true := by kernel_rfl

set_option maxRecDepth 100000 in
set_option maxHeartbeats 8000000 in
theorem walk (a0 : Int) (v1 : Value) (s1 : (A2 × A2)) (v2 : Value) (s2 : List Dz) (w : World) (w0 : (Lit.int .u8 a0).wf = true) (w1 : IsEnd w v1 s1) (w2 : IsDzs w v2 s2) :
    Calls Try.prog 4 #[.int .u8 a0, v1, v2] w fun e w' => e = .returned (.bool true) ∧ Below w.heap.size w w' := by
  obtain ⟨q0, q1⟩ := bounds_u8 w0
  obtain ⟨n, rfl⟩ := Int.eq_ofNat_of_zero_le q0
  obtain ⟨a, b⟩ := s1
  obtain ⟨rfl, ha, hb⟩ := w1
  dsimp only at ha hb ⊢
  have HDZ := Lib.hid w2
  obtain ⟨A, cap, rfl, hnc, hcm, hdzs⟩ := w2
  unfold maxLen at hcm
  have HD := Lib.hid hdzs; have HA := Lib.hid ha; have HB := Lib.hid hb
  have hg38 := noGuard38
  obtain ⟨x, hx⟩ : ∃ x, x = bxC n := ⟨_, rfl⟩
  have HOK : Hid (OkB x) := Lib.hid (by rw [hx]; exact bxC_ok n)
  have HMOST : Hid (x.most = 12) := Lib.hid (by rw [hx]; rfl)
  have HLIFE : Hid (x.life = 30) := Lib.hid (by rw [hx]; rfl)
  have H25 := Lib.hid (fun W => box25 n (by omega) W)
  have HNEW : Hid (∀ (os : List (Nat × Obj)) V, Hs w os V → Calls Try.prog 10 #[.agg (boxCells x)] V fun e V' => ∃ g, e = .returned (.tuple #[.pointer (some ⟨g, 0, none⟩), .int .i64 0]) ∧ Pl w g x 0 [] os V') := Lib.hid (fun os V h => new_hs x (by rw [hx]; exact bxC_is n) (by rw [hx]; exact bxC_2 n) h)
  rw [← hx] at H25
  clear w0 hdzs ha hb hx q0 q1
  have hs0 := (Hs.nil w).box #[.int .u32 a.1, .int .i64 a.2, .int .u32 b.1, .int .i64 b.2] 51 rfl
  go_enter Try.func4, Try.ntmps4
  go_wp2_with fail
  refine (awake_any _).mono ?_
  rintro e w1 ⟨rfl, hb1⟩
  have hs1 := hs0.below hb1
  have hc := cells_of (hs1.held (w.heap.size, .cells #[.int .u32 a.1, .int .i64 a.2, .int .u32 b.1, .int .i64 b.2] 51 (0, 0)) (by simp))
  have c0 : w1.cell? ⟨w.heap.size, 0, none⟩ = some (.int .u32 a.1) := (hc 0).1
  have c1 : w1.cell? ⟨w.heap.size, 1, none⟩ = some (.int .i64 a.2) := (hc 1).1
  have c2 : w1.cell? ⟨w.heap.size, 2, none⟩ = some (.int .u32 b.1) := (hc 2).1
  have c3 : w1.cell? ⟨w.heap.size, 3, none⟩ = some (.int .i64 b.2) := (hc 3).1
  have l1 := World.block_lt_of_cell? w1 _ c0
  dsimp only at l1
  have hs2 := ((hs1.sub_nil).box #[.int .u32 a.1, .int .i64 a.2] 38 rfl).box (k := w1.heap.size + 1) #[.int .u32 b.1, .int .i64 b.2] 38 (by simp)
  clear hs0 hs1 hb1 hc
  go_wp2_with fail
  refine (H25.out _).mono ?_
  rintro e w2 ⟨rfl, hb2⟩
  have hs3 := (hs2.below hb2).box (boxCells x) 24 rfl
  clear hs2 hb2 c0 c1 c2 c3
  have hN := HNEW.out _ _ hs3
  clear hs3
  unfold boxCells at hN ⊢
  go_wp2_with fail
  refine hN.mono ?_
  rintro e V ⟨g, rfl, hp⟩
  obtain ⟨XO, hXO⟩ : ∃ o : Nat × Obj, o = (w2.heap.size, .cells (boxCells x) 24 (0, 0)) := ⟨_, rfl⟩
  obtain ⟨AO, hAO⟩ : ∃ o : Nat × Obj, o = (w1.heap.size, .cells #[.int .u32 a.1, .int .i64 a.2] 38 (0, 0)) := ⟨_, rfl⟩
  obtain ⟨BO, hBO⟩ : ∃ o : Nat × Obj, o = (w1.heap.size + 1, .cells #[.int .u32 b.1, .int .i64 b.2] 38 (0, 0)) := ⟨_, rfl⟩
  have hp : Pl w g x 0 [] [XO, BO, AO] V := by rw [hXO, hBO, hAO]; exact hp
  have HCELL : Hid (∀ os now M W, Pl w g x now M os W → AO ∈ os → BO ∈ os → XO ∈ os → (W.cell? ⟨w1.heap.size, 0, none⟩ = some (.int .u32 a.1) ∧ W.cell? ⟨w1.heap.size, 1, none⟩ = some (.int .i64 a.2) ∧ w1.heap.size < W.heap.size) ∧ (W.cell? ⟨w1.heap.size + 1, 0, none⟩ = some (.int .u32 b.1) ∧ W.cell? ⟨w1.heap.size + 1, 1, none⟩ = some (.int .i64 b.2) ∧ w1.heap.size + 1 < W.heap.size) ∧ (∀ j, W.cell? ⟨w2.heap.size, j, none⟩ = (boxCells x)[j]?) ∧ w2.heap.size < W.heap.size) := Lib.hid (fun os now M W hp h1 h2 h3 => by
    rw [hAO] at h1; rw [hBO] at h2; rw [hXO] at h3
    exact ⟨⟨(hp.c2 h1).1, (hp.c2 h1).2, hp.lt h1⟩, ⟨(hp.c2 h2).1, (hp.c2 h2).2, hp.lt h2⟩, fun j => (hp.cells h3 j).1, hp.lt h3⟩)
  have HP := Lib.hid hp
  obtain ⟨sn, hsn⟩ : ∃ sn, sn = (s2.take 60).map Dz.b := ⟨_, rfl⟩
  have HSQ := Lib.hid hsn
  have HSN : Hid (∀ k d, k < 60 → s2[k]? = some d → d.b ∈ sn) := Lib.hid (fun k d hk hd => by
    rw [hsn]; exact List.mem_map.2 ⟨d, List.mem_of_getElem? (i := k) (by rw [List.getElem?_take_of_lt hk]; exact hd), rfl⟩)
  clear hN hp hXO hAO hBO
  go_wp2
  go_loopw [12] (fun iv wr => ∃ (k : Nat) (now : Int) (M : List Bn), k ≤ s2.length ∧ k ≤ 60 ∧ iv = .int .i64 (k : Int) ∧ Hid ((now = 0 ∨ now = 1) ∧ Bkp x a sn M) ∧ Hid (Pl w g x now M [XO, BO, AO] wr)) (fun iv _ => s2.length - (intOf iv).toNat)
  case atStart => exact ⟨0, 0, [], by omega, by omega, rfl, Lib.hid ⟨.inl rfl, Okb.nil (by rw [HMOST.out]; decide), by simp, by simp⟩, HP⟩
  case round =>
    obtain ⟨k, now, M, hk, hk60, rfl, HST, HPR⟩ := hrel
    clear HP
    by_cases hgo : k < s2.length ∧ k < 60
    · have hkz : (k : Int) < (s2.length : Int) := by omega
      have hkz2 : (k : Int) < 60 := by omega
      obtain ⟨d, hz⟩ : ∃ d, s2[k]? = some d := ⟨_, List.getElem?_eq_getElem hgo.1⟩
      obtain ⟨bb, off, rfl, hbl, hat⟩ := HD.out (by omega)
      have hda := hat k hgo.1
      rw [List.getD_eq_getElem?_getD, hz] at hda
      dsimp only [Option.getD] at hda
      have HDA := Lib.hid (hda.below HPR.out.low)
      obtain ⟨⟨m0, m1, m2, m3, m4, m5, m6, m7⟩, -, -, hia, hib, -, -⟩ := HDA.out.parts
      have HIA := Lib.hid hia; have HIB := Lib.hid hib
      obtain ⟨⟨p0, p1, pl⟩, -⟩ := HCELL.out _ _ _ _ HPR.out (by simp) (by simp) (by simp)
      have hn0 : 0 ≤ now := by rcases HST.out.1 with h | h <;> omega
      have HG1 : Hid (goes now 1 = true) := Lib.hid (by rcases HST.out.1 with rfl | rfl <;> decide)
      have HOM := Lib.hid (HST.out.2.ok.okM (by rw [HMOST.out]; decide))
      have HDB := Lib.hid (HSN.out k d hgo.2 hz)
      clear hz hda hia hib hat
      have HDR : Hid (∀ q, Pl w g x now M [XO, BO, AO] (wr.drewN q)) := Lib.hid (fun q => HPR.out.drewN q)
      by_cases h0 : d.kind = 0
      · rw [h0] at m0
        have HCO := Lib.hid (fun W (hp : Pl w g x now M [XO, BO, AO] W) => out_pl hp HOK.out HOM.out 1 d.a d.b HIA.out HIB.out hn0)
        have HBK := Lib.hid (HST.out.2.out (now := now) (t := 1) (c := d.a) (b := d.b) HOK.out.lh HDB.out)
        have HNW : Hid ((outS x now M 1 d.a d.b).2.2.1 = 1) := Lib.hid (by unfold outS; rw [if_pos HG1.out])
        generalize outS x now M 1 d.a d.b = R at *
        obtain ⟨r1, r2, r3, r4⟩ := R
        dsimp only at HCO HBK HNW
        obtain rfl := HNW.out
        unfold ansA adr at HCO
        clear hn0
        go_upto_region 13 with (fail)
        go_region_with (go_at_call 13; (refine (HCO.out _ ?_).mono ?_; exact HDR.out _; rintro e V3 ⟨rfl, hp3⟩; have HP3 := Lib.hid hp3; clear hp3))
        all_goals (
          clear m0 m1 m2 m3 m4 m5 m6 m7 p0 p1 HPR HDR
          try simp only [Act.put, List.getElem_toArray, List.getElem_cons_zero, List.getElem_cons_succ, List.setIfInBounds_toArray, List.set_cons_zero, List.set_cons_succ]
          go_wp2
          go_roundw
          case rel => exact ⟨k + 1, 1, r4, by omega, by omega, by go_num, Lib.hid ⟨.inr rfl, HBK.out⟩, HP3⟩
          case measure => simp [intOf]; omega)
      · by_cases h2 : d.kind = 2
        · rw [h2] at m0
          have hq := fun W => neq_adr d.a a W
          by_cases hda : d.a = a
          · rw [decide_eq_true hda] at hq
            rw [Bool.not_true] at hq
            clear h0 h2 hda
            go_upto_region 14 with (fail)
            go_quiet (fail)
            go_wp2
            go_roundw
            case rel => exact ⟨k + 1, now, M, by omega, by omega, by go_num, HST, Lib.hid (HDR.out _)⟩
            case measure => simp [intOf]; omega
          · rw [decide_eq_false hda] at hq
            rw [Bool.not_false] at hq
            have HDQ : Hid (∀ q r, Pl w g x now M [XO, BO, AO] (wr.drewN (q + r))) := Lib.hid (fun q r => HPR.out.drewN (q + r))
            have HCO := Lib.hid (fun W (hp : Pl w g x now M [XO, BO, AO] W) => ask_pl hp HOK.out HOM.out 1 d.a d.port d.till HIA.out)
            have HBK := Lib.hid (HST.out.2.ask (now := now) (t := 1) (c := d.a) (s := d.port) (u := d.till) HOK.out.lh hda)
            have HNW : Hid ((askS x now M 1 d.a d.port d.till).2.2.1 = 1) := Lib.hid (by unfold askS; rw [if_pos HG1.out])
            generalize askS x now M 1 d.a d.port d.till = R at *
            obtain ⟨r1, r2, r3, r4⟩ := R
            dsimp only at HCO HBK HNW
            obtain rfl := HNW.out
            unfold ansI adr at HCO
            clear h0 h2 hda hn0
            go_upto_region 14 with (fail)
            go_quiet (fail)
            go_upto_region 15 with (fail)
            go_region_with (go_at_call 17; (refine (HCO.out _ ?_).mono ?_; exact HDQ.out _ _; rintro e V3 ⟨rfl, hp3⟩; have HP3 := Lib.hid hp3; clear hp3))
            all_goals (
              clear m0 m1 m2 m3 m4 m5 m6 m7 p0 p1 HPR HDR
              try simp only [Act.put, List.getElem_toArray, List.getElem_cons_zero, List.getElem_cons_succ, List.setIfInBounds_toArray, List.set_cons_zero, List.set_cons_succ]
              go_wp2
              go_roundw
              case rel => exact ⟨k + 1, 1, r4, by omega, by omega, by go_num, Lib.hid ⟨.inr rfl, HBK.out⟩, HP3⟩
              case measure => simp [intOf]; omega)
        · have hb0 : (d.kind == (0 : Int)) = false := by simpa using h0
          have hb2 : (d.kind == (2 : Int)) = false := by simpa using h2
          have hd2 : decide (d.kind = (2 : Int)) = false := decide_eq_false h2
          go_upto_region 14 with (fail)
          go_quiet (fail)
          go_wp2
          go_roundw
          case rel => exact ⟨k + 1, now, M, by omega, by omega, by go_num, HST, Lib.hid (HDR.out _)⟩
          case measure => simp [intOf]; omega
    · by_cases hk1 : k < s2.length
      · have hkz : (k : Int) < (s2.length : Int) := by omega
        have hkz2 : ¬ (k : Int) < 60 := by omega
        obtain ⟨⟨p0, p1, pl⟩, ⟨p2, p3, pl2⟩, px, pxl⟩ := HCELL.out _ _ _ _ HPR.out (by simp) (by simp) (by simp)
        have hn0 : 0 ≤ now := by rcases HST.out.1 with h | h <;> omega
        have HG2 : Hid (goes now 2 = true) := Lib.hid (by rcases HST.out.1 with rfl | rfl <;> decide)
        have HOM := Lib.hid (HST.out.2.ok.okM (by rw [HMOST.out]; decide))
        have HCO := Lib.hid (out_pl HPR.out HOK.out HOM.out 2 a b HA.out HB.out hn0)
        have HOKO := Lib.hid (HST.out.2.ok.out (now := now) (t := 2) (a := a) (b := b) HOK.out.lh)
        have HBO := bk_out (b := b) HST.out.2 HOK.out.lh HG2.out (by rw [HLIFE.out]; decide)
        clear hn0
        rcases HBO with (e1 | e1) | ⟨hmb, M', d, e1, hd, hda, has, hu, hbs, hsn⟩
        · rw [e1] at HCO
          unfold ansA adr at HCO
          dsimp only at HCO
          clear e1
          go_wp2_with fail
          refine HCO.out.mono ?_
          rintro e V2 ⟨rfl, hp2⟩
          have HE := Lib.hid (hp2.box (k := V2.heap.size) #[.int .u32 0, .int .i64 0] 38 rfl).low
          clear hp2 p0 p1 p2 p3 px
          go_wp2
          go_ret
          exact ⟨rfl, HE.out⟩
        · rw [e1] at HCO
          unfold ansA adr at HCO
          dsimp only at HCO
          clear e1
          go_wp2_with fail
          refine HCO.out.mono ?_
          rintro e V2 ⟨rfl, hp2⟩
          have HE := Lib.hid (hp2.box (k := V2.heap.size) #[.int .u32 0, .int .i64 0] 38 rfl).low
          clear hp2 p0 p1 p2 p3 px
          go_wp2
          go_ret
          exact ⟨rfl, HE.out⟩
        · rw [e1] at HCO HOKO
          unfold ansA adr at HCO
          dsimp only at HCO HOKO
          have HD2 := Lib.hid hd; have HDA := Lib.hid hda; have HAS := Lib.hid has; have HBS := Lib.hid hbs; have HSN2 := Lib.hid hsn; have HMB := Lib.hid hmb
          have HU : Hid (d.until_ = 32) := Lib.hid (by rw [hu, HLIFE.out]; rfl)
          have hrg := HOKO.out.rng d hd
          have hlo : ¬ d.port < x.lo := by omega
          have hhi : ¬ x.hi < d.port := by omega
          clear e1 hmb hd hda has hu hbs hsn hrg
          have HO3 := Lib.hid (HOKO.out.live 3)
          have HD3 : Hid (d ∈ liveM M' 3) := Lib.hid (List.mem_filter.2 ⟨HD2.out, by rw [HU.out]; decide⟩)
          have HC3 := Lib.hid (fun os W (hp : Pl w g x 2 M' os W) => in_pl hp (HOKO.out.okM (by rw [HMOST.out]; decide)) 3 d.port b HB.out)
          have HB3 : Hid (inS x 2 M' 3 d.port b = (a, 0, 3, liveM M' 3)) := Lib.hid (by rw [bk_in HOKO.out HD2.out (by decide) HMB.out (by rw [HU.out]; decide), if_pos (lets_seen HBS.out), HDA.out])
          rw [HB3.out] at HC3
          generalize liveM M' 3 = M3 at *
          have HO31 := Lib.hid (HO3.out.live 31)
          have HD31 : Hid (d ∈ liveM M3 31) := Lib.hid (List.mem_filter.2 ⟨HD3.out, by rw [HU.out]; decide⟩)
          have HC4 := Lib.hid (fun os W (hp : Pl w g x 3 M3 os W) => in_pl hp (HO3.out.okM (by rw [HMOST.out]; decide)) 31 d.port b HB.out)
          have HB4 : Hid (inS x 3 M3 31 d.port b = (a, 0, 31, liveM M3 31)) := Lib.hid (by rw [bk_in HO3.out HD3.out (by decide) HMB.out (by rw [HU.out]; decide), if_pos (lets_seen HBS.out), HDA.out])
          rw [HB4.out] at HC4
          generalize liveM M3 31 = M4 at *
          have HO5 := Lib.hid (HO31.out.live 31)
          have HD5 : Hid (d ∈ liveM M4 31) := Lib.hid (List.mem_filter.2 ⟨HD31.out, by rw [HU.out]; decide⟩)
          have HC5 := Lib.hid (fun os W (hp : Pl w g x 31 M4 os W) => all_pl hp (HO31.out.okM (by rw [HMOST.out]; decide)) 31 (by decide))
          generalize liveM M4 31 = M5 at *
          have h77 : isA (77, 1) := ⟨⟨by decide, by decide⟩, by decide, by decide⟩
          have HC6 := Lib.hid (fun os W (hp : Pl w g x 31 M5 os W) => in_pl hp (HO5.out.okM (by rw [HMOST.out]; decide)) 31 d.port (77, 1) h77)
          rw [bk_in HO5.out HD5.out (by decide) (by decide) (by rw [HU.out]; decide)] at HC6
          unfold ansA adr at HC3 HC4 HC6
          dsimp only at HC3 HC4
          clear HB3 HB4 h77
          go_wp2_with fail
          refine HCO.out.mono ?_
          rintro e V2 ⟨rfl, hp2⟩
          clear p0 p1 p2 p3 px
          have hp3 := hp2.box (k := V2.heap.size) #[.int .u32 x.host, .int .i64 d.port] 38 rfl
          have HC7 := Lib.hid (HC3.out _ _ hp3)
          obtain ⟨⟨q0, q1, ql⟩, ⟨q2, q3, ql2⟩, qx, qxl⟩ := HCELL.out _ _ _ _ hp2 (by simp) (by simp) (by simp)
          clear hp2 hp3 HCO HC3
          go_wp2_with fail
          refine HC7.out.mono ?_
          rintro e V3 ⟨rfl, hp3⟩
          have hp4 := hp3.box (k := V3.heap.size) #[.int .u32 a.1, .int .i64 a.2] 38 rfl
          have HC8 := Lib.hid (HC4.out _ _ hp4)
          clear q0 q1 q2 q3 qx HC7 HC4
          obtain ⟨⟨q0, q1, -⟩, ⟨q2, q3, -⟩, qx, -⟩ := HCELL.out _ _ _ _ hp3 (by simp) (by simp) (by simp)
          obtain ⟨t0, t1⟩ := hp3.c2 (k := V2.heap.size) (u := .int .u32 x.host) (v := .int .i64 d.port) (by simp)
          have l3 := World.block_lt_of_cell? V3 _ t0
          have l4 := World.block_lt_of_cell? V3 _ q2
          dsimp only at l3 l4
          clear hp3 hp4
          go_wp2_with fail
          refine HC8.out.mono ?_
          rintro e V4 ⟨rfl, hp4⟩
          have hp5 := hp4.box (k := V4.heap.size) #[.int .u32 a.1, .int .i64 a.2] 38 rfl
          have HC9 := Lib.hid (HC5.out _ _ hp5)
          clear q0 q1 q2 q3 qx HC8 HC5 t0 t1 l3 l4
          obtain ⟨⟨q0, q1, q0l⟩, ⟨q2, q3, q2l⟩, qx, qxl'⟩ := HCELL.out _ _ _ _ hp4 (by simp) (by simp) (by simp)
          obtain ⟨t0, t1⟩ := hp4.c2 (k := V2.heap.size) (u := .int .u32 x.host) (v := .int .i64 d.port) (by simp)
          obtain ⟨t2, t3⟩ := hp4.c2 (k := V3.heap.size) (u := .int .u32 a.1) (v := .int .i64 a.2) (by simp)
          have l3 := World.block_lt_of_cell? V4 _ t0
          have l5 := World.block_lt_of_cell? V4 _ t2
          dsimp only at l3 l5
          have qx0 : V4.cell? ⟨w2.heap.size, 0, none⟩ = some (.int .u32 x.host) := qx 0
          have qx1 : V4.cell? ⟨w2.heap.size, 1, none⟩ = some (.int .i64 x.lo) := qx 1
          have qx2 : V4.cell? ⟨w2.heap.size, 2, none⟩ = some (.int .i64 x.hi) := qx 2
          have hq := fun W => neq_adr a a W
          rw [decide_eq_true rfl, Bool.not_true] at hq
          clear hp4 hp5 qx
          go_wp2_with fail
          refine HC9.out.mono ?_
          rintro e V5 ⟨⟨v, l, rfl, hpm, hrise, hbs⟩, hp6⟩
          have HRI := Lib.hid (fun i j b c => all_rise HO5.out hpm hrise i j b c)
          have HNA : Hid (∀ e ∈ l, e.port = d.port → e.asked = false) := Lib.hid (fun e he h => by rw [all_one HO5.out hpm HD5.out he h]; exact HAS.out)
          have HIB := Lib.hid hbs
          obtain ⟨OB, hp6', hibw⟩ := hold_bs hp6 hbs
          have HP6 := Lib.hid hp6'
          have HIBW := Lib.hid hibw
          clear hp6' hibw
          obtain ⟨A5, c5, rfl, hlc, hcm5, -⟩ := hbs
          unfold maxLen at hcm5
          clear hpm hrise hp6 HC9 q0 q1 q2 q3 t0 t1 t2 t3 qx0 qx1 qx2 l3 l5 hq q0l q2l qxl'
          go_wp2
          go_loopw [20] (fun i wr => ∃ (k q : Nat), 1 ≤ k ∧ i = .int .i64 (k : Int) ∧ wr = V5.drewN q) (fun i _ => (l.length + 1) - (intOf i).toNat)
          case atStart => exact ⟨1, 0, by omega, rfl, rfl⟩
          case round =>
            obtain ⟨k2, q, hk1', rfl, rfl⟩ := hrel
            by_cases hkl : k2 < l.length
            · obtain ⟨m, hm⟩ : ∃ m, k2 = m + 1 := ⟨k2 - 1, by omega⟩
              obtain ⟨e1, he1⟩ : ∃ e, l[m]? = some e := ⟨_, List.getElem?_eq_getElem (by omega)⟩
              obtain ⟨e2, he2⟩ : ∃ e, l[k2]? = some e := ⟨_, List.getElem?_eq_getElem hkl⟩
              have hlt := HRI.out m k2 e1 e2 (by omega) he1 he2
              obtain ⟨bb, hbb, f1, -⟩ := bs_at HIB.out he1
              obtain ⟨bb', hbb', f2, -⟩ := bs_at HIB.out he2
              rw [hbb] at hbb'
              cases hbb'
              subst hbb
              have u1 : (k2 : Int) - 1 = (m : Int) := by omega
              have u2 : IntKind.i64.wrap (m : Int) = (m : Int) := by rw [IntKind.wrap_i64]; omega
              have u3 : m < l.length := by omega
              have hkz3 : (k2 : Int) < (l.length : Int) := by omega
              have t1 : decide (e2.port ≤ e1.port) = false := by simp; omega
              clear he1 he2 hlt hm
              go_wp2
              go_quiet (fail)
              go_wp2
              go_roundw
              case rel => exact ⟨k2 + 1, _, by omega, by go_num, rfl⟩
              case measure => simp [intOf]; omega
            · have hkz3 : ¬ (k2 : Int) < (l.length : Int) := by omega
              have HP7 := Lib.hid (HP6.out.drewN q)
              have HC10 := Lib.hid (HC6.out _ _ HP7.out)
              obtain ⟨t0, t1⟩ := HP7.out.c2 (k := V2.heap.size) (u := .int .u32 x.host) (v := .int .i64 d.port) (by simp)
              have l3 := World.block_lt_of_cell? (V5.drewN q) _ t0
              dsimp only at l3
              obtain ⟨z, hz⟩ : ∃ z, letsB d (77, 1) x.filter = z := ⟨_, rfl⟩
              have HZ := Lib.hid hz
              rw [hz] at HC10
              obtain ⟨R1, R2, R3, hR, hR4⟩ : ∃ R1 R2 R3, (if z = true then (d.inn, (0 : Int), (31 : Int), liveM M5 31) else ((0, 0), 8, 31, liveM M5 31)) = (R1, R2, R3, liveM M5 31) ∧ R2 = if z = true then 0 else 8 := by
                cases z
                · exact ⟨_, _, _, rfl, rfl⟩
                · exact ⟨_, _, _, rfl, rfl⟩
              rw [hR] at HC10
              have HR4 := Lib.hid hR4
              dsimp only at HC10
              clear hz hR hR4 HC6
              go_wp2_with fail
              refine HC10.out.mono ?_
              rintro e V6 ⟨rfl, hp8⟩
              have hp9 := hp8.box (k := V6.heap.size) #[.int .u32 R1.1, .int .i64 R1.2] 38 rfl
              obtain ⟨⟨-, -, -⟩, ⟨q2, q3, q2l⟩, -, -⟩ := HCELL.out _ _ _ _ hp8 (by simp) (by simp) (by simp)
              have HP9 := Lib.hid hp9
              have HK9 : Hid (∀ qq : Nat, ((V6.alloc (.cells #[.int .u32 R1.1, .int .i64 R1.2] 38)).drewN qq).cell? ⟨V2.heap.size, 1, none⟩ = some (.int .i64 d.port) ∧ IsBs ((V6.alloc (.cells #[.int .u32 R1.1, .int .i64 R1.2] 38)).drewN qq) (.slice A5 l.length c5) l ∧ ((V6.alloc (.cells #[.int .u32 R1.1, .int .i64 R1.2] 38)).drewN qq).cell? ⟨w2.heap.size, 4, none⟩ = some (.int .i64 x.filter) ∧ Below w.heap.size w ((V6.alloc (.cells #[.int .u32 R1.1, .int .i64 R1.2] 38)).drewN qq)) := Lib.hid (fun qq => by
                have h9 := HP9.out.drewN qq
                refine ⟨(h9.c2 (k := V2.heap.size) (u := .int .u32 x.host) (v := .int .i64 d.port) (by simp)).2, HIBW.out _ _ _ (h9.sub (fun p hp => List.mem_cons_of_mem _ hp)), ?_, h9.low⟩
                obtain ⟨-, -, qx, -⟩ := HCELL.out _ _ _ _ h9 (by simp) (by simp) (by simp)
                exact qx 4)
              clear hp8 hp9 HC10 t0 t1 l3
              go_wp2
              generalize (V6.alloc (.cells #[.int .u32 R1.1, .int .i64 R1.2] 38)) = W9 at *
              go_loopw [25, 23] (fun i v wr => ∃ (k q : Nat), i = .int .i64 (k : Int) ∧ v = .bool false ∧ wr = W9.drewN q) (fun i _ _ => l.length - (intOf i).toNat)
              case atStart => exact ⟨0, 0, rfl, rfl, rfl⟩
              case round =>
                obtain ⟨k3, q3', rfl, rfl, rfl⟩ := hrel
                obtain ⟨g1, g2, -, -⟩ := HK9.out q3'
                by_cases hkl3 : k3 < l.length
                · have hkz4 : (k3 : Int) < (l.length : Int) := by omega
                  obtain ⟨e1, he1⟩ : ∃ e, l[k3]? = some e := ⟨_, List.getElem?_eq_getElem hkl3⟩
                  obtain ⟨bb, hbb, f1, f2⟩ := bs_at g2 he1
                  have hna := HNA.out e1 (List.mem_of_getElem? he1)
                  subst hbb
                  have f1 : W9.cell? ⟨bb, k3 * 7 + 4, none⟩ = some (.int .i64 e1.port) := f1
                  have f2 : W9.cell? ⟨bb, k3 * 7 + 6, none⟩ = some (.bool e1.asked) := f2
                  have g1 : W9.cell? ⟨V2.heap.size, 1, none⟩ = some (.int .i64 d.port) := g1
                  clear g2 he1
                  by_cases hpe : e1.port = d.port
                  · have ha1 := hna hpe
                    rw [ha1] at f2
                    rw [hpe] at f1
                    clear hna hpe ha1
                    go_wp2
                    go_quiet (fail)
                    go_wp2
                    go_roundw
                    case rel => exact ⟨k3 + 1, _, by go_num, rfl, rfl⟩
                    case measure => simp [intOf]; omega
                  · have tb1 : (e1.port == d.port) = false := by simpa using hpe
                    have tb2 : decide (e1.port = d.port) = false := decide_eq_false hpe
                    clear hna hpe
                    go_wp2
                    go_quiet (fail)
                    go_wp2
                    go_roundw
                    case rel => exact ⟨k3 + 1, _, by go_num, rfl, rfl⟩
                    case measure => simp [intOf]; omega
                · have hkz4 : ¬ (k3 : Int) < (l.length : Int) := by omega
                  clear g1 g2
                  go_wp2
                  go_loopw [26, 24] (fun i v wr => ∃ k : Nat, k ≤ s2.length ∧ k ≤ 60 ∧ i = .int .i64 (k : Int) ∧ v = .bool (sent77 b ((s2.take k).map Dz.b)) ∧ wr = W9.drewN q3') (fun i _ _ => s2.length - (intOf i).toNat)
                  case atStart => exact ⟨0, by omega, by omega, rfl, by simp [sent77], rfl⟩
                  case round =>
                    obtain ⟨k4, hk4, hk46, rfl, rfl, rfl⟩ := hrel
                    by_cases hgo4 : k4 < s2.length ∧ k4 < 60
                    · have hkz5 : (k4 : Int) < (s2.length : Int) := by omega
                      have hkz6 : (k4 : Int) < 60 := by omega
                      obtain ⟨d4, hz4⟩ : ∃ d, s2[k4]? = some d := ⟨_, List.getElem?_eq_getElem hgo4.1⟩
                      obtain ⟨bb, off, rfl, hbl, hat⟩ := HD.out (by omega)
                      have hda := hat k4 hgo4.1
                      rw [List.getD_eq_getElem?_getD, hz4] at hda
                      dsimp only [Option.getD] at hda
                      obtain ⟨⟨-, -, -, -, m4, -, -, -⟩, -⟩ := (hda.below (HK9.out q3').2.2.2).parts
                      have HT4 : Hid (sent77 b ((s2.take (k4 + 1)).map Dz.b) = (sent77 b ((s2.take k4).map Dz.b) || (d4.b.1 == 77))) := Lib.hid (by
                        rw [List.take_add_one, hz4, List.map_append]
                        exact sent77_snoc _ _ _)
                      clear hda hat hz4
                      generalize sent77 b ((s2.take k4).map Dz.b) = sb at *
                      cases sb with
                      | true =>
                        go_wp2
                        go_roundw
                        case rel => exact ⟨k4 + 1, by omega, by omega, by go_num, by rw [HT4.out]; rfl, trivial⟩
                        case measure => simp [intOf]; omega
                      | false =>
                        go_wp2
                        go_roundw
                        case rel => exact ⟨k4 + 1, by omega, by omega, by go_num, by rw [HT4.out]; rfl, trivial⟩
                        case measure => simp [intOf]; omega
                    · have HTK : Hid ((s2.take k4).map Dz.b = sn) := Lib.hid (by
                        rw [HSQ.out]
                        by_cases h6 : k4 = 60
                        · rw [h6]
                        · rw [List.take_of_length_le (by omega), List.take_of_length_le (by omega)])
                      rw [HTK.out]
                      obtain ⟨-, -, g4, g5⟩ := HK9.out q3'
                      have HE := Lib.hid g5
                      have g4 : W9.cell? ⟨w2.heap.size, 4, none⟩ = some (.int .i64 x.filter) := g4
                      have lt9 := World.block_lt_of_cell? W9 _ g4
                      dsimp only at lt9
                      have HFIN : Hid (sent77 b sn = false → R2 = if x.filter = 0 then 0 else 8) := Lib.hid (fun h => by
                        obtain ⟨h1, h2⟩ := sent77_no h
                        have h3 := lets77 (f := x.filter) HAS.out HBS.out (fun c hc => by
                          rcases HSN2.out c hc with h4 | h4
                          · exact h2 c h4
                          · rw [h4]; exact h1)
                        rw [HR4.out, ← HZ.out, h3]
                        simp)
                      clear g5
                      have hxx : (k4 : Int) < (s2.length : Int) ∧ ¬ (k4 : Int) < 60 ∨ ¬ (k4 : Int) < (s2.length : Int) := by omega
                      generalize sent77 b sn = sb at *
                      generalize x.filter = ff at *
                      rcases hxx with ⟨hk5, hk6⟩ | hk5
                      all_goals
                        go_upto_region 40 with (fail)
                        try clear hk6
                        clear hk5 hk4 hk46 hgo4
                        cases sb with
                        | true =>
                          go_wp2
                          go_ret
                          exact ⟨rfl, HE.out⟩
                        | false =>
                          have hr2 := HFIN.out rfl
                          by_cases hff : ff = 0
                          · rw [if_pos hff] at hr2
                            subst hff
                            subst hr2
                            go_wp2
                            go_ret
                            exact ⟨rfl, HE.out⟩
                          · rw [if_neg hff] at hr2
                            subst hr2
                            have tf1 : (ff == 0) = false := by simpa using hff
                            have tf2 : decide (ff = 0) = false := decide_eq_false hff
                            go_wp2
                            go_ret
                            exact ⟨rfl, HE.out⟩
      · have hkz : ¬ (k : Int) < (s2.length : Int) := by omega
        obtain ⟨⟨p0, p1, pl⟩, ⟨p2, p3, pl2⟩, px, pxl⟩ := HCELL.out _ _ _ _ HPR.out (by simp) (by simp) (by simp)
        have hn0 : 0 ≤ now := by rcases HST.out.1 with h | h <;> omega
        have HG2 : Hid (goes now 2 = true) := Lib.hid (by rcases HST.out.1 with rfl | rfl <;> decide)
        have HOM := Lib.hid (HST.out.2.ok.okM (by rw [HMOST.out]; decide))
        have HCO := Lib.hid (out_pl HPR.out HOK.out HOM.out 2 a b HA.out HB.out hn0)
        have HOKO := Lib.hid (HST.out.2.ok.out (now := now) (t := 2) (a := a) (b := b) HOK.out.lh)
        have HBO := bk_out (b := b) HST.out.2 HOK.out.lh HG2.out (by rw [HLIFE.out]; decide)
        clear hn0
        rcases HBO with (e1 | e1) | ⟨hmb, M', d, e1, hd, hda, has, hu, hbs, hsn⟩
        · rw [e1] at HCO
          unfold ansA adr at HCO
          dsimp only at HCO
          clear e1
          go_wp2_with fail
          refine HCO.out.mono ?_
          rintro e V2 ⟨rfl, hp2⟩
          have HE := Lib.hid (hp2.box (k := V2.heap.size) #[.int .u32 0, .int .i64 0] 38 rfl).low
          clear hp2 p0 p1 p2 p3 px
          go_wp2
          go_ret
          exact ⟨rfl, HE.out⟩
        · rw [e1] at HCO
          unfold ansA adr at HCO
          dsimp only at HCO
          clear e1
          go_wp2_with fail
          refine HCO.out.mono ?_
          rintro e V2 ⟨rfl, hp2⟩
          have HE := Lib.hid (hp2.box (k := V2.heap.size) #[.int .u32 0, .int .i64 0] 38 rfl).low
          clear hp2 p0 p1 p2 p3 px
          go_wp2
          go_ret
          exact ⟨rfl, HE.out⟩
        · rw [e1] at HCO HOKO
          unfold ansA adr at HCO
          dsimp only at HCO HOKO
          have HD2 := Lib.hid hd; have HDA := Lib.hid hda; have HAS := Lib.hid has; have HBS := Lib.hid hbs; have HSN2 := Lib.hid hsn; have HMB := Lib.hid hmb
          have HU : Hid (d.until_ = 32) := Lib.hid (by rw [hu, HLIFE.out]; rfl)
          have hrg := HOKO.out.rng d hd
          have hlo : ¬ d.port < x.lo := by omega
          have hhi : ¬ x.hi < d.port := by omega
          clear e1 hmb hd hda has hu hbs hsn hrg
          have HO3 := Lib.hid (HOKO.out.live 3)
          have HD3 : Hid (d ∈ liveM M' 3) := Lib.hid (List.mem_filter.2 ⟨HD2.out, by rw [HU.out]; decide⟩)
          have HC3 := Lib.hid (fun os W (hp : Pl w g x 2 M' os W) => in_pl hp (HOKO.out.okM (by rw [HMOST.out]; decide)) 3 d.port b HB.out)
          have HB3 : Hid (inS x 2 M' 3 d.port b = (a, 0, 3, liveM M' 3)) := Lib.hid (by rw [bk_in HOKO.out HD2.out (by decide) HMB.out (by rw [HU.out]; decide), if_pos (lets_seen HBS.out), HDA.out])
          rw [HB3.out] at HC3
          generalize liveM M' 3 = M3 at *
          have HO31 := Lib.hid (HO3.out.live 31)
          have HD31 : Hid (d ∈ liveM M3 31) := Lib.hid (List.mem_filter.2 ⟨HD3.out, by rw [HU.out]; decide⟩)
          have HC4 := Lib.hid (fun os W (hp : Pl w g x 3 M3 os W) => in_pl hp (HO3.out.okM (by rw [HMOST.out]; decide)) 31 d.port b HB.out)
          have HB4 : Hid (inS x 3 M3 31 d.port b = (a, 0, 31, liveM M3 31)) := Lib.hid (by rw [bk_in HO3.out HD3.out (by decide) HMB.out (by rw [HU.out]; decide), if_pos (lets_seen HBS.out), HDA.out])
          rw [HB4.out] at HC4
          generalize liveM M3 31 = M4 at *
          have HO5 := Lib.hid (HO31.out.live 31)
          have HD5 : Hid (d ∈ liveM M4 31) := Lib.hid (List.mem_filter.2 ⟨HD31.out, by rw [HU.out]; decide⟩)
          have HC5 := Lib.hid (fun os W (hp : Pl w g x 31 M4 os W) => all_pl hp (HO31.out.okM (by rw [HMOST.out]; decide)) 31 (by decide))
          generalize liveM M4 31 = M5 at *
          have h77 : isA (77, 1) := ⟨⟨by decide, by decide⟩, by decide, by decide⟩
          have HC6 := Lib.hid (fun os W (hp : Pl w g x 31 M5 os W) => in_pl hp (HO5.out.okM (by rw [HMOST.out]; decide)) 31 d.port (77, 1) h77)
          rw [bk_in HO5.out HD5.out (by decide) (by decide) (by rw [HU.out]; decide)] at HC6
          unfold ansA adr at HC3 HC4 HC6
          dsimp only at HC3 HC4
          clear HB3 HB4 h77
          go_wp2_with fail
          refine HCO.out.mono ?_
          rintro e V2 ⟨rfl, hp2⟩
          clear p0 p1 p2 p3 px
          have hp3 := hp2.box (k := V2.heap.size) #[.int .u32 x.host, .int .i64 d.port] 38 rfl
          have HC7 := Lib.hid (HC3.out _ _ hp3)
          obtain ⟨⟨q0, q1, ql⟩, ⟨q2, q3, ql2⟩, qx, qxl⟩ := HCELL.out _ _ _ _ hp2 (by simp) (by simp) (by simp)
          clear hp2 hp3 HCO HC3
          go_wp2_with fail
          refine HC7.out.mono ?_
          rintro e V3 ⟨rfl, hp3⟩
          have hp4 := hp3.box (k := V3.heap.size) #[.int .u32 a.1, .int .i64 a.2] 38 rfl
          have HC8 := Lib.hid (HC4.out _ _ hp4)
          clear q0 q1 q2 q3 qx HC7 HC4
          obtain ⟨⟨q0, q1, -⟩, ⟨q2, q3, -⟩, qx, -⟩ := HCELL.out _ _ _ _ hp3 (by simp) (by simp) (by simp)
          obtain ⟨t0, t1⟩ := hp3.c2 (k := V2.heap.size) (u := .int .u32 x.host) (v := .int .i64 d.port) (by simp)
          have l3 := World.block_lt_of_cell? V3 _ t0
          have l4 := World.block_lt_of_cell? V3 _ q2
          dsimp only at l3 l4
          clear hp3 hp4
          go_wp2_with fail
          refine HC8.out.mono ?_
          rintro e V4 ⟨rfl, hp4⟩
          have hp5 := hp4.box (k := V4.heap.size) #[.int .u32 a.1, .int .i64 a.2] 38 rfl
          have HC9 := Lib.hid (HC5.out _ _ hp5)
          clear q0 q1 q2 q3 qx HC8 HC5 t0 t1 l3 l4
          obtain ⟨⟨q0, q1, q0l⟩, ⟨q2, q3, q2l⟩, qx, qxl'⟩ := HCELL.out _ _ _ _ hp4 (by simp) (by simp) (by simp)
          obtain ⟨t0, t1⟩ := hp4.c2 (k := V2.heap.size) (u := .int .u32 x.host) (v := .int .i64 d.port) (by simp)
          obtain ⟨t2, t3⟩ := hp4.c2 (k := V3.heap.size) (u := .int .u32 a.1) (v := .int .i64 a.2) (by simp)
          have l3 := World.block_lt_of_cell? V4 _ t0
          have l5 := World.block_lt_of_cell? V4 _ t2
          dsimp only at l3 l5
          have qx0 : V4.cell? ⟨w2.heap.size, 0, none⟩ = some (.int .u32 x.host) := qx 0
          have qx1 : V4.cell? ⟨w2.heap.size, 1, none⟩ = some (.int .i64 x.lo) := qx 1
          have qx2 : V4.cell? ⟨w2.heap.size, 2, none⟩ = some (.int .i64 x.hi) := qx 2
          have hq := fun W => neq_adr a a W
          rw [decide_eq_true rfl, Bool.not_true] at hq
          clear hp4 hp5 qx
          go_wp2_with fail
          refine HC9.out.mono ?_
          rintro e V5 ⟨⟨v, l, rfl, hpm, hrise, hbs⟩, hp6⟩
          have HRI := Lib.hid (fun i j b c => all_rise HO5.out hpm hrise i j b c)
          have HNA : Hid (∀ e ∈ l, e.port = d.port → e.asked = false) := Lib.hid (fun e he h => by rw [all_one HO5.out hpm HD5.out he h]; exact HAS.out)
          have HIB := Lib.hid hbs
          obtain ⟨OB, hp6', hibw⟩ := hold_bs hp6 hbs
          have HP6 := Lib.hid hp6'
          have HIBW := Lib.hid hibw
          clear hp6' hibw
          obtain ⟨A5, c5, rfl, hlc, hcm5, -⟩ := hbs
          unfold maxLen at hcm5
          clear hpm hrise hp6 HC9 q0 q1 q2 q3 t0 t1 t2 t3 qx0 qx1 qx2 l3 l5 hq q0l q2l qxl'
          go_wp2
          go_loopw [20] (fun i wr => ∃ (k q : Nat), 1 ≤ k ∧ i = .int .i64 (k : Int) ∧ wr = V5.drewN q) (fun i _ => (l.length + 1) - (intOf i).toNat)
          case atStart => exact ⟨1, 0, by omega, rfl, rfl⟩
          case round =>
            obtain ⟨k2, q, hk1', rfl, rfl⟩ := hrel
            by_cases hkl : k2 < l.length
            · obtain ⟨m, hm⟩ : ∃ m, k2 = m + 1 := ⟨k2 - 1, by omega⟩
              obtain ⟨e1, he1⟩ : ∃ e, l[m]? = some e := ⟨_, List.getElem?_eq_getElem (by omega)⟩
              obtain ⟨e2, he2⟩ : ∃ e, l[k2]? = some e := ⟨_, List.getElem?_eq_getElem hkl⟩
              have hlt := HRI.out m k2 e1 e2 (by omega) he1 he2
              obtain ⟨bb, hbb, f1, -⟩ := bs_at HIB.out he1
              obtain ⟨bb', hbb', f2, -⟩ := bs_at HIB.out he2
              rw [hbb] at hbb'
              cases hbb'
              subst hbb
              have u1 : (k2 : Int) - 1 = (m : Int) := by omega
              have u2 : IntKind.i64.wrap (m : Int) = (m : Int) := by rw [IntKind.wrap_i64]; omega
              have u3 : m < l.length := by omega
              have hkz3 : (k2 : Int) < (l.length : Int) := by omega
              have t1 : decide (e2.port ≤ e1.port) = false := by simp; omega
              clear he1 he2 hlt hm
              go_wp2
              go_quiet (fail)
              go_wp2
              go_roundw
              case rel => exact ⟨k2 + 1, _, by omega, by go_num, rfl⟩
              case measure => simp [intOf]; omega
            · have hkz3 : ¬ (k2 : Int) < (l.length : Int) := by omega
              have HP7 := Lib.hid (HP6.out.drewN q)
              have HC10 := Lib.hid (HC6.out _ _ HP7.out)
              obtain ⟨t0, t1⟩ := HP7.out.c2 (k := V2.heap.size) (u := .int .u32 x.host) (v := .int .i64 d.port) (by simp)
              have l3 := World.block_lt_of_cell? (V5.drewN q) _ t0
              dsimp only at l3
              obtain ⟨z, hz⟩ : ∃ z, letsB d (77, 1) x.filter = z := ⟨_, rfl⟩
              have HZ := Lib.hid hz
              rw [hz] at HC10
              obtain ⟨R1, R2, R3, hR, hR4⟩ : ∃ R1 R2 R3, (if z = true then (d.inn, (0 : Int), (31 : Int), liveM M5 31) else ((0, 0), 8, 31, liveM M5 31)) = (R1, R2, R3, liveM M5 31) ∧ R2 = if z = true then 0 else 8 := by
                cases z
                · exact ⟨_, _, _, rfl, rfl⟩
                · exact ⟨_, _, _, rfl, rfl⟩
              rw [hR] at HC10
              have HR4 := Lib.hid hR4
              dsimp only at HC10
              clear hz hR hR4 HC6
              go_wp2_with fail
              refine HC10.out.mono ?_
              rintro e V6 ⟨rfl, hp8⟩
              have hp9 := hp8.box (k := V6.heap.size) #[.int .u32 R1.1, .int .i64 R1.2] 38 rfl
              obtain ⟨⟨-, -, -⟩, ⟨q2, q3, q2l⟩, -, -⟩ := HCELL.out _ _ _ _ hp8 (by simp) (by simp) (by simp)
              have HP9 := Lib.hid hp9
              have HK9 : Hid (∀ qq : Nat, ((V6.alloc (.cells #[.int .u32 R1.1, .int .i64 R1.2] 38)).drewN qq).cell? ⟨V2.heap.size, 1, none⟩ = some (.int .i64 d.port) ∧ IsBs ((V6.alloc (.cells #[.int .u32 R1.1, .int .i64 R1.2] 38)).drewN qq) (.slice A5 l.length c5) l ∧ ((V6.alloc (.cells #[.int .u32 R1.1, .int .i64 R1.2] 38)).drewN qq).cell? ⟨w2.heap.size, 4, none⟩ = some (.int .i64 x.filter) ∧ Below w.heap.size w ((V6.alloc (.cells #[.int .u32 R1.1, .int .i64 R1.2] 38)).drewN qq)) := Lib.hid (fun qq => by
                have h9 := HP9.out.drewN qq
                refine ⟨(h9.c2 (k := V2.heap.size) (u := .int .u32 x.host) (v := .int .i64 d.port) (by simp)).2, HIBW.out _ _ _ (h9.sub (fun p hp => List.mem_cons_of_mem _ hp)), ?_, h9.low⟩
                obtain ⟨-, -, qx, -⟩ := HCELL.out _ _ _ _ h9 (by simp) (by simp) (by simp)
                exact qx 4)
              clear hp8 hp9 HC10 t0 t1 l3
              go_wp2
              generalize (V6.alloc (.cells #[.int .u32 R1.1, .int .i64 R1.2] 38)) = W9 at *
              go_loopw [25, 23] (fun i v wr => ∃ (k q : Nat), i = .int .i64 (k : Int) ∧ v = .bool false ∧ wr = W9.drewN q) (fun i _ _ => l.length - (intOf i).toNat)
              case atStart => exact ⟨0, 0, rfl, rfl, rfl⟩
              case round =>
                obtain ⟨k3, q3', rfl, rfl, rfl⟩ := hrel
                obtain ⟨g1, g2, -, -⟩ := HK9.out q3'
                by_cases hkl3 : k3 < l.length
                · have hkz4 : (k3 : Int) < (l.length : Int) := by omega
                  obtain ⟨e1, he1⟩ : ∃ e, l[k3]? = some e := ⟨_, List.getElem?_eq_getElem hkl3⟩
                  obtain ⟨bb, hbb, f1, f2⟩ := bs_at g2 he1
                  have hna := HNA.out e1 (List.mem_of_getElem? he1)
                  subst hbb
                  have f1 : W9.cell? ⟨bb, k3 * 7 + 4, none⟩ = some (.int .i64 e1.port) := f1
                  have f2 : W9.cell? ⟨bb, k3 * 7 + 6, none⟩ = some (.bool e1.asked) := f2
                  have g1 : W9.cell? ⟨V2.heap.size, 1, none⟩ = some (.int .i64 d.port) := g1
                  clear g2 he1
                  by_cases hpe : e1.port = d.port
                  · have ha1 := hna hpe
                    rw [ha1] at f2
                    rw [hpe] at f1
                    clear hna hpe ha1
                    go_wp2
                    go_quiet (fail)
                    go_wp2
                    go_roundw
                    case rel => exact ⟨k3 + 1, _, by go_num, rfl, rfl⟩
                    case measure => simp [intOf]; omega
                  · have tb1 : (e1.port == d.port) = false := by simpa using hpe
                    have tb2 : decide (e1.port = d.port) = false := decide_eq_false hpe
                    clear hna hpe
                    go_wp2
                    go_quiet (fail)
                    go_wp2
                    go_roundw
                    case rel => exact ⟨k3 + 1, _, by go_num, rfl, rfl⟩
                    case measure => simp [intOf]; omega
                · have hkz4 : ¬ (k3 : Int) < (l.length : Int) := by omega
                  clear g1 g2
                  go_wp2
                  go_loopw [26, 24] (fun i v wr => ∃ k : Nat, k ≤ s2.length ∧ k ≤ 60 ∧ i = .int .i64 (k : Int) ∧ v = .bool (sent77 b ((s2.take k).map Dz.b)) ∧ wr = W9.drewN q3') (fun i _ _ => s2.length - (intOf i).toNat)
                  case atStart => exact ⟨0, by omega, by omega, rfl, by simp [sent77], rfl⟩
                  case round =>
                    obtain ⟨k4, hk4, hk46, rfl, rfl, rfl⟩ := hrel
                    by_cases hgo4 : k4 < s2.length ∧ k4 < 60
                    · have hkz5 : (k4 : Int) < (s2.length : Int) := by omega
                      have hkz6 : (k4 : Int) < 60 := by omega
                      obtain ⟨d4, hz4⟩ : ∃ d, s2[k4]? = some d := ⟨_, List.getElem?_eq_getElem hgo4.1⟩
                      obtain ⟨bb, off, rfl, hbl, hat⟩ := HD.out (by omega)
                      have hda := hat k4 hgo4.1
                      rw [List.getD_eq_getElem?_getD, hz4] at hda
                      dsimp only [Option.getD] at hda
                      obtain ⟨⟨-, -, -, -, m4, -, -, -⟩, -⟩ := (hda.below (HK9.out q3').2.2.2).parts
                      have HT4 : Hid (sent77 b ((s2.take (k4 + 1)).map Dz.b) = (sent77 b ((s2.take k4).map Dz.b) || (d4.b.1 == 77))) := Lib.hid (by
                        rw [List.take_add_one, hz4, List.map_append]
                        exact sent77_snoc _ _ _)
                      clear hda hat hz4
                      generalize sent77 b ((s2.take k4).map Dz.b) = sb at *
                      cases sb with
                      | true =>
                        go_wp2
                        go_roundw
                        case rel => exact ⟨k4 + 1, by omega, by omega, by go_num, by rw [HT4.out]; rfl, trivial⟩
                        case measure => simp [intOf]; omega
                      | false =>
                        go_wp2
                        go_roundw
                        case rel => exact ⟨k4 + 1, by omega, by omega, by go_num, by rw [HT4.out]; rfl, trivial⟩
                        case measure => simp [intOf]; omega
                    · have HTK : Hid ((s2.take k4).map Dz.b = sn) := Lib.hid (by
                        rw [HSQ.out]
                        by_cases h6 : k4 = 60
                        · rw [h6]
                        · rw [List.take_of_length_le (by omega), List.take_of_length_le (by omega)])
                      rw [HTK.out]
                      obtain ⟨-, -, g4, g5⟩ := HK9.out q3'
                      have HE := Lib.hid g5
                      have g4 : W9.cell? ⟨w2.heap.size, 4, none⟩ = some (.int .i64 x.filter) := g4
                      have lt9 := World.block_lt_of_cell? W9 _ g4
                      dsimp only at lt9
                      have HFIN : Hid (sent77 b sn = false → R2 = if x.filter = 0 then 0 else 8) := Lib.hid (fun h => by
                        obtain ⟨h1, h2⟩ := sent77_no h
                        have h3 := lets77 (f := x.filter) HAS.out HBS.out (fun c hc => by
                          rcases HSN2.out c hc with h4 | h4
                          · exact h2 c h4
                          · rw [h4]; exact h1)
                        rw [HR4.out, ← HZ.out, h3]
                        simp)
                      clear g5
                      have hxx : (k4 : Int) < (s2.length : Int) ∧ ¬ (k4 : Int) < 60 ∨ ¬ (k4 : Int) < (s2.length : Int) := by omega
                      generalize sent77 b sn = sb at *
                      generalize x.filter = ff at *
                      rcases hxx with ⟨hk5, hk6⟩ | hk5
                      all_goals
                        go_upto_region 40 with (fail)
                        try clear hk6
                        clear hk5 hk4 hk46 hgo4
                        cases sb with
                        | true =>
                          go_wp2
                          go_ret
                          exact ⟨rfl, HE.out⟩
                        | false =>
                          have hr2 := HFIN.out rfl
                          by_cases hff : ff = 0
                          · rw [if_pos hff] at hr2
                            subst hff
                            subst hr2
                            go_wp2
                            go_ret
                            exact ⟨rfl, HE.out⟩
                          · rw [if_neg hff] at hr2
                            subst hr2
                            have tf1 : (ff == 0) = false := by simpa using hff
                            have tf2 : decide (ff = 0) = false := decide_eq_false hff
                            go_wp2
                            go_ret
                            exact ⟨rfl, HE.out⟩

/-! ### THE ROW's STEP: WRITTEN OUT: LEAVE IT -/
set_option maxRecDepth 100000 in
theorem lifted (os : Os) (started : os.Started) (H : Type) (enc : TypeId × Value → H) :
    ReturnsInHanded {} Try.checked os 4 .any (Rows.natBackSpec.pre6 enc Try.prog Try.f4 Rows.natBackRow.domain false) (Rows.natBackSpec.post enc Try.prog Try.f4 false true false false) := by
  refine returnsInHanded_of_change (C := Try.checked) own started (by kernel_rfl) Try.func4
    (ChangeSpec.witness6 (enc := enc) (C := Try.checked) false ⟨#[], #[.int .u8 0, .agg #[.int .u32 0, .int .i64 0, .int .u32 0, .int .i64 0], .slice none 0 0], []⟩ 8 (by kernel_rfl) (by kernel_rfl) (by kernel_rfl) (by kernel_rfl)) ?_
  intro W base args ds gs before hval0 hW hcnd _
  have hval : ∀ (j : Nat) t v, Try.f4.params[j]? = some t → args[j]? = some v → Value.okWide Try.prog W .any base t v := hval0
  have hW' := hW
  obtain ⟨p, q, hA0, hV, rfl, hfz, hnd⟩ := hW
  have hA : DataW.TrodAll enc Try.prog W 0 (fun _ => true) true Try.f4.params.toList args.toList ds p := hA0
  rw [Try.params4] at hA hval
  obtain ⟨v0, vs0, d0, ds0, p0, q0, hargs, rfl, rfl, h0, r0⟩ := trodAll_cons hA
  obtain ⟨v1, vs1, d1, ds1, p1, q1, rfl, rfl, rfl, h1, r1⟩ := trodAll_cons r0
  obtain ⟨v2, vs2, d2, ds2, p2, q2, rfl, rfl, rfl, h2, r2⟩ := trodAll_cons r1
  obtain ⟨rfl, rfl, rfl⟩ := trodAll_nil r2
  obtain rfl : args = #[v0, v1, v2] := by cases args; simp_all
  obtain ⟨rfl, rfl⟩ := trodVars_none hV
  obtain ⟨a0, rfl, rfl, rfl, w0⟩ := open_int Try.underlying5 (hval 0 5 v0 rfl rfl) h0
  have k1 := h1
  have lt1 : ∀ x ∈ p1, x.block < W.heap.size := by obtain ⟨m, hm⟩ := k1; exact DataW.trod_lt m _ _ _ hm
  obtain ⟨s1, w1⟩ := open_end (hval 1 51 v1 rfl rfl) h1
  have k2 := h2
  have lt2 : ∀ x ∈ p2, x.block < W.heap.size := by obtain ⟨m, hm⟩ := k2; exact DataW.trod_lt m _ _ _ hm
  obtain ⟨s2, w2⟩ := open_dzs (hval 2 25 v2 rfl rfl) h2
  clear hA0 hval0
  refine (walk a0 v1 s1 v2 s2 W w0 w1 w2).mono fun e W' ⟨he, bel⟩ => ?_
  subst he
  exact ⟨_, rfl, _, _, _, [], _, [], hW', trodAll_mk1 (shut_bool Try.underlying4 _), (trodAll_cons_mk (shut_int Try.underlying5 w0) (trodAll_cons_mk (Below.trod laidOut (by kernel_rfl) (of_decide_eq_true (by kernel_rfl)) k1 bel lt1) (trodAll_cons_mk (Below.trod laidOut (by kernel_rfl) (of_decide_eq_true (by kernel_rfl)) k2 bel lt2) trodAll_mk0))), rfl, bel.frame _, fun h => by cases h⟩

theorem over : Rows.natBackRow.holds Try.pinned (OpenSpec.ofChange Rows.natBackSpec) :=
  OpenClaim.holds_of_wide 4 Try.f4 rfl rfl rfl rfl rfl rfl rfl ⟨rfl, rfl, rfl, rfl, rfl⟩ rfl rfl rfl rfl rfl (by kernel_rfl) Try.func4 (by kernel_rfl)
    (of_decide_eq_true (by kernel_rfl)) (by unfold Func.isWrapper; first | (rw [if_pos (by decide +kernel)]; kernel_rfl) | (rw [if_neg (by decide +kernel)]; exact ⟨rfl, rfl⟩))
    (fun os started H enc _ => lifted os started H enc)

/-- ████ THE STATEMENT ████ -/
theorem proved : Rows.NatBackSaid := over
#print axioms proved
end Go.Proofs.Ytcfbnepcinlheaa.natBack
