/-
  A law of the box: a binding lasts as long as the box says behind the last thing that went out by it, whatever comes in; sent again in time the port is the same. Conditions: none.
-/
import Derived.Test.YtcfbnepcinlheaaLas
import Derived.Test.YtcfbnepcinlheaaRows
import Derived.WalkKit
import Derived.ProofKit
import Derived.OpenShut
import Derived.ShutString
import Derived.ChangeOld
import Derived.Below
namespace Go.Proofs.Ytcfbnepcinlheaa.natLasts
open Go.ChangeShapes Go.WideShapes Go.ChangeAt Go.RowKit
open Go.ChangeMaps (open_string shut_string)
set_option linter.unusedVariables false

theorem own : ownKnob Try.prog.godebug = none := by kernel_rfl
theorem laidOut : laidOutB Try.prog = true := by kernel_rfl

set_option maxRecDepth 100000 in
set_option maxHeartbeats 8000000 in
theorem walk (a0 : Int) (v1 : Value) (s1 : List Int) (v2 : Value) (s2 : (A2 × A2)) (w : World) (w0 : (Lit.int .u8 a0).wf = true) (w1 : IsBys w v1 s1) (w2 : IsEnd w v2 s2) :
    Calls Try.prog 8 #[.int .u8 a0, v1, v2] w fun e w' => e = .returned (.bool true) ∧ Below w.heap.size w w' := by
  obtain ⟨q0, q1⟩ := bounds_u8 w0
  obtain ⟨n, rfl⟩ := Int.eq_ofNat_of_zero_le q0
  obtain ⟨a, b⟩ := s2
  obtain ⟨rfl, ha, hb⟩ := w2
  dsimp only at ha hb ⊢
  obtain ⟨A, cap, rfl, hnc, hcm, hbys, hbz⟩ := w1
  unfold maxLen at hcm
  have HBYS := Lib.hid hbys; have HBZ := Lib.hid hbz; have HA := Lib.hid ha; have HB := Lib.hid hb
  have hg38 := noGuard38
  obtain ⟨x, hx⟩ : ∃ x, x = bxC n := ⟨_, rfl⟩
  have HX := Lib.hid hx
  have HOK : Hid (OkB x) := Lib.hid (by rw [hx]; exact bxC_ok n)
  have HMOST : Hid (1 ≤ x.most) := Lib.hid (by rw [hx]; unfold bxC; simp)
  have HLIFE : Hid (x.life = 30) := Lib.hid (by rw [hx]; rfl)
  have H25 := Lib.hid (fun W => box25 n (by omega) W)
  have HNEW : Hid (∀ (os : List (Nat × Obj)) V, Hs w os V → Calls Try.prog 10 #[.agg (boxCells x)] V fun e V' => ∃ g, e = .returned (.tuple #[.pointer (some ⟨g, 0, none⟩), .int .i64 0]) ∧ Pl w g x 0 [] os V') := Lib.hid (fun os V h => new_hs x (by rw [hx]; exact bxC_is n) (by rw [hx]; exact bxC_2 n) h)
  rw [← hx] at H25
  clear w0 hbys hbz ha hb hx q0 q1
  have hs0 := (Hs.nil w).box #[.int .u32 a.1, .int .i64 a.2, .int .u32 b.1, .int .i64 b.2] 51 rfl
  go_enter Try.func8, Try.ntmps8
  go_wp2_with fail
  refine (awake_any _).mono ?_
  rintro e w1 ⟨rfl, hb1⟩
  have hs1 := hs0.below hb1
  have hc := cells_of (hs1.held (w.heap.size, .cells #[.int .u32 a.1, .int .i64 a.2, .int .u32 b.1, .int .i64 b.2] 51 (0, 0)) (by simp))
  have c0 : w1.cell? ⟨w.heap.size, 0, none⟩ = some (.int .u32 a.1) := (hc 0).1
  have c1 : w1.cell? ⟨w.heap.size, 1, none⟩ = some (.int .i64 a.2) := (hc 1).1
  have c2 : w1.cell? ⟨w.heap.size, 2, none⟩ = some (.int .u32 b.1) := (hc 2).1
  have c3 : w1.cell? ⟨w.heap.size, 3, none⟩ = some (.int .i64 b.2) := (hc 3).1
  have l1 := World.block_lt_of_cell? w1 _ c0
  dsimp only at l1
  have hs2 := ((hs1.sub_nil).box #[.int .u32 a.1, .int .i64 a.2] 38 rfl).box (k := w1.heap.size + 1) #[.int .u32 b.1, .int .i64 b.2] 38 (by simp)
  clear hs0 hs1 hb1 hc
  go_wp2_with fail
  refine (H25.out _).mono ?_
  rintro e w2 ⟨rfl, hb2⟩
  have hs3 := (hs2.below hb2).box (boxCells x) 24 rfl
  clear hs2 hb2 c0 c1 c2 c3
  have hN := HNEW.out _ _ hs3
  clear hs3
  unfold boxCells at hN ⊢
  go_wp2_with fail
  refine hN.mono ?_
  rintro e V ⟨g, rfl, hp⟩
  have HP := Lib.hid hp
  clear hN hp
  by_cases hlen : s1.length ≤ 40
  · have hlz : ¬ (40 : Int) < (s1.length : Int) := by omega
    obtain ⟨p0, p1⟩ := HP.out.c2 (k := w1.heap.size) (u := .int .u32 a.1) (v := .int .i64 a.2) (by simp)
    obtain ⟨p2, p3⟩ := HP.out.c2 (k := w1.heap.size + 1) (u := .int .u32 b.1) (v := .int .i64 b.2) (by simp)
    have hg0 : goes 0 0 = true := by decide
    have HC := Lib.hid (out_pl HP.out HOK.out ok_nil 0 a b HA.out HB.out (by decide))
    by_cases hm : mayA a = true ∧ mayA b = true
    · have HM := Lib.hid hm
      rw [las_new HOK.out HMOST.out hg0 hm.1 hm.2 (by rw [HLIFE.out]; decide)] at HC
      unfold ansA adr at HC
      dsimp only at HC
      clear hm hg0
      go_wp2_with fail
      refine HC.out.mono ?_
      rintro e V2 ⟨rfl, hp2⟩
      have hp3 := hp2.box #[.int .u32 x.host, .int .i64 (wish0 x a.2)] 38 rfl
      have HP3 := Lib.hid hp3
      clear hp2 hp3 p0 p1 p2 p3
      obtain ⟨P, hP⟩ : ∃ P, P = wish0 x a.2 := ⟨_, rfl⟩
      rw [← hP] at HP3 ⊢
      have HPP := Lib.hid hP
      clear hP HC HP
      go_wp2
      go_loopw [12, 15, 16] (fun nw la i wr => ∃ k N Lt : Nat, nw = .int .i64 (N : Int) ∧ la = .int .i64 (Lt : Int) ∧ i = .int .i64 (k : Int) ∧ Lt ≤ N ∧ N ≤ k * 39 ∧ k ≤ s1.length ∧ Hid (Pl w g x (N : Int) [bL x a b ((Lt : Int) + x.life)] [(V2.heap.size, Obj.cells #[.int .u32 x.host, .int .i64 P] 38 (0, 0)), (w2.heap.size, .cells (boxCells x) 24 (0, 0)), (w1.heap.size + 1, .cells #[.int .u32 b.1, .int .i64 b.2] 38 (0, 0)), (w1.heap.size, .cells #[.int .u32 a.1, .int .i64 a.2] 38 (0, 0))] wr)) (fun _ _ i _ => s1.length - (intOf i).toNat)
      case atStart => exact ⟨0, 0, 0, rfl, rfl, rfl, Nat.le_refl _, Nat.zero_le _, Nat.zero_le _, HP3⟩
      case round =>
        obtain ⟨k, N, Lt, rfl, rfl, rfl, hLN, hN, hk, HPR⟩ := hrel
        by_cases hkl : k < s1.length
        · have hkz : (k : Int) < (s1.length : Int) := by omega
          obtain ⟨z, hz⟩ : ∃ z, s1[k]? = some z := ⟨_, List.getElem?_eq_getElem hkl⟩
          have hzb := HBZ.out z (List.mem_of_getElem? hz)
          obtain ⟨zn, rfl⟩ := Int.eq_ofNat_of_zero_le hzb.1
          have hzn : zn ≤ 255 := by omega
          obtain ⟨bb, off, rfl, hbl, hbc⟩ := HBYS.out (by omega)
          have d0 := (HPR.out.low.cell (p := ⟨bb, off + k, none⟩) hbl).trans (hbc k _ hz)
          obtain ⟨r, hr⟩ : ∃ r : Nat, r = zn % 40 := ⟨_, rfl⟩
          have hr1 : (zn : Int) % 40 = (r : Int) := by omega
          have hr2 : Int.tmod (zn : Int) 40 = (r : Int) := by rw [Int.tmod_eq_emod_of_nonneg (by omega)]; exact hr1
          have hr3 : r ≤ 39 := by omega
          obtain ⟨T, hT⟩ : ∃ T : Nat, T = N + r := ⟨_, rfl⟩
          have HTZ : Hid ((N : Int) + (r : Int) = (T : Int)) := Lib.hid (by omega)
          clear hr
          have hTb : T ≤ (k + 1) * 39 := by omega
          have hNT : N ≤ T := by omega
          have hgo := goes_nat (N := N) (T := T) hNT (by omega)
          have hgo2 := goes_nat (N := T) (T := T) (Nat.le_refl _) (by omega)
          have HCI := Lib.hid (in_pl HPR.out ok_bL (T : Int) P b HB.out)
          obtain ⟨cc0, cc1⟩ := HPR.out.c2 (k := w1.heap.size) (u := .int .u32 a.1) (v := .int .i64 a.2) (by simp)
          obtain ⟨cc2, cc3⟩ := HPR.out.c2 (k := w1.heap.size + 1) (u := .int .u32 b.1) (v := .int .i64 b.2) (by simp)
          obtain ⟨cc4, cc5⟩ := HPR.out.c2 (k := V2.heap.size) (u := .int .u32 x.host) (v := .int .i64 P) (by simp)
          have cc6 : wr.cell? ⟨w2.heap.size, 5, none⟩ = some (.int .i64 30) := by
            have := (cells_of (HPR.out.held (w2.heap.size, .cells (boxCells x) 24 (0, 0)) (by simp)) 5).1
            rw [← HLIFE.out]; exact this
          have cc7 := World.block_lt_of_cell? wr _ cc0
          have cc8 := World.block_lt_of_cell? wr _ cc2
          have cc9 := World.block_lt_of_cell? wr _ cc4
          have cca := World.block_lt_of_cell? wr _ cc6
          dsimp only at cc7 cc8 cc9 cca
          clear hz hbc hzb hT
          by_cases hal : T < Lt + 30
          · have hali0 : (T : Int) < (Lt : Int) + 30 := by omega
            have hali : (T : Int) < (Lt : Int) + x.life := by rw [HLIFE.out]; exact hali0
            rw [HPP.out, las_in hgo HM.out.2 hali] at HCI
            unfold ansA adr at HCI
            dsimp only at HCI
            rw [← HPP.out] at HCI
            have HALI := Lib.hid hali; clear hali
            go_wp2_with fail
            rw [HTZ.out]
            refine HCI.out.mono ?_
            rintro e V4 ⟨rfl, hp4⟩
            have hp5 := hp4.alloc (.cells #[.int .u32 a.1, .int .i64 a.2] 38)
            have HP5 := Lib.hid hp5
            obtain ⟨r0, r1⟩ := hp4.c2 (k := w1.heap.size) (u := .int .u32 a.1) (v := .int .i64 a.2) (by simp)
            obtain ⟨r2, r3⟩ := hp4.c2 (k := w1.heap.size + 1) (u := .int .u32 b.1) (v := .int .i64 b.2) (by simp)
            obtain ⟨r4, r5⟩ := hp4.c2 (k := V2.heap.size) (u := .int .u32 x.host) (v := .int .i64 P) (by simp)
            have r6 : V4.cell? ⟨w2.heap.size, 5, none⟩ = some (.int .i64 30) := by
              have := (cells_of (hp4.held (w2.heap.size, .cells (boxCells x) 24 (0, 0)) (by simp)) 5).1
              rw [← HLIFE.out]; exact this
            have r7 := World.block_lt_of_cell? V4 _ r0
            have r8 := World.block_lt_of_cell? V4 _ r2
            have r9 := World.block_lt_of_cell? V4 _ r4
            have ra := World.block_lt_of_cell? V4 _ r6
            dsimp only at r7 r8 r9 ra
            clear hp4 hp5 HCI cc0 cc1 cc2 cc3 cc4 cc5 cc6 cc7 cc8 cc9 cca d0
            by_cases hodd : k % 2 = 1
            · have hoddz : (k : Int) % 2 = 1 := by omega
              have HC2 := Lib.hid (out_pl HP5.out HOK.out ok_bL (T : Int) a b HA.out HB.out (by omega))
              rw [las_out hgo2 HM.out.1 HM.out.2 HALI.out (by rw [HLIFE.out]; omega)] at HC2
              unfold ansA adr at HC2
              dsimp only at HC2
              rw [← HPP.out] at HC2
              go_wp2_with fail
              refine HC2.out.mono ?_
              rintro e V6 ⟨rfl, hp6⟩
              have hp7 := hp6.alloc (.cells #[.int .u32 x.host, .int .i64 P] 38)
              have HP7 := Lib.hid hp7
              obtain ⟨t0, t1⟩ := hp6.c2 (k := w1.heap.size) (u := .int .u32 a.1) (v := .int .i64 a.2) (by simp)
              obtain ⟨t2, t3⟩ := hp6.c2 (k := w1.heap.size + 1) (u := .int .u32 b.1) (v := .int .i64 b.2) (by simp)
              obtain ⟨t4, t5⟩ := hp6.c2 (k := V2.heap.size) (u := .int .u32 x.host) (v := .int .i64 P) (by simp)
              have t6 : V6.cell? ⟨w2.heap.size, 5, none⟩ = some (.int .i64 30) := by
                have := (cells_of (hp6.held (w2.heap.size, .cells (boxCells x) 24 (0, 0)) (by simp)) 5).1
                rw [← HLIFE.out]; exact this
              have t7 := World.block_lt_of_cell? V6 _ t0
              have t8 := World.block_lt_of_cell? V6 _ t2
              have t9 := World.block_lt_of_cell? V6 _ t4
              have ta := World.block_lt_of_cell? V6 _ t6
              dsimp only at t7 t8 t9 ta
              clear hp6 hp7 HC2 r0 r1 r2 r3 r4 r5 r6 r7 r8 r9 ra
              go_wp2
              go_roundw
              case rel => exact ⟨k + 1, T, T, rfl, rfl, by go_num, Nat.le_refl _, by omega, by omega, HP7⟩
              case measure => simp [intOf]; omega
            · have hoddz : ¬ (k : Int) % 2 = 1 := by omega
              have hoddb : ((k : Int) % 2 == 1) = false := by simpa using hoddz
              go_wp2
              go_roundw
              case rel => exact ⟨k + 1, T, Lt, rfl, rfl, by go_num, by omega, by omega, by omega, HP5⟩
              case measure => simp [intOf]; omega
          · have hali : (Lt : Int) + x.life ≤ (T : Int) := by rw [HLIFE.out]; omega
            have halz : ¬ (T : Int) < (Lt : Int) + 30 := by omega
            rw [las_gone hgo HM.out.2 hali P] at HCI
            unfold ansA adr at HCI
            dsimp only at HCI
            have HALI := Lib.hid hali; clear hali
            go_wp2_with fail
            rw [HTZ.out]
            refine HCI.out.mono ?_
            rintro e V4 ⟨rfl, hp4⟩
            have hp5 := hp4.alloc (.cells #[.int .u32 0, .int .i64 0] 38)
            have HP5 := Lib.hid hp5
            obtain ⟨r0, r1⟩ := hp4.c2 (k := w1.heap.size) (u := .int .u32 a.1) (v := .int .i64 a.2) (by simp)
            obtain ⟨r2, r3⟩ := hp4.c2 (k := w1.heap.size + 1) (u := .int .u32 b.1) (v := .int .i64 b.2) (by simp)
            obtain ⟨r4, r5⟩ := hp4.c2 (k := V2.heap.size) (u := .int .u32 x.host) (v := .int .i64 P) (by simp)
            have r6 : V4.cell? ⟨w2.heap.size, 5, none⟩ = some (.int .i64 30) := by
              have := (cells_of (hp4.held (w2.heap.size, .cells (boxCells x) 24 (0, 0)) (by simp)) 5).1
              rw [← HLIFE.out]; exact this
            have r7 := World.block_lt_of_cell? V4 _ r0
            have r8 := World.block_lt_of_cell? V4 _ r2
            have r9 := World.block_lt_of_cell? V4 _ r4
            have ra := World.block_lt_of_cell? V4 _ r6
            dsimp only at r7 r8 r9 ra
            clear hp4 hp5 HCI cc0 cc1 cc2 cc3 cc4 cc5 cc6 cc7 cc8 cc9 cca d0
            by_cases hodd : k % 2 = 1
            · have hoddz : (k : Int) % 2 = 1 := by omega
              have HC2 := Lib.hid (out_pl HP5.out HOK.out ok_nil (T : Int) a b HA.out HB.out (by omega))
              rw [las_new HOK.out HMOST.out hgo2 HM.out.1 HM.out.2 (by rw [HLIFE.out]; omega)] at HC2
              unfold ansA adr at HC2
              dsimp only at HC2
              rw [← HPP.out] at HC2
              go_wp2_with fail
              refine HC2.out.mono ?_
              rintro e V6 ⟨rfl, hp6⟩
              have hp7 := hp6.alloc (.cells #[.int .u32 x.host, .int .i64 P] 38)
              have HP7 := Lib.hid hp7
              obtain ⟨t0, t1⟩ := hp6.c2 (k := w1.heap.size) (u := .int .u32 a.1) (v := .int .i64 a.2) (by simp)
              obtain ⟨t2, t3⟩ := hp6.c2 (k := w1.heap.size + 1) (u := .int .u32 b.1) (v := .int .i64 b.2) (by simp)
              obtain ⟨t4, t5⟩ := hp6.c2 (k := V2.heap.size) (u := .int .u32 x.host) (v := .int .i64 P) (by simp)
              have t6 : V6.cell? ⟨w2.heap.size, 5, none⟩ = some (.int .i64 30) := by
                have := (cells_of (hp6.held (w2.heap.size, .cells (boxCells x) 24 (0, 0)) (by simp)) 5).1
                rw [← HLIFE.out]; exact this
              have t7 := World.block_lt_of_cell? V6 _ t0
              have t8 := World.block_lt_of_cell? V6 _ t2
              have t9 := World.block_lt_of_cell? V6 _ t4
              have ta := World.block_lt_of_cell? V6 _ t6
              dsimp only at t7 t8 t9 ta
              clear hp6 hp7 HC2 r0 r1 r2 r3 r4 r5 r6 r7 r8 r9 ra
              go_wp2
              go_roundw
              case rel => exact ⟨k + 1, T, T, rfl, rfl, by go_num, Nat.le_refl _, by omega, by omega, HP7⟩
              case measure => simp [intOf]; omega
            · have hoddz : ¬ (k : Int) % 2 = 1 := by omega
              have hoddb : ((k : Int) % 2 == 1) = false := by simpa using hoddz
              have HC2 := Lib.hid (out_pl HP5.out HOK.out ok_nil (T : Int) a b HA.out HB.out (by omega))
              rw [las_new HOK.out HMOST.out hgo2 HM.out.1 HM.out.2 (by rw [HLIFE.out]; omega)] at HC2
              unfold ansA adr at HC2
              dsimp only at HC2
              rw [← HPP.out] at HC2
              go_wp2_with fail
              refine HC2.out.mono ?_
              rintro e V6 ⟨rfl, hp6⟩
              have hp7 := hp6.alloc (.cells #[.int .u32 x.host, .int .i64 P] 38)
              have HP7 := Lib.hid hp7
              obtain ⟨t0, t1⟩ := hp6.c2 (k := w1.heap.size) (u := .int .u32 a.1) (v := .int .i64 a.2) (by simp)
              obtain ⟨t2, t3⟩ := hp6.c2 (k := w1.heap.size + 1) (u := .int .u32 b.1) (v := .int .i64 b.2) (by simp)
              obtain ⟨t4, t5⟩ := hp6.c2 (k := V2.heap.size) (u := .int .u32 x.host) (v := .int .i64 P) (by simp)
              have t6 : V6.cell? ⟨w2.heap.size, 5, none⟩ = some (.int .i64 30) := by
                have := (cells_of (hp6.held (w2.heap.size, .cells (boxCells x) 24 (0, 0)) (by simp)) 5).1
                rw [← HLIFE.out]; exact this
              have t7 := World.block_lt_of_cell? V6 _ t0
              have t8 := World.block_lt_of_cell? V6 _ t2
              have t9 := World.block_lt_of_cell? V6 _ t4
              have ta := World.block_lt_of_cell? V6 _ t6
              dsimp only at t7 t8 t9 ta
              clear hp6 hp7 HC2 r0 r1 r2 r3 r4 r5 r6 r7 r8 r9 ra
              go_wp2
              go_roundw
              case rel => exact ⟨k + 1, T, T, rfl, rfl, by go_num, Nat.le_refl _, by omega, by omega, HP7⟩
              case measure => simp [intOf]; omega
        · have hkz : ¬ (k : Int) < (s1.length : Int) := by omega
          go_wp2
          go_ret
          exact ⟨rfl, HPR.out.low⟩
    · have HM := Lib.hid (las_bad (x := x) hg0 hm)
      rw [HM.out] at HC
      unfold ansA adr at HC
      dsimp only at HC
      clear hm hg0
      go_wp2_with fail
      refine HC.out.mono ?_
      rintro e V2 ⟨rfl, hp2⟩
      have HP2 := Lib.hid (hp2.alloc (.cells #[.int .u32 0, .int .i64 0] 38)).low
      clear hp2
      go_wp2
      go_ret
      exact ⟨rfl, HP2.out⟩
  · have hlz : (40 : Int) < (s1.length : Int) := by omega
    have HLOW := Lib.hid HP.out.low
    go_wp2
    go_ret
    exact ⟨rfl, HLOW.out⟩

/-! ### THE ROW's STEP: WRITTEN OUT: LEAVE IT -/
set_option maxRecDepth 100000 in
theorem lifted (os : Os) (started : os.Started) (H : Type) (enc : TypeId × Value → H) :
    ReturnsInHanded {} Try.checked os 8 .any (Rows.natLastsSpec.pre6 enc Try.prog Try.f8 Rows.natLastsRow.domain false) (Rows.natLastsSpec.post enc Try.prog Try.f8 false true false false) := by
  refine returnsInHanded_of_change (C := Try.checked) own started (by kernel_rfl) Try.func8
    (ChangeSpec.witness6 (enc := enc) (C := Try.checked) false ⟨#[], #[.int .u8 0, .slice none 0 0, .agg #[.int .u32 0, .int .i64 0, .int .u32 0, .int .i64 0]], []⟩ 8 (by kernel_rfl) (by kernel_rfl) (by kernel_rfl) (by kernel_rfl)) ?_
  intro W base args ds gs before hval0 hW hcnd _
  have hval : ∀ (j : Nat) t v, Try.f8.params[j]? = some t → args[j]? = some v → Value.okWide Try.prog W .any base t v := hval0
  have hW' := hW
  obtain ⟨p, q, hA0, hV, rfl, hfz, hnd⟩ := hW
  have hA : DataW.TrodAll enc Try.prog W 0 (fun _ => true) true Try.f8.params.toList args.toList ds p := hA0
  rw [Try.params8] at hA hval
  obtain ⟨v0, vs0, d0, ds0, p0, q0, hargs, rfl, rfl, h0, r0⟩ := trodAll_cons hA
  obtain ⟨v1, vs1, d1, ds1, p1, q1, rfl, rfl, rfl, h1, r1⟩ := trodAll_cons r0
  obtain ⟨v2, vs2, d2, ds2, p2, q2, rfl, rfl, rfl, h2, r2⟩ := trodAll_cons r1
  obtain ⟨rfl, rfl, rfl⟩ := trodAll_nil r2
  obtain rfl : args = #[v0, v1, v2] := by cases args; simp_all
  obtain ⟨rfl, rfl⟩ := trodVars_none hV
  obtain ⟨a0, rfl, rfl, rfl, w0⟩ := open_int Try.underlying5 (hval 0 5 v0 rfl rfl) h0
  have k1 := h1
  have lt1 : ∀ x ∈ p1, x.block < W.heap.size := by obtain ⟨m, hm⟩ := k1; exact DataW.trod_lt m _ _ _ hm
  obtain ⟨s1, w1⟩ := open_bys (hval 1 60 v1 rfl rfl) h1
  have k2 := h2
  have lt2 : ∀ x ∈ p2, x.block < W.heap.size := by obtain ⟨m, hm⟩ := k2; exact DataW.trod_lt m _ _ _ hm
  obtain ⟨s2, w2⟩ := open_end (hval 2 51 v2 rfl rfl) h2
  clear hA0 hval0
  refine (walk a0 v1 s1 v2 s2 W w0 w1 w2).mono fun e W' ⟨he, bel⟩ => ?_
  subst he
  exact ⟨_, rfl, _, _, _, [], _, [], hW', trodAll_mk1 (shut_bool Try.underlying4 _), (trodAll_cons_mk (shut_int Try.underlying5 w0) (trodAll_cons_mk (Below.trod laidOut (by kernel_rfl) (of_decide_eq_true (by kernel_rfl)) k1 bel lt1) (trodAll_cons_mk (Below.trod laidOut (by kernel_rfl) (of_decide_eq_true (by kernel_rfl)) k2 bel lt2) trodAll_mk0))), rfl, bel.frame _, fun h => by cases h⟩

theorem over : Rows.natLastsRow.holds Try.pinned (OpenSpec.ofChange Rows.natLastsSpec) :=
  OpenClaim.holds_of_wide 8 Try.f8 rfl rfl rfl rfl rfl rfl rfl ⟨rfl, rfl, rfl, rfl, rfl⟩ rfl rfl rfl rfl rfl (by kernel_rfl) Try.func8 (by kernel_rfl)
    (of_decide_eq_true (by kernel_rfl)) (by unfold Func.isWrapper; first | (rw [if_pos (by decide +kernel)]; kernel_rfl) | (rw [if_neg (by decide +kernel)]; exact ⟨rfl, rfl⟩))
    (fun os started H enc _ => lifted os started H enc)

/-- ████ THE STATEMENT ████ -/
theorem proved : Rows.NatLastsSaid := over
#print axioms proved
end Go.Proofs.Ytcfbnepcinlheaa.natLasts
