/-
  What was sent (up to 1200 bytes) is taken as it was, once, and once more for each copy, whatever else is sent, and though what was handed in is written over; a net takes 300 datagrams, and no more. Condition: none beyond the statement's own.
-/
import Derived.BigQuiet
import Derived.Deep.QuietTactic
import Derived.Deep.CutBlock
import Derived.Deep.RegionHeld
import Derived.Deep.Cut
import Derived.Test.YthfdnidcmkjmoaaNq
import Derived.Test.YthfdnidcmkjmoaaRows
import Derived.WalkKit
import Derived.ProofKit
import Derived.OpenShut
import Derived.ShutString
import Derived.ChangeOld
import Derived.Below
namespace Go.Proofs.Ythfdnidcmkjmoaa.netOnce
open Go.ChangeShapes Go.WideShapes Go.ChangeAt Go.RowKit
open Go.ChangeMaps (open_string shut_string)
set_option linter.unusedVariables false

theorem own : ownKnob Try.prog.godebug = none := by kernel_rfl
theorem laidOut : laidOutB Try.prog = true := by kernel_rfl

set_option maxRecDepth 100000 in
set_option maxHeartbeats 20000000 in
theorem walk (v0 : Value) (s0 : List Int) (a1 : Int) (v2 : Value) (s2 : List Dn) (w : World) (w0 : IsTxt w v0 s0) (w1 : (Lit.int .u8 a1).wf = true) (w2 : IsDos w v2 s2) :
    Calls Try.prog 4 #[v0, .int .u8 a1, v2] w fun e w' => e = .returned (.bool true) ∧ Below w.heap.size w w' := by
  obtain ⟨A0, c0, rfl, hbt, hbc, hbm, hbn⟩ := w0
  obtain ⟨q0, q1⟩ := bounds_u8 w1
  obtain ⟨m, rfl⟩ := Int.eq_ofNat_of_zero_le q0
  obtain ⟨nc, hnc⟩ : ∃ nc : Nat, m % 20 = nc := ⟨_, rfl⟩
  have hnc20 : nc < 20 := by rw [← hnc]; exact Nat.mod_lt _ (by omega)
  have hkt : Int.tmod (m : Int) 20 = (nc : Int) := by rw [Int.tmod_eq_emod_of_nonneg (by omega)]; omega
  have HB0 := Lib.hid hbt; have HBN := Lib.hid hbn; have W2 := Lib.hid w2
  unfold maxLen at hbm
  obtain ⟨b, hb⟩ : ∃ b, s0 = b := ⟨_, rfl⟩
  subst hb
  have hsl : ∃ A2 c2, v2 = .slice A2 s2.length c2 := by obtain ⟨A, c, e, _⟩ := w2; exact ⟨A, c, e⟩
  obtain ⟨A2, c2, rfl⟩ := hsl
  clear hbt hbn w2 hnc w1
  by_cases hbig : s0.length ≤ 1200
  case neg =>
    have hbz : ¬ (s0.length : Int) ≤ 1200 := by omega
    go_enter Try.func4, Try.ntmps4
    go_wp2_with fail
    refine (awake_any _).mono ?_
    rintro e w1 ⟨rfl, hb1⟩
    have HB1 := Lib.hid hb1; clear hb1
    go_wp2
    go_ret
    exact ⟨rfl, HB1.out⟩
  have hbz : (s0.length : Int) ≤ 1200 := by omega
  cases hsm : smallL s2 with
  | false =>
    go_enter Try.func4, Try.ntmps4
    go_wp2_with fail
    refine (awake_any _).mono ?_
    rintro e w1 ⟨rfl, hb1⟩
    have hS := small_n _ s2 w1 (W2.out.below hb1)
    rw [hsm] at hS
    have HS := Lib.hid hS
    have HB1 := Lib.hid hb1; clear hb1 hS
    go_wp2_with fail
    refine HS.out.mono ?_
    rintro e w3 ⟨rfl, rfl⟩
    go_wp2
    go_ret
    exact ⟨rfl, HB1.out⟩
  | true =>
    have HSM := Lib.hid hsm; clear hsm
    go_enter Try.func4, Try.ntmps4
    go_wp2_with fail
    refine (awake_any _).mono ?_
    rintro e w1 ⟨rfl, hb1⟩
    have hS := small_n _ s2 w1 (W2.out.below hb1)
    rw [HSM.out] at hS
    have HS := Lib.hid hS
    have HB1 := Lib.hid hb1; clear hb1 hS
    go_wp2_with fail
    refine HS.out.mono ?_
    rintro e w3 ⟨rfl, rfl⟩
    have hN := new_p (w0 := w) (V := w3) [] HB1.out (by simp)
    have HN := Lib.hid hN
    clear hN HS
    go_wp2_with fail
    refine HN.out.mono ?_
    rintro e V1 ⟨rfl, hp1⟩
    obtain ⟨nb, hnb⟩ : ∃ nb, w3.heap.size = nb := ⟨_, rfl⟩
    rw [hnb] at hp1
    have HP1 := Lib.hid hp1
    have HBV := Lib.hid (HB0.out.below hp1.low)
    clear hp1 HN
    try rw [hnb]
    clear hnb
    go_upto_region 7 with (at_builtin; refine wpList_append_bts rfl (.tmp 41) (.tmp 42) rfl V1.heap.size _ 0 [] rfl (lit_own V1) A0 s0.length c0 s0 rfl (HBV.out.alloc _) HBN.out (by omega) (by simp) ?_; intro v' V2 h1 h2; rw [List.nil_append, Nat.zero_add] at h1; obtain ⟨Ao, co, rfl, -, hcm2, -⟩ := own_form h1 HBV.out.bd; have HR := Lib.hid h1; have HBB := Lib.hid (own_grown_below (lit_own V1) ((Below.refl V1.heap.size V1).alloc (Nat.le_refl _) _) (Nat.le_refl _) h2); clear h1 h2)
    obtain ⟨os1, ho1, ho2, ho3⟩ := HP1.out.ownB HBB.out HR.out HBV.out.bd rfl
    have HNLO := Lib.hid (own_nil HR.out)
    have HO1 := Lib.hid ho1; have HO2 := Lib.hid ho2; have HO3 := Lib.hid ho3
    clear ho1 ho2 ho3 HR HBV
    -- two addresses
    have hx1 := HO1.out.box (k := V2.heap.size) #[.int .u32 1, .int .i64 2] 33 rfl
    have hx2 := hx1.box (k := V2.heap.size + 1) #[.int .u32 3, .int .i64 4] 33 (by simp)
    obtain ⟨fb, hfb⟩ : ∃ fb, V2.heap.size = fb := ⟨_, rfl⟩
    have HFB : Hid (w.heap.size ≤ fb ∧ ∀ p ∈ os1 ++ [], p.1 < fb) := Lib.hid ⟨by rw [← hfb]; exact HO1.out.low.size, fun p hp => by rw [← hfb]; exact HO1.out.lt hp⟩
    have e2 : ((V2.alloc (.cells #[.int .u32 1, .int .i64 2] 33)).alloc (.cells #[.int .u32 3, .int .i64 4] 33)).heap.size = V2.heap.size + 2 := by simp
    have HX := Lib.hid hx2
    rw [List.append_nil] at HX
    go_upto_region 9 with (fail)
    try rw [hfb]
    rw [hfb] at HX
    clear hx1 hx2 HO1 e2
    generalize (V2.alloc (.cells #[.int .u32 1, .int .i64 2] 33)).alloc (.cells #[.int .u32 3, .int .i64 4] 33) = V4 at *
    have hBO := HO2.out.1 V4 (fun p hp => HX.out.held p (by simp [hp]))
    have hnlo : Ao = none → s0.length = 0 ∧ co = 0 := HNLO.out
    obtain ⟨f0, f1, fl⟩ := HX.out.c2 (k := fb) (u := .int .u32 1) (v := .int .i64 2) (t := 33) (by simp)
    obtain ⟨t0, t1, tl⟩ := HX.out.c2 (k := fb + 1) (u := .int .u32 3) (v := .int .i64 4) (t := 33) (by simp)
    have hC := send_p HX.out OkD.nil a12 a34 a12_is a34_is Ao s0.length co s0 hBO hnlo (by omega)
    rw [cM_first hbig] at hC
    unfold twoV adr a12 a34 at hC
    dsimp only at hC
    have HC := Lib.hid hC
    clear hC hBO
    go_wp2_with fail
    refine HC.out.mono ?_
    rintro e V5 ⟨rfl, hp5⟩
    have HQ := Lib.hid (Pq.lit (k := V5.heap.size) hp5 1 rfl)
    clear hp5 HC f0 f1 fl t0 t1 tl HX
    go_upto_region 11 with (fail)
    have HFO : Hid (∀ os : List (Nat × Obj), os = [(fb + 1, .cells #[.int .u32 3, .int .i64 4] 33 (0, 0)), (fb, .cells #[.int .u32 1, .int .i64 2] 33 (0, 0))] → True) := Lib.hid (fun _ _ => trivial)
    obtain ⟨ro, hro⟩ : ∃ ro : List (Nat × Obj), [(fb + 1, Obj.cells #[.int .u32 3, .int .i64 4] 33 (0, 0)), (fb, Obj.cells #[.int .u32 1, .int .i64 2] 33 (0, 0))] = ro := ⟨_, rfl⟩
    have HRO := Lib.hid hro
    have HQ : Hid (Pq w nb 1 (cM s0 0 1) (os1 ++ ro) (.slice (some ⟨V5.heap.size, 0, none⟩) 1 1) [1] (V5.alloc (.cells #[.int .i64 1] 3))) := Lib.hid ⟨HQ.out.pl.sub (fun p hp => by
      rw [← hro] at hp
      rcases List.mem_append.1 hp with h | h
      · simp [h]
      · simp at h; rcases h with rfl | rfl <;> simp), HQ.out.row, fun p hp => HQ.out.own p (by
      rw [← hro] at hp
      rcases List.mem_append.1 hp with h | h
      · simp [h]
      · simp at h; rcases h with rfl | rfl <;> simp)⟩
    clear hro HFO
    generalize V5.alloc (.cells #[.int .i64 1] 3) = V6 at *
    generalize V5.heap.size = lb at *
    go_wp2
    go_loopw [13, 14] (fun sv s wr => ∃ j : Nat, j ≤ nc ∧ s = .int .i64 j ∧ Hid (∃ A c, sv = .slice A (j + 1) c) ∧ Hid (Pq w nb ((j : Int) + 1) (cM s0 0 (j + 1)) (os1 ++ ro) sv (nos (j + 1)) wr)) (fun sv s _ => nc - (intOf s).toNat)
    case atStart => exact ⟨0, Nat.zero_le _, rfl, Lib.hid ⟨_, _, rfl⟩, HQ⟩
    case round =>
      obtain ⟨j, hj, rfl, HSV, HQ'⟩ := hrel
      clear HQ
      obtain ⟨As, cs, rfl⟩ := HSV.out
      clear HSV
      by_cases hjk : j < nc
      · have hz : (j : Int) < (nc : Int) := by omega
        have hok := cM_ok (b := s0) (n := j + 1) hbig (by omega)
        have e1 : ((j + 1 : Nat) : Int) = (j : Int) + 1 := by omega
        rw [e1] at hok
        have hC := copy_q HQ'.out hok 1
        have hcc := cM_copy (b := s0) (n := j + 1) (by omega) (by omega)
        rw [e1] at hcc
        rw [hcc] at hC
        unfold twoV at hC
        dsimp only at hC
        have HC := Lib.hid hC
        clear hC hok hcc e1
        go_wp2_with fail
        refine HC.out.mono ?_
        rintro e W2 ⟨rfl, hq⟩
        obtain ⟨sv', W3, t1, ⟨A9, c9, rfl⟩, hq3⟩ := app_q hq ((j : Int) + 1 + 1) (by rw [nos_len]; omega)
        have T1 := Lib.hid t1
        have HQ3 := Lib.hid hq3
        have hl3 : (nos (j + 1) ++ [(j : Int) + 1 + 1]).length = j + 1 + 1 := by simp [nos_len]
        rw [hl3] at T1 HQ3
        clear hq t1 hq3 HC hl3
        go_wp2_with (at_builtin; refine wpList_run rfl (.tmp 71) (.tmp 73) 51 rfl rfl rfl T1.out ?_)
        go_roundw
        case rel =>
          refine ⟨j + 1, by omega, by go_num, Lib.hid ⟨_, _, rfl⟩, Lib.hid ?_⟩
          have := HQ3.out
          have e3 : nos (j + 1 + 1) = nos (j + 1) ++ [(j : Int) + 1 + 1] := by rw [nos_succ]; simp
          rw [e3]
          have e4 : ((j + 1 : Nat) : Int) + 1 = (j : Int) + 1 + 1 := by omega
          rw [e4]
          exact this
        case measure => simp [intOf]; omega
      · have hz : ¬ (j : Int) < (nc : Int) := by omega
        obtain rfl : j = nc := by omega
        obtain ⟨An, cn, on, hsv, hl1, hl2, hp6, hob, hna⟩ := HQ'.out.fix
        have hown := HQ'.out.own
        rw [nos_len] at hsv hl1
        cases hsv
        obtain ⟨rest, hrest⟩ : ∃ rest, on ++ ro = rest := ⟨_, rfl⟩
        have HREST := Lib.hid hrest
        have HNA := Lib.hid hna
        have HON : Hid (∀ (W : World), (∀ p ∈ rest, W.heap[p.1]? = some p.2) → ∀ q ∈ on, W.heap[q.1]? = some q.2) := Lib.hid (fun W hW q hq => hW q (by rw [← hrest]; exact List.mem_append_left _ hq))
        have HP6 : Hid (Pn w nb ((j : Int) + 1) (cM s0 0 (j + 1)) (os1 ++ rest) wr) := Lib.hid (hp6.sub (fun p hp => by
          rw [← hrest] at hp
          rcases List.mem_append.1 hp with h | h
          · exact List.mem_append_right _ (List.mem_append_left _ h)
          · rcases List.mem_append.1 h with h | h
            · exact List.mem_append_left _ h
            · exact List.mem_append_right _ (List.mem_append_right _ h)))
        have HDJ : Hid (∀ p ∈ rest, ∀ q ∈ os1, p.1 ≠ q.1) := Lib.hid (fun p hp q hq e => by
          rw [← hrest] at hp
          rcases List.mem_append.1 hp with h | h
          · exact hown q (List.mem_append_left _ hq) (by rw [hob p h, e])
          · have h7 := HFB.out.2 q (by simpa using hq)
            rw [← HRO.out] at h
            simp at h
            rcases h with rfl | rfl
            · simp only at e; omega
            · simp only at e; omega)
        have HFR : Hid (fb ≠ fb + 1 ∧ (fb + 1, Obj.cells #[.int .u32 3, .int .i64 4] 33 (0, 0)) ∈ rest ∧ (fb, Obj.cells #[.int .u32 1, .int .i64 2] 33 (0, 0)) ∈ rest) := Lib.hid ⟨by omega, by rw [← hrest, ← HRO.out]; simp, by rw [← hrest, ← HRO.out]; simp⟩
        have HS2 : Hid (∃ osx, Pn w nb ((j : Int) + 1) (cM s0 0 (j + 1)) (osx ++ rest) wr ∧ (0 < s0.length → ∃ g C, Ao = some ⟨g, 0, none⟩ ∧ osx = [(g, .cells C 5 (0, 0))] ∧ w.heap.size ≤ g ∧ (∀ p ∈ rest, p.1 ≠ g) ∧ ∀ x, x < s0.length → ∃ z, C[x]? = some (.int .u8 z))) := Lib.hid ⟨os1, HP6.out, fun hpos => by
          obtain ⟨g, C, h1, h2, h3, h4⟩ := HO2.out.2 hpos
          exact ⟨g, C, h1, h2, h3, fun p hp => HDJ.out p hp (g, .cells C 5 (0, 0)) (by rw [h2]; simp), h4⟩⟩
        clear hrest hna hp6 HQ' hz hob hown HP6 HO2 HO3 HRO HFB HREST
        unfold maxLen at hl2
        go_wp2
        go_loopw [17] (fun s wr => ∃ x : Nat, x ≤ s0.length ∧ s = .int .i64 x ∧ Hid (∃ osx, Pn w nb ((j : Int) + 1) (cM s0 0 (j + 1)) (osx ++ rest) wr ∧ (0 < s0.length → ∃ g C, Ao = some ⟨g, 0, none⟩ ∧ osx = [(g, .cells C 5 (0, 0))] ∧ w.heap.size ≤ g ∧ (∀ p ∈ rest, p.1 ≠ g) ∧ ∀ x, x < s0.length → ∃ z, C[x]? = some (.int .u8 z)))) (fun s _ => s0.length - (intOf s).toNat)
        case atStart => exact ⟨0, Nat.zero_le _, rfl, HS2⟩
        case round =>
          obtain ⟨x, hx, rfl, HP⟩ := hrel
          clear HS2
          by_cases hxl : x < s0.length
          · have hz : (x : Int) < (s0.length : Int) := by omega
            obtain ⟨osx, hpx, hox⟩ := HP.out
            obtain ⟨g, C, rfl, rfl, hgw, hgr, hCz⟩ := hox (by omega)
            obtain ⟨z, hzz⟩ := hCz x hxl
            have hpx' : Pn w nb ((j : Int) + 1) (cM s0 0 (j + 1)) ((g, .cells C 5 (0, 0)) :: rest) wr := hpx
            obtain ⟨g0, gf⟩ := hpx.cells (b := g) (C := C) (t := 5) (by simp) x
            rw [hzz] at g0
            have gl := World.block_lt_of_cell? _ _ g0
            dsimp only at gl
            have HST : Hid (∀ v, Pn w nb ((j : Int) + 1) (cM s0 0 (j + 1)) ((g, .cells (C.setIfInBounds x v) 5 (0, 0)) :: rest) (wr.setCell ⟨g, x, none⟩ v)) := Lib.hid (fun v => hpx'.store (fun p hp => hgr p hp) hgw)
            have HCZ := Lib.hid hCz; have HGR := Lib.hid hgr
            clear hpx hpx' hox hCz hzz hgr HP
            go_wp2
            go_roundw
            case rel => exact ⟨x + 1, by omega, by go_num, Lib.hid ⟨_, HST.out _, fun _ => ⟨g, _, rfl, rfl, hgw, HGR.out, fun y hy => by
              by_cases e : y = x
              · subst e
                obtain ⟨z', hz'⟩ := HCZ.out y hy
                have := (Array.getElem?_eq_some_iff.1 hz').1
                exact ⟨_, by rw [Array.getElem?_setIfInBounds_self_of_lt this]⟩
              · rw [Array.getElem?_setIfInBounds_ne (Ne.symm e)]
                exact HCZ.out y hy⟩⟩⟩
            case measure => simp [intOf]; omega
          · have hz : ¬ (x : Int) < (s0.length : Int) := by omega
            have HP7 : Hid (Pn w nb ((j : Int) + 1) (cM s0 0 (j + 1)) rest wr) := Lib.hid (by
              obtain ⟨osx, hpx, -⟩ := HP.out
              exact hpx.sub (fun p hp => List.mem_append_right _ hp))
            clear HP
            have HAT2 : Hid (0 < s2.length → ∃ b off, A2 = some ⟨b, off, none⟩ ∧ b < w.heap.size ∧ ∀ j, j < s2.length → DnAt w b (off + j * 7) (s2.getD j default)) := Lib.hid (by
              obtain ⟨A', c', e, _, _, h⟩ := W2.out
              cases e
              exact h)
            have hn1 : ((j : Int) + 1) = ((j + 1 : Nat) : Int) := by omega
            rw [hn1] at HP7
            obtain ⟨n1, hn1'⟩ : ∃ n1, j + 1 = n1 := ⟨_, rfl⟩
            rw [hn1'] at HP7
            have HS3 : Hid (∃ R last, Oth n1 0 R last ∧ Pn w nb last (cM s0 0 n1 ++ R) rest wr) := Lib.hid ⟨[], _, Oth.nil n1, by rw [List.append_nil]; exact HP7.out⟩
            rw [hn1'] at HNA hl1
            have hn20 : n1 ≤ 20 := by omega
            go_upto_block 4 with (fail)
            try rw [hn1']
            clear HP7 hn1 hz
            clear hn1'
            go_cut [18] from 89 (fun v18 wc => Hid (∃ R last, Oth n1 100 R last ∧ Pn w nb last (cM s0 0 n1 ++ R) rest wc))
            case first =>
              go_wp2_with fail
              go_loopw [18] (fun s wr => ∃ y : Nat, y ≤ s2.length ∧ y ≤ 100 ∧ s = .int .i64 y ∧ Hid (∃ R last, Oth n1 y R last ∧ Pn w nb last (cM s0 0 n1 ++ R) rest wr)) (fun s _ => 100 - (intOf s).toNat)
              case atStart => exact ⟨0, Nat.zero_le _, Nat.zero_le _, rfl, HS3⟩
              case round =>
                obtain ⟨y, hy, hy1, rfl, HP⟩ := hrel
                clear HS3
                obtain ⟨R, last, hoth, hpn⟩ := HP.out
                have HOTH := Lib.hid hoth; have HPN := Lib.hid hpn
                clear hoth hpn HP
                by_cases hyl : y < s2.length ∧ y < 100
                · obtain ⟨hy2, hy3⟩ := hyl
                  have hz : (y : Int) < (s2.length : Int) := by omega
                  have hz1 : (y : Int) < 100 := by omega
                  obtain ⟨bb, off, rfl, hbl, hall⟩ := HAT2.out (by omega)
                  have hsm := small_at HSM.out hy2 hy3
                  obtain ⟨A', c', ⟨j0, j1, j2, j3, j4, j5, j6⟩, k1, k2, k3, k4, k5, k6, k7, k8⟩ := (hall y hy2).parts HPN.out.low
                  obtain ⟨d, hd⟩ : ∃ d, s2.getD y default = d := ⟨_, rfl⟩
                  rw [hd] at j0 j1 j2 j3 j4 j5 j6 k1 k2 k4 k5 k6 k7 k8 hsm
                  have hbl2 := World.block_lt_of_cell? wr _ j0
                  dsimp only at hbl2
                  obtain ⟨R', last', hs1, hs2, hoth'⟩ := HOTH.out.send (b := s0) d.f d.t d.zs hsm
                  have HO' := Lib.hid hoth'
                  by_cases hk0 : d.kind = 0
                  · have hkb : (d.kind == 0) = true := by simpa using hk0
                    have hC := send_p HPN.out.drew (HOTH.out.ok hbig (by omega) (by omega) n1 (by omega)) d.f d.t k7 k8 A' d.zs.length c' d.zs (k1.drewN 1) k4 (by omega)
                    rw [hs1, hs2] at hC
                    unfold adr at hC
                    have HC := Lib.hid hC
                    have HS0 : Hid ((wr.drew.cell? ⟨bb, off + y * 7 + 2, none⟩ = some (.int .u32 d.f.1) ∧ wr.drew.cell? ⟨bb, off + y * 7 + 3, none⟩ = some (.int .i64 d.f.2) ∧ wr.drew.cell? ⟨bb, off + y * 7 + 4, none⟩ = some (.int .u32 d.t.1) ∧ wr.drew.cell? ⟨bb, off + y * 7 + 5, none⟩ = some (.int .i64 d.t.2) ∧ wr.drew.cell? ⟨bb, off + y * 7 + 6, none⟩ = some (.slice A' d.zs.length c')) ∧ bb < wr.drew.heap.size) := Lib.hid ⟨⟨j2, j3, j4, j5, j6⟩, hbl2⟩
                    have HLW := Lib.hid HPN.out.low
                    clear hC k1 k4 k5 k6 k7 k8 hall hd hoth' hs1 hs2 hk0 j1 j2 j3 j4 j5 j6
                    go_upto_region 26 with (fail)
                    refine wp_region_held_drew (S := fun W => (W.cell? ⟨bb, off + y * 7 + 2, none⟩ = some (.int .u32 d.f.1) ∧ W.cell? ⟨bb, off + y * 7 + 3, none⟩ = some (.int .i64 d.f.2) ∧ W.cell? ⟨bb, off + y * 7 + 4, none⟩ = some (.int .u32 d.t.1) ∧ W.cell? ⟨bb, off + y * 7 + 5, none⟩ = some (.int .i64 d.t.2) ∧ W.cell? ⟨bb, off + y * 7 + 6, none⟩ = some (.slice A' d.zs.length c')) ∧ bb < W.heap.size) (by kernel_rfl) HS0.out (fun hHeld => ?_)
                    refine wpAnyH_take (i := 0) (oi := _) (v := ?_) rfl (by kernel_rfl) (by kernel_rfl) (by kernel_rfl) (fun _ _ _ h => h) (Or.inl ⟨by rfl, ?_⟩) (by assumption) ?_
                    case refine_2 => intro w hSw; obtain ⟨⟨p0, p1, p2, p3, p4⟩, pl⟩ := hSw; go_simp; first | done | (with_reducible rfl)
                    try simp only [Act.put, List.getElem_toArray, List.getElem_cons_zero, List.setIfInBounds_toArray, List.set_cons_zero, List.set_cons_succ]
                    refine wpAnyH_take (i := 1) (oi := _) (v := ?_) rfl (by kernel_rfl) (by kernel_rfl) (by kernel_rfl) (fun _ _ _ h => h) (Or.inl ⟨by rfl, ?_⟩) (by assumption) ?_
                    case refine_2 => intro w hSw; obtain ⟨⟨p0, p1, p2, p3, p4⟩, pl⟩ := hSw; go_simp; first | done | (with_reducible rfl)
                    try simp only [Act.put, List.getElem_toArray, List.getElem_cons_zero, List.getElem_cons_succ, List.setIfInBounds_toArray, List.set_cons_zero, List.set_cons_succ]
                    refine wpAnyH_take (i := 2) (oi := _) (v := ?_) rfl (by kernel_rfl) (by kernel_rfl) (by kernel_rfl) (fun _ _ _ h => h) (Or.inl ⟨by rfl, ?_⟩) (by assumption) ?_
                    case refine_2 => intro w hSw; obtain ⟨⟨p0, p1, p2, p3, p4⟩, pl⟩ := hSw; go_simp; first | done | (with_reducible rfl)
                    try simp only [Act.put, List.getElem_toArray, List.getElem_cons_zero, List.getElem_cons_succ, List.setIfInBounds_toArray, List.set_cons_zero, List.set_cons_succ]
                    refine wpAnyH_take (i := 3) (oi := _) (v := ?_) rfl (by kernel_rfl) (by kernel_rfl) (by kernel_rfl) (fun _ _ _ h => h) (Or.inl ⟨by rfl, ?_⟩) (by assumption) ?_
                    case refine_2 => intro w hSw; obtain ⟨⟨p0, p1, p2, p3, p4⟩, pl⟩ := hSw; go_simp; first | done | (with_reducible rfl)
                    try simp only [Act.put, List.getElem_toArray, List.getElem_cons_zero, List.getElem_cons_succ, List.setIfInBounds_toArray, List.set_cons_zero, List.set_cons_succ]
                    refine wpAnyH_take (i := 4) (oi := _) (v := ?_) rfl (by kernel_rfl) (by kernel_rfl) (by kernel_rfl) (fun _ _ _ h => h) (Or.inl ⟨by rfl, ?_⟩) (by assumption) ?_
                    case refine_2 => intro w hSw; obtain ⟨⟨p0, p1, p2, p3, p4⟩, pl⟩ := hSw; go_simp; first | done | (with_reducible rfl)
                    try simp only [Act.put, List.getElem_toArray, List.getElem_cons_zero, List.getElem_cons_succ, List.setIfInBounds_toArray, List.set_cons_zero, List.set_cons_succ]
                    refine wpAnyH_take (i := 5) (oi := _) (v := ?_) rfl (by kernel_rfl) (by kernel_rfl) (by kernel_rfl) (fun _ _ _ h => h) (Or.inl ⟨by rfl, ?_⟩) (by assumption) ?_
                    case refine_2 => intro w hSw; obtain ⟨⟨p0, p1, p2, p3, p4⟩, pl⟩ := hSw; go_simp; first | done | (with_reducible rfl)
                    try simp only [Act.put, List.getElem_toArray, List.getElem_cons_zero, List.getElem_cons_succ, List.setIfInBounds_toArray, List.set_cons_zero, List.set_cons_succ]
                    refine wpAnyH_take (i := 6) (oi := _) (v := ?_) rfl (by kernel_rfl) (by kernel_rfl) (by kernel_rfl) (fun _ _ _ h => h) (Or.inl ⟨by rfl, ?_⟩) (by assumption) ?_
                    case refine_2 => intro w hSw; obtain ⟨⟨p0, p1, p2, p3, p4⟩, pl⟩ := hSw; go_simp; first | done | (with_reducible rfl)
                    try simp only [Act.put, List.getElem_toArray, List.getElem_cons_zero, List.getElem_cons_succ, List.setIfInBounds_toArray, List.set_cons_zero, List.set_cons_succ]
                    refine wpAnyH_take (i := 7) (oi := _) (v := ?_) rfl (by kernel_rfl) (by kernel_rfl) (by kernel_rfl) (fun _ _ _ h => h) (Or.inl ⟨by rfl, ?_⟩) (by assumption) ?_
                    case refine_2 => intro w hSw; obtain ⟨⟨p0, p1, p2, p3, p4⟩, pl⟩ := hSw; go_simp; first | done | (with_reducible rfl)
                    try simp only [Act.put, List.getElem_toArray, List.getElem_cons_zero, List.getElem_cons_succ, List.setIfInBounds_toArray, List.set_cons_zero, List.set_cons_succ]
                    refine wpAnyH_take (i := 8) (oi := _) (v := ?_) rfl (by kernel_rfl) (by kernel_rfl) (by kernel_rfl) (fun _ _ _ h => h) (Or.inl ⟨by rfl, ?_⟩) (by assumption) ?_
                    case refine_2 => intro w hSw; obtain ⟨⟨p0, p1, p2, p3, p4⟩, pl⟩ := hSw; go_simp; first | done | (with_reducible rfl)
                    try simp only [Act.put, List.getElem_toArray, List.getElem_cons_zero, List.getElem_cons_succ, List.setIfInBounds_toArray, List.set_cons_zero, List.set_cons_succ]
                    refine wpAnyH_take (i := 9) (oi := _) (v := ?_) rfl (by kernel_rfl) (by kernel_rfl) (by kernel_rfl) (fun _ _ _ h => h) (Or.inl ⟨by rfl, ?_⟩) (by assumption) ?_
                    case refine_2 => intro w hSw; obtain ⟨⟨p0, p1, p2, p3, p4⟩, pl⟩ := hSw; go_simp; first | done | (with_reducible rfl)
                    try simp only [Act.put, List.getElem_toArray, List.getElem_cons_zero, List.getElem_cons_succ, List.setIfInBounds_toArray, List.set_cons_zero, List.set_cons_succ]
                    refine wpAnyH_take (i := 10) (oi := _) (v := ?_) rfl (by kernel_rfl) (by kernel_rfl) (by kernel_rfl) (fun _ _ _ h => h) (Or.inl ⟨by rfl, ?_⟩) (by assumption) ?_
                    case refine_2 => intro w hSw; obtain ⟨⟨p0, p1, p2, p3, p4⟩, pl⟩ := hSw; go_simp; first | done | (with_reducible rfl)
                    try simp only [Act.put, List.getElem_toArray, List.getElem_cons_zero, List.getElem_cons_succ, List.setIfInBounds_toArray, List.set_cons_zero, List.set_cons_succ]
                    refine wpAnyH_take (i := 11) (oi := _) (v := ?_) rfl (by kernel_rfl) (by kernel_rfl) (by kernel_rfl) (fun _ _ _ h => h) (Or.inl ⟨by rfl, ?_⟩) (by assumption) ?_
                    case refine_2 => intro w hSw; obtain ⟨⟨p0, p1, p2, p3, p4⟩, pl⟩ := hSw; go_simp; first | done | (with_reducible rfl)
                    try simp only [Act.put, List.getElem_toArray, List.getElem_cons_zero, List.getElem_cons_succ, List.setIfInBounds_toArray, List.set_cons_zero, List.set_cons_succ]
                    refine wpAnyH_take (i := 12) (oi := _) (v := ?_) rfl (by kernel_rfl) (by kernel_rfl) (by kernel_rfl) (fun _ _ _ h => h) (Or.inl ⟨by rfl, ?_⟩) (by assumption) ?_
                    case refine_2 => intro w hSw; obtain ⟨⟨p0, p1, p2, p3, p4⟩, pl⟩ := hSw; go_simp; first | done | (with_reducible rfl)
                    try simp only [Act.put, List.getElem_toArray, List.getElem_cons_zero, List.getElem_cons_succ, List.setIfInBounds_toArray, List.set_cons_zero, List.set_cons_succ]
                    refine wpAnyH_take (i := 13) (oi := _) (v := ?_) rfl (by kernel_rfl) (by kernel_rfl) (by kernel_rfl) (fun _ _ _ h => h) (Or.inl ⟨by rfl, ?_⟩) (by assumption) ?_
                    case refine_2 => intro w hSw; obtain ⟨⟨p0, p1, p2, p3, p4⟩, pl⟩ := hSw; go_simp; first | done | (with_reducible rfl)
                    try simp only [Act.put, List.getElem_toArray, List.getElem_cons_zero, List.getElem_cons_succ, List.setIfInBounds_toArray, List.set_cons_zero, List.set_cons_succ]
                    refine wpAnyH_take (i := 14) (oi := _) (v := ?_) rfl (by kernel_rfl) (by kernel_rfl) (by kernel_rfl) (fun _ _ _ h => h) (Or.inl ⟨by rfl, ?_⟩) (by assumption) ?_
                    case refine_2 => intro w hSw; obtain ⟨⟨p0, p1, p2, p3, p4⟩, pl⟩ := hSw; go_simp; first | done | (with_reducible rfl)
                    try simp only [Act.put, List.getElem_toArray, List.getElem_cons_zero, List.getElem_cons_succ, List.setIfInBounds_toArray, List.set_cons_zero, List.set_cons_succ]
                    refine wpAnyH_take (i := 15) (oi := _) (v := ?_) rfl (by kernel_rfl) (by kernel_rfl) (by kernel_rfl) (fun _ _ _ h => h) (Or.inl ⟨by rfl, ?_⟩) (by assumption) ?_
                    case refine_2 => intro w hSw; obtain ⟨⟨p0, p1, p2, p3, p4⟩, pl⟩ := hSw; go_simp; first | done | (with_reducible rfl)
                    try simp only [Act.put, List.getElem_toArray, List.getElem_cons_zero, List.getElem_cons_succ, List.setIfInBounds_toArray, List.set_cons_zero, List.set_cons_succ]
                    refine wpAnyH_ready (rs := [16]) (by kernel_rfl) (by simp) ?_
                    refine AllReadyH.cons rfl (fun K hK => ?_) AllReadyH.nil
                    go_simp
                    go_at_call 10
                    refine HC.out.mono ?_
                    rintro e W2 ⟨rfl, hp2⟩
                    have HP2 := Lib.hid hp2
                    have HS9 : Hid ((W2.cell? ⟨bb, off + y * 7 + 2, none⟩ = some (.int .u32 d.f.1) ∧ W2.cell? ⟨bb, off + y * 7 + 3, none⟩ = some (.int .i64 d.f.2) ∧ W2.cell? ⟨bb, off + y * 7 + 4, none⟩ = some (.int .u32 d.t.1) ∧ W2.cell? ⟨bb, off + y * 7 + 5, none⟩ = some (.int .i64 d.t.2) ∧ W2.cell? ⟨bb, off + y * 7 + 6, none⟩ = some (.slice A' d.zs.length c')) ∧ bb < W2.heap.size) := Lib.hid (by have e : ∀ i, W2.cell? ⟨bb, i, none⟩ = wr.cell? ⟨bb, i, none⟩ := fun i => (hp2.low.cell (p := ⟨bb, i, none⟩) hbl).trans (HLW.out.cell (p := ⟨bb, i, none⟩) hbl).symm; rw [e, e, e, e, e]; exact ⟨HS0.out.1, Nat.lt_of_lt_of_le hbl hp2.low.size⟩)
                    clear hp2 HC
                    refine hK.out _ _ HS9.out (fun hHeld => ?_)
                    clear hK K
                    try simp only [Act.put, List.getElem_toArray, List.getElem_cons_zero, List.getElem_cons_succ, List.setIfInBounds_toArray, List.set_cons_zero, List.set_cons_succ]
                    refine wpAnyH_done (by kernel_rfl) ?_ _
                    go_wp2_with fail
                    go_roundw
                    case rel => exact ⟨y + 1, by omega, by omega, by go_num, Lib.hid ⟨R', last', HO'.out, HP2.out⟩⟩
                    case measure => simp [intOf]; omega
                  · have hkb : (d.kind == 0) = false := by simpa using hk0
                    have HM := Lib.hid HOTH.out.more
                    clear k1 k4 k5 k6 k7 k8 hall hd hoth' hs1 hs2 hk0 j1 j2 j3 j4 j5 j6
                    go_wp2
                    go_roundw
                    case rel => exact ⟨y + 1, by omega, by omega, by go_num, Lib.hid ⟨R, last, HM.out, HPN.out⟩⟩
                    case measure => simp [intOf]; omega
                · have HE : Hid (∃ R last, Oth n1 100 R last ∧ Pn w nb last (cM s0 0 n1 ++ R) rest wr) := Lib.hid ⟨R, last, HOTH.out.mono hy1, HPN.out⟩
                  by_cases hyl2 : y < s2.length
                  · have hz : (y : Int) < (s2.length : Int) := by omega
                    have hz1 : ¬ (y : Int) < 100 := by omega
                    clear hyl
                    go_wp2_with fail
                    go_meet
                    exact HE
                  · have hz : ¬ (y : Int) < (s2.length : Int) := by omega
                    clear hyl
                    go_wp2_with fail
                    go_meet
                    exact HE
            case rest =>
              obtain ⟨R, last, hoth, hpn⟩ := hcut.out
              have HOTH := Lib.hid hoth; have HPN := Lib.hid hpn
              clear hoth hpn hcut HS3
              go_wp2
              go_loopw [19] (fun s wr => ∃ z : Nat, z ≤ n1 ∧ s = .int .i64 z ∧ Hid (Pn w nb last (cM s0 z (n1 - z) ++ R) rest wr)) (fun s _ => n1 - (intOf s).toNat)
              case atStart => exact ⟨0, Nat.zero_le _, rfl, HPN⟩
              case round =>
                obtain ⟨z, hz, rfl, HP⟩ := hrel
                clear HPN
                by_cases hzl : z < n1
                · have hzz : (z : Int) < (n1 : Int) := by omega
                  obtain ⟨m1, hm1⟩ : ∃ m1, n1 - z = m1 + 1 := ⟨n1 - z - 1, by omega⟩
                  have hp := HP.out
                  rw [hm1] at hp
                  obtain ⟨tk1, tk2⟩ := cM_take (b := s0) HOTH.out (i := z) (m := m1) (by omega)
                  obtain ⟨gn, rfl, hgn⟩ := HNA.out z _ (nos_at hzl)
                  obtain ⟨i0, il⟩ := hgn wr (HON.out wr (fun p hp' => hp.held p hp'))
                  have hC := take_q hp (HOTH.out.ok hbig (by omega) (by omega) (m1 + 1) (by omega)) ((z : Int) + 1)
                  rw [tk1] at hC
                  unfold takeV sentC dgC a12 a34 at hC
                  dsimp only at hC
                  have HC := Lib.hid hC; have HGN := Lib.hid hgn; have TK2 := Lib.hid tk2
                  clear hC hp hgn tk1 tk2 HP
                  go_wp2_with fail
                  refine HC.out.mono ?_
                  rintro e V3 ⟨A3, c3, osb, rfl, hp3, hbt3⟩
                  have hp4 := hp3.box (k := V3.heap.size) (sentC ((z : Int) + 1) (1, 2) (3, 4) (.slice A3 s0.length c3)) 43 rfl
                  have hC := take_q hp4 (HOTH.out.ok hbig (by omega) (by omega) m1 (by omega)) ((z : Int) + 1)
                  rw [TK2.out] at hC
                  have hdf : takeV (default : Dg) = fun v c => .tuple #[.agg #[.int .i64 0, .int .u32 0, .int .i64 0, .int .u32 0, .int .i64 0, v], .int .i64 c] := rfl
                  have hdl : (default : Dg).b.length = 0 := rfl
                  rw [hdf, hdl] at hC
                  unfold sentC at hC
                  dsimp only at hC
                  obtain ⟨i1, il1⟩ := HGN.out (V3.alloc (.cells #[.int .i64 ((z : Int) + 1), .int .u32 1, .int .i64 2, .int .u32 3, .int .i64 4, .slice A3 s0.length c3] 43)) (HON.out _ (fun p hp' => hp4.held p (by simp [hp'])))
                  have HC := Lib.hid hC; have HBT3 := Lib.hid hbt3
                  clear hC hp3 hp4 hbt3 i0 il hdf hdl
                  go_wp2_with fail
                  refine HC.out.mono ?_
                  rintro e V7 ⟨A4, c4, osc, rfl, hp5, -⟩
                  obtain ⟨⟨y0, y1, y2, y3, y4, y5⟩, yl⟩ := hp5.c6 (k := V3.heap.size) (no := (z : Int) + 1) (f := (1, 2)) (t := (3, 4)) (v := .slice A3 s0.length c3) (ty := 43) (by simp [sentC])
                  have hp6 := hp5.box (k := V7.heap.size) (sentC 0 (0, 0) (0, 0) (.slice A4 0 c4)) 43 rfl
                  unfold sentC at hp6
                  obtain ⟨f0, f1, fl⟩ := hp6.c2 (k := fb) (u := .int .u32 1) (v := .int .i64 2) (t := 33) (by simp [HFR.out.2.2])
                  obtain ⟨t0, t1, tl⟩ := hp6.c2 (k := fb + 1) (u := .int .u32 3) (v := .int .i64 4) (t := 33) (by simp [HFR.out.2.1])
                  obtain ⟨i2, il2⟩ := HGN.out _ (HON.out _ (fun p hp' => hp6.held p (by simp [hp'])))
                  dsimp only at i2 il2 f0 f1 t0 t1 fl tl
                  have hcs1 : ∀ q, (convert 34 9 (.slice A3 s0.length c3)).run Try.prog ((V7.alloc (.cells #[.int .i64 0, .int .u32 0, .int .i64 0, .int .u32 0, .int .i64 0, .slice A4 0 c4] 43)).drewN q) = .ok (.string (str s0)) ((V7.alloc (.cells #[.int .i64 0, .int .u32 0, .int .i64 0, .int .u32 0, .int .i64 0, .slice A4 0 c4] 43)).drewN q) := fun q => conv_str ((HBT3.out _ (fun p hp' => hp6.held p (by simp [hp']))).drewN q)
                  have hcs2 : ∀ q, (convert 34 9 (.slice A0 s0.length c0)).run Try.prog ((V7.alloc (.cells #[.int .i64 0, .int .u32 0, .int .i64 0, .int .u32 0, .int .i64 0, .slice A4 0 c4] 43)).drewN q) = .ok (.string (str s0)) ((V7.alloc (.cells #[.int .i64 0, .int .u32 0, .int .i64 0, .int .u32 0, .int .i64 0, .slice A4 0 c4] 43)).drewN q) := fun q => conv_str ((HB0.out.below hp6.low).drewN q)
                  have hps := hp6.sub (os' := rest) (fun p hp' => by simp [hp'])
                  have HPS := Lib.hid hps
                  have n7 : (((z : Int) + 1) != ((z : Int) + 1)) = false := by simp
                  have hmz : m1 = n1 - (z + 1) := by omega
                  clear hp5 hp6 hps HC i1 il1 hm1
                  generalize str s0 = st at *
                  go_upto_region 32 with (fail)
                  go_quiet (fail)
                  go_wp2_with fail
                  go_roundw
                  case rel => exact ⟨z + 1, by omega, by go_num, by rw [← hmz]; exact Lib.hid (HPS.out.drewN _)⟩
                  case measure => simp [intOf]; omega
                · have hzz : ¬ (z : Int) < (n1 : Int) := by omega
                  have hzn : z = n1 := by omega
                  have hR0 : cM s0 z (n1 - z) = [] := by rw [hzn, Nat.sub_self]; rfl
                  have hp := HP.out
                  rw [hR0, List.nil_append] at hp
                  have hok : OkD ([] ++ R) last := HOTH.out.ok (b := s0) (i := 0) hbig (by omega) (by omega) 0 (by omega)
                  rw [List.nil_append] at hok
                  have hrl := HOTH.out.len
                  have HOK : Hid ((∀ d ∈ R, d.b.length ≤ 1000000) ∧ 0 ≤ last ∧ last ≤ 1000 + R.length) := Lib.hid ⟨hok.sm, by have := HOTH.out.lo; omega, by have := HOTH.out.hi; omega⟩
                  have HP9 := Lib.hid hp
                  clear hp hok HP hR0 hzn
                  go_wp2
                  go_loopg [24, 25] 300 (fun gg _ _ wr => ∃ (M : List Dg) (lt : Int), M.length ≤ 300 ∧ 300 - M.length ≤ gg ∧ Hid ((∀ d ∈ M, d.b.length ≤ 1000000) ∧ 0 ≤ lt ∧ lt ≤ 1000 + M.length) ∧ Hid (Pn w nb lt M rest wr))
                  case atStart => exact ⟨R, last, by omega, by omega, HOK, HP9⟩
                  case round =>
                    obtain ⟨M, lt, hm1, hm2, HOM, HPM⟩ := hrel
                    clear HOK HP9
                    have hcn := count_p HPM.out
                    have hokm : OkD M lt := ⟨by omega, HOM.out.1, by have := HOM.out.2.1; omega, by have := HOM.out.2.2; omega⟩
                    obtain ⟨f0, f1, fl⟩ := HPM.out.c2 (k := fb) (u := .int .u32 1) (v := .int .i64 2) (t := 33) HFR.out.2.2
                    obtain ⟨t0, t1, tl⟩ := HPM.out.c2 (k := fb + 1) (u := .int .u32 3) (v := .int .i64 4) (t := 33) HFR.out.2.1
                    have hC := send_p HPM.out hokm a12 a34 a12_is a34_is none 0 0 [] ⟨rfl, by simp, fun h => by omega⟩ (fun _ => ⟨rfl, rfl⟩) (by omega)
                    by_cases hmf : M.length < 300
                    · have hmz : (M.length : Int) < 300 := by omega
                      rw [fill_send hmf] at hC
                      unfold twoV adr a12 a34 at hC
                      dsimp only at hC
                      have HC := Lib.hid hC; have HCN := Lib.hid hcn
                      have HOM2 : Hid ((∀ d ∈ M ++ [⟨lt + 1, a12, a34, []⟩], d.b.length ≤ 1000000) ∧ 0 ≤ lt + 1 ∧ lt + 1 ≤ 1000 + (M ++ [(⟨lt + 1, a12, a34, []⟩ : Dg)]).length) := Lib.hid ⟨fun d hd => by
                        rcases List.mem_append.1 hd with hd | hd
                        · exact HOM.out.1 d hd
                        · rw [List.mem_singleton.1 hd]; simp, by have := HOM.out.2.1; omega, by have := HOM.out.2.2; simp; omega⟩
                      clear hC hcn hokm
                      go_wp2_with fail
                      refine HCN.out.mono ?_
                      rintro e W ⟨rfl, rfl⟩
                      go_wp2_with fail
                      refine HC.out.mono ?_
                      rintro e W2 ⟨rfl, hp2⟩
                      have HP2 := Lib.hid hp2
                      clear hp2 HC HCN
                      go_wp2
                      go_roundg (300 - (M.length + 1))
                      case measure => omega
                      case rel => exact ⟨_, _, by simp; omega, by simp, HOM2, HP2⟩
                    · have hmz : ¬ (M.length : Int) < 300 := by omega
                      have hm300 : M.length = 300 := by omega
                      rw [full_send hm300] at hC
                      unfold twoV adr a12 a34 at hC
                      dsimp only at hC
                      have HC := Lib.hid hC; have HCN := Lib.hid hcn; have HOKM := Lib.hid hokm; have HM3 := Lib.hid hm300
                      clear hC hcn hokm hm300 hm2
                      go_wp2_with fail
                      refine HCN.out.mono ?_
                      rintro e W ⟨rfl, rfl⟩
                      go_wp2_with fail
                      refine HC.out.mono ?_
                      rintro e W2 ⟨rfl, hp2⟩
                      have hA := at_p hp2 0 (by omega)
                      have hC := copy_p hp2 HOKM.out (atN M 0)
                      rw [full_copy HM3.out] at hC
                      unfold twoV at hC
                      dsimp only at hC
                      have HA := Lib.hid hA; have HC := Lib.hid hC
                      clear hp2 hA hC f0 f1 t0 t1
                      go_wp2_with fail
                      refine HA.out.mono ?_
                      rintro e W3 ⟨rfl, rfl⟩
                      go_wp2_with fail
                      refine HC.out.mono ?_
                      rintro e W4 ⟨rfl, hp4⟩
                      have HLOW := Lib.hid hp4.low
                      clear hp4
                      go_wp2
                      go_ret
                      exact ⟨rfl, HLOW.out⟩

/-! ### THE ROW's STEP: WRITTEN OUT: LEAVE IT -/
set_option maxRecDepth 100000 in
theorem lifted (os : Os) (started : os.Started) (H : Type) (enc : TypeId × Value → H) :
    ReturnsInHanded {} Try.checked os 4 .any (Rows.netOnceSpec.pre6 enc Try.prog Try.f4 Rows.netOnceRow.domain false) (Rows.netOnceSpec.post enc Try.prog Try.f4 false true false false) := by
  refine returnsInHanded_of_change (C := Try.checked) own started (by kernel_rfl) Try.func4
    (ChangeSpec.witness6 (enc := enc) (C := Try.checked) false ⟨#[], #[.slice none 0 0, .int .u8 0, .slice none 0 0], []⟩ 8 (by kernel_rfl) (by kernel_rfl) (by kernel_rfl) (by kernel_rfl)) ?_
  intro W base args ds gs before hval0 hW hcnd _
  have hval : ∀ (j : Nat) t v, Try.f4.params[j]? = some t → args[j]? = some v → Value.okWide Try.prog W .any base t v := hval0
  have hW' := hW
  obtain ⟨p, q, hA0, hV, rfl, hfz, hnd⟩ := hW
  have hA : DataW.TrodAll enc Try.prog W 0 (fun _ => true) true Try.f4.params.toList args.toList ds p := hA0
  rw [Try.params4] at hA hval
  obtain ⟨v0, vs0, d0, ds0, p0, q0, hargs, rfl, rfl, h0, r0⟩ := trodAll_cons hA
  obtain ⟨v1, vs1, d1, ds1, p1, q1, rfl, rfl, rfl, h1, r1⟩ := trodAll_cons r0
  obtain ⟨v2, vs2, d2, ds2, p2, q2, rfl, rfl, rfl, h2, r2⟩ := trodAll_cons r1
  obtain ⟨rfl, rfl, rfl⟩ := trodAll_nil r2
  obtain rfl : args = #[v0, v1, v2] := by cases args; simp_all
  obtain ⟨rfl, rfl⟩ := trodVars_none hV
  have k0 := h0
  have lt0 : ∀ x ∈ p0, x.block < W.heap.size := by obtain ⟨m, hm⟩ := k0; exact DataW.trod_lt m _ _ _ hm
  obtain ⟨s0, w0⟩ := open_txt (hval 0 34 v0 rfl rfl) h0
  obtain ⟨a1, rfl, rfl, rfl, w1⟩ := open_int Try.underlying5 (hval 1 5 v1 rfl rfl) h1
  have k2 := h2
  have lt2 : ∀ x ∈ p2, x.block < W.heap.size := by obtain ⟨m, hm⟩ := k2; exact DataW.trod_lt m _ _ _ hm
  obtain ⟨s2, w2⟩ := open_dos (hval 2 22 v2 rfl rfl) h2
  clear hA0 hval0
  refine (walk v0 s0 a1 v2 s2 W w0 w1 w2).mono fun e W' ⟨he, bel⟩ => ?_
  subst he
  exact ⟨_, rfl, _, _, _, [], _, [], hW', trodAll_mk1 (shut_bool Try.underlying4 _), (trodAll_cons_mk (Below.trod laidOut (by kernel_rfl) (of_decide_eq_true (by kernel_rfl)) k0 bel lt0) (trodAll_cons_mk (shut_int Try.underlying5 w1) (trodAll_cons_mk (Below.trod laidOut (by kernel_rfl) (of_decide_eq_true (by kernel_rfl)) k2 bel lt2) trodAll_mk0))), rfl, bel.frame _, fun h => by cases h⟩

theorem over : Rows.netOnceRow.holds Try.pinned (OpenSpec.ofChange Rows.netOnceSpec) :=
  OpenClaim.holds_of_wide 4 Try.f4 rfl rfl rfl rfl rfl rfl rfl ⟨rfl, rfl, rfl, rfl, rfl⟩ rfl rfl rfl rfl rfl (by kernel_rfl) Try.func4 (by kernel_rfl)
    (of_decide_eq_true (by kernel_rfl)) (by unfold Func.isWrapper; first | (rw [if_pos (by decide +kernel)]; kernel_rfl) | (rw [if_neg (by decide +kernel)]; exact ⟨rfl, rfl⟩))
    (fun os started H enc _ => lifted os started H enc)

/-- ████ THE STATEMENT ████ -/
theorem proved : Rows.NetOnceSaid := over
#print axioms proved
end Go.Proofs.Ythfdnidcmkjmoaa.netOnce
