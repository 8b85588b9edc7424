/-
  The statement DueNames holds: names are told in order of their times, alike ones by their bytes; each is there, and no other one. Conditions: none beyond the row's own.
-/
import Derived.Deep.RegionHeld
import Derived.BigQuiet
import Derived.StillTailTactics
import Derived.Test.YtahccfljgmleiaaNamesIn
import Derived.Test.YtahccfljgmleiaaRows
import Derived.WalkKit
import Derived.ProofKit
import Derived.OpenShut
import Derived.ShutString
import Derived.ChangeOld
import Derived.Below
namespace Go.Proofs.Ytahccfljgmleiaa.dueNames
open Go.ChangeShapes Go.WideShapes Go.ChangeAt Go.RowKit
open Go.ChangeMaps (open_string shut_string)
set_option linter.unusedVariables false

theorem own : ownKnob Try.prog.godebug = none := by kernel_rfl
theorem laidOut : laidOutB Try.prog = true := by kernel_rfl

open Go.Shelf
def thereB (M : List En) (x : Ky) (r : Nat) : Bool := (M.take r).any fun e => decide (e.1 = x)
theorem thereB_succ {M : List En} (x : Ky) {r : Nat} {e : En} (h : M[r]? = some e) : thereB M x (r + 1) = (thereB M x r || decide (e.1 = x)) := by
  unfold thereB
  rw [List.take_add_one, h]
  simp
theorem str_beq (x y : Ky) : ((str x).toList == (str y).toList) = decide (x = y) := by
  rw [str_list, str_list, Bool.eq_iff_iff, beq_iff_eq, decide_eq_true_eq]
  exact ⟨fun h => Subtype.ext h, fun h => by rw [h]⟩
def timeN (n : Nat) (zs : List Int) (i : Nat) : Int := zs.getD (i % n) 0
set_option maxRecDepth 100000 in
set_option maxHeartbeats 4000000 in
theorem walk (v0 : Value) (s0 : List Ky) (v1 : Value) (s1 : List Int) (w : World) (w0 : IsNms w v0 s0) (w1 : IsTes w v1 s1) :
    Calls Try.prog 7 #[v0, v1] w fun e w' => e = .returned (.bool true) ∧ Below w.heap.size w w' := by
  obtain ⟨A0, c0, rfl, hN, hlc, hcm⟩ := w0
  obtain ⟨A1, n1, c1, rfl, hU, hlc1, hcm1⟩ := w1
  obtain ⟨n0, hn0⟩ : ∃ n0, n0 = s0.length := ⟨_, rfl⟩
  have HL := Lib.hid hn0
  rw [← hn0] at hlc ⊢
  unfold maxLen at hcm hcm1
  have HU := Lib.hid hU; have HN := Lib.hid hN
  have hx : ∀ i, 0 ≤ timeN n1 s1 i ∧ timeN n1 s1 i ≤ 65535 := fun i => by have := hU.bd (i % n1); unfold timeN; omega
  have HX := Lib.hid hx
  have mixed : Try.prog.follows .mixedOrders = true := follows
  clear hU hN hx hn0
  by_cases hbig : n0 ≤ 60
  · have l0 : decide ((60 : Int) < (n0 : Int)) = false := by simp; omega
    by_cases hz : n1 = 0
    · have l1 : ((n1 : Int) == 0) = true := by simp; omega
      go_enter Try.func7, Try.ntmps7
      go_wp2_with fail
      refine (awake_any _).mono ?_
      rintro e w1 ⟨rfl, hb⟩
      have HB := Lib.hid hb; clear hb
      go_wp2
      go_ret
      exact ⟨rfl, HB.out⟩
    · have l1 : ((n1 : Int) == 0) = false := by simp; omega
      go_enter Try.func7, Try.ntmps7
      go_wp2_with fail
      refine (awake_any _).mono ?_
      rintro e w1 ⟨rfl, hb⟩
      have HB1 := Lib.hid hb; clear hb
      go_wp2_with fail
      refine (new_any _).mono ?_
      rintro e w2 ⟨rfl, hD, hb⟩
      obtain ⟨tb, htb⟩ : ∃ tb, tb = w1.heap.size + 1 := ⟨_, rfl⟩
      obtain ⟨bm, hbm⟩ : ∃ bm, bm = w1.heap.size := ⟨_, rfl⟩
      have HB2 : Hid (Below w.heap.size w w2) := Lib.hid (HB1.out.trans (hb.mono HB1.out.size))
      rw [← htb, ← hbm] at hD
      rw [← htb]
      have HBW := Lib.hid (show w.heap.size ≤ bm ∧ w.heap.size ≤ tb ∧ bm ≠ tb by have := HB1.out.size; omega)
      have HD2 := Lib.hid hD
      clear hb hD htb hbm
      go_wp2
      go_loopw [6] (fun i wr => ∃ k : Nat, k ≤ n0 ∧ i = .int .i64 k ∧ Du wr tb bm (tabN s0 (timeN n1 s1) k) ∧ Below w.heap.size w wr) (fun i _ => n0 - (intOf i).toNat)
      case atStart => exact ⟨0, by omega, rfl, HD2.out, HB2.out⟩
      case round =>
        obtain ⟨k, hk, rfl, hD, hB⟩ := hrel
        have HD := Lib.hid hD; have HB := Lib.hid hB; clear hD hB
        by_cases hlt : k < n0
        · obtain ⟨b, off, rfl, hb, hc⟩ := HN.out.cells (by have := HL.out; omega)
          obtain ⟨x, hx⟩ : ∃ x, s0[k]? = some x := ⟨_, List.getElem?_eq_getElem (by have := HL.out; omega)⟩
          have hcx := (cell_below (a := ⟨b, off + k, none⟩) HB.out hb).trans (hc k x hx)
          obtain ⟨b1, off1, rfl, hb1, hc1⟩ := HU.out.cells (by omega)
          obtain ⟨u, hu, hu2⟩ : ∃ u : Nat, (k : Int).tmod (n1 : Int) = (u : Int) ∧ u = k % n1 := ⟨k % n1, by rw [Int.tmod_eq_emod_of_nonneg (by omega)]; omega, rfl⟩
          have hu3 : u < n1 := by rw [hu2]; exact Nat.mod_lt _ (by omega)
          have hu4 : (k : Int) % (n1 : Int) = (u : Int) := by rw [hu2]; omega
          have hcu := (cell_below (a := ⟨b1, off1 + u, none⟩) HB.out hb1).trans (hc1 u hu3)
          obtain ⟨t, ht⟩ : ∃ t, t = s1.getD u 0 := ⟨_, rfl⟩
          have ht3 : 0 ≤ t ∧ t ≤ 255 := by rw [ht]; exact HU.out.bd u
          rw [← ht] at hcu
          have HT2 : Hid (timeN n1 s1 k = t) := Lib.hid (by unfold timeN; rw [← hu2, ht])
          have HKX := Lib.hid hx
          clear hc hc1 ht hu2 hx
          by_cases hsz : (str x).size ≤ 60
          · have l2 : decide ((60 : Int) < ((str x).size : Int)) = false := by simp; omega
            go_wp2_with fail
            go_still_tail 13, (by kernel_rfl)
            change wpList _ _ _ _ _ wr.drew
            have hB3 : Below w.heap.size w wr.drew := HB.out.drew
            have HD3 : Hid (Du wr.drew tb bm (tabN s0 (timeN n1 s1) k)) := Lib.hid (HD.out.after ((Below.refl _ wr).drew))
            have hcx3 : wr.drew.cell? ⟨b, off + k, none⟩ = some (.string (str x)) := hcx
            have hcu3 : wr.drew.cell? ⟨b1, off1 + u, none⟩ = some (.int .u8 t) := hcu
            have HB3 := Lib.hid hB3
            clear hcx hcu hB3
            generalize wr.drew = w3 at *
            go_wp2_with fail
            refine (names_set HX.out k (by omega) x HKX.out t HT2.out tb bm _ HD3.out).mono ?_
            rintro e w4 ⟨rfl, hD, hk⟩
            have HD4 := Lib.hid hD; have HK4 := Lib.hid hk
            clear hD hk hcx3 hcu3
            go_wp2
            go_roundw
            case rel => exact ⟨k + 1, by omega, by go_num, HD4.out, HB3.out.trans (HK4.out.below (fun k e => by have := HBW.out; omega) HB3.out.size)⟩
            case measure => simp [intOf]; omega
          · have l2 : decide ((60 : Int) < ((str x).size : Int)) = true := by simp; omega
            go_wp2
            go_ret
            exact ⟨rfl, HB.out⟩
        · obtain rfl : k = n0 := by omega
          have hM := nt (ks := s0) HX.out k hbig
          have HM := Lib.hid hM
          obtain ⟨M, hMM⟩ : ∃ M, M = tabN s0 (timeN n1 s1) k := ⟨_, rfl⟩
          rw [← hMM] at HD HM
          clear hM hMM
          go_wp2_with fail
          refine (names_any tb bm M wr HD.out).mono ?_
          rintro e w5 ⟨v5, rfl, ⟨A5, c5, rfl, hc5, hcs⟩, hb5⟩
          have HD5 := Lib.hid (HD.out.after hb5)
          have HB5 := Lib.hid (HB.out.trans (hb5.mono HB.out.size))
          have HC5 := Lib.hid hcs
          obtain ⟨ln, hln⟩ : ∃ ln, ln = (namesL M).length := ⟨_, rfl⟩
          have HLN := Lib.hid hln
          have hln2 : ln ≤ k := by rw [hln]; unfold namesL; rw [List.length_map]; exact HM.out.len
          rw [← hln] at hc5 ⊢
          clear hb5 hcs hln
          go_wp2
          go_loopw [8] (fun i wx => ∃ m : Nat, (m + 1 ≤ ln ∨ m = 0) ∧ i = .int .i64 ((m : Int) + 1) ∧ (∃ q, wx = w5.drewN q)) (fun i _ => ln + 1 - (intOf i).toNat)
          case atStart => exact ⟨0, .inr rfl, rfl, 0, rfl⟩
          case round =>
            obtain ⟨m, hm2, rfl, q, rfl⟩ := hrel
            have HDq : Hid (Du (w5.drewN q) tb bm M) := Lib.hid (HD5.out.after (below_drewN' (Below.refl _ _) q))
            by_cases hjl : m + 1 < ln
            · have hlM : M.length = ln := by rw [HLN.out]; unfold namesL; rw [List.length_map]
              obtain ⟨e1, he1⟩ : ∃ e1, M[m]? = some e1 := ⟨_, List.getElem?_eq_getElem (by omega)⟩
              obtain ⟨e2, he2⟩ : ∃ e2, M[m + 1]? = some e2 := ⟨_, List.getElem?_eq_getElem (by omega)⟩
              have hbf : bef e1 e2 := by
                obtain ⟨h1, rfl⟩ := List.getElem?_eq_some_iff.1 he1
                obtain ⟨h2, rfl⟩ := List.getElem?_eq_some_iff.1 he2
                exact List.pairwise_iff_getElem.1 HM.out.tbl.sorted m (m + 1) h1 h2 (by omega)
              have hm1 : e1 ∈ M := List.mem_of_getElem? he1
              have hm3 : e2 ∈ M := List.mem_of_getElem? he2
              have ht1 := timeOf_mem HM.out.tbl (x := e1.1) (t := e1.2) hm1
              have ht2 := timeOf_mem HM.out.tbl (x := e2.1) (t := e2.2) hm3
              have hi1 : inL M e1.1 = true := inL_iff.2 ⟨_, hm1⟩
              have hi2 : inL M e2.1 = true := inL_iff.2 ⟨_, hm3⟩
              obtain ⟨g, rfl, _, hg, hcs⟩ := HC5.out (by unfold namesL; intro h; have := congrArg List.length h; simp at this; rw [this] at hlM; simp at hlM; omega)
              have cc1 : (w5.drewN q).cell? ⟨g, m, none⟩ = some (.string (str e1.1)) := hcs m e1.1 (by unfold namesL; rw [List.getElem?_map, he1]; rfl)
              have cc2 : (w5.drewN q).cell? ⟨g, m + 1, none⟩ = some (.string (str e2.1)) := hcs (m + 1) e2.1 (by unfold namesL; rw [List.getElem?_map, he2]; rfl)
              have HBF := Lib.hid hbf
              have HTI := Lib.hid (And.intro (And.intro ht1 ht2) (And.intro hi1 hi2))
              have b1 := HM.out.tbl.times e1 hm1
              have b2 := HM.out.tbl.times e2 hm3
              have d1 : decide (e2.2 < e1.2) = false := by rcases hbf with h | ⟨h, _⟩ <;> simp <;> omega
              clear hbf hm1 hm3 ht1 ht2 hi1 hi2 hcs he1 he2
              go_wp2_with fail
              refine (at_any tb bm M e1.1 _ HDq.out).mono ?_
              rintro e v6 ⟨rfl, rfl⟩
              rw [HTI.out.1.1, HTI.out.2.1]
              go_wp2_with fail
              refine (at_any tb bm M e2.1 _ HDq.out).mono ?_
              rintro e v7 ⟨rfl, rfl⟩
              rw [HTI.out.1.2, HTI.out.2.2]
              by_cases heq : e1.2 = e2.2
              · have d2 : (e1.2 == e2.2) = true := by simp [heq]
                have hbl : Op.bytesLess (str e1.1).toList (str e2.1).toList = true := by
                  rw [str_list, str_list, bytesLess_eq, decide_eq_true_eq]
                  rcases HBF.out with h | ⟨_, h⟩
                  · omega
                  · exact h
                clear heq
                have cw1 : w5.cell? ⟨g, m, none⟩ = some (.string (str e1.1)) := cc1
                have cw2 : w5.cell? ⟨g, m + 1, none⟩ = some (.string (str e2.1)) := cc2
                have hmb : m ≤ 60 := by omega
                have hml : m < ln := by omega
                have hml2 : (m : Int) < (ln : Int) := by omega
                have hml3 : (m : Int) + 1 < (ln : Int) := by omega
                have hml4 : (0 : Int) ≤ (m : Int) := by omega
                have hwr : IntKind.i64.wrap (m : Int) = (m : Int) := by
                  simp [IntKind.wrap, IntKind.signed, IntKind.bits] <;> omega
                go_wp2_with fail
                go_quiet (fail)
                go_wp2
                go_roundw
                case rel => exact ⟨m + 1, .inl (by omega), by go_num, _, rfl⟩
                case measure => simp [intOf]; omega
              · have d2 : (e1.2 == e2.2) = false := by simp [heq]
                clear heq
                go_wp2_with fail
                go_quiet (fail)
                go_wp2
                go_roundw
                case rel => exact ⟨m + 1, .inl (by omega), by go_num, _, rfl⟩
                case measure => simp [intOf]; omega
            · have d3 : decide ((m : Int) + 1 < (ln : Int)) = false := by simp; omega
              go_wp2
              go_loopw [13] (fun i wx => ∃ p : Nat, p ≤ k ∧ i = .int .i64 p ∧ (∃ q, wx = w5.drewN q)) (fun i _ => k - (intOf i).toNat)
              case atStart => exact ⟨0, by omega, rfl, q, rfl⟩
              case round =>
                obtain ⟨p, hp, rfl, q2, rfl⟩ := hrel
                by_cases hpk : p < k
                · obtain ⟨x, hx⟩ : ∃ x, s0[p]? = some x := ⟨_, List.getElem?_eq_getElem (by have := HL.out; omega)⟩
                  obtain ⟨b, off, rfl, hb, hc⟩ := HN.out.cells (by have := HL.out; omega)
                  have HBB := Lib.hid hb
                  have HCX : Hid (w5.cell? ⟨b, off + p, none⟩ = some (.string (str x))) := Lib.hid ((cell_below (a := ⟨b, off + p, none⟩) HB5.out hb).trans (hc p x hx))
                  have HIN := Lib.hid (HM.out.has p x hpk hx)
                  clear hb hc hx
                  go_wp2
                  go_loopw [14, 15] (fun bb i wx => ∃ r : Nat, r ≤ ln ∧ i = .int .i64 r ∧ bb = .bool (thereB M x r) ∧ (∃ q, wx = w5.drewN q)) (fun _ i _ => ln - (intOf i).toNat)
                  case atStart => exact ⟨0, by omega, rfl, rfl, q2, rfl⟩
                  case round =>
                    obtain ⟨r, hr, rfl, rfl, q3, rfl⟩ := hrel
                    have hlM : M.length = ln := by rw [HLN.out]; unfold namesL; rw [List.length_map]
                    by_cases hrl : r < ln
                    · obtain ⟨e1, he1⟩ : ∃ e1, M[r]? = some e1 := ⟨_, List.getElem?_eq_getElem (by omega)⟩
                      obtain ⟨g, rfl, _, hg, hcs⟩ := HC5.out (by unfold namesL; intro h; have := congrArg List.length h; simp at this; rw [this] at hlM; simp at hlM; omega)
                      have cw1 : w5.cell? ⟨g, r, none⟩ = some (.string (str e1.1)) := hcs r e1.1 (by unfold namesL; rw [List.getElem?_map, he1]; rfl)
                      have cw2 := HCX.out
                      have hth := thereB_succ x he1
                      have HTH := Lib.hid hth
                      have hml2 : (r : Int) < (ln : Int) := by omega
                      have hml4 : (0 : Int) ≤ (r : Int) := by omega
                      clear hcs he1 hth
                      by_cases d5 : thereB M x r = true
                      · rw [d5]
                        go_wp2_with fail
                        refine wp_region_held_drew (S := fun W => W.cell? ⟨g, r, none⟩ = some (.string (str e1.1)) ∧ W.cell? ⟨b, off + p, none⟩ = some (.string (str x))) (by kernel_rfl) ⟨cw1, cw2⟩ (fun hHeld => ?_)
                        refine wpAnyH_take (i := 0) (oi := _) (v := ?_) rfl (by kernel_rfl) (by kernel_rfl) (by kernel_rfl) (fun _ _ _ h => h) (Or.inl ⟨by rfl, ?_⟩) (by assumption) ?_
                        case refine_2 => intro w hSw; (try dsimp only at hSw); go_simp; first | done | (with_reducible rfl)
                        try simp only [Act.put, List.getElem_toArray, List.getElem_cons_zero, List.setIfInBounds_toArray, List.set_cons_zero, List.set_cons_succ]
                        refine wpAnyH_take (i := 1) (oi := _) (v := ?_) rfl (by kernel_rfl) (by kernel_rfl) (by kernel_rfl) (fun _ _ _ h => h) (Or.inl ⟨by rfl, ?_⟩) (by assumption) ?_
                        case refine_2 => intro w hSw; (try dsimp only at hSw); go_simp; first | done | (with_reducible rfl)
                        try simp only [Act.put, List.getElem_toArray, List.getElem_cons_zero, List.getElem_cons_succ, List.setIfInBounds_toArray, List.set_cons_zero, List.set_cons_succ]
                        refine wpAnyH_take (i := 2) (oi := _) (v := undef) rfl (by kernel_rfl) (by kernel_rfl) (by kernel_rfl) (fun _ _ _ h => h) (Or.inr ⟨by rfl, rfl⟩) (by assumption) ?_
                        try simp only [Act.put, List.getElem_toArray, List.getElem_cons_zero, List.getElem_cons_succ, List.setIfInBounds_toArray, List.set_cons_zero, List.set_cons_succ]
                        refine wpAnyH_take (i := 3) (oi := _) (v := undef) rfl (by kernel_rfl) (by kernel_rfl) (by kernel_rfl) (fun _ _ _ h => h) (Or.inr ⟨by rfl, rfl⟩) (by assumption) ?_
                        try simp only [Act.put, List.getElem_toArray, List.getElem_cons_zero, List.getElem_cons_succ, List.setIfInBounds_toArray, List.set_cons_zero, List.set_cons_succ]
                        refine wpAnyH_take (i := 4) (oi := _) (v := undef) rfl (by kernel_rfl) (by kernel_rfl) (by kernel_rfl) (fun _ _ _ h => h) (Or.inr ⟨by rfl, rfl⟩) (by assumption) ?_
                        try simp only [Act.put, List.getElem_toArray, List.getElem_cons_zero, List.getElem_cons_succ, List.setIfInBounds_toArray, List.set_cons_zero, List.set_cons_succ]
                        refine wpAnyH_take (i := 5) (oi := _) (v := undef) rfl (by kernel_rfl) (by kernel_rfl) (by kernel_rfl) (fun _ _ _ h => h) (Or.inr ⟨by rfl, rfl⟩) (by assumption) ?_
                        try simp only [Act.put, List.getElem_toArray, List.getElem_cons_zero, List.getElem_cons_succ, List.setIfInBounds_toArray, List.set_cons_zero, List.set_cons_succ]
                        refine wpAnyH_take (i := 6) (oi := _) (v := undef) rfl (by kernel_rfl) (by kernel_rfl) (by kernel_rfl) (fun _ _ _ h => h) (Or.inr ⟨by rfl, rfl⟩) (by assumption) ?_
                        try simp only [Act.put, List.getElem_toArray, List.getElem_cons_zero, List.getElem_cons_succ, List.setIfInBounds_toArray, List.set_cons_zero, List.set_cons_succ]
                        refine wpAnyH_take (i := 7) (oi := _) (v := undef) rfl (by kernel_rfl) (by kernel_rfl) (by kernel_rfl) (fun _ _ _ h => h) (Or.inr ⟨by rfl, rfl⟩) (by assumption) ?_
                        try simp only [Act.put, List.getElem_toArray, List.getElem_cons_zero, List.getElem_cons_succ, List.setIfInBounds_toArray, List.set_cons_zero, List.set_cons_succ]
                        refine wpAnyH_take (i := 8) (oi := _) (v := undef) rfl (by kernel_rfl) (by kernel_rfl) (by kernel_rfl) (fun _ _ _ h => h) (Or.inr ⟨by rfl, rfl⟩) (by assumption) ?_
                        try simp only [Act.put, List.getElem_toArray, List.getElem_cons_zero, List.getElem_cons_succ, List.setIfInBounds_toArray, List.set_cons_zero, List.set_cons_succ]
                        refine wpAnyH_take (i := 9) (oi := _) (v := undef) rfl (by kernel_rfl) (by kernel_rfl) (by kernel_rfl) (fun _ _ _ h => h) (Or.inr ⟨by rfl, rfl⟩) (by assumption) ?_
                        try simp only [Act.put, List.getElem_toArray, List.getElem_cons_zero, List.getElem_cons_succ, List.setIfInBounds_toArray, List.set_cons_zero, List.set_cons_succ]
                        refine wpAnyH_take (i := 10) (oi := _) (v := undef) rfl (by kernel_rfl) (by kernel_rfl) (by kernel_rfl) (fun _ _ _ h => h) (Or.inr ⟨by rfl, rfl⟩) (by assumption) ?_
                        try simp only [Act.put, List.getElem_toArray, List.getElem_cons_zero, List.getElem_cons_succ, List.setIfInBounds_toArray, List.set_cons_zero, List.set_cons_succ]
                        refine wpAnyH_take (i := 11) (oi := _) (v := ?_) rfl (by kernel_rfl) (by kernel_rfl) (by kernel_rfl) (fun _ _ _ h => h) (Or.inl ⟨by rfl, ?_⟩) (by assumption) ?_
                        case refine_2 => intro w hSw; (try dsimp only at hSw); go_simp; first | done | (with_reducible rfl)
                        try simp only [Act.put, List.getElem_toArray, List.getElem_cons_zero, List.getElem_cons_succ, List.setIfInBounds_toArray, List.set_cons_zero, List.set_cons_succ]
                        refine wpAnyH_take (i := 12) (oi := _) (v := ?_) rfl (by kernel_rfl) (by kernel_rfl) (by kernel_rfl) (fun _ _ _ h => h) (Or.inl ⟨by rfl, ?_⟩) (by assumption) ?_
                        case refine_2 => intro w hSw; (try dsimp only at hSw); go_simp; first | done | (with_reducible rfl)
                        try simp only [Act.put, List.getElem_toArray, List.getElem_cons_zero, List.getElem_cons_succ, List.setIfInBounds_toArray, List.set_cons_zero, List.set_cons_succ]
                        refine wpAnyH_done (by kernel_rfl) ?_ _
                        go_wp2
                        go_roundw
                        case rel => exact ⟨r + 1, by omega, by go_num, by rw [HTH.out, d5]; rfl, _, rfl⟩
                        case measure => simp [intOf]; omega
                      · have d6 : thereB M x r = false := by simpa using d5
                        have d7 : ((str e1.1).toList == (str x).toList) = thereB M x (r + 1) := by rw [HTH.out, d6, Bool.false_or]; exact str_beq _ _
                        clear d5
                        rw [d6]
                        go_wp2_with fail
                        refine wp_region_held_drew (S := fun W => W.cell? ⟨g, r, none⟩ = some (.string (str e1.1)) ∧ W.cell? ⟨b, off + p, none⟩ = some (.string (str x))) (by kernel_rfl) ⟨cw1, cw2⟩ (fun hHeld => ?_)
                        refine wpAnyH_take (i := 0) (oi := _) (v := ?_) rfl (by kernel_rfl) (by kernel_rfl) (by kernel_rfl) (fun _ _ _ h => h) (Or.inl ⟨by rfl, ?_⟩) (by assumption) ?_
                        case refine_2 => intro w hSw; (try dsimp only at hSw); go_simp; first | done | (with_reducible rfl)
                        try simp only [Act.put, List.getElem_toArray, List.getElem_cons_zero, List.setIfInBounds_toArray, List.set_cons_zero, List.set_cons_succ]
                        refine wpAnyH_take (i := 1) (oi := _) (v := ?_) rfl (by kernel_rfl) (by kernel_rfl) (by kernel_rfl) (fun _ _ _ h => h) (Or.inl ⟨by rfl, ?_⟩) (by assumption) ?_
                        case refine_2 => intro w hSw; (try dsimp only at hSw); go_simp; first | done | (with_reducible rfl)
                        try simp only [Act.put, List.getElem_toArray, List.getElem_cons_zero, List.getElem_cons_succ, List.setIfInBounds_toArray, List.set_cons_zero, List.set_cons_succ]
                        refine wpAnyH_take (i := 2) (oi := _) (v := ?_) rfl (by kernel_rfl) (by kernel_rfl) (by kernel_rfl) (fun _ _ _ h => h) (Or.inl ⟨by rfl, ?_⟩) (by assumption) ?_
                        case refine_2 => intro w hSw; (try dsimp only at hSw); go_simp; first | done | (with_reducible rfl)
                        try simp only [Act.put, List.getElem_toArray, List.getElem_cons_zero, List.getElem_cons_succ, List.setIfInBounds_toArray, List.set_cons_zero, List.set_cons_succ]
                        refine wpAnyH_take (i := 3) (oi := _) (v := ?_) rfl (by kernel_rfl) (by kernel_rfl) (by kernel_rfl) (fun _ _ _ h => h) (Or.inl ⟨by rfl, ?_⟩) (by assumption) ?_
                        case refine_2 => intro w hSw; (try dsimp only at hSw); go_simp; first | done | (with_reducible rfl)
                        try simp only [Act.put, List.getElem_toArray, List.getElem_cons_zero, List.getElem_cons_succ, List.setIfInBounds_toArray, List.set_cons_zero, List.set_cons_succ]
                        refine wpAnyH_take (i := 4) (oi := _) (v := ?_) rfl (by kernel_rfl) (by kernel_rfl) (by kernel_rfl) (fun _ _ _ h => h) (Or.inl ⟨by rfl, ?_⟩) (by assumption) ?_
                        case refine_2 => intro w hSw; (try dsimp only at hSw); go_simp; first | done | (with_reducible rfl)
                        try simp only [Act.put, List.getElem_toArray, List.getElem_cons_zero, List.getElem_cons_succ, List.setIfInBounds_toArray, List.set_cons_zero, List.set_cons_succ]
                        refine wpAnyH_take (i := 5) (oi := _) (v := ?_) rfl (by kernel_rfl) (by kernel_rfl) (by kernel_rfl) (fun _ _ _ h => h) (Or.inl ⟨by rfl, ?_⟩) (by assumption) ?_
                        case refine_2 => intro w hSw; (try dsimp only at hSw); go_simp; first | done | (with_reducible rfl)
                        try simp only [Act.put, List.getElem_toArray, List.getElem_cons_zero, List.getElem_cons_succ, List.setIfInBounds_toArray, List.set_cons_zero, List.set_cons_succ]
                        refine wpAnyH_take (i := 6) (oi := _) (v := ?_) rfl (by kernel_rfl) (by kernel_rfl) (by kernel_rfl) (fun _ _ _ h => h) (Or.inl ⟨by rfl, ?_⟩) (by assumption) ?_
                        case refine_2 => intro w hSw; (try dsimp only at hSw); go_simp; first | done | (with_reducible rfl)
                        try simp only [Act.put, List.getElem_toArray, List.getElem_cons_zero, List.getElem_cons_succ, List.setIfInBounds_toArray, List.set_cons_zero, List.set_cons_succ]
                        refine wpAnyH_take (i := 7) (oi := _) (v := ?_) rfl (by kernel_rfl) (by kernel_rfl) (by kernel_rfl) (fun _ _ _ h => h) (Or.inl ⟨by rfl, ?_⟩) (by assumption) ?_
                        case refine_2 => intro w hSw; (try dsimp only at hSw); go_simp; first | done | (with_reducible rfl)
                        try simp only [Act.put, List.getElem_toArray, List.getElem_cons_zero, List.getElem_cons_succ, List.setIfInBounds_toArray, List.set_cons_zero, List.set_cons_succ]
                        refine wpAnyH_take (i := 8) (oi := _) (v := ?_) rfl (by kernel_rfl) (by kernel_rfl) (by kernel_rfl) (fun _ _ _ h => h) (Or.inl ⟨by rfl, ?_⟩) (by assumption) ?_
                        case refine_2 => intro w hSw; (try dsimp only at hSw); go_simp; first | done | (with_reducible rfl)
                        try simp only [Act.put, List.getElem_toArray, List.getElem_cons_zero, List.getElem_cons_succ, List.setIfInBounds_toArray, List.set_cons_zero, List.set_cons_succ]
                        refine wpAnyH_take (i := 9) (oi := _) (v := ?_) rfl (by kernel_rfl) (by kernel_rfl) (by kernel_rfl) (fun _ _ _ h => h) (Or.inl ⟨by rfl, ?_⟩) (by assumption) ?_
                        case refine_2 => intro w hSw; (try dsimp only at hSw); go_simp; first | done | (with_reducible rfl)
                        try simp only [Act.put, List.getElem_toArray, List.getElem_cons_zero, List.getElem_cons_succ, List.setIfInBounds_toArray, List.set_cons_zero, List.set_cons_succ]
                        refine wpAnyH_take (i := 10) (oi := _) (v := ?_) rfl (by kernel_rfl) (by kernel_rfl) (by kernel_rfl) (fun _ _ _ h => h) (Or.inl ⟨by rfl, ?_⟩) (by assumption) ?_
                        case refine_2 => intro w hSw; (try dsimp only at hSw); go_simp; first | done | (with_reducible rfl)
                        try simp only [Act.put, List.getElem_toArray, List.getElem_cons_zero, List.getElem_cons_succ, List.setIfInBounds_toArray, List.set_cons_zero, List.set_cons_succ]
                        refine wpAnyH_take (i := 11) (oi := _) (v := ?_) rfl (by kernel_rfl) (by kernel_rfl) (by kernel_rfl) (fun _ _ _ h => h) (Or.inl ⟨by rfl, ?_⟩) (by assumption) ?_
                        case refine_2 => intro w hSw; (try dsimp only at hSw); go_simp; first | done | (with_reducible rfl)
                        try simp only [Act.put, List.getElem_toArray, List.getElem_cons_zero, List.getElem_cons_succ, List.setIfInBounds_toArray, List.set_cons_zero, List.set_cons_succ]
                        refine wpAnyH_take (i := 12) (oi := _) (v := ?_) rfl (by kernel_rfl) (by kernel_rfl) (by kernel_rfl) (fun _ _ _ h => h) (Or.inl ⟨by rfl, ?_⟩) (by assumption) ?_
                        case refine_2 => intro w hSw; (try dsimp only at hSw); go_simp; first | done | (with_reducible rfl)
                        try simp only [Act.put, List.getElem_toArray, List.getElem_cons_zero, List.getElem_cons_succ, List.setIfInBounds_toArray, List.set_cons_zero, List.set_cons_succ]
                        refine wpAnyH_done (by kernel_rfl) ?_ _
                        go_wp2
                        go_roundw
                        case rel => exact ⟨r + 1, by omega, by go_num, by first | rfl | (rw [d7]), _, rfl⟩
                        case measure => simp [intOf]; omega
                    · obtain rfl : r = ln := by omega
                      have d7 : thereB M x r = true := by unfold thereB; rw [List.take_of_length_le (by omega)]; exact HIN.out
                      go_wp2
                      go_roundw
                      case rel => exact ⟨p + 1, by omega, by go_num, q3, rfl⟩
                      case measure => simp [intOf]; omega
                · obtain rfl : p = k := by omega
                  have d8 : decide ((ln : Int) ≤ (p : Int)) = true := by simp; omega
                  go_wp2
                  go_ret
                  exact ⟨rfl, below_drewN' HB5.out _⟩
  · have l0 : decide ((60 : Int) < (n0 : Int)) = true := by simp; omega
    go_enter Try.func7, Try.ntmps7
    go_wp2_with fail
    refine (awake_any _).mono ?_
    rintro e w1 ⟨rfl, hb⟩
    have HB := Lib.hid hb; clear hb
    go_wp2
    go_ret
    exact ⟨rfl, HB.out⟩

/-! ### THE ROW's STEP: WRITTEN OUT: LEAVE IT -/
set_option maxRecDepth 100000 in
theorem lifted (os : Os) (started : os.Started) (H : Type) (enc : TypeId × Value → H) :
    ReturnsInHanded {} Try.checked os 7 .any (Rows.dueNamesSpec.pre6 enc Try.prog Try.f7 Rows.dueNamesRow.domain false) (Rows.dueNamesSpec.post enc Try.prog Try.f7 false true false false) := by
  refine returnsInHanded_of_change (C := Try.checked) own started (by kernel_rfl) Try.func7
    (ChangeSpec.witness6 (enc := enc) (C := Try.checked) false ⟨#[], #[.slice none 0 0, .slice none 0 0], []⟩ 8 (by kernel_rfl) (by kernel_rfl) (by kernel_rfl) (by kernel_rfl)) ?_
  intro W base args ds gs before hval0 hW hcnd _
  have hval : ∀ (j : Nat) t v, Try.f7.params[j]? = some t → args[j]? = some v → Value.okWide Try.prog W .any base t v := hval0
  have hW' := hW
  obtain ⟨p, q, hA0, hV, rfl, hfz, hnd⟩ := hW
  have hA : DataW.TrodAll enc Try.prog W 0 (fun _ => true) true Try.f7.params.toList args.toList ds p := hA0
  rw [Try.params7] at hA hval
  obtain ⟨v0, vs0, d0, ds0, p0, q0, hargs, rfl, rfl, h0, r0⟩ := trodAll_cons hA
  obtain ⟨v1, vs1, d1, ds1, p1, q1, rfl, rfl, rfl, h1, r1⟩ := trodAll_cons r0
  obtain ⟨rfl, rfl, rfl⟩ := trodAll_nil r1
  obtain rfl : args = #[v0, v1] := by cases args; simp_all
  obtain ⟨rfl, rfl⟩ := trodVars_none hV
  have k0 := h0
  have lt0 : ∀ x ∈ p0, x.block < W.heap.size := by obtain ⟨m, hm⟩ := k0; exact DataW.trod_lt m _ _ _ hm
  obtain ⟨s0, w0⟩ := open_nms (hval 0 47 v0 rfl rfl) h0
  have k1 := h1
  have lt1 : ∀ x ∈ p1, x.block < W.heap.size := by obtain ⟨m, hm⟩ := k1; exact DataW.trod_lt m _ _ _ hm
  obtain ⟨s1, w1⟩ := open_tes (hval 1 46 v1 rfl rfl) h1
  clear hA0 hval0
  refine (walk v0 s0 v1 s1 W w0 w1).mono fun e W' ⟨he, bel⟩ => ?_
  subst he
  exact ⟨_, rfl, _, _, _, [], _, [], hW', trodAll_mk1 (shut_bool Try.underlying4 _), (trodAll_cons_mk (Below.trod laidOut (by kernel_rfl) (of_decide_eq_true (by kernel_rfl)) k0 bel lt0) (trodAll_cons_mk (Below.trod laidOut (by kernel_rfl) (of_decide_eq_true (by kernel_rfl)) k1 bel lt1) trodAll_mk0)), rfl, bel.frame _, fun h => by cases h⟩

theorem over : Rows.dueNamesRow.holds Try.pinned (OpenSpec.ofChange Rows.dueNamesSpec) :=
  OpenClaim.holds_of_wide 7 Try.f7 rfl rfl rfl rfl rfl rfl rfl ⟨rfl, rfl, rfl, rfl, rfl⟩ rfl rfl rfl rfl rfl (by kernel_rfl) Try.func7 (by kernel_rfl)
    (of_decide_eq_true (by kernel_rfl)) (by unfold Func.isWrapper; first | (rw [if_pos (by decide +kernel)]; kernel_rfl) | (rw [if_neg (by decide +kernel)]; exact ⟨rfl, rfl⟩))
    (fun os started H enc _ => lifted os started H enc)

/-- ████ THE STATEMENT ████ -/
theorem proved : Rows.DueNamesSaid := over
#print axioms proved
end Go.Proofs.Ytahccfljgmleiaa.dueNames
