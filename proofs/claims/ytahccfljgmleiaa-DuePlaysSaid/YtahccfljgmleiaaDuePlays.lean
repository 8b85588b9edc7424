/-
  DuePlays: whatever timers are set, dropped and told as due, some set anew meanwhile, each answer and all timers behind each step are what the document says (60 steps). Conditions: none.
-/
import Derived.Test.YtahccfljgmleiaaPlw
import Derived.Test.YtahccfljgmleiaaRows
import Derived.WalkKit
import Derived.ProofKit
import Derived.OpenShut
import Derived.ShutString
import Derived.ChangeOld
import Derived.Below
namespace Go.Proofs.Ytahccfljgmleiaa.duePlays
open Go.ChangeShapes Go.WideShapes Go.ChangeAt Go.RowKit
open Go.ChangeMaps (open_string shut_string)
set_option linter.unusedVariables false

theorem own : ownKnob Try.prog.godebug = none := by kernel_rfl
theorem laidOut : laidOutB Try.prog = true := by kernel_rfl

attribute [local go_sem] Oper.semAt_some
open Go.Shelf
set_option maxRecDepth 100000 in
set_option maxHeartbeats 4000000 in
theorem walk (v0 : Value) (s0 : List Step) (w : World) (w0 : IsDos w v0 s0) :
    Calls Try.prog 3 #[v0] w fun e w' => e = .returned (.bool true) ∧ Below w.heap.size w w' := by
  have HS := Lib.hid w0
  obtain ⟨A, c, rfl, hlc, hcm, hsp⟩ := w0
  obtain ⟨n, hn⟩ : ∃ n, n = s0.length := ⟨_, rfl⟩
  have HL := Lib.hid hn
  have HSP := Lib.hid hsp
  rw [← hn] at hlc ⊢
  unfold maxLen at hcm
  have mixed : Try.prog.follows .mixedOrders = true := follows
  clear hn hsp
  refine (callsIn_wide (n := 8)).1 ?_
  refine callsIn_of_wp_marks Try.func3 rfl trivial ?_ rfl
  refine wpIn_wide.2 ?_
  simp only [Try.ntmps3, List.size_toArray, List.length_cons, List.length_nil, Nat.reduceSub, Nat.reduceAdd, Array.replicate_succ, Array.replicate_zero, List.push_toArray, List.append_toArray, List.nil_append, List.cons_append]
  go_wp2_with fail
  refine (awake_any _).mono ?_
  rintro e w1 ⟨rfl, hb⟩
  have h0 : Boxed w1 w.heap.size 4 (.bool false) := bx_after (Boxed.new w 4 (.bool false)) hb (by simp)
  have HB1 : Hid (Below w.heap.size w w1) := Lib.hid (((Below.refl _ w).alloc (Nat.le_refl _) _).trans (hb.mono (by simp)))
  have HC1 := Lib.hid h0
  clear hb h0
  obtain ⟨sm, hsm⟩ : ∃ sm, smallL s0 = sm := ⟨_, rfl⟩
  have hsc := small_any _ s0 w1 (HS.out.below HB1.out) sm hsm
  rw [← HL.out] at hsc
  have HSC := Lib.hid hsc
  clear hsc hsm
  go_wp2_with fail
  refine HSC.out.mono ?_
  rintro e w2 ⟨rfl, rfl⟩
  clear HSC
  cases sm with
  | false =>
    have c0 := HC1.out.cell
    have f0 := HC1.out.frozen
    have c9 := (HC1.out.set (.bool true)).cell
    go_wp2
    exact ⟨.bool true, by simp [results, Try.results3, go_sem, c9], rfl, HB1.out.setCell (p := ⟨w.heap.size, 0, none⟩) (Nat.le_refl _) _⟩
  | true =>
    go_wp2_with fail
    refine (new_any _).mono ?_
    rintro e w3 ⟨rfl, hD, hb⟩
    have h31 : w1.heap.size + 1 < w3.heap.size := hD.lt.1
    obtain ⟨tb, htb⟩ : ∃ tb, tb = w1.heap.size + 1 := ⟨_, rfl⟩
    obtain ⟨bm, hbm⟩ : ∃ bm, bm = w1.heap.size := ⟨_, rfl⟩
    rw [← htb, ← hbm] at hD
    rw [← htb]
    have HD3 := Lib.hid hD
    have HB3 : Hid (Below w.heap.size w w3) := Lib.hid (HB1.out.trans (hb.mono HB1.out.size))
    have HC3 := Lib.hid (bx_after HC1.out hb HC1.out.lt)
    have HE : Hid (bm + 1 = tb ∧ w.heap.size < bm ∧ tb < w3.heap.size) := Lib.hid ⟨by omega, by have := HC1.out.lt; omega, by omega⟩
    clear hb hD htb hbm h31 HB1 HC1 HS
    go_wp2
    obtain ⟨bt, hbt⟩ : ∃ bt, bt = w3.heap.size := ⟨_, rfl⟩
    obtain ⟨rb, hrb⟩ : ∃ rb, rb = w3.heap.size + 1 := ⟨_, rfl⟩
    obtain ⟨br, hbr⟩ : ∃ br, br = w3.heap.size + 1 + 1 := ⟨_, rfl⟩
    rw [← hbr, ← hrb, ← hbt]
    obtain ⟨W0, hW0⟩ : ∃ W0, W0 = ((w3.alloc (.cells #[.pointer (some ⟨tb, 0, none⟩)] 25)).alloc (.cells #[.slice none 0 0] 30)).alloc (.cells #[.pointer (some ⟨rb, 0, none⟩)] 27) := ⟨_, rfl⟩
    rw [← hW0]
    have HPL : Hid (Pl w tb bm rb [] [] (osA w.heap.size bt br tb rb []) W0) := Lib.hid (by
      subst hW0 hbt hrb hbr
      exact pl_start HB3.out HD3.out HC3.out HE.out.2.1)
    have HE2 : Hid (w.heap.size ≤ bt ∧ w.heap.size ≤ rb ∧ w.heap.size ≤ br) := Lib.hid (by have := HE.out; omega)
    clear hW0 hbt hrb hbr
    refine wp_loop (fun a1 wr => ∃ (k : Nat) (L : List En) (Ds : List Nat) (u5 : Value), (u5 = .int .i64 k ∧ k ≤ n ∧ k ≤ 60 ∧ MarksOk w.heap.size Ds ∧ Pl w tb bm rb L L (osA w.heap.size bt br tb rb Ds) wr) ∧ ∃ u6 u7 u8 u9 u10 u11 u12 u13 u22 u23 u24 u25 u26 u27 u28 u29 u30 u31 u32 u33 u34 u35 u36 u37 u38 u39 u40 u41 u42 u43 u44 u45 u46 u47 u48 u49 u50 u51 u52 u53 u54 u55 u56 u57 u58 u59 u60 u61 u62 u63 u64 u65 u66 u67 u68 u69 u70 u71 u72 u73 u74 u75 u76 u77 u78 u79 u80 u81 u82 u83 u84 u85 u86 u87 u88 u89 u90 u91 u92 u93 u94 u95 u96 u97 u98 u99 u100 u101 u102 u103 u104 u105 u106 u107 u108 u109 u110 u111 u112 u113 u114 u115 u116 u117 u118 u119 u120 u121 u122 u123 u124 u125 u126 u127 u128 u129 u130 u131 u132 u133 u134 u135 u136 u137 u138 u139 u140 : Value, a1 = { tmps := #[.slice A n c, undef, .pointer (some ⟨w.heap.size, 0, none⟩), .pointer (some ⟨bt, 0, none⟩), .pointer (some ⟨br, 0, none⟩), u5, u6, u7, u8, u9, u10, u11, u12, u13, .bool true, .bool false, .slice A n c, .bool true, .bool false, .pointer (some ⟨tb, 0, none⟩), .agg #[.slice none 0 0], .pointer (some ⟨rb, 0, none⟩), u22, u23, u24, u25, u26, u27, u28, u29, u30, u31, u32, u33, u34, u35, u36, u37, u38, u39, u40, u41, u42, u43, u44, u45, u46, u47, u48, u49, u50, u51, u52, u53, u54, u55, u56, u57, u58, u59, u60, u61, u62, u63, u64, u65, u66, u67, u68, u69, u70, u71, u72, u73, u74, u75, u76, u77, u78, u79, u80, u81, u82, u83, u84, u85, u86, u87, u88, u89, u90, u91, u92, u93, u94, u95, u96, u97, u98, u99, u100, u101, u102, u103, u104, u105, u106, u107, u108, u109, u110, u111, u112, u113, u114, u115, u116, u117, u118, u119, u120, u121, u122, u123, u124, u125, u126, u127, u128, u129, u130, u131, u132, u133, u134, u135, u136, u137, u138, u139, u140], defers := defs Ds }) (fun a1 _ => 60 - (intOf (a1.tmps.getD 5 undef)).toNat) ⟨0, [], [], _, ⟨rfl, Nat.zero_le _, by decide, MarksOk.nil _, HPL.out⟩, undef, undef, undef, undef, undef, undef, undef, undef, undef, undef, undef, undef, undef, undef, undef, undef, undef, undef, undef, undef, undef, undef, undef, undef, undef, undef, undef, undef, undef, undef, undef, undef, undef, undef, undef, undef, undef, undef, undef, undef, undef, undef, undef, undef, undef, undef, undef, undef, undef, undef, undef, undef, undef, undef, undef, undef, undef, undef, undef, undef, undef, undef, undef, undef, undef, undef, undef, undef, undef, undef, undef, undef, undef, undef, undef, undef, undef, undef, undef, undef, undef, undef, undef, undef, undef, undef, undef, undef, undef, undef, undef, undef, undef, undef, undef, undef, undef, undef, undef, undef, undef, undef, undef, undef, undef, undef, undef, undef, undef, undef, undef, undef, undef, undef, undef, undef, undef, undef, undef, undef, undef, undef, undef, undef, undef, undef, undef, rfl⟩ ?_
    clear HPL HD3 HB3 HC3
    intro a1 wr hinv
    obtain ⟨k, L, Ds, u5, ⟨rfl, hk, hk60, hnd, hpl⟩, hinv⟩ := hinv
    obtain ⟨u6, hinv⟩ := hinv
    obtain ⟨u7, hinv⟩ := hinv
    obtain ⟨u8, hinv⟩ := hinv
    obtain ⟨u9, hinv⟩ := hinv
    obtain ⟨u10, hinv⟩ := hinv
    obtain ⟨u11, hinv⟩ := hinv
    obtain ⟨u12, hinv⟩ := hinv
    obtain ⟨u13, hinv⟩ := hinv
    obtain ⟨u22, hinv⟩ := hinv
    obtain ⟨u23, hinv⟩ := hinv
    obtain ⟨u24, hinv⟩ := hinv
    obtain ⟨u25, hinv⟩ := hinv
    obtain ⟨u26, hinv⟩ := hinv
    obtain ⟨u27, hinv⟩ := hinv
    obtain ⟨u28, hinv⟩ := hinv
    obtain ⟨u29, hinv⟩ := hinv
    obtain ⟨u30, hinv⟩ := hinv
    obtain ⟨u31, hinv⟩ := hinv
    obtain ⟨u32, hinv⟩ := hinv
    obtain ⟨u33, hinv⟩ := hinv
    obtain ⟨u34, hinv⟩ := hinv
    obtain ⟨u35, hinv⟩ := hinv
    obtain ⟨u36, hinv⟩ := hinv
    obtain ⟨u37, hinv⟩ := hinv
    obtain ⟨u38, hinv⟩ := hinv
    obtain ⟨u39, hinv⟩ := hinv
    obtain ⟨u40, hinv⟩ := hinv
    obtain ⟨u41, hinv⟩ := hinv
    obtain ⟨u42, hinv⟩ := hinv
    obtain ⟨u43, hinv⟩ := hinv
    obtain ⟨u44, hinv⟩ := hinv
    obtain ⟨u45, hinv⟩ := hinv
    obtain ⟨u46, hinv⟩ := hinv
    obtain ⟨u47, hinv⟩ := hinv
    obtain ⟨u48, hinv⟩ := hinv
    obtain ⟨u49, hinv⟩ := hinv
    obtain ⟨u50, hinv⟩ := hinv
    obtain ⟨u51, hinv⟩ := hinv
    obtain ⟨u52, hinv⟩ := hinv
    obtain ⟨u53, hinv⟩ := hinv
    obtain ⟨u54, hinv⟩ := hinv
    obtain ⟨u55, hinv⟩ := hinv
    obtain ⟨u56, hinv⟩ := hinv
    obtain ⟨u57, hinv⟩ := hinv
    obtain ⟨u58, hinv⟩ := hinv
    obtain ⟨u59, hinv⟩ := hinv
    obtain ⟨u60, hinv⟩ := hinv
    obtain ⟨u61, hinv⟩ := hinv
    obtain ⟨u62, hinv⟩ := hinv
    obtain ⟨u63, hinv⟩ := hinv
    obtain ⟨u64, hinv⟩ := hinv
    obtain ⟨u65, hinv⟩ := hinv
    obtain ⟨u66, hinv⟩ := hinv
    obtain ⟨u67, hinv⟩ := hinv
    obtain ⟨u68, hinv⟩ := hinv
    obtain ⟨u69, hinv⟩ := hinv
    obtain ⟨u70, hinv⟩ := hinv
    obtain ⟨u71, hinv⟩ := hinv
    obtain ⟨u72, hinv⟩ := hinv
    obtain ⟨u73, hinv⟩ := hinv
    obtain ⟨u74, hinv⟩ := hinv
    obtain ⟨u75, hinv⟩ := hinv
    obtain ⟨u76, hinv⟩ := hinv
    obtain ⟨u77, hinv⟩ := hinv
    obtain ⟨u78, hinv⟩ := hinv
    obtain ⟨u79, hinv⟩ := hinv
    obtain ⟨u80, hinv⟩ := hinv
    obtain ⟨u81, hinv⟩ := hinv
    obtain ⟨u82, hinv⟩ := hinv
    obtain ⟨u83, hinv⟩ := hinv
    obtain ⟨u84, hinv⟩ := hinv
    obtain ⟨u85, hinv⟩ := hinv
    obtain ⟨u86, hinv⟩ := hinv
    obtain ⟨u87, hinv⟩ := hinv
    obtain ⟨u88, hinv⟩ := hinv
    obtain ⟨u89, hinv⟩ := hinv
    obtain ⟨u90, hinv⟩ := hinv
    obtain ⟨u91, hinv⟩ := hinv
    obtain ⟨u92, hinv⟩ := hinv
    obtain ⟨u93, hinv⟩ := hinv
    obtain ⟨u94, hinv⟩ := hinv
    obtain ⟨u95, hinv⟩ := hinv
    obtain ⟨u96, hinv⟩ := hinv
    obtain ⟨u97, hinv⟩ := hinv
    obtain ⟨u98, hinv⟩ := hinv
    obtain ⟨u99, hinv⟩ := hinv
    obtain ⟨u100, hinv⟩ := hinv
    obtain ⟨u101, hinv⟩ := hinv
    obtain ⟨u102, hinv⟩ := hinv
    obtain ⟨u103, hinv⟩ := hinv
    obtain ⟨u104, hinv⟩ := hinv
    obtain ⟨u105, hinv⟩ := hinv
    obtain ⟨u106, hinv⟩ := hinv
    obtain ⟨u107, hinv⟩ := hinv
    obtain ⟨u108, hinv⟩ := hinv
    obtain ⟨u109, hinv⟩ := hinv
    obtain ⟨u110, hinv⟩ := hinv
    obtain ⟨u111, hinv⟩ := hinv
    obtain ⟨u112, hinv⟩ := hinv
    obtain ⟨u113, hinv⟩ := hinv
    obtain ⟨u114, hinv⟩ := hinv
    obtain ⟨u115, hinv⟩ := hinv
    obtain ⟨u116, hinv⟩ := hinv
    obtain ⟨u117, hinv⟩ := hinv
    obtain ⟨u118, hinv⟩ := hinv
    obtain ⟨u119, hinv⟩ := hinv
    obtain ⟨u120, hinv⟩ := hinv
    obtain ⟨u121, hinv⟩ := hinv
    obtain ⟨u122, hinv⟩ := hinv
    obtain ⟨u123, hinv⟩ := hinv
    obtain ⟨u124, hinv⟩ := hinv
    obtain ⟨u125, hinv⟩ := hinv
    obtain ⟨u126, hinv⟩ := hinv
    obtain ⟨u127, hinv⟩ := hinv
    obtain ⟨u128, hinv⟩ := hinv
    obtain ⟨u129, hinv⟩ := hinv
    obtain ⟨u130, hinv⟩ := hinv
    obtain ⟨u131, hinv⟩ := hinv
    obtain ⟨u132, hinv⟩ := hinv
    obtain ⟨u133, hinv⟩ := hinv
    obtain ⟨u134, hinv⟩ := hinv
    obtain ⟨u135, hinv⟩ := hinv
    obtain ⟨u136, hinv⟩ := hinv
    obtain ⟨u137, hinv⟩ := hinv
    obtain ⟨u138, hinv⟩ := hinv
    obtain ⟨u139, hinv⟩ := hinv
    obtain ⟨u140, hinv⟩ := hinv
    obtain rfl := hinv
    try dsimp only
    have HP := Lib.hid hpl; have HND := Lib.hid hnd
    clear hpl hnd
    by_cases hlt : k < n
    · by_cases hlt2 : k < 60
      · obtain ⟨b, off, rfl, hb, hc⟩ := HSP.out (by have := HL.out; omega)
        obtain ⟨d, hd⟩ : ∃ d, d = s0.getD k default := ⟨_, rfl⟩
        have hdo := (hc k (by have := HL.out; omega)).below HP.out.low
        rw [← hd] at hdo
        clear hc hd
        obtain ⟨d0, d1, d2, d3, d4, hw0, hw2, hw3, hw4⟩ := hdo.parts
        clear hdo
        have HW := Lib.hid (And.intro hw0 (And.intro hw2 (And.intro hw3 hw4)))
        clear hw0 hw2 hw3 hw4
        obtain ⟨g, hg⟩ : ∃ g, g = wr.heap.size := ⟨_, rfl⟩
        obtain ⟨W1, hW1⟩ : ∃ W1, W1 = wr.alloc (.cells #[.int .i64 d.kind, .string (str d.name), .int .i64 d.at_, .int .i64 d.most, .int .i64 d.again] 32) := ⟨_, rfl⟩
        have HP1 : Hid (Pl w tb bm rb L L (stepO g d :: osA w.heap.size bt br tb rb Ds) W1) := Lib.hid (by rw [hW1, hg]; exact HP.out.step d)
        have HG := Lib.hid hg.symm
        have HW1 := Lib.hid hW1.symm
        have HT := Lib.hid HP.out.du.tbl
        clear hg hW1 HP
        by_cases hk0 : d.kind = 0
        · have l0 : (d.kind == 0) = true := by simp [hk0]
          have HP2 : Hid (Pl w tb bm rb L L (stepO g d :: osA w.heap.size bt br tb rb Ds) W1.drew) := Lib.hid (HP1.out.drewN 1)
          clear hk0
          go_wp2_with fail
          rw [HW1.out, HG.out]
          refine Code.wp_mono (Q := Only _) Only.all ?_
          refine wp_region_held_drew (S := fun W => W.cell? ⟨bt, 0, none⟩ = some (.pointer (some ⟨tb, 0, none⟩)) ∧ W.cell? ⟨br, 0, none⟩ = some (.pointer (some ⟨rb, 0, none⟩)) ∧ W.cell? ⟨g, 1, none⟩ = some (.string (str d.name)) ∧ W.cell? ⟨g, 2, none⟩ = some (.int .i64 d.at_)) (by kernel_rfl) HP2.out.four (fun hHeld => ?_)
          refine wpAnyH_take (i := 0) (oi := _) (v := ?_) rfl (by kernel_rfl) (by kernel_rfl) (by kernel_rfl) (fun _ _ _ h => h) (Or.inl ⟨by rfl, ?_⟩) (by assumption) ?_
          case refine_2 => intro w hSw; (try dsimp only at hSw); go_simp; first | done | (with_reducible rfl)
          try simp only [Act.put, List.getElem_toArray, List.getElem_cons_zero, List.setIfInBounds_toArray, List.set_cons_zero, List.set_cons_succ]
          refine wpAnyH_take (i := 1) (oi := _) (v := ?_) rfl (by kernel_rfl) (by kernel_rfl) (by kernel_rfl) (fun _ _ _ h => h) (Or.inl ⟨by rfl, ?_⟩) (by assumption) ?_
          case refine_2 => intro w hSw; (try dsimp only at hSw); go_simp; first | done | (with_reducible rfl)
          try simp only [Act.put, List.getElem_toArray, List.getElem_cons_zero, List.getElem_cons_succ, List.setIfInBounds_toArray, List.set_cons_zero, List.set_cons_succ]
          refine wpAnyH_take (i := 2) (oi := _) (v := ?_) rfl (by kernel_rfl) (by kernel_rfl) (by kernel_rfl) (fun _ _ _ h => h) (Or.inl ⟨by rfl, ?_⟩) (by assumption) ?_
          case refine_2 => intro w hSw; (try dsimp only at hSw); go_simp; first | done | (with_reducible rfl)
          try simp only [Act.put, List.getElem_toArray, List.getElem_cons_zero, List.getElem_cons_succ, List.setIfInBounds_toArray, List.set_cons_zero, List.set_cons_succ]
          refine wpAnyH_take (i := 3) (oi := _) (v := ?_) rfl (by kernel_rfl) (by kernel_rfl) (by kernel_rfl) (fun _ _ _ h => h) (Or.inl ⟨by rfl, ?_⟩) (by assumption) ?_
          case refine_2 => intro w hSw; (try dsimp only at hSw); go_simp; first | done | (with_reducible rfl)
          try simp only [Act.put, List.getElem_toArray, List.getElem_cons_zero, List.getElem_cons_succ, List.setIfInBounds_toArray, List.set_cons_zero, List.set_cons_succ]
          refine wpAnyH_take (i := 4) (oi := _) (v := ?_) rfl (by kernel_rfl) (by kernel_rfl) (by kernel_rfl) (fun _ _ _ h => h) (Or.inl ⟨by rfl, ?_⟩) (by assumption) ?_
          case refine_2 => intro w hSw; (try dsimp only at hSw); go_simp; first | done | (with_reducible rfl)
          try simp only [Act.put, List.getElem_toArray, List.getElem_cons_zero, List.getElem_cons_succ, List.setIfInBounds_toArray, List.set_cons_zero, List.set_cons_succ]
          refine wpAnyH_take (i := 6) (oi := _) (v := ?_) rfl (by kernel_rfl) (by kernel_rfl) (by kernel_rfl) (fun _ _ _ h => h) (Or.inl ⟨by rfl, ?_⟩) (by assumption) ?_
          case refine_2 => intro w hSw; (try dsimp only at hSw); go_simp; first | done | (with_reducible rfl)
          try simp only [Act.put, List.getElem_toArray, List.getElem_cons_zero, List.getElem_cons_succ, List.setIfInBounds_toArray, List.set_cons_zero, List.set_cons_succ]
          refine wpAnyH_take (i := 7) (oi := _) (v := ?_) rfl (by kernel_rfl) (by kernel_rfl) (by kernel_rfl) (fun _ _ _ h => h) (Or.inl ⟨by rfl, ?_⟩) (by assumption) ?_
          case refine_2 => intro w hSw; (try dsimp only at hSw); go_simp; first | done | (with_reducible rfl)
          try simp only [Act.put, List.getElem_toArray, List.getElem_cons_zero, List.getElem_cons_succ, List.setIfInBounds_toArray, List.set_cons_zero, List.set_cons_succ]
          refine wpAnyH_take (i := 8) (oi := _) (v := ?_) rfl (by kernel_rfl) (by kernel_rfl) (by kernel_rfl) (fun _ _ _ h => h) (Or.inl ⟨by rfl, ?_⟩) (by assumption) ?_
          case refine_2 => intro w hSw; (try dsimp only at hSw); go_simp; first | done | (with_reducible rfl)
          try simp only [Act.put, List.getElem_toArray, List.getElem_cons_zero, List.getElem_cons_succ, List.setIfInBounds_toArray, List.set_cons_zero, List.set_cons_succ]
          refine wpAnyH_take (i := 9) (oi := _) (v := ?_) rfl (by kernel_rfl) (by kernel_rfl) (by kernel_rfl) (fun _ _ _ h => h) (Or.inl ⟨by rfl, ?_⟩) (by assumption) ?_
          case refine_2 => intro w hSw; (try dsimp only at hSw); go_simp; first | done | (with_reducible rfl)
          try simp only [Act.put, List.getElem_toArray, List.getElem_cons_zero, List.getElem_cons_succ, List.setIfInBounds_toArray, List.set_cons_zero, List.set_cons_succ]
          refine wpAnyH_take (i := 10) (oi := _) (v := ?_) rfl (by kernel_rfl) (by kernel_rfl) (by kernel_rfl) (fun _ _ _ h => h) (Or.inl ⟨by rfl, ?_⟩) (by assumption) ?_
          case refine_2 => intro w hSw; (try dsimp only at hSw); go_simp; first | done | (with_reducible rfl)
          try simp only [Act.put, List.getElem_toArray, List.getElem_cons_zero, List.getElem_cons_succ, List.setIfInBounds_toArray, List.set_cons_zero, List.set_cons_succ]
          refine wpAnyH_ready (rs := [5]) (by kernel_rfl) (by simp) ?_
          refine AllReadyH.cons rfl (fun K hK => ?_) AllReadyH.nil
          go_simp
          go_at_call 11
          refine (set_any tb bm L d.name d.at_ _ HP2.out.du).mono ?_
          rintro e w4 ⟨rfl, hD4, hk4⟩
          have HP4 := Lib.hid (HP2.out.set hD4 hk4)
          have hS4 := HP4.out.four
          clear hD4 hk4
          refine hK.out _ _ hS4 (fun hHeld => ?_)
          clear hK K
          try simp only [Act.put, List.getElem_toArray, List.getElem_cons_zero, List.getElem_cons_succ, List.setIfInBounds_toArray, List.set_cons_zero, List.set_cons_succ]
          refine wpAnyH_ready (rs := [11]) (by kernel_rfl) (by simp) ?_
          refine AllReadyH.cons rfl (fun K hK => ?_) AllReadyH.nil
          go_simp
          go_at_call 12
          refine (rset_any rb L d.name d.at_ _ HP4.out.rf HT.out).mono ?_
          rintro e w5 ⟨rfl, hR5, hk5⟩
          have HP5 := Lib.hid (HP4.out.rset hR5 hk5)
          have hS5 := HP5.out.four
          clear hR5 hk5
          refine hK.out _ _ hS5 (fun hHeld => ?_)
          clear hK K
          try simp only [Act.put, List.getElem_toArray, List.getElem_cons_zero, List.getElem_cons_succ, List.setIfInBounds_toArray, List.set_cons_zero, List.set_cons_succ]
          refine wpAnyH_take (i := 12) (oi := _) (v := ?_) rfl (by kernel_rfl) (by kernel_rfl) (by kernel_rfl) (fun _ _ _ h => h) (Or.inl ⟨by rfl, ?_⟩) (by assumption) ?_
          case refine_2 => intro w hSw; (try dsimp only at hSw); go_simp; first | done | (with_reducible rfl)
          try simp only [Act.put, List.getElem_toArray, List.getElem_cons_zero, List.getElem_cons_succ, List.setIfInBounds_toArray, List.set_cons_zero, List.set_cons_succ]
          refine wpAnyH_done (by kernel_rfl) ?_ _
          have t5 : (setCode L d.name d.at_ != setCode L d.name d.at_) = false := by simp
          dsimp only [Only]
          go_wp2_with fail
          obtain ⟨c1, c2, _⟩ := hS5
          go_wp2_with fail
          refine (same_any tb bm rb _ _ HP5.out.du HP5.out.rf).mono ?_
          rintro e w6 ⟨rfl, hb6⟩
          have HP6 := Lib.hid ((HP5.out.below hb6).sub (os' := osA w.heap.size bt br tb rb Ds) (fun p hp => List.mem_cons_of_mem _ hp))
          clear hb6
          go_wp2
          refine ⟨⟨k + 1, _, Ds, .int .i64 ((k : Int) + 1), ⟨by go_num, by omega, by omega, HND.out, HP6.out⟩, ?_⟩, ?_⟩
          · (repeat apply Exists.intro)
            rfl
          · simp [intOf]; omega
        · by_cases hk1 : d.kind = 1
          · have l0 : (d.kind == 0) = false := by simp [hk0]
            have l1 : (d.kind == 1) = true := by simp [hk1]
            have HP2 : Hid (Pl w tb bm rb L L (stepO g d :: osA w.heap.size bt br tb rb Ds) W1.drew) := Lib.hid (HP1.out.drewN 1)
            clear hk0 hk1
            go_wp2_with fail
            rw [HW1.out, HG.out]
            refine Code.wp_mono (Q := Only _) Only.all ?_
            refine wp_region_held_drew (S := fun W => W.cell? ⟨bt, 0, none⟩ = some (.pointer (some ⟨tb, 0, none⟩)) ∧ W.cell? ⟨br, 0, none⟩ = some (.pointer (some ⟨rb, 0, none⟩)) ∧ W.cell? ⟨g, 1, none⟩ = some (.string (str d.name)) ∧ W.cell? ⟨g, 2, none⟩ = some (.int .i64 d.at_)) (by kernel_rfl) HP2.out.four (fun hHeld => ?_)
            refine wpAnyH_take (i := 0) (oi := _) (v := ?_) rfl (by kernel_rfl) (by kernel_rfl) (by kernel_rfl) (fun _ _ _ h => h) (Or.inl ⟨by rfl, ?_⟩) (by assumption) ?_
            case refine_2 => intro w hSw; (try dsimp only at hSw); go_simp; first | done | (with_reducible rfl)
            try simp only [Act.put, List.getElem_toArray, List.getElem_cons_zero, List.setIfInBounds_toArray, List.set_cons_zero, List.set_cons_succ]
            refine wpAnyH_take (i := 1) (oi := _) (v := ?_) rfl (by kernel_rfl) (by kernel_rfl) (by kernel_rfl) (fun _ _ _ h => h) (Or.inl ⟨by rfl, ?_⟩) (by assumption) ?_
            case refine_2 => intro w hSw; (try dsimp only at hSw); go_simp; first | done | (with_reducible rfl)
            try simp only [Act.put, List.getElem_toArray, List.getElem_cons_zero, List.getElem_cons_succ, List.setIfInBounds_toArray, List.set_cons_zero, List.set_cons_succ]
            refine wpAnyH_take (i := 2) (oi := _) (v := ?_) rfl (by kernel_rfl) (by kernel_rfl) (by kernel_rfl) (fun _ _ _ h => h) (Or.inl ⟨by rfl, ?_⟩) (by assumption) ?_
            case refine_2 => intro w hSw; (try dsimp only at hSw); go_simp; first | done | (with_reducible rfl)
            try simp only [Act.put, List.getElem_toArray, List.getElem_cons_zero, List.getElem_cons_succ, List.setIfInBounds_toArray, List.set_cons_zero, List.set_cons_succ]
            refine wpAnyH_take (i := 4) (oi := _) (v := ?_) rfl (by kernel_rfl) (by kernel_rfl) (by kernel_rfl) (fun _ _ _ h => h) (Or.inl ⟨by rfl, ?_⟩) (by assumption) ?_
            case refine_2 => intro w hSw; (try dsimp only at hSw); go_simp; first | done | (with_reducible rfl)
            try simp only [Act.put, List.getElem_toArray, List.getElem_cons_zero, List.getElem_cons_succ, List.setIfInBounds_toArray, List.set_cons_zero, List.set_cons_succ]
            refine wpAnyH_take (i := 5) (oi := _) (v := ?_) rfl (by kernel_rfl) (by kernel_rfl) (by kernel_rfl) (fun _ _ _ h => h) (Or.inl ⟨by rfl, ?_⟩) (by assumption) ?_
            case refine_2 => intro w hSw; (try dsimp only at hSw); go_simp; first | done | (with_reducible rfl)
            try simp only [Act.put, List.getElem_toArray, List.getElem_cons_zero, List.getElem_cons_succ, List.setIfInBounds_toArray, List.set_cons_zero, List.set_cons_succ]
            refine wpAnyH_take (i := 6) (oi := _) (v := ?_) rfl (by kernel_rfl) (by kernel_rfl) (by kernel_rfl) (fun _ _ _ h => h) (Or.inl ⟨by rfl, ?_⟩) (by assumption) ?_
            case refine_2 => intro w hSw; (try dsimp only at hSw); go_simp; first | done | (with_reducible rfl)
            try simp only [Act.put, List.getElem_toArray, List.getElem_cons_zero, List.getElem_cons_succ, List.setIfInBounds_toArray, List.set_cons_zero, List.set_cons_succ]
            refine wpAnyH_ready (rs := [3]) (by kernel_rfl) (by simp) ?_
            refine AllReadyH.cons rfl (fun K hK => ?_) AllReadyH.nil
            go_simp
            go_at_call 13
            refine (drop_any tb bm L d.name _ HP2.out.du).mono ?_
            rintro e w4 ⟨rfl, hD4, hk4⟩
            have HP4 := Lib.hid (HP2.out.set hD4 hk4)
            have hS4 := HP4.out.four
            clear hD4 hk4
            refine hK.out _ _ hS4 (fun hHeld => ?_)
            clear hK K
            try simp only [Act.put, List.getElem_toArray, List.getElem_cons_zero, List.getElem_cons_succ, List.setIfInBounds_toArray, List.set_cons_zero, List.set_cons_succ]
            refine wpAnyH_ready (rs := [7]) (by kernel_rfl) (by simp) ?_
            refine AllReadyH.cons rfl (fun K hK => ?_) AllReadyH.nil
            go_simp
            go_at_call 14
            refine (rdrop_any rb L d.name _ HP4.out.rf HT.out).mono ?_
            rintro e w5 ⟨rfl, hR5, hk5⟩
            have HP5 := Lib.hid (HP4.out.rset hR5 hk5)
            have hS5 := HP5.out.four
            clear hR5 hk5
            refine hK.out _ _ hS5 (fun hHeld => ?_)
            clear hK K
            try simp only [Act.put, List.getElem_toArray, List.getElem_cons_zero, List.getElem_cons_succ, List.setIfInBounds_toArray, List.set_cons_zero, List.set_cons_succ]
            refine wpAnyH_take (i := 8) (oi := _) (v := ?_) rfl (by kernel_rfl) (by kernel_rfl) (by kernel_rfl) (fun _ _ _ h => h) (Or.inl ⟨by rfl, ?_⟩) (by assumption) ?_
            case refine_2 => intro w hSw; (try dsimp only at hSw); go_simp; first | done | (with_reducible rfl)
            try simp only [Act.put, List.getElem_toArray, List.getElem_cons_zero, List.getElem_cons_succ, List.setIfInBounds_toArray, List.set_cons_zero, List.set_cons_succ]
            refine wpAnyH_done (by kernel_rfl) ?_ _
            have t5 : (inL L d.name != inL L d.name) = false := by simp
            dsimp only [Only]
            go_wp2_with fail
            obtain ⟨c1, c2, _⟩ := hS5
            go_wp2_with fail
            refine (same_any tb bm rb _ _ HP5.out.du HP5.out.rf).mono ?_
            rintro e w6 ⟨rfl, hb6⟩
            have HP6 := Lib.hid ((HP5.out.below hb6).sub (os' := osA w.heap.size bt br tb rb Ds) (fun p hp => List.mem_cons_of_mem _ hp))
            clear hb6
            go_wp2
            refine ⟨⟨k + 1, _, Ds, .int .i64 ((k : Int) + 1), ⟨by go_num, by omega, by omega, HND.out, HP6.out⟩, ?_⟩, ?_⟩
            · (repeat apply Exists.intro)
              rfl
            · simp [intOf]; omega
          · have l0 : (d.kind == 0) = false := by simp [hk0]
            have l1 : (d.kind == 1) = false := by simp [hk1]
            obtain ⟨gn, hgn⟩ : ∃ gn, gn = W1.heap.size := ⟨_, rfl⟩
            have HPC : Hid (Pl w tb bm rb L L (osC w.heap.size bt br tb rb Ds g d gn 0) (W1.alloc (.cells #[.int .i64 0] 3))) := Lib.hid (by rw [hgn]; exact HP1.out.cnt)
            have HGN := Lib.hid hgn.symm
            clear hk0 hk1 hgn
            go_upto_region 12 with (fail)
            rw [HW1.out, HG.out]
            have a1 := (HPC.out.sub (os' := osA w.heap.size bt br tb rb Ds) osC_A).two.1
            have a5 := (HPC.out.five osC_d).2.2.1
            go_wp2_with fail
            refine (due_any _ _ _).mono ?_
            rintro e w5 ⟨rfl, rfl⟩
            clear a1 a5
            go_wp2_with fail
            rw [HGN.out]
            obtain ⟨W2, hW2⟩ : ∃ W2, W2 = ((W1.alloc (.cells #[.int .i64 0] 3)).alloc (.cells #[.pointer (some ⟨tb, 0, none⟩)] 25)).alloc (.cells #[.int .i64 d.at_] 3) := ⟨_, rfl⟩
            have b2 : Below (W1.alloc (.cells #[.int .i64 0] 3)).heap.size (W1.alloc (.cells #[.int .i64 0] 3)) W2 := by rw [hW2]; exact ((Below.refl _ _).alloc (Nat.le_refl _) _).alloc (by simp) _
            have s2 : W2.heap.size = gn + 1 + 1 + 1 := by rw [hW2]; simp [HGN.out]
            have HP2 : Hid (Pl w tb bm rb L L (osC w.heap.size bt br tb rb Ds g d gn 0) W2) := Lib.hid (HPC.out.below b2)
            have HTB : Hid (W2.cell? ⟨gn + 1, 0, none⟩ = some (.pointer (some ⟨tb, 0, none⟩))) := Lib.hid (by
              rw [hW2, ← HGN.out]
              have := ((Boxed.new (W1.alloc (.cells #[.int .i64 0] 3)) 25 (.pointer (some ⟨tb, 0, none⟩))).alloc (.cells #[.int .i64 d.at_] 3)).cell
              rwa [World.size_alloc] at this)
            have HNB : Hid (W2.cell? ⟨gn + 1 + 1, 0, none⟩ = some (.int .i64 d.at_)) := Lib.hid (by
              rw [hW2, ← HGN.out]
              have := (Boxed.new ((W1.alloc (.cells #[.int .i64 0] 3)).alloc (.cells #[.pointer (some ⟨tb, 0, none⟩)] 25)) 3 (.int .i64 d.at_)).cell
              rwa [World.size_alloc, World.size_alloc] at this)
            have HW2 := Lib.hid hW2.symm
            rw [show ((W1.alloc (.cells #[.int .i64 0] 3)).alloc (.cells #[.pointer (some ⟨tb, 0, none⟩)] 25)).alloc (.cells #[.int .i64 d.at_] 3) = W2 from HW2.out]
            have HS2 := Lib.hid s2
            have hlow := low_of HP2.out
            have hlt' := HP2.out.du.lt
            have hne := HP2.out.du.ne
            have hnb : ∀ p ∈ osC w.heap.size bt br tb rb Ds g d gn 0, p.1 ≠ bm := fun p hp => held_bm HP2.out hp
            have HLO : Hid (LowO W2.heap.size w.heap.size bt br Ds g gn) := Lib.hid hlow
            have HLT : Hid (tb < W2.heap.size ∧ bm < W2.heap.size ∧ rb < W2.heap.size ∧ w.heap.size ≤ W2.heap.size ∧ gn < W2.heap.size ∧ w.heap.size ≤ gn) := Lib.hid ⟨hlt'.1, hlt'.2, HP2.out.rf.lt, by have := hlow.1; omega, by omega, by have := HE2.out; have h8 : W1.heap.size = gn := HGN.out; have := HP1.out.low.size; omega⟩
            have HGA : Hid (bm < gn ∧ rb < gn ∧ tb < gn) := Lib.hid (by
              have h8 : W1.heap.size = gn := HGN.out
              have h9 := HP1.out.du.lt
              have h10 := HP1.out.rf.lt
              omega)
            have hgs : ∀ g ∈ [gn + 1, gn + 1 + 1], g < W2.heap.size := by intro g hg; simp at hg; omega
            clear hlow hlt' hne hnb hW2 b2 s2 HPC
            refine (wpIn_wide (n := 8)).1 ?_
            apply range_stand (F := Fence.wide) (n := 8) (f := 23) (own := #[.pointer (some ⟨gn + 1, 0, none⟩), .pointer (some ⟨gn + 1 + 1, 0, none⟩)]) (k0 := bnd d.most)
              ⟨rfl, by omega, trivial, enters_of Try.func23 (by kernel_rfl) rfl, due_tells 7 tb bm (gn + 1) (gn + 1 + 1) d.at_ W2 HTB.out HNB.out⟩ rfl (Below.refl _ _) hgs (fun _ => rfl)
              (PJ w tb bm rb w.heap.size bt br Ds g d gn) (PM w tb bm rb w.heap.size bt br Ds g d gn) (fun c V => c = .exit 3 ∧ PX w tb bm rb w.heap.size bt br Ds g d gn V)
              (pj_adm HLT.out.2.2.2.1 HLT.out.2.1 HLO.out) (pj_own HLT.out.1 HLT.out.2.1 HLT.out.2.2.2.1 HLO.out) (pm_own HLT.out.1 HLT.out.2.1 HLT.out.2.2.2.1 HLO.out)
              (fun c s X Y row hs hg hr => ⟨hs.1, px_own HLT.out.1 HLT.out.2.1 HLT.out.2.2.2.1 HLO.out s X Y row hs.2 hg hr⟩) (loop_ownE HLT.out.1 HLT.out.2.1) ⟨0, L, by omega, (bnd_pos _).1, HP2.out⟩
            case hassign =>
              intro l x W K hK
              simp only [encE]
              gi_wp2
              exact hK
            case hbody =>
              rintro lr k' ⟨x, t⟩ V hVs ⟨m, M, e1, e2, e3, e4, hP⟩
              have e3' : t ≤ d.at_ := e3
              have e4' : 0 ≤ t ∧ t ≤ 1099511627776 := e4
              obtain ⟨a1, a2, a3, a4⟩ := (hP.sub (os' := osA w.heap.size bt br tb rb Ds) osC_A).two
              obtain ⟨f0, f1, f2, f3, f4⟩ := hP.five osC_d
              have HPV := Lib.hid hP
              clear hP e3 e4
              gi_wp2_with fail
              refine ⟨trivial, (CallsIn.inRound lr (callsIn_wide.2 (rtake_yes rb d.at_ (x, t) M V HPV.out.rf (by show ¬ d.at_ < t; omega)))).mono ?_⟩
              rintro e w6 ⟨rfl, hR6, hk6⟩
              clear a1 a2 a3 a4 f0 f1 f2 f3 f4
              obtain ⟨W7, hW7⟩ : ∃ W7, W7 = w6.alloc (.cells #[.string (str x), .int .i64 t] 40) := ⟨_, rfl⟩
              have hK7 : Keeps (· = rb) V W7 := by rw [hW7]; exact hk6.alloc _
              have HP7 : Hid (Pl w tb bm rb M M (osC w.heap.size bt br tb rb Ds g d gn m) W7) := Lib.hid (by rw [hW7]; exact (HPV.out.rset hR6 hk6).alloc _)
              have hx7 : W7.cell? ⟨w6.heap.size, 0, none⟩ = some (.string (str x)) ∧ W7.cell? ⟨w6.heap.size, 1, none⟩ = some (.int .i64 t) := by
                have h1 : W7.heap[w6.heap.size]? = some (.cells #[.string (str x), .int .i64 t] 40 (0, 0)) := by rw [hW7]; exact World.alloc_heap_new w6 _
                exact ⟨(cells_of h1 0).1, (cells_of h1 1).1⟩
              have HK7 := Lib.hid hK7
              have HW7 := Lib.hid hW7.symm
              clear hR6 hk6 hK7 hW7
              gi_upto_region 17 with (fail)
              rw [HW7.out]
              obtain ⟨y1, y2⟩ := hx7
              have q1 : ((str x).toList != (str x).toList) = false := by simp
              have q2 : (t != t) = false := by simp
              obtain ⟨a1, a2, a3, a4⟩ := (HP7.out.sub (os' := osA w.heap.size bt br tb rb Ds) osC_A).two
              obtain ⟨f0, f1, f2, f3, f4⟩ := HP7.out.five osC_d
              by_cases hA : 0 < d.again
              · by_cases hB : d.again < 1073741824
                · have HA := Lib.hid hA; have HB := Lib.hid hB
                  gi_wp2_with fail
                  refine ⟨trivial, (CallsIn.inRound lr (callsIn_wide.2 (set_any tb bm M d.name (t + d.again) W7 HP7.out.du))).mono ?_⟩
                  rintro e w8 ⟨rfl, hD8, hk8⟩
                  have HP8 := Lib.hid (HP7.out.set hD8 hk8)
                  have HK8 := Lib.hid (hk8 : Keeps (· = bm) W7 w8)
                  clear a1 a2 a3 a4 f0 f1 f2 f3 f4 y1 y2 hD8 hk8
                  obtain ⟨a1, a2, a3, a4⟩ := (HP8.out.sub (os' := osA w.heap.size bt br tb rb Ds) osC_A).two
                  obtain ⟨f0, f1, f2, f3, f4⟩ := HP8.out.five osC_d
                  gi_wp2_with fail
                  refine ⟨trivial, (CallsIn.inRound lr (callsIn_wide.2 (rset_any rb M d.name (t + d.again) w8 HP8.out.rf HP7.out.du.tbl))).mono ?_⟩
                  rintro e W9 ⟨rfl, hD9, hk9⟩
                  have HP9 := Lib.hid (HP8.out.rset hD9 hk9)
                  have HK9 : Hid (Keeps (fun i => i = bm ∨ i = rb) V W9) := Lib.hid ((HK7.out.mono (fun _ _ e => .inr e)).trans ((HK8.out.mono (fun _ _ e => .inl e)).trans (hk9.mono (fun _ _ e => .inr e))))
                  clear a1 a2 a3 a4 f0 f1 f2 f3 f4 hD9 hk9 HP8 HK8 HP7
                  obtain ⟨c7, z7⟩ := HP9.out.eight
                  obtain ⟨f0, f1, f2, f3, f4⟩ := HP9.out.five osC_d
                  have HPA : Hid (Pl w tb bm rb _ _ (osC w.heap.size bt br tb rb Ds g d gn (m + 1)) (W9.setCell ⟨gn, 0, none⟩ (.int .i64 ((m : Int) + 1)))) := Lib.hid (by
                    have h1 := HP9.out.count HLT.out.2.2.2.2.2 (m + 1)
                    rwa [show (((m + 1 : Nat)) : Int) = (m : Int) + 1 by omega] at h1)
                  have g3 := (HPA.out.five osC_d).2.2.2.1
                  have hm50 : m ≤ 50 := by have := (bnd_pos d.most).2; omega
                  have hbi := bnd_int d.most
                  have HKE : Hid (Kept [gn + 1, gn + 1 + 1] true W2.heap.size V (W9.setCell ⟨gn, 0, none⟩ (.int .i64 ((m : Int) + 1)))) := Lib.hid (plays_kept HK9.out (by have := HS2.out; omega) HGA.out.1 HGA.out.2.1 (by have := HS2.out; omega))
                  by_cases hE : m + 1 < bnd d.most
                  · have hE2 : (m : Int) + 1 < min (max d.most 1) 50 := by omega
                    clear hbi
                    gi_wp2
                    exact ⟨HKE.out, k' - 1, by omega, m + 1, _, by omega, hE, HPA.out⟩
                  · obtain rfl : k' = 1 := by omega
                    have hE2 : min (max d.most 1) 50 ≤ (m : Int) + 1 := by omega
                    have hE3 : m + 1 = bnd d.most := by omega
                    have HE3 := Lib.hid hE3
                    clear hbi hE3
                    gi_wp2
                    exact ⟨HKE.out, rfl, _, by rw [← HE3.out]; exact HPA.out⟩
                · have HK9 : Hid (Keeps (fun i => i = bm ∨ i = rb) V W7) := Lib.hid (HK7.out.mono (fun _ _ e => .inr e))
                  have HP9 := HP7
                  obtain ⟨c7, z7⟩ := HP9.out.eight
                  have HPA : Hid (Pl w tb bm rb _ _ (osC w.heap.size bt br tb rb Ds g d gn (m + 1)) (W7.setCell ⟨gn, 0, none⟩ (.int .i64 ((m : Int) + 1)))) := Lib.hid (by
                    have h1 := HP9.out.count HLT.out.2.2.2.2.2 (m + 1)
                    rwa [show (((m + 1 : Nat)) : Int) = (m : Int) + 1 by omega] at h1)
                  have g3 := (HPA.out.five osC_d).2.2.2.1
                  have hm50 : m ≤ 50 := by have := (bnd_pos d.most).2; omega
                  have hbi := bnd_int d.most
                  have HKE : Hid (Kept [gn + 1, gn + 1 + 1] true W2.heap.size V (W7.setCell ⟨gn, 0, none⟩ (.int .i64 ((m : Int) + 1)))) := Lib.hid (plays_kept HK9.out (by have := HS2.out; omega) HGA.out.1 HGA.out.2.1 (by have := HS2.out; omega))
                  by_cases hE : m + 1 < bnd d.most
                  · have hE2 : (m : Int) + 1 < min (max d.most 1) 50 := by omega
                    clear hbi
                    gi_wp2
                    exact ⟨HKE.out, k' - 1, by omega, m + 1, _, by omega, hE, HPA.out⟩
                  · obtain rfl : k' = 1 := by omega
                    have hE2 : min (max d.most 1) 50 ≤ (m : Int) + 1 := by omega
                    have hE3 : m + 1 = bnd d.most := by omega
                    have HE3 := Lib.hid hE3
                    clear hbi hE3
                    gi_wp2
                    exact ⟨HKE.out, rfl, _, by rw [← HE3.out]; exact HPA.out⟩
              · have HK9 : Hid (Keeps (fun i => i = bm ∨ i = rb) V W7) := Lib.hid (HK7.out.mono (fun _ _ e => .inr e))
                have HP9 := HP7
                obtain ⟨c7, z7⟩ := HP9.out.eight
                have HPA : Hid (Pl w tb bm rb _ _ (osC w.heap.size bt br tb rb Ds g d gn (m + 1)) (W7.setCell ⟨gn, 0, none⟩ (.int .i64 ((m : Int) + 1)))) := Lib.hid (by
                  have h1 := HP9.out.count HLT.out.2.2.2.2.2 (m + 1)
                  rwa [show (((m + 1 : Nat)) : Int) = (m : Int) + 1 by omega] at h1)
                have g3 := (HPA.out.five osC_d).2.2.2.1
                have hm50 : m ≤ 50 := by have := (bnd_pos d.most).2; omega
                have hbi := bnd_int d.most
                have HKE : Hid (Kept [gn + 1, gn + 1 + 1] true W2.heap.size V (W7.setCell ⟨gn, 0, none⟩ (.int .i64 ((m : Int) + 1)))) := Lib.hid (plays_kept HK9.out (by have := HS2.out; omega) HGA.out.1 HGA.out.2.1 (by have := HS2.out; omega))
                by_cases hE : m + 1 < bnd d.most
                · have hE2 : (m : Int) + 1 < min (max d.most 1) 50 := by omega
                  clear hbi
                  gi_wp2
                  exact ⟨HKE.out, k' - 1, by omega, m + 1, _, by omega, hE, HPA.out⟩
                · obtain rfl : k' = 1 := by omega
                  have hE2 : min (max d.most 1) 50 ≤ (m : Int) + 1 := by omega
                  have hE3 : m + 1 = bnd d.most := by omega
                  have HE3 := Lib.hid hE3
                  clear hbi hE3
                  gi_wp2
                  exact ⟨HKE.out, rfl, _, by rw [← HE3.out]; exact HPA.out⟩
            case hdone =>
              rintro D k' V hD hj hf hK
              obtain ⟨m, M, e1, hP, e2⟩ := pj_end hj hf
              have HPV := Lib.hid (hP.hold (p := markO D) hK rfl)
              have HE2' := Lib.hid e2
              have hbi := bnd_int d.most
              have hE2 : (m : Int) < min (max d.most 1) 50 := by omega
              obtain ⟨c7, _⟩ := hP.eight
              obtain ⟨f0, f1, f2, f3, f4⟩ := hP.five osC_d
              obtain ⟨a1, a2, _⟩ := (hP.sub (os' := osA w.heap.size bt br tb rb Ds) osC_A).two
              have HMK := Lib.hid (HND.out.cons (D := D) (by have := HLT.out; omega) (fun h => by have := HLO.out.2.2.2.2.2 D h; omega))
              clear hj hf hK hP e2 hbi hD
              go_wp2_with fail
              refine (rtake_not rb d.at_ M V HPV.out.rf HE2'.out).mono ?_
              rintro e w6 ⟨rfl, hb6⟩
              have HP7 := Lib.hid ((HPV.out.below hb6).alloc (.cells #[.string ⟨#[]⟩, .int .i64 0] 40))
              clear a1 a2 f0 f1 f2 f3 f4 c7 hb6
              obtain ⟨a1, a2, _⟩ := (HP7.out.sub (os' := osA w.heap.size bt br tb rb Ds) (fun p hp => List.mem_cons_of_mem _ (osC_A p hp))).two
              go_wp2_with fail
              refine (same_any tb bm rb _ _ HP7.out.du HP7.out.rf).mono ?_
              rintro e w8 ⟨rfl, hb8⟩
              have HP9 := Lib.hid ((HP7.out.below hb8).sub (os' := osA w.heap.size bt br tb rb (D :: Ds)) osA_C)
              clear hb8
              go_wp2
              refine ⟨⟨k + 1, _, D :: Ds, .int .i64 ((k : Int) + 1), ⟨by go_num, by omega, by omega, HMK.out, HP9.out⟩, ?_⟩, ?_⟩
              · (repeat apply Exists.intro)
                rfl
              · simp [intOf]; omega
            case hstop =>
              rintro D cc V hD ⟨rfl, M, hP⟩ hK
              have HPV := Lib.hid (hP.hold (p := markO D) hK rfl)
              have hbi := bnd_int d.most
              have hE2 : min (max d.most 1) 50 ≤ ((bnd d.most : Nat) : Int) := by omega
              obtain ⟨c7, _⟩ := hP.eight
              obtain ⟨f0, f1, f2, f3, f4⟩ := hP.five osC_d
              obtain ⟨a1, a2, _⟩ := (hP.sub (os' := osA w.heap.size bt br tb rb Ds) osC_A).two
              have HMK := Lib.hid (HND.out.cons (D := D) (by have := HLT.out; omega) (fun h => by have := HLO.out.2.2.2.2.2 D h; omega))
              clear hK hP hbi hD
              refine wpIn_wide.2 ?_
              go_wp2_with fail
              refine (same_any tb bm rb _ _ HPV.out.du HPV.out.rf).mono ?_
              rintro e w8 ⟨rfl, hb8⟩
              have HP9 := Lib.hid ((HPV.out.below hb8).sub (os' := osA w.heap.size bt br tb rb (D :: Ds)) osA_C)
              clear hb8
              go_wp2
              refine ⟨⟨k + 1, _, D :: Ds, .int .i64 ((k : Int) + 1), ⟨by go_num, by omega, by omega, HMK.out, HP9.out⟩, ?_⟩, ?_⟩
              · (repeat apply Exists.intro)
                rfl
              · simp [intOf]; omega
      · obtain rfl : k = 60 := by omega
        obtain ⟨_, _, c1, z1⟩ := HP.out.two
        go_wp2
        exact plays_end HP.out HND.out (fun W' c9 => by simp [results, Try.results3, go_sem, c9])
    · obtain ⟨_, _, c1, z1⟩ := HP.out.two
      go_wp2
      exact plays_end HP.out HND.out (fun W' c9 => by simp [results, Try.results3, go_sem, c9])

/-! ### THE ROW's STEP: WRITTEN OUT: LEAVE IT -/
set_option maxRecDepth 100000 in
theorem lifted (os : Os) (started : os.Started) (H : Type) (enc : TypeId × Value → H) :
    ReturnsInHanded {} Try.checked os 3 .any (Rows.duePlaysSpec.pre6 enc Try.prog Try.f3 Rows.duePlaysRow.domain false) (Rows.duePlaysSpec.post enc Try.prog Try.f3 false true false false) := by
  refine returnsInHanded_of_change (C := Try.checked) own started (by kernel_rfl) Try.func3
    (ChangeSpec.witness6 (enc := enc) (C := Try.checked) false ⟨#[], #[.slice none 0 0], []⟩ 8 (by kernel_rfl) (by kernel_rfl) (by kernel_rfl) (by kernel_rfl)) ?_
  intro W base args ds gs before hval0 hW hcnd _
  have hval : ∀ (j : Nat) t v, Try.f3.params[j]? = some t → args[j]? = some v → Value.okWide Try.prog W .any base t v := hval0
  have hW' := hW
  obtain ⟨p, q, hA0, hV, rfl, hfz, hnd⟩ := hW
  have hA : DataW.TrodAll enc Try.prog W 0 (fun _ => true) true Try.f3.params.toList args.toList ds p := hA0
  rw [Try.params3] at hA hval
  obtain ⟨v0, vs0, d0, ds0, p0, q0, hargs, rfl, rfl, h0, r0⟩ := trodAll_cons hA
  obtain ⟨rfl, rfl, rfl⟩ := trodAll_nil r0
  obtain rfl : args = #[v0] := by cases args; simp_all
  obtain ⟨rfl, rfl⟩ := trodVars_none hV
  have k0 := h0
  have lt0 : ∀ x ∈ p0, x.block < W.heap.size := by obtain ⟨m, hm⟩ := k0; exact DataW.trod_lt m _ _ _ hm
  obtain ⟨s0, w0⟩ := open_dos (hval 0 22 v0 rfl rfl) h0
  clear hA0 hval0
  refine (walk v0 s0 W w0).mono fun e W' ⟨he, bel⟩ => ?_
  subst he
  exact ⟨_, rfl, _, _, _, [], _, [], hW', trodAll_mk1 (shut_bool Try.underlying4 _), (trodAll_cons_mk (Below.trod laidOut (by kernel_rfl) (of_decide_eq_true (by kernel_rfl)) k0 bel lt0) trodAll_mk0), rfl, bel.frame _, fun h => by cases h⟩

theorem over : Rows.duePlaysRow.holds Try.pinned (OpenSpec.ofChange Rows.duePlaysSpec) :=
  OpenClaim.holds_of_wide 3 Try.f3 rfl rfl rfl rfl rfl rfl rfl ⟨rfl, rfl, rfl, rfl, rfl⟩ rfl rfl rfl rfl rfl (by kernel_rfl) Try.func3 (by kernel_rfl)
    (of_decide_eq_true (by kernel_rfl)) (by unfold Func.isWrapper; first | (rw [if_pos (by decide +kernel)]; kernel_rfl) | (rw [if_neg (by decide +kernel)]; exact ⟨rfl, rfl⟩))
    (fun os started H enc _ => lifted os started H enc)

/-- ████ THE STATEMENT ████ -/
theorem proved : Rows.DuePlaysSaid := over
#print axioms proved
end Go.Proofs.Ytahccfljgmleiaa.duePlays
