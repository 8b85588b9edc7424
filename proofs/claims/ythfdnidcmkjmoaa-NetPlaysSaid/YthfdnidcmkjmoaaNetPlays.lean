/-
  Whatever is sent, taken and copied: each answer, and all that is on its way behind each step, are what the document says (100 steps). Condition: none beyond the statement's own.
-/
import Derived.Test.YthfdnidcmkjmoaaRnt
import Derived.Test.YthfdnidcmkjmoaaNq
import Derived.Deep.RegionHeld
import Derived.Deep.Cut
import Derived.Test.YthfdnidcmkjmoaaPy
import Derived.Test.YthfdnidcmkjmoaaRows
import Derived.WalkKit
import Derived.ProofKit
import Derived.OpenShut
import Derived.ShutString
import Derived.ChangeOld
import Derived.Below
namespace Go.Proofs.Ythfdnidcmkjmoaa.netPlays
open Go.ChangeShapes Go.WideShapes Go.ChangeAt Go.RowKit
open Go.ChangeMaps (open_string shut_string)
set_option linter.unusedVariables false

theorem own : ownKnob Try.prog.godebug = none := by kernel_rfl
theorem laidOut : laidOutB Try.prog = true := by kernel_rfl

attribute [local go_sem] Oper.semAt_some
open Go.Sort in
set_option maxRecDepth 100000 in
set_option maxHeartbeats 20000000 in
theorem walk (v0 : Value) (s0 : List Dn) (w : World) (w0 : IsDos w v0 s0) :
    Calls Try.prog 3 #[v0] w fun e w' => e = .returned (.bool true) ∧ Below w.heap.size w w' := by
  have HS := Lib.hid w0
  obtain ⟨A, c, rfl, hlc, hcm, hsp⟩ := w0
  obtain ⟨n, hn⟩ : ∃ n, n = s0.length := ⟨_, rfl⟩
  have HL := Lib.hid hn
  have HSP := Lib.hid hsp
  rw [← hn] at hlc ⊢
  unfold maxLen at hcm
  have mixed : Try.prog.follows .mixedOrders = true := by kernel_rfl
  clear hn hsp
  have hb0 : Below w.heap.size w (w.alloc (.cells #[.bool false] 4)) := (Below.refl _ w).alloc (Nat.le_refl _) _
  have HB0 := Lib.hid hb0; clear hb0
  have HR0 : Hid ((w.alloc (.cells #[.bool false] 4)).heap[w.heap.size]? = some (.cells #[.bool false] 4 (0, 0))) := Lib.hid (World.alloc_heap_new w _)
  refine (callsIn_wide (n := 6)).1 ?_
  refine callsIn_of_wp_marks Try.func3 rfl trivial ?_ rfl
  refine wpIn_wide.2 ?_
  simp only [Try.ntmps3, List.size_toArray, List.length_cons, List.length_nil, Nat.reduceSub, Nat.reduceAdd, Array.replicate_succ, Array.replicate_zero, List.push_toArray, List.append_toArray, List.nil_append, List.cons_append]
  go_wp2_with fail
  refine (awake_any _).mono ?_
  rintro e w1 ⟨rfl, hb⟩
  have HB1 : Hid (Below w.heap.size w w1) := Lib.hid (HB0.out.trans (hb.mono HB0.out.size))
  have HR1 : Hid (w1.heap[w.heap.size]? = some (.cells #[.bool false] 4 (0, 0))) := Lib.hid ((hb.block _ (by simp)).trans HR0.out)
  clear hb
  obtain ⟨sm, hsm⟩ : ∃ sm, smallL s0 = sm := ⟨_, rfl⟩
  have hsc := small_n _ s0 w1 (HS.out.below HB1.out)
  rw [hsm, ← HL.out] at hsc
  have HSC := Lib.hid hsc
  have HSM := Lib.hid hsm
  clear hsc hsm
  go_wp2_with fail
  refine HSC.out.mono ?_
  rintro e w2 ⟨rfl, rfl⟩
  clear HSC
  cases sm with
  | false =>
    obtain ⟨c0, f0⟩ := cells_of HR1.out 0
    simp at c0
    have c9 := (cells_of (heap_setCell_same w2 w.heap.size 0 #[.bool false] 4 (.bool true) HR1.out) 0).1
    simp at c9
    go_wp2
    exact ⟨.bool true, by simp [results, Try.results3, go_sem, c9], rfl, HB1.out.setCell (p := ⟨w.heap.size, 0, none⟩) (Nat.le_refl _) _⟩
  | true =>
    have hN := new_p (w0 := w) (V := w2) [(w.heap.size, .cells #[.bool false] 4 (0, 0))] HB1.out (by intro p hp; simp at hp; subst hp; exact HR1.out)
    have HN := Lib.hid hN
    clear hN
    go_wp2_with fail
    refine HN.out.mono ?_
    rintro e w3 ⟨rfl, hp1⟩
    have hp2 := (pw_start hp1 rfl).box #[.pointer (some ⟨w3.heap.size, 0, none⟩)] 27 rfl
    have HP2 := Lib.hid hp2
    have HSZ3 : Hid (w.heap.size ≤ w3.heap.size) := Lib.hid hp1.low.size
    clear hp1 hp2 HN HR1 HR0
    go_wp2
    obtain ⟨nb, hnb⟩ : ∃ nb, w2.heap.size = nb := ⟨_, rfl⟩
    obtain ⟨rb, hrb⟩ : ∃ rb, w3.heap.size = rb := ⟨_, rfl⟩
    obtain ⟨br, hbr⟩ : ∃ br, (w3.alloc (.cells #[.slice none 0 0, .int .i64 0] 30)).heap.size = br := ⟨_, rfl⟩
    have hbr2 : rb + 1 = br := by rw [← hbr, ← hrb]; simp
    rw [hbr, hnb, hrb] at HP2
    try rw [hnb]
    try rw [hrb]
    try rw [hbr2]
    obtain ⟨W0, hW0⟩ : ∃ W0, W0 = (w3.alloc (.cells #[.slice none 0 0, .int .i64 0] 30)).alloc (.cells #[.pointer (some ⟨rb, 0, none⟩)] 27) := ⟨_, rfl⟩
    rw [← hW0] at HP2
    rw [← hW0]
    have HPL : Hid (Pw w nb rb 0 [] 0 [] (osW w.heap.size br rb []) W0) := Lib.hid (HP2.out.sub (fun p hp => by simp [osW, marks] at hp ⊢; rcases hp with h | h <;> simp [h]))
    have HE2 : Hid (w.heap.size ≤ br) := Lib.hid (by have := HSZ3.out; omega)
    clear hW0 hnb hrb hbr hbr2 HP2
    refine wp_loop (fun a1 wr => ∃ (k : Nat) (M : List Dg) (la : Int) (Ds : List Nat) (u5 : Value), (u5 = .int .i64 k ∧ k ≤ n ∧ k ≤ 100 ∧ MarksOk w.heap.size Ds ∧ Ok2 k M la ∧ Pw w nb rb la M la M (osW w.heap.size br rb Ds) wr) ∧ ∃ u6 u7 u8 u9 u10 u11 u12 u13 u14 u15 u16 u17 u18 u19 u20 u21 u30 u31 u32 u33 u34 u35 u36 u37 u38 u39 u40 u41 u42 u43 u44 u45 u46 u47 u48 u49 u50 u51 u52 u53 u54 u55 u56 u57 u58 u59 u60 u61 u62 u63 u64 u65 u66 u67 u68 u69 u70 u71 u72 u73 u74 u75 u76 u77 u78 u79 u80 u81 u82 u83 u84 u85 u86 u87 u88 u89 u90 u91 u92 u93 u94 u95 u96 u97 u98 u99 u100 u101 u102 u103 u104 u105 u106 u107 u108 u109 u110 u111 u112 u113 u114 u115 u116 u117 u118 u119 u120 u121 u122 u123 u124 u125 u126 u127 u128 u129 u130 u131 u132 u133 u134 u135 u136 u137 u138 u139 u140 u141 u142 u143 u144 u145 u146 u147 u148 u149 u150 u151 u152 u153 u154 u155 u156 u157 u158 u159 u160 u161 u162 u163 u164 u165 u166 u167 u168 u169 u170 u171 u172 u173 u174 : Value, a1 = { tmps := #[.slice A n c, undef, .pointer (some ⟨w.heap.size, 0, none⟩), .pointer (some ⟨nb, 0, none⟩), .pointer (some ⟨br, 0, none⟩), u5, u6, u7, u8, u9, u10, u11, u12, u13, u14, u15, u16, u17, u18, u19, u20, u21, .bool true, .bool false, .slice A n c, .bool true, .bool false, .pointer (some ⟨nb, 0, none⟩), .agg #[.slice none 0 0, .int .i64 0], .pointer (some ⟨rb, 0, none⟩), u30, u31, u32, u33, u34, u35, u36, u37, u38, u39, u40, u41, u42, u43, u44, u45, u46, u47, u48, u49, u50, u51, u52, u53, u54, u55, u56, u57, u58, u59, u60, u61, u62, u63, u64, u65, u66, u67, u68, u69, u70, u71, u72, u73, u74, u75, u76, u77, u78, u79, u80, u81, u82, u83, u84, u85, u86, u87, u88, u89, u90, u91, u92, u93, u94, u95, u96, u97, u98, u99, u100, u101, u102, u103, u104, u105, u106, u107, u108, u109, u110, u111, u112, u113, u114, u115, u116, u117, u118, u119, u120, u121, u122, u123, u124, u125, u126, u127, u128, u129, u130, u131, u132, u133, u134, u135, u136, u137, u138, u139, u140, u141, u142, u143, u144, u145, u146, u147, u148, u149, u150, u151, u152, u153, u154, u155, u156, u157, u158, u159, u160, u161, u162, u163, u164, u165, u166, u167, u168, u169, u170, u171, u172, u173, u174], defers := defs Ds }) (fun a1 _ => 100 - (intOf (a1.tmps.getD 5 undef)).toNat) ⟨0, [], 0, [], _, ⟨rfl, Nat.zero_le _, by decide, MarksOk.nil _, Ok2.nil, HPL.out⟩, undef, undef, undef, undef, undef, undef, undef, undef, undef, undef, undef, undef, undef, undef, undef, undef, undef, undef, undef, undef, undef, undef, undef, undef, undef, undef, undef, undef, undef, undef, undef, undef, undef, undef, undef, undef, undef, undef, undef, undef, undef, undef, undef, undef, undef, undef, undef, undef, undef, undef, undef, undef, undef, undef, undef, undef, undef, undef, undef, undef, undef, undef, undef, undef, undef, undef, undef, undef, undef, undef, undef, undef, undef, undef, undef, undef, undef, undef, undef, undef, undef, undef, undef, undef, undef, undef, undef, undef, undef, undef, undef, undef, undef, undef, undef, undef, undef, undef, undef, undef, undef, undef, undef, undef, undef, undef, undef, undef, undef, undef, undef, undef, undef, undef, undef, undef, undef, undef, undef, undef, undef, undef, undef, undef, undef, undef, undef, undef, undef, undef, undef, undef, undef, undef, undef, undef, undef, undef, undef, undef, undef, undef, undef, undef, undef, undef, undef, undef, undef, undef, undef, undef, undef, undef, undef, undef, undef, undef, undef, undef, undef, rfl⟩ ?_
    clear HPL HB1
    intro a1 wr hinv
    obtain ⟨k, M, la, Ds, u5, ⟨rfl, hk, hk100, hnd, hok, hpl⟩, hinv⟩ := hinv
    obtain ⟨u6, hinv⟩ := hinv
    obtain ⟨u7, hinv⟩ := hinv
    obtain ⟨u8, hinv⟩ := hinv
    obtain ⟨u9, hinv⟩ := hinv
    obtain ⟨u10, hinv⟩ := hinv
    obtain ⟨u11, hinv⟩ := hinv
    obtain ⟨u12, hinv⟩ := hinv
    obtain ⟨u13, hinv⟩ := hinv
    obtain ⟨u14, hinv⟩ := hinv
    obtain ⟨u15, hinv⟩ := hinv
    obtain ⟨u16, hinv⟩ := hinv
    obtain ⟨u17, hinv⟩ := hinv
    obtain ⟨u18, hinv⟩ := hinv
    obtain ⟨u19, hinv⟩ := hinv
    obtain ⟨u20, hinv⟩ := hinv
    obtain ⟨u21, hinv⟩ := hinv
    obtain ⟨u30, hinv⟩ := hinv
    obtain ⟨u31, hinv⟩ := hinv
    obtain ⟨u32, hinv⟩ := hinv
    obtain ⟨u33, hinv⟩ := hinv
    obtain ⟨u34, hinv⟩ := hinv
    obtain ⟨u35, hinv⟩ := hinv
    obtain ⟨u36, hinv⟩ := hinv
    obtain ⟨u37, hinv⟩ := hinv
    obtain ⟨u38, hinv⟩ := hinv
    obtain ⟨u39, hinv⟩ := hinv
    obtain ⟨u40, hinv⟩ := hinv
    obtain ⟨u41, hinv⟩ := hinv
    obtain ⟨u42, hinv⟩ := hinv
    obtain ⟨u43, hinv⟩ := hinv
    obtain ⟨u44, hinv⟩ := hinv
    obtain ⟨u45, hinv⟩ := hinv
    obtain ⟨u46, hinv⟩ := hinv
    obtain ⟨u47, hinv⟩ := hinv
    obtain ⟨u48, hinv⟩ := hinv
    obtain ⟨u49, hinv⟩ := hinv
    obtain ⟨u50, hinv⟩ := hinv
    obtain ⟨u51, hinv⟩ := hinv
    obtain ⟨u52, hinv⟩ := hinv
    obtain ⟨u53, hinv⟩ := hinv
    obtain ⟨u54, hinv⟩ := hinv
    obtain ⟨u55, hinv⟩ := hinv
    obtain ⟨u56, hinv⟩ := hinv
    obtain ⟨u57, hinv⟩ := hinv
    obtain ⟨u58, hinv⟩ := hinv
    obtain ⟨u59, hinv⟩ := hinv
    obtain ⟨u60, hinv⟩ := hinv
    obtain ⟨u61, hinv⟩ := hinv
    obtain ⟨u62, hinv⟩ := hinv
    obtain ⟨u63, hinv⟩ := hinv
    obtain ⟨u64, hinv⟩ := hinv
    obtain ⟨u65, hinv⟩ := hinv
    obtain ⟨u66, hinv⟩ := hinv
    obtain ⟨u67, hinv⟩ := hinv
    obtain ⟨u68, hinv⟩ := hinv
    obtain ⟨u69, hinv⟩ := hinv
    obtain ⟨u70, hinv⟩ := hinv
    obtain ⟨u71, hinv⟩ := hinv
    obtain ⟨u72, hinv⟩ := hinv
    obtain ⟨u73, hinv⟩ := hinv
    obtain ⟨u74, hinv⟩ := hinv
    obtain ⟨u75, hinv⟩ := hinv
    obtain ⟨u76, hinv⟩ := hinv
    obtain ⟨u77, hinv⟩ := hinv
    obtain ⟨u78, hinv⟩ := hinv
    obtain ⟨u79, hinv⟩ := hinv
    obtain ⟨u80, hinv⟩ := hinv
    obtain ⟨u81, hinv⟩ := hinv
    obtain ⟨u82, hinv⟩ := hinv
    obtain ⟨u83, hinv⟩ := hinv
    obtain ⟨u84, hinv⟩ := hinv
    obtain ⟨u85, hinv⟩ := hinv
    obtain ⟨u86, hinv⟩ := hinv
    obtain ⟨u87, hinv⟩ := hinv
    obtain ⟨u88, hinv⟩ := hinv
    obtain ⟨u89, hinv⟩ := hinv
    obtain ⟨u90, hinv⟩ := hinv
    obtain ⟨u91, hinv⟩ := hinv
    obtain ⟨u92, hinv⟩ := hinv
    obtain ⟨u93, hinv⟩ := hinv
    obtain ⟨u94, hinv⟩ := hinv
    obtain ⟨u95, hinv⟩ := hinv
    obtain ⟨u96, hinv⟩ := hinv
    obtain ⟨u97, hinv⟩ := hinv
    obtain ⟨u98, hinv⟩ := hinv
    obtain ⟨u99, hinv⟩ := hinv
    obtain ⟨u100, hinv⟩ := hinv
    obtain ⟨u101, hinv⟩ := hinv
    obtain ⟨u102, hinv⟩ := hinv
    obtain ⟨u103, hinv⟩ := hinv
    obtain ⟨u104, hinv⟩ := hinv
    obtain ⟨u105, hinv⟩ := hinv
    obtain ⟨u106, hinv⟩ := hinv
    obtain ⟨u107, hinv⟩ := hinv
    obtain ⟨u108, hinv⟩ := hinv
    obtain ⟨u109, hinv⟩ := hinv
    obtain ⟨u110, hinv⟩ := hinv
    obtain ⟨u111, hinv⟩ := hinv
    obtain ⟨u112, hinv⟩ := hinv
    obtain ⟨u113, hinv⟩ := hinv
    obtain ⟨u114, hinv⟩ := hinv
    obtain ⟨u115, hinv⟩ := hinv
    obtain ⟨u116, hinv⟩ := hinv
    obtain ⟨u117, hinv⟩ := hinv
    obtain ⟨u118, hinv⟩ := hinv
    obtain ⟨u119, hinv⟩ := hinv
    obtain ⟨u120, hinv⟩ := hinv
    obtain ⟨u121, hinv⟩ := hinv
    obtain ⟨u122, hinv⟩ := hinv
    obtain ⟨u123, hinv⟩ := hinv
    obtain ⟨u124, hinv⟩ := hinv
    obtain ⟨u125, hinv⟩ := hinv
    obtain ⟨u126, hinv⟩ := hinv
    obtain ⟨u127, hinv⟩ := hinv
    obtain ⟨u128, hinv⟩ := hinv
    obtain ⟨u129, hinv⟩ := hinv
    obtain ⟨u130, hinv⟩ := hinv
    obtain ⟨u131, hinv⟩ := hinv
    obtain ⟨u132, hinv⟩ := hinv
    obtain ⟨u133, hinv⟩ := hinv
    obtain ⟨u134, hinv⟩ := hinv
    obtain ⟨u135, hinv⟩ := hinv
    obtain ⟨u136, hinv⟩ := hinv
    obtain ⟨u137, hinv⟩ := hinv
    obtain ⟨u138, hinv⟩ := hinv
    obtain ⟨u139, hinv⟩ := hinv
    obtain ⟨u140, hinv⟩ := hinv
    obtain ⟨u141, hinv⟩ := hinv
    obtain ⟨u142, hinv⟩ := hinv
    obtain ⟨u143, hinv⟩ := hinv
    obtain ⟨u144, hinv⟩ := hinv
    obtain ⟨u145, hinv⟩ := hinv
    obtain ⟨u146, hinv⟩ := hinv
    obtain ⟨u147, hinv⟩ := hinv
    obtain ⟨u148, hinv⟩ := hinv
    obtain ⟨u149, hinv⟩ := hinv
    obtain ⟨u150, hinv⟩ := hinv
    obtain ⟨u151, hinv⟩ := hinv
    obtain ⟨u152, hinv⟩ := hinv
    obtain ⟨u153, hinv⟩ := hinv
    obtain ⟨u154, hinv⟩ := hinv
    obtain ⟨u155, hinv⟩ := hinv
    obtain ⟨u156, hinv⟩ := hinv
    obtain ⟨u157, hinv⟩ := hinv
    obtain ⟨u158, hinv⟩ := hinv
    obtain ⟨u159, hinv⟩ := hinv
    obtain ⟨u160, hinv⟩ := hinv
    obtain ⟨u161, hinv⟩ := hinv
    obtain ⟨u162, hinv⟩ := hinv
    obtain ⟨u163, hinv⟩ := hinv
    obtain ⟨u164, hinv⟩ := hinv
    obtain ⟨u165, hinv⟩ := hinv
    obtain ⟨u166, hinv⟩ := hinv
    obtain ⟨u167, hinv⟩ := hinv
    obtain ⟨u168, hinv⟩ := hinv
    obtain ⟨u169, hinv⟩ := hinv
    obtain ⟨u170, hinv⟩ := hinv
    obtain ⟨u171, hinv⟩ := hinv
    obtain ⟨u172, hinv⟩ := hinv
    obtain ⟨u173, hinv⟩ := hinv
    obtain ⟨u174, hinv⟩ := hinv
    obtain rfl := hinv
    try dsimp only
    have HP := Lib.hid hpl; have HND := Lib.hid hnd; have HOK := Lib.hid hok
    clear hpl hnd hok
    by_cases hlt : k < n
    · by_cases hlt2 : k < 100
      · obtain ⟨b, off, rfl, hb, hc⟩ := HSP.out (by have := HL.out; omega)
        obtain ⟨d, hd⟩ : ∃ d, d = s0.getD k default := ⟨_, rfl⟩
        have hdo := hc k (by have := HL.out; omega)
        have hz := small_at HSM.out (k := k) (by have := HL.out; omega) hlt2
        rw [← hd] at hdo hz
        clear hc hd
        obtain ⟨Ab, cb, ⟨e0, e1, e2, e3, e4, e5, e6⟩, hbt, hzc, hcm9, hnil, hwk, hwn, hf, ht⟩ := hdo.parts (Below.refl _ w)
        have d0 := (HP.out.low.cell (p := ⟨b, off + k * 7, none⟩) hb).trans e0
        have d1 := (HP.out.low.cell (p := ⟨b, off + k * 7 + 1, none⟩) hb).trans e1
        have d2 := (HP.out.low.cell (p := ⟨b, off + k * 7 + 2, none⟩) hb).trans e2
        have d3 := (HP.out.low.cell (p := ⟨b, off + k * 7 + 3, none⟩) hb).trans e3
        have d4 := (HP.out.low.cell (p := ⟨b, off + k * 7 + 4, none⟩) hb).trans e4
        have d5 := (HP.out.low.cell (p := ⟨b, off + k * 7 + 5, none⟩) hb).trans e5
        have d6 := (HP.out.low.cell (p := ⟨b, off + k * 7 + 6, none⟩) hb).trans e6
        have bl := World.block_lt_of_cell? wr _ d0
        dsimp only at bl
        clear e0 e1 e2 e3 e4 e5 e6
        obtain ⟨g, hg⟩ : ∃ g, wr.heap.size = g := ⟨_, rfl⟩
        obtain ⟨W1, hW1⟩ : ∃ W1, wr.alloc (.cells #[.int .i64 d.kind, .int .i64 d.no, .int .u32 d.f.1, .int .i64 d.f.2, .int .u32 d.t.1, .int .i64 d.t.2, .slice Ab d.zs.length cb] 36) = W1 := ⟨_, rfl⟩
        have hp1 : Pw w nb rb la M la M (stepO g d Ab cb :: osW w.heap.size br rb Ds) W1 := by rw [← hW1]; exact HP.out.box _ 36 hg.symm
        have HP1 := Lib.hid hp1; have HBT := Lib.hid hbt; have HZ := Lib.hid hz; have HNIL := Lib.hid hnil; have HF := Lib.hid hf; have HT := Lib.hid ht; have HWN := Lib.hid hwn
        have HGE : Hid (w.heap.size ≤ g) := Lib.hid (by rw [← hg]; exact HP.out.low.size)
        clear hbt hz hnil hf ht hdo hwk hwn hzc hcm9 HP
        obtain ⟨f0, f1, f2, f3, f4, f5, f6⟩ := hp1.c7 (List.mem_cons_self : stepO g d Ab cb ∈ stepO g d Ab cb :: osW w.heap.size br rb Ds)
        have gl : g < W1.heap.size := hp1.lt (p := stepO g d Ab cb) (by simp)
        clear hp1
        by_cases hk0 : d.kind = 0
        · have l0 : (d.kind == 0) = true := by simp [hk0]
          clear hk0
          have hC := send_w HP1.out (HOK.out.ok (by omega)) d.f d.t HF.out HT.out Ab d.zs.length cb d.zs (HBT.out.below HP1.out.low) HNIL.out (by have := HZ.out; omega)
          obtain ⟨⟨⟨x1, x2⟩, M2, la2⟩, hx⟩ : ∃ z, sendN M la d.f d.t d.zs = z := ⟨_, rfl⟩
          have hok2 : Ok2 (k + 1) M2 la2 := by have := HOK.out.send d.f d.t HZ.out; rwa [hx] at this
          rw [hx] at hC
          unfold twoV adr at hC
          dsimp only at hC
          have HC := Lib.hid hC; have HOK2 := Lib.hid hok2; have HX := Lib.hid hx
          clear hC hok2 hx
          go_wp2_with fail
          refine HC.out.mono ?_
          rintro e V2 ⟨rfl, hp2⟩
          have hR := rsend_w hp2 (HOK.out.ok (by omega)) d.f d.t HF.out HT.out Ab d.zs.length cb d.zs (HBT.out.below hp2.low) HNIL.out (by have := HZ.out; omega)
          rw [HX.out] at hR
          unfold twoV adr at hR
          dsimp only at hR
          have HR := Lib.hid hR
          clear f0 f1 f2 f3 f4 f5 f6 gl HC d0 d1 d2 d3 d4 d5 d6 bl hR
          obtain ⟨f0, f1, f2, f3, f4, f5, f6⟩ := hp2.c7 (List.mem_cons_self : stepO g d Ab cb ∈ stepO g d Ab cb :: osW w.heap.size br rb Ds)
          have gl : g < V2.heap.size := hp2.lt (p := stepO g d Ab cb) (by simp)
          obtain ⟨r0, -, rl⟩ := hp2.c1 (k := br) (v := .pointer (some ⟨rb, 0, none⟩)) (t := 27) (by simp [osW])
          clear hp2
          go_wp2_with fail
          refine HR.out.mono ?_
          rintro e V ⟨rfl, hp3⟩
          have HPV : Hid (Pw w nb rb la2 M2 la2 M2 (osW w.heap.size br rb Ds) V) := Lib.hid (hp3.sub (fun p hp => List.mem_cons_of_mem _ hp))
          have q1 : (x1 != x1) = false := by simp
          have q2 : (x2 != x2) = false := by simp
          clear f0 f1 f2 f3 f4 f5 f6 gl r0 rl HR hp3 HX
          have hpk := HPV.out.box (k := V.heap.size) #[.int .i64 0] 3 rfl
          obtain ⟨kc, hkc⟩ : ∃ kc, V.heap.size = kc := ⟨_, rfl⟩
          rw [hkc] at hpk
          have HA := Lib.hid (all_w hpk (HOK2.out.ok (by omega)))
          have HNK : Hid (∀ p ∈ osW w.heap.size br rb Ds, p.1 < kc) := Lib.hid (fun p hp => by rw [← hkc]; exact HPV.out.lt hp)
          have HWK : Hid (w.heap.size ≤ kc) := Lib.hid (by rw [← hkc]; exact HPV.out.low.size)
          clear hpk HPV
          go_wp2_with fail
          refine HA.out.mono ?_
          rintro e Va ⟨b2, kv2, L, rfl, hL, hS, hpa, hog, hbv⟩
          have hsz : kc + 1 ≤ Va.heap.size := by have := hbv.size; simp at this; omega
          have hgl := hS.lts
          have hlen : L.length = M2.length := by rw [← hL, List.length_map]
          have hsm : ∀ d ∈ M2, d.b.length ≤ 1300 := HOK2.out.sm
          have hst := all1_tells 5 (by omega) b2 (blks b2 kv2 L) kv2 L Va hgl hS (fun g hg => hg) (by have := HOK2.out.len; omega) (fun m hm => by have := hsm m.d (by rw [← hL]; exact List.mem_map.2 ⟨m, hm, rfl⟩); omega)
          obtain ⟨gs, hgs⟩ : ∃ gs, blks b2 kv2 L = gs := ⟨_, rfl⟩
          rw [hgs] at hst hog hgl
          have HPA := Lib.hid hpa; have HOG := Lib.hid hog; have HGL := Lib.hid hgl; have HL' := Lib.hid hL; have HSZ := Lib.hid hsz; have HLN := Lib.hid hlen; have HSMM := Lib.hid hsm
          have HOSL : Hid (∀ (m : Int), ∀ p ∈ (kc, Obj.cells #[.int .i64 m] 3 (0, 0)) :: osW w.heap.size br rb Ds, p.1 < Va.heap.size) := Lib.hid (fun m p hp => by
            rcases List.mem_cons.1 hp with rfl | hp
            · simp only; omega
            · have := HNK.out p hp; omega)
          have HWV : Hid (w.heap.size ≤ Va.heap.size) := Lib.hid (by have := HWK.out; omega)
          clear hgs hpa hog hL hsz hS hbv HA hkc q1 q2 hlen hsm
          go_wp2
          refine (wpIn_wide (n := 6)).1 ?_
          apply range_told4 (F := Fence.wide) (n := 6) (f := 32) (own := #[.pointer (some ⟨b2, 0, none⟩)]) ⟨rfl, by omega, trivial, enters_of Try.func32 (by kernel_rfl) rfl, hst⟩ rfl (Below.refl _ _) hgl (fun _ => rfl)
            (fun pre V => ∃ m, pre.length = m ∧ m ≤ M2.length ∧ Pw w nb rb la2 M2 la2 M2 ((kc, .cells #[.int .i64 (m : Int)] 3 (0, 0)) :: osW w.heap.size br rb Ds) V)
            (fun c pre V => False)
            ⟨fun s A C row ⟨m, h1, h2, h3⟩ hg hr => ⟨m, h1, h2, h3.own hg hr (HOSL.out _) HWV.out⟩, fun c s A C row h0 hg hr => h0⟩
            ⟨0, rfl, Nat.zero_le _, HPA.out⟩
          case al => exact fun z => .cells (sentC z.d.no z.d.f z.d.t z.v) 43
          case hassign =>
            intro l z W g K hg hK
            simp only [encM]
            unfold sentC Md.v at *
            gi_wp2
            exact hK
          case hbody =>
            rintro l pre z V0 V1 dd o o' gz ⟨m, hm1, hm2, hPm⟩ hb hok hd ho hBd hdl hg -
            obtain ⟨kk, mm, hLk, hkk, hzd⟩ := hok.1
            have hMk : M2[m]? = some z.d := by rw [← HL'.out, List.getElem?_map, ← hm1, ← hkk, hLk, hzd]; rfl
            have hml : m < M2.length := (List.getElem?_eq_some_iff.1 hMk).1
            obtain ⟨hpw, hbz⟩ := hPm.handed hb hok hd ho hBd (HOSL.out m) HWV.out hg (sentC z.d.no z.d.f z.d.t z.v) 43
            have hzs : z.d.b.length ≤ 1300 := HSMM.out z.d (List.mem_of_getElem? hMk)
            unfold sentC Md.v at hpw hbz ⊢
            generalize ((V1.alloc (.cells #[.int .i64 z.d.no, .int .u32 z.d.f.1, .int .i64 z.d.f.2, .int .u32 z.d.t.1, .int .i64 z.d.t.2, .slice z.A z.d.b.length z.c] 43)).putObj dd o) = W at *
            obtain ⟨Ar, cr, r1, rl1, rc1, rc2, hrow⟩ := hpw.rform
            obtain ⟨gr, A2, c2, rfl, hgr, s0', s1', s2', s3', s4', s5', hbr2⟩ := hrow m z.d hMk
            have hkp := hpw.sub (os' := (kc, .cells #[.int .i64 (m : Int)] 3 (0, 0)) :: osW w.heap.size br rb Ds) (fun p hp => List.mem_cons_of_mem _ hp)
            obtain ⟨t0, -, tl⟩ := hpw.c1 (k := kc) (v := .int .i64 (m : Int)) (t := 3) (by simp)
            obtain ⟨u0', -, ul⟩ := hpw.c1 (k := br) (v := .pointer (some ⟨rb, 0, none⟩)) (t := 27) (by simp [osW])
            obtain ⟨y0, y1, y2, y3, y4, y5⟩ := hpw.c6 (k := gz) List.mem_cons_self
            have hC : ∀ W' : World, Below W.heap.size W W' → Calls Try.prog 18 #[.agg (sentC z.d.no z.d.f z.d.t (.slice z.A z.d.b.length z.c)), .agg (sentC z.d.no z.d.f z.d.t (.slice A2 z.d.b.length c2))] W' fun e w' => e = .returned (.bool true) ∧ Below W'.heap.size W' w' := fun W' hb' => by
              have := same_d z.d z.d z.A A2 z.c c2 W' (hbz.below hb') (hbr2.below hb') (by omega)
              rwa [sameD_self] at this
            unfold sentC at hC
            have cP : ∀ d os, CallsIn Fence.wide 3 Try.prog 18 #[.agg #[.int .i64 z.d.no, .int .u32 z.d.f.1, .int .i64 z.d.f.2, .int .u32 z.d.t.1, .int .i64 z.d.t.2, .slice z.A z.d.b.length z.c], .agg #[.int .i64 z.d.no, .int .u32 z.d.f.1, .int .i64 z.d.f.2, .int .u32 z.d.t.1, .int .i64 z.d.t.2, .slice A2 z.d.b.length c2]] (grow (redrawn W d) os) fun e w'' => e = .returned (.bool true) ∧ ∃ p : Regrown, w'' = grow (redrawn W p.d) p.os := fun d os => CallsIn.regrown_of (callsIn_wide.2 (hC _ (below_regrown W d os)))
            have HVW : Hid (Va.heap.size ≤ W.heap.size) := Lib.hid (by have := hpw.lt (p := (gz, _)) List.mem_cons_self; simp only at this; omega)
            have HFIN : Hid (∀ V', Below W.heap.size W V' → Kept gs false Va.heap.size W V' ∧ Pw w nb rb la2 M2 la2 M2 ((kc, .cells #[.int .i64 (m : Int)] 3 (0, 0)) :: osW w.heap.size br rb Ds) V') := Lib.hid (fun V' hb' => ⟨Kept.of_below hb' (fun g hg => Nat.lt_of_lt_of_le (HGL.out g hg) HVW.out), hkp.below hb'⟩)
            have HM1 := Lib.hid hm1
            have c0' := cell_regrown t0; have c1' := cell_regrown u0'; have c2' := cell_regrown r1
            have c3' := cell_regrown y0; have c4' := cell_regrown y1; have c5' := cell_regrown y2; have c6' := cell_regrown y3; have c7' := cell_regrown y4; have c8' := cell_regrown y5
            have c9' := cell_regrown s0'; have ca' := cell_regrown s1'; have cb' := cell_regrown s2'; have cc' := cell_regrown s3'; have cd' := cell_regrown s4'; have ce' := cell_regrown s5'
            have hge : ¬ (M2.length : Int) ≤ (m : Int) := by omega
            have HM9 : Hid (m ≤ 150) := Lib.hid (by have := HOK2.out.len; omega)
            generalize M2.length = ml at *
            clear hLk hMk hzd hkk hbz hbr2 hrow hpw hPm hb hok hd ho hBd hdl hg hkp hC hst hgl hm1
            gi_wp2
            refine region_round (by kernel_rfl) (by kernel_rfl) (by kernel_rfl) ?_
            repeat (refine wpQuietIn_step (ask_wide _ _ _) (fun K hK => ?_); go_simp; first | (refine hK _ ?_; clear hK K) | (apply Exists.intro; refine ⟨fun _ => ?_, hK _ ?_⟩; (first | exact ⟨trivial, cP _ _⟩ | exact cP _ _); clear hK K))
            refine wpQuietIn_nil ?_
            intro _ hw'
            obtain ⟨⟨dq, osq⟩, hw''⟩ := hw'
            subst hw''
            have hV := below_regrown W dq osq
            have hV1 := HFIN.out _ hV
            clear c0' c1' c2' c3' c4' c5' c6' c7' c8' c9' ca' cb' cc' cd' ce' cP
            generalize grow (redrawn W dq) osq = V' at *
            obtain ⟨t0', tf', tl'⟩ := hV1.2.c1 (k := kc) (v := .int .i64 (m : Int)) (t := 3) (by simp)
            have hst' := hV1.2.store (j := 0) (v := .int .i64 ((m : Int) + 1)) (fun p hp => by have := HNK.out p hp; omega) HWK.out
            have hgl' : ∀ g ∈ gs, g < V'.heap.size := fun g hg => Nat.lt_of_lt_of_le (HGL.out g hg) (Nat.le_trans HVW.out hV.size)
            have hk' : Kept gs false Va.heap.size V' (V'.setCell ⟨kc, 0, none⟩ (.int .i64 ((m : Int) + 1))) := Kept.keeps (S := fun k => k = kc) (Keeps.set (S := fun k => k = kc) (Keeps.refl _ _) kc 0 _ rfl) hgl' (fun g hg e => HOG.out (kc, .cells #[.int .i64 0] 3 (0, 0)) (by simp) (by rw [← e]; exact hg)) (fun k e _ => by subst e; exact ⟨_, hV1.2.held (k, .cells #[.int .i64 (m : Int)] 3 (0, 0)) (by simp), rfl⟩)
            have HKE := Lib.hid (hV1.1.trans hk'); have HST := Lib.hid hst'
            have hpl : (pre ++ [z]).length = m + 1 := by rw [List.length_append, HM1.out]; rfl
            have HPL := Lib.hid hpl
            clear hV hV1 hst' hgl' hk' hpl t0 tl u0' ul y0 y1 y2 y3 y4 y5 r1 rl1 s0' s1' s2' s3' s4' s5' hgr
            have hm9 := HM9.out
            gi_wp2
            exact ⟨HKE.out, m + 1, HPL.out, by omega, by have := HST.out; simpa using this⟩
          case hstop => exact fun D c pre W hD hs h => h.elim
          case hdone =>
            rintro D xs W hD hxs ⟨m, hm1, hm2, hPm⟩ hK
            have hmk : m = M2.length := by
              have h1 : xs.map Md.d = L.map Md.d := hxs
              have h2 := congrArg List.length h1
              rw [List.length_map, List.length_map, hm1, HLN.out] at h2
              exact h2
            subst hmk
            have hph := hPm.hold hK rfl
            have HPE : Hid (Pw w nb rb la2 M2 la2 M2 (osW w.heap.size br rb (D :: Ds)) W.drew) := Lib.hid ((hph.sub (fun p hp => by
              simp only [osW, marks, List.map_cons, List.mem_cons] at hp ⊢
              rcases hp with h | h | h | h
              · exact .inr (.inr (.inl h))
              · exact .inr (.inr (.inr (.inl h)))
              · exact .inl h
              · exact .inr (.inr (.inr (.inr h))))).drew)
            have HMK : Hid (MarksOk w.heap.size (D :: Ds)) := Lib.hid (HND.out.cons (Nat.le_trans HWV.out hD) (fun h => by have h1 := HOSL.out 0 _ (List.mem_cons_of_mem _ (osW_d h)); simp only [markO] at h1; omega))
            obtain ⟨t0, -, tl⟩ := hPm.c1 (k := kc) (v := .int .i64 (M2.length : Int)) (t := 3) (by simp)
            obtain ⟨u0', -, ul⟩ := hPm.c1 (k := br) (v := .pointer (some ⟨rb, 0, none⟩)) (t := 27) (by simp [osW])
            obtain ⟨Ar, cr, r1, rl1, rc1, rc2, -⟩ := hPm.rform
            have hcn := count_w hPm.drew
            have HCN := Lib.hid hcn
            have HS37 : Hid ((W.drew.cell? ⟨kc, 0, none⟩ = some (.int .i64 (M2.length : Int)) ∧ W.drew.cell? ⟨br, 0, none⟩ = some (.pointer (some ⟨rb, 0, none⟩)) ∧ W.drew.cell? ⟨rb, 0, none⟩ = some (.slice Ar M2.length cr)) ∧ kc < W.drew.heap.size ∧ br < W.drew.heap.size ∧ rb < W.drew.heap.size) := Lib.hid ⟨⟨t0, u0', r1⟩, tl, ul, rl1⟩
            have hz1 : ((M2.length : Int) != (M2.length : Int)) = false := by simp
            clear hph hPm hK hD hxs hm1 hm2 hcn hst hgl
            generalize M2.length = ml at *
            go_upto_region 37 with (fail)
            refine Code.wp_mono (Q := OnlyN _) OnlyN.all ?_
            refine wp_region_held_drew (S := fun W => (W.cell? ⟨kc, 0, none⟩ = some (.int .i64 (ml : Int)) ∧ W.cell? ⟨br, 0, none⟩ = some (.pointer (some ⟨rb, 0, none⟩)) ∧ W.cell? ⟨rb, 0, none⟩ = some (.slice Ar ml cr)) ∧ kc < W.heap.size ∧ br < W.heap.size ∧ rb < W.heap.size) (by kernel_rfl) HS37.out (fun hHeld => ?_)
            refine wpAnyH_take (i := 0) (oi := _) (v := ?_) rfl (by kernel_rfl) (by kernel_rfl) (by kernel_rfl) (fun _ _ _ h => h) (Or.inl ⟨by rfl, ?_⟩) (by assumption) ?_
            case refine_2 => intro w hSw; obtain ⟨⟨p0, p1, p2⟩, pl1, pl2, pl3⟩ := hSw; go_simp; first | done | (with_reducible rfl)
            try simp only [Act.put, List.getElem_toArray, List.getElem_cons_zero, List.setIfInBounds_toArray, List.set_cons_zero, List.set_cons_succ]
            refine wpAnyH_take (i := 1) (oi := _) (v := ?_) rfl (by kernel_rfl) (by kernel_rfl) (by kernel_rfl) (fun _ _ _ h => h) (Or.inl ⟨by rfl, ?_⟩) (by assumption) ?_
            case refine_2 => intro w hSw; obtain ⟨⟨p0, p1, p2⟩, pl1, pl2, pl3⟩ := hSw; go_simp; first | done | (with_reducible rfl)
            try simp only [Act.put, List.getElem_toArray, List.getElem_cons_zero, List.getElem_cons_succ, List.setIfInBounds_toArray, List.set_cons_zero, List.set_cons_succ]
            refine wpAnyH_take (i := 2) (oi := _) (v := ?_) rfl (by kernel_rfl) (by kernel_rfl) (by kernel_rfl) (fun _ _ _ h => h) (Or.inl ⟨by rfl, ?_⟩) (by assumption) ?_
            case refine_2 => intro w hSw; obtain ⟨⟨p0, p1, p2⟩, pl1, pl2, pl3⟩ := hSw; go_simp; first | done | (with_reducible rfl)
            try simp only [Act.put, List.getElem_toArray, List.getElem_cons_zero, List.getElem_cons_succ, List.setIfInBounds_toArray, List.set_cons_zero, List.set_cons_succ]
            refine wpAnyH_take (i := 3) (oi := _) (v := ?_) rfl (by kernel_rfl) (by kernel_rfl) (by kernel_rfl) (fun _ _ _ h => h) (Or.inl ⟨by rfl, ?_⟩) (by assumption) ?_
            case refine_2 => intro w hSw; obtain ⟨⟨p0, p1, p2⟩, pl1, pl2, pl3⟩ := hSw; go_simp; first | done | (with_reducible rfl)
            try simp only [Act.put, List.getElem_toArray, List.getElem_cons_zero, List.getElem_cons_succ, List.setIfInBounds_toArray, List.set_cons_zero, List.set_cons_succ]
            refine wpAnyH_take (i := 4) (oi := _) (v := ?_) rfl (by kernel_rfl) (by kernel_rfl) (by kernel_rfl) (fun _ _ _ h => h) (Or.inl ⟨by rfl, ?_⟩) (by assumption) ?_
            case refine_2 => intro w hSw; obtain ⟨⟨p0, p1, p2⟩, pl1, pl2, pl3⟩ := hSw; go_simp; first | done | (with_reducible rfl)
            try simp only [Act.put, List.getElem_toArray, List.getElem_cons_zero, List.getElem_cons_succ, List.setIfInBounds_toArray, List.set_cons_zero, List.set_cons_succ]
            refine wpAnyH_take (i := 5) (oi := _) (v := ?_) rfl (by kernel_rfl) (by kernel_rfl) (by kernel_rfl) (fun _ _ _ h => h) (Or.inl ⟨by rfl, ?_⟩) (by assumption) ?_
            case refine_2 => intro w hSw; obtain ⟨⟨p0, p1, p2⟩, pl1, pl2, pl3⟩ := hSw; go_simp; first | done | (with_reducible rfl)
            try simp only [Act.put, List.getElem_toArray, List.getElem_cons_zero, List.getElem_cons_succ, List.setIfInBounds_toArray, List.set_cons_zero, List.set_cons_succ]
            refine wpAnyH_take (i := 6) (oi := _) (v := ?_) rfl (by kernel_rfl) (by kernel_rfl) (by kernel_rfl) (fun _ _ _ h => h) (Or.inl ⟨by rfl, ?_⟩) (by assumption) ?_
            case refine_2 => intro w hSw; obtain ⟨⟨p0, p1, p2⟩, pl1, pl2, pl3⟩ := hSw; go_simp; first | done | (with_reducible rfl)
            try simp only [Act.put, List.getElem_toArray, List.getElem_cons_zero, List.getElem_cons_succ, List.setIfInBounds_toArray, List.set_cons_zero, List.set_cons_succ]
            refine wpAnyH_take (i := 7) (oi := _) (v := ?_) rfl (by kernel_rfl) (by kernel_rfl) (by kernel_rfl) (fun _ _ _ h => h) (Or.inl ⟨by rfl, ?_⟩) (by assumption) ?_
            case refine_2 => intro w hSw; obtain ⟨⟨p0, p1, p2⟩, pl1, pl2, pl3⟩ := hSw; go_simp; first | done | (with_reducible rfl)
            try simp only [Act.put, List.getElem_toArray, List.getElem_cons_zero, List.getElem_cons_succ, List.setIfInBounds_toArray, List.set_cons_zero, List.set_cons_succ]
            refine wpAnyH_take (i := 8) (oi := _) (v := ?_) rfl (by kernel_rfl) (by kernel_rfl) (by kernel_rfl) (fun _ _ _ h => h) (Or.inl ⟨by rfl, ?_⟩) (by assumption) ?_
            case refine_2 => intro w hSw; obtain ⟨⟨p0, p1, p2⟩, pl1, pl2, pl3⟩ := hSw; go_simp; first | done | (with_reducible rfl)
            try simp only [Act.put, List.getElem_toArray, List.getElem_cons_zero, List.getElem_cons_succ, List.setIfInBounds_toArray, List.set_cons_zero, List.set_cons_succ]
            refine wpAnyH_take (i := 10) (oi := _) (v := ?_) rfl (by kernel_rfl) (by kernel_rfl) (by kernel_rfl) (fun _ _ _ h => h) (Or.inl ⟨by rfl, ?_⟩) (by assumption) ?_
            case refine_2 => intro w hSw; obtain ⟨⟨p0, p1, p2⟩, pl1, pl2, pl3⟩ := hSw; go_simp; first | done | (with_reducible rfl)
            try simp only [Act.put, List.getElem_toArray, List.getElem_cons_zero, List.getElem_cons_succ, List.setIfInBounds_toArray, List.set_cons_zero, List.set_cons_succ]
            refine wpAnyH_ready (rs := [9]) (by kernel_rfl) (by simp) ?_
            refine AllReadyH.cons rfl (fun K hK => ?_) AllReadyH.nil
            go_simp
            go_at_call 20
            refine HCN.out.mono ?_
            rintro e W2 ⟨rfl, rfl⟩
            refine hK.out _ _ HS37.out (fun hHeld => ?_)
            clear hK K
            try simp only [Act.put, List.getElem_toArray, List.getElem_cons_zero, List.getElem_cons_succ, List.setIfInBounds_toArray, List.set_cons_zero, List.set_cons_succ]
            refine wpAnyH_take (i := 11) (oi := _) (v := ?_) rfl (by kernel_rfl) (by kernel_rfl) (by kernel_rfl) (fun _ _ _ h => h) (Or.inl ⟨by rfl, ?_⟩) (by assumption) ?_
            case refine_2 => intro w hSw; obtain ⟨⟨p0, p1, p2⟩, pl1, pl2, pl3⟩ := hSw; go_simp; first | done | (with_reducible rfl)
            try simp only [Act.put, List.getElem_toArray, List.getElem_cons_zero, List.getElem_cons_succ, List.setIfInBounds_toArray, List.set_cons_zero, List.set_cons_succ]
            refine wpAnyH_take (i := 12) (oi := _) (v := ?_) rfl (by kernel_rfl) (by kernel_rfl) (by kernel_rfl) (fun _ _ _ h => h) (Or.inl ⟨by rfl, ?_⟩) (by assumption) ?_
            case refine_2 => intro w hSw; obtain ⟨⟨p0, p1, p2⟩, pl1, pl2, pl3⟩ := hSw; go_simp; first | done | (with_reducible rfl)
            try simp only [Act.put, List.getElem_toArray, List.getElem_cons_zero, List.getElem_cons_succ, List.setIfInBounds_toArray, List.set_cons_zero, List.set_cons_succ]
            refine wpAnyH_done (by kernel_rfl) ?_ _
            dsimp only [OnlyN]
            clear hHeld HS37 HCN hz1
            go_wp2
            refine ⟨⟨k + 1, M2, la2, D :: Ds, .int .i64 ((k : Int) + 1), ⟨by go_num, by omega, by omega, HMK.out, HOK2.out, HPE.out⟩, ?_⟩, ?_⟩
            · (repeat apply Exists.intro)
              rfl
            · simp [intOf]; omega
        · have l0 : (d.kind == 0) = false := by simp [hk0]
          by_cases hk2 : d.kind = 2
          · have l2 : (d.kind == 2) = true := by simp [hk2]
            clear hk0 hk2
            have hC := copy_w HP1.out (HOK.out.ok (by omega)) d.no
            obtain ⟨⟨⟨x1, x2⟩, M2, la2⟩, hx⟩ : ∃ z, copyN M la d.no = z := ⟨_, rfl⟩
            have hok2 : Ok2 (k + 1) M2 la2 := by have := HOK.out.copy d.no; rwa [hx] at this
            rw [hx] at hC
            unfold twoV at hC
            dsimp only at hC
            have HC := Lib.hid hC; have HOK2 := Lib.hid hok2; have HX := Lib.hid hx
            clear hC hok2 hx
            go_wp2_with fail
            refine HC.out.mono ?_
            rintro e V2 ⟨rfl, hp2⟩
            have hR := rcopy_w hp2 (HOK.out.ok (by omega)) d.no
            rw [HX.out] at hR
            unfold twoV at hR
            dsimp only at hR
            have HR := Lib.hid hR
            clear f0 f1 f2 f3 f4 f5 f6 gl HC d0 d1 d2 d3 d4 d5 d6 bl hR
            obtain ⟨f0, f1, f2, f3, f4, f5, f6⟩ := hp2.c7 (List.mem_cons_self : stepO g d Ab cb ∈ stepO g d Ab cb :: osW w.heap.size br rb Ds)
            have gl : g < V2.heap.size := hp2.lt (p := stepO g d Ab cb) (by simp)
            obtain ⟨r0, -, rl⟩ := hp2.c1 (k := br) (v := .pointer (some ⟨rb, 0, none⟩)) (t := 27) (by simp [osW])
            clear hp2
            go_wp2_with fail
            refine HR.out.mono ?_
            rintro e V ⟨rfl, hp3⟩
            have HPV : Hid (Pw w nb rb la2 M2 la2 M2 (osW w.heap.size br rb Ds) V) := Lib.hid (hp3.sub (fun p hp => List.mem_cons_of_mem _ hp))
            have q1 : (x1 != x1) = false := by simp
            have q2 : (x2 != x2) = false := by simp
            clear f0 f1 f2 f3 f4 f5 f6 gl r0 rl HR hp3 HX
            have hpk := HPV.out.box (k := V.heap.size) #[.int .i64 0] 3 rfl
            obtain ⟨kc, hkc⟩ : ∃ kc, V.heap.size = kc := ⟨_, rfl⟩
            rw [hkc] at hpk
            have HA := Lib.hid (all_w hpk (HOK2.out.ok (by omega)))
            have HNK : Hid (∀ p ∈ osW w.heap.size br rb Ds, p.1 < kc) := Lib.hid (fun p hp => by rw [← hkc]; exact HPV.out.lt hp)
            have HWK : Hid (w.heap.size ≤ kc) := Lib.hid (by rw [← hkc]; exact HPV.out.low.size)
            clear hpk HPV
            go_wp2_with fail
            refine HA.out.mono ?_
            rintro e Va ⟨b2, kv2, L, rfl, hL, hS, hpa, hog, hbv⟩
            have hsz : kc + 1 ≤ Va.heap.size := by have := hbv.size; simp at this; omega
            have hgl := hS.lts
            have hlen : L.length = M2.length := by rw [← hL, List.length_map]
            have hsm : ∀ d ∈ M2, d.b.length ≤ 1300 := HOK2.out.sm
            have hst := all1_tells 5 (by omega) b2 (blks b2 kv2 L) kv2 L Va hgl hS (fun g hg => hg) (by have := HOK2.out.len; omega) (fun m hm => by have := hsm m.d (by rw [← hL]; exact List.mem_map.2 ⟨m, hm, rfl⟩); omega)
            obtain ⟨gs, hgs⟩ : ∃ gs, blks b2 kv2 L = gs := ⟨_, rfl⟩
            rw [hgs] at hst hog hgl
            have HPA := Lib.hid hpa; have HOG := Lib.hid hog; have HGL := Lib.hid hgl; have HL' := Lib.hid hL; have HSZ := Lib.hid hsz; have HLN := Lib.hid hlen; have HSMM := Lib.hid hsm
            have HOSL : Hid (∀ (m : Int), ∀ p ∈ (kc, Obj.cells #[.int .i64 m] 3 (0, 0)) :: osW w.heap.size br rb Ds, p.1 < Va.heap.size) := Lib.hid (fun m p hp => by
              rcases List.mem_cons.1 hp with rfl | hp
              · simp only; omega
              · have := HNK.out p hp; omega)
            have HWV : Hid (w.heap.size ≤ Va.heap.size) := Lib.hid (by have := HWK.out; omega)
            clear hgs hpa hog hL hsz hS hbv HA hkc q1 q2 hlen hsm
            go_wp2
            refine (wpIn_wide (n := 6)).1 ?_
            apply range_told4 (F := Fence.wide) (n := 6) (f := 32) (own := #[.pointer (some ⟨b2, 0, none⟩)]) ⟨rfl, by omega, trivial, enters_of Try.func32 (by kernel_rfl) rfl, hst⟩ rfl (Below.refl _ _) hgl (fun _ => rfl)
              (fun pre V => ∃ m, pre.length = m ∧ m ≤ M2.length ∧ Pw w nb rb la2 M2 la2 M2 ((kc, .cells #[.int .i64 (m : Int)] 3 (0, 0)) :: osW w.heap.size br rb Ds) V)
              (fun c pre V => False)
              ⟨fun s A C row ⟨m, h1, h2, h3⟩ hg hr => ⟨m, h1, h2, h3.own hg hr (HOSL.out _) HWV.out⟩, fun c s A C row h0 hg hr => h0⟩
              ⟨0, rfl, Nat.zero_le _, HPA.out⟩
            case al => exact fun z => .cells (sentC z.d.no z.d.f z.d.t z.v) 43
            case hassign =>
              intro l z W g K hg hK
              simp only [encM]
              unfold sentC Md.v at *
              gi_wp2
              exact hK
            case hbody =>
              rintro l pre z V0 V1 dd o o' gz ⟨m, hm1, hm2, hPm⟩ hb hok hd ho hBd hdl hg -
              obtain ⟨kk, mm, hLk, hkk, hzd⟩ := hok.1
              have hMk : M2[m]? = some z.d := by rw [← HL'.out, List.getElem?_map, ← hm1, ← hkk, hLk, hzd]; rfl
              have hml : m < M2.length := (List.getElem?_eq_some_iff.1 hMk).1
              obtain ⟨hpw, hbz⟩ := hPm.handed hb hok hd ho hBd (HOSL.out m) HWV.out hg (sentC z.d.no z.d.f z.d.t z.v) 43
              have hzs : z.d.b.length ≤ 1300 := HSMM.out z.d (List.mem_of_getElem? hMk)
              unfold sentC Md.v at hpw hbz ⊢
              generalize ((V1.alloc (.cells #[.int .i64 z.d.no, .int .u32 z.d.f.1, .int .i64 z.d.f.2, .int .u32 z.d.t.1, .int .i64 z.d.t.2, .slice z.A z.d.b.length z.c] 43)).putObj dd o) = W at *
              obtain ⟨Ar, cr, r1, rl1, rc1, rc2, hrow⟩ := hpw.rform
              obtain ⟨gr, A2, c2, rfl, hgr, s0', s1', s2', s3', s4', s5', hbr2⟩ := hrow m z.d hMk
              have hkp := hpw.sub (os' := (kc, .cells #[.int .i64 (m : Int)] 3 (0, 0)) :: osW w.heap.size br rb Ds) (fun p hp => List.mem_cons_of_mem _ hp)
              obtain ⟨t0, -, tl⟩ := hpw.c1 (k := kc) (v := .int .i64 (m : Int)) (t := 3) (by simp)
              obtain ⟨u0', -, ul⟩ := hpw.c1 (k := br) (v := .pointer (some ⟨rb, 0, none⟩)) (t := 27) (by simp [osW])
              obtain ⟨y0, y1, y2, y3, y4, y5⟩ := hpw.c6 (k := gz) List.mem_cons_self
              have hC : ∀ W' : World, Below W.heap.size W W' → Calls Try.prog 18 #[.agg (sentC z.d.no z.d.f z.d.t (.slice z.A z.d.b.length z.c)), .agg (sentC z.d.no z.d.f z.d.t (.slice A2 z.d.b.length c2))] W' fun e w' => e = .returned (.bool true) ∧ Below W'.heap.size W' w' := fun W' hb' => by
                have := same_d z.d z.d z.A A2 z.c c2 W' (hbz.below hb') (hbr2.below hb') (by omega)
                rwa [sameD_self] at this
              unfold sentC at hC
              have cP : ∀ d os, CallsIn Fence.wide 3 Try.prog 18 #[.agg #[.int .i64 z.d.no, .int .u32 z.d.f.1, .int .i64 z.d.f.2, .int .u32 z.d.t.1, .int .i64 z.d.t.2, .slice z.A z.d.b.length z.c], .agg #[.int .i64 z.d.no, .int .u32 z.d.f.1, .int .i64 z.d.f.2, .int .u32 z.d.t.1, .int .i64 z.d.t.2, .slice A2 z.d.b.length c2]] (grow (redrawn W d) os) fun e w'' => e = .returned (.bool true) ∧ ∃ p : Regrown, w'' = grow (redrawn W p.d) p.os := fun d os => CallsIn.regrown_of (callsIn_wide.2 (hC _ (below_regrown W d os)))
              have HVW : Hid (Va.heap.size ≤ W.heap.size) := Lib.hid (by have := hpw.lt (p := (gz, _)) List.mem_cons_self; simp only at this; omega)
              have HFIN : Hid (∀ V', Below W.heap.size W V' → Kept gs false Va.heap.size W V' ∧ Pw w nb rb la2 M2 la2 M2 ((kc, .cells #[.int .i64 (m : Int)] 3 (0, 0)) :: osW w.heap.size br rb Ds) V') := Lib.hid (fun V' hb' => ⟨Kept.of_below hb' (fun g hg => Nat.lt_of_lt_of_le (HGL.out g hg) HVW.out), hkp.below hb'⟩)
              have HM1 := Lib.hid hm1
              have c0' := cell_regrown t0; have c1' := cell_regrown u0'; have c2' := cell_regrown r1
              have c3' := cell_regrown y0; have c4' := cell_regrown y1; have c5' := cell_regrown y2; have c6' := cell_regrown y3; have c7' := cell_regrown y4; have c8' := cell_regrown y5
              have c9' := cell_regrown s0'; have ca' := cell_regrown s1'; have cb' := cell_regrown s2'; have cc' := cell_regrown s3'; have cd' := cell_regrown s4'; have ce' := cell_regrown s5'
              have hge : ¬ (M2.length : Int) ≤ (m : Int) := by omega
              have HM9 : Hid (m ≤ 150) := Lib.hid (by have := HOK2.out.len; omega)
              generalize M2.length = ml at *
              clear hLk hMk hzd hkk hbz hbr2 hrow hpw hPm hb hok hd ho hBd hdl hg hkp hC hst hgl hm1
              gi_wp2
              refine region_round (by kernel_rfl) (by kernel_rfl) (by kernel_rfl) ?_
              repeat (refine wpQuietIn_step (ask_wide _ _ _) (fun K hK => ?_); go_simp; first | (refine hK _ ?_; clear hK K) | (apply Exists.intro; refine ⟨fun _ => ?_, hK _ ?_⟩; (first | exact ⟨trivial, cP _ _⟩ | exact cP _ _); clear hK K))
              refine wpQuietIn_nil ?_
              intro _ hw'
              obtain ⟨⟨dq, osq⟩, hw''⟩ := hw'
              subst hw''
              have hV := below_regrown W dq osq
              have hV1 := HFIN.out _ hV
              clear c0' c1' c2' c3' c4' c5' c6' c7' c8' c9' ca' cb' cc' cd' ce' cP
              generalize grow (redrawn W dq) osq = V' at *
              obtain ⟨t0', tf', tl'⟩ := hV1.2.c1 (k := kc) (v := .int .i64 (m : Int)) (t := 3) (by simp)
              have hst' := hV1.2.store (j := 0) (v := .int .i64 ((m : Int) + 1)) (fun p hp => by have := HNK.out p hp; omega) HWK.out
              have hgl' : ∀ g ∈ gs, g < V'.heap.size := fun g hg => Nat.lt_of_lt_of_le (HGL.out g hg) (Nat.le_trans HVW.out hV.size)
              have hk' : Kept gs false Va.heap.size V' (V'.setCell ⟨kc, 0, none⟩ (.int .i64 ((m : Int) + 1))) := Kept.keeps (S := fun k => k = kc) (Keeps.set (S := fun k => k = kc) (Keeps.refl _ _) kc 0 _ rfl) hgl' (fun g hg e => HOG.out (kc, .cells #[.int .i64 0] 3 (0, 0)) (by simp) (by rw [← e]; exact hg)) (fun k e _ => by subst e; exact ⟨_, hV1.2.held (k, .cells #[.int .i64 (m : Int)] 3 (0, 0)) (by simp), rfl⟩)
              have HKE := Lib.hid (hV1.1.trans hk'); have HST := Lib.hid hst'
              have hpl : (pre ++ [z]).length = m + 1 := by rw [List.length_append, HM1.out]; rfl
              have HPL := Lib.hid hpl
              clear hV hV1 hst' hgl' hk' hpl t0 tl u0' ul y0 y1 y2 y3 y4 y5 r1 rl1 s0' s1' s2' s3' s4' s5' hgr
              have hm9 := HM9.out
              gi_wp2
              exact ⟨HKE.out, m + 1, HPL.out, by omega, by have := HST.out; simpa using this⟩
            case hstop => exact fun D c pre W hD hs h => h.elim
            case hdone =>
              rintro D xs W hD hxs ⟨m, hm1, hm2, hPm⟩ hK
              have hmk : m = M2.length := by
                have h1 : xs.map Md.d = L.map Md.d := hxs
                have h2 := congrArg List.length h1
                rw [List.length_map, List.length_map, hm1, HLN.out] at h2
                exact h2
              subst hmk
              have hph := hPm.hold hK rfl
              have HPE : Hid (Pw w nb rb la2 M2 la2 M2 (osW w.heap.size br rb (D :: Ds)) W.drew) := Lib.hid ((hph.sub (fun p hp => by
                simp only [osW, marks, List.map_cons, List.mem_cons] at hp ⊢
                rcases hp with h | h | h | h
                · exact .inr (.inr (.inl h))
                · exact .inr (.inr (.inr (.inl h)))
                · exact .inl h
                · exact .inr (.inr (.inr (.inr h))))).drew)
              have HMK : Hid (MarksOk w.heap.size (D :: Ds)) := Lib.hid (HND.out.cons (Nat.le_trans HWV.out hD) (fun h => by have h1 := HOSL.out 0 _ (List.mem_cons_of_mem _ (osW_d h)); simp only [markO] at h1; omega))
              obtain ⟨t0, -, tl⟩ := hPm.c1 (k := kc) (v := .int .i64 (M2.length : Int)) (t := 3) (by simp)
              obtain ⟨u0', -, ul⟩ := hPm.c1 (k := br) (v := .pointer (some ⟨rb, 0, none⟩)) (t := 27) (by simp [osW])
              obtain ⟨Ar, cr, r1, rl1, rc1, rc2, -⟩ := hPm.rform
              have hcn := count_w hPm.drew
              have HCN := Lib.hid hcn
              have HS37 : Hid ((W.drew.cell? ⟨kc, 0, none⟩ = some (.int .i64 (M2.length : Int)) ∧ W.drew.cell? ⟨br, 0, none⟩ = some (.pointer (some ⟨rb, 0, none⟩)) ∧ W.drew.cell? ⟨rb, 0, none⟩ = some (.slice Ar M2.length cr)) ∧ kc < W.drew.heap.size ∧ br < W.drew.heap.size ∧ rb < W.drew.heap.size) := Lib.hid ⟨⟨t0, u0', r1⟩, tl, ul, rl1⟩
              have hz1 : ((M2.length : Int) != (M2.length : Int)) = false := by simp
              clear hph hPm hK hD hxs hm1 hm2 hcn hst hgl
              generalize M2.length = ml at *
              go_upto_region 37 with (fail)
              refine Code.wp_mono (Q := OnlyN _) OnlyN.all ?_
              refine wp_region_held_drew (S := fun W => (W.cell? ⟨kc, 0, none⟩ = some (.int .i64 (ml : Int)) ∧ W.cell? ⟨br, 0, none⟩ = some (.pointer (some ⟨rb, 0, none⟩)) ∧ W.cell? ⟨rb, 0, none⟩ = some (.slice Ar ml cr)) ∧ kc < W.heap.size ∧ br < W.heap.size ∧ rb < W.heap.size) (by kernel_rfl) HS37.out (fun hHeld => ?_)
              refine wpAnyH_take (i := 0) (oi := _) (v := ?_) rfl (by kernel_rfl) (by kernel_rfl) (by kernel_rfl) (fun _ _ _ h => h) (Or.inl ⟨by rfl, ?_⟩) (by assumption) ?_
              case refine_2 => intro w hSw; obtain ⟨⟨p0, p1, p2⟩, pl1, pl2, pl3⟩ := hSw; go_simp; first | done | (with_reducible rfl)
              try simp only [Act.put, List.getElem_toArray, List.getElem_cons_zero, List.setIfInBounds_toArray, List.set_cons_zero, List.set_cons_succ]
              refine wpAnyH_take (i := 1) (oi := _) (v := ?_) rfl (by kernel_rfl) (by kernel_rfl) (by kernel_rfl) (fun _ _ _ h => h) (Or.inl ⟨by rfl, ?_⟩) (by assumption) ?_
              case refine_2 => intro w hSw; obtain ⟨⟨p0, p1, p2⟩, pl1, pl2, pl3⟩ := hSw; go_simp; first | done | (with_reducible rfl)
              try simp only [Act.put, List.getElem_toArray, List.getElem_cons_zero, List.getElem_cons_succ, List.setIfInBounds_toArray, List.set_cons_zero, List.set_cons_succ]
              refine wpAnyH_take (i := 2) (oi := _) (v := ?_) rfl (by kernel_rfl) (by kernel_rfl) (by kernel_rfl) (fun _ _ _ h => h) (Or.inl ⟨by rfl, ?_⟩) (by assumption) ?_
              case refine_2 => intro w hSw; obtain ⟨⟨p0, p1, p2⟩, pl1, pl2, pl3⟩ := hSw; go_simp; first | done | (with_reducible rfl)
              try simp only [Act.put, List.getElem_toArray, List.getElem_cons_zero, List.getElem_cons_succ, List.setIfInBounds_toArray, List.set_cons_zero, List.set_cons_succ]
              refine wpAnyH_take (i := 3) (oi := _) (v := ?_) rfl (by kernel_rfl) (by kernel_rfl) (by kernel_rfl) (fun _ _ _ h => h) (Or.inl ⟨by rfl, ?_⟩) (by assumption) ?_
              case refine_2 => intro w hSw; obtain ⟨⟨p0, p1, p2⟩, pl1, pl2, pl3⟩ := hSw; go_simp; first | done | (with_reducible rfl)
              try simp only [Act.put, List.getElem_toArray, List.getElem_cons_zero, List.getElem_cons_succ, List.setIfInBounds_toArray, List.set_cons_zero, List.set_cons_succ]
              refine wpAnyH_take (i := 4) (oi := _) (v := ?_) rfl (by kernel_rfl) (by kernel_rfl) (by kernel_rfl) (fun _ _ _ h => h) (Or.inl ⟨by rfl, ?_⟩) (by assumption) ?_
              case refine_2 => intro w hSw; obtain ⟨⟨p0, p1, p2⟩, pl1, pl2, pl3⟩ := hSw; go_simp; first | done | (with_reducible rfl)
              try simp only [Act.put, List.getElem_toArray, List.getElem_cons_zero, List.getElem_cons_succ, List.setIfInBounds_toArray, List.set_cons_zero, List.set_cons_succ]
              refine wpAnyH_take (i := 5) (oi := _) (v := ?_) rfl (by kernel_rfl) (by kernel_rfl) (by kernel_rfl) (fun _ _ _ h => h) (Or.inl ⟨by rfl, ?_⟩) (by assumption) ?_
              case refine_2 => intro w hSw; obtain ⟨⟨p0, p1, p2⟩, pl1, pl2, pl3⟩ := hSw; go_simp; first | done | (with_reducible rfl)
              try simp only [Act.put, List.getElem_toArray, List.getElem_cons_zero, List.getElem_cons_succ, List.setIfInBounds_toArray, List.set_cons_zero, List.set_cons_succ]
              refine wpAnyH_take (i := 6) (oi := _) (v := ?_) rfl (by kernel_rfl) (by kernel_rfl) (by kernel_rfl) (fun _ _ _ h => h) (Or.inl ⟨by rfl, ?_⟩) (by assumption) ?_
              case refine_2 => intro w hSw; obtain ⟨⟨p0, p1, p2⟩, pl1, pl2, pl3⟩ := hSw; go_simp; first | done | (with_reducible rfl)
              try simp only [Act.put, List.getElem_toArray, List.getElem_cons_zero, List.getElem_cons_succ, List.setIfInBounds_toArray, List.set_cons_zero, List.set_cons_succ]
              refine wpAnyH_take (i := 7) (oi := _) (v := ?_) rfl (by kernel_rfl) (by kernel_rfl) (by kernel_rfl) (fun _ _ _ h => h) (Or.inl ⟨by rfl, ?_⟩) (by assumption) ?_
              case refine_2 => intro w hSw; obtain ⟨⟨p0, p1, p2⟩, pl1, pl2, pl3⟩ := hSw; go_simp; first | done | (with_reducible rfl)
              try simp only [Act.put, List.getElem_toArray, List.getElem_cons_zero, List.getElem_cons_succ, List.setIfInBounds_toArray, List.set_cons_zero, List.set_cons_succ]
              refine wpAnyH_take (i := 8) (oi := _) (v := ?_) rfl (by kernel_rfl) (by kernel_rfl) (by kernel_rfl) (fun _ _ _ h => h) (Or.inl ⟨by rfl, ?_⟩) (by assumption) ?_
              case refine_2 => intro w hSw; obtain ⟨⟨p0, p1, p2⟩, pl1, pl2, pl3⟩ := hSw; go_simp; first | done | (with_reducible rfl)
              try simp only [Act.put, List.getElem_toArray, List.getElem_cons_zero, List.getElem_cons_succ, List.setIfInBounds_toArray, List.set_cons_zero, List.set_cons_succ]
              refine wpAnyH_take (i := 10) (oi := _) (v := ?_) rfl (by kernel_rfl) (by kernel_rfl) (by kernel_rfl) (fun _ _ _ h => h) (Or.inl ⟨by rfl, ?_⟩) (by assumption) ?_
              case refine_2 => intro w hSw; obtain ⟨⟨p0, p1, p2⟩, pl1, pl2, pl3⟩ := hSw; go_simp; first | done | (with_reducible rfl)
              try simp only [Act.put, List.getElem_toArray, List.getElem_cons_zero, List.getElem_cons_succ, List.setIfInBounds_toArray, List.set_cons_zero, List.set_cons_succ]
              refine wpAnyH_ready (rs := [9]) (by kernel_rfl) (by simp) ?_
              refine AllReadyH.cons rfl (fun K hK => ?_) AllReadyH.nil
              go_simp
              go_at_call 20
              refine HCN.out.mono ?_
              rintro e W2 ⟨rfl, rfl⟩
              refine hK.out _ _ HS37.out (fun hHeld => ?_)
              clear hK K
              try simp only [Act.put, List.getElem_toArray, List.getElem_cons_zero, List.getElem_cons_succ, List.setIfInBounds_toArray, List.set_cons_zero, List.set_cons_succ]
              refine wpAnyH_take (i := 11) (oi := _) (v := ?_) rfl (by kernel_rfl) (by kernel_rfl) (by kernel_rfl) (fun _ _ _ h => h) (Or.inl ⟨by rfl, ?_⟩) (by assumption) ?_
              case refine_2 => intro w hSw; obtain ⟨⟨p0, p1, p2⟩, pl1, pl2, pl3⟩ := hSw; go_simp; first | done | (with_reducible rfl)
              try simp only [Act.put, List.getElem_toArray, List.getElem_cons_zero, List.getElem_cons_succ, List.setIfInBounds_toArray, List.set_cons_zero, List.set_cons_succ]
              refine wpAnyH_take (i := 12) (oi := _) (v := ?_) rfl (by kernel_rfl) (by kernel_rfl) (by kernel_rfl) (fun _ _ _ h => h) (Or.inl ⟨by rfl, ?_⟩) (by assumption) ?_
              case refine_2 => intro w hSw; obtain ⟨⟨p0, p1, p2⟩, pl1, pl2, pl3⟩ := hSw; go_simp; first | done | (with_reducible rfl)
              try simp only [Act.put, List.getElem_toArray, List.getElem_cons_zero, List.getElem_cons_succ, List.setIfInBounds_toArray, List.set_cons_zero, List.set_cons_succ]
              refine wpAnyH_done (by kernel_rfl) ?_ _
              dsimp only [OnlyN]
              clear hHeld HS37 HCN hz1
              go_wp2
              refine ⟨⟨k + 1, M2, la2, D :: Ds, .int .i64 ((k : Int) + 1), ⟨by go_num, by omega, by omega, HMK.out, HOK2.out, HPE.out⟩, ?_⟩, ?_⟩
              · (repeat apply Exists.intro)
                rfl
              · simp [intOf]; omega
          · have l2 : (d.kind == 2) = false := by simp [hk2]
            clear hk0 hk2
            by_cases hk3 : d.kind = 3
            · have l3 : (d.kind == 3) = true := by simp [hk3]
              clear hk3
              have hA1 := at_w HP1.out d.no HWN.out
              obtain ⟨no, hno⟩ : ∃ no, atN M d.no = no := ⟨_, rfl⟩
              have hA2 := rat_w HP1.out d.no HWN.out
              rw [hno] at hA1 hA2
              have HA1 := Lib.hid hA1; have HA2 := Lib.hid hA2
              have q3 : (no != no) = false := by simp
              obtain ⟨r0, -, rl⟩ := HP1.out.c1 (k := br) (v := .pointer (some ⟨rb, 0, none⟩)) (t := 27) (by simp [osW, stepO])
              clear hA1 hA2 hno
              go_wp2_with fail
              refine HA1.out.mono ?_
              rintro e V9 ⟨rfl, rfl⟩
              go_wp2_with fail
              refine HA2.out.mono ?_
              rintro e V9 ⟨rfl, rfl⟩
              clear r0 rl HA1 HA2
              have hC := take_w HP1.out (HOK.out.ok (by omega)) no
              obtain ⟨⟨⟨dg, x2⟩, M2⟩, hx⟩ : ∃ z, takeN M no = z := ⟨_, rfl⟩
              have hok2 : Ok2 (k + 1) M2 la := by have := HOK.out.take no; rwa [hx] at this
              have hdz : dg.b.length ≤ 1300 := by have := HOK.out.taken no; rwa [hx] at this
              rw [hx] at hC
              unfold takeV sentC at hC
              dsimp only at hC
              have HC := Lib.hid hC; have HOK2 := Lib.hid hok2; have HX := Lib.hid hx; have HDZ := Lib.hid hdz
              clear hC hok2 hx hdz
              go_wp2_with fail
              refine HC.out.mono ?_
              rintro e V2 ⟨A1, c1, rfl, hp2, hb2, hrow, hge⟩
              obtain ⟨sa, hsa⟩ : ∃ sa, V2.heap.size = sa := ⟨_, rfl⟩
              obtain ⟨V3, hV3⟩ : ∃ V3, V2.alloc (.cells #[.int .i64 dg.no, .int .u32 dg.f.1, .int .i64 dg.f.2, .int .u32 dg.t.1, .int .i64 dg.t.2, .slice A1 dg.b.length c1] 43) = V3 := ⟨_, rfl⟩
              have hp3 : Pw w nb rb la M2 la M ((sa, .cells #[.int .i64 dg.no, .int .u32 dg.f.1, .int .i64 dg.f.2, .int .u32 dg.t.1, .int .i64 dg.t.2, .slice A1 dg.b.length c1] 43 (0, 0)) :: osW w.heap.size br rb Ds) V3 := by rw [← hV3]; exact (hp2.sub (fun p hp => List.mem_cons_of_mem _ hp)).box _ 43 hsa.symm
              have hrow3 : RowB V3 (.slice A1 dg.b.length c1) dg.b := by rw [← hV3]; exact hrow.below ((Below.refl _ _).alloc (Nat.le_refl _) _)
              have hR := rtake_w hp3 (HOK.out.ok (by omega)) no
              rw [HX.out] at hR
              unfold takeV sentC at hR
              dsimp only at hR
              have HR := Lib.hid hR; have HROW := Lib.hid hrow3
              have HGE2 : Hid (∀ g, (Value.slice A1 dg.b.length c1).ownBlock = some g → w.heap.size ≤ g) := Lib.hid (fun g hg => Nat.le_trans HP1.out.low.size (hge g hg))
              clear q3 f0 f1 f2 f3 f4 f5 f6 gl HC d0 d1 d2 d3 d4 d5 d6 bl hR hrow3 hrow hb2 hge hp2
              obtain ⟨r0, -, rl⟩ := hp3.c1 (k := br) (v := .pointer (some ⟨rb, 0, none⟩)) (t := 27) (by simp [osW])
              clear hp3
              go_wp2_with fail
              refine HR.out.mono ?_
              rintro e V4 ⟨A2, c2, rfl, hp4, hb4, hkeep⟩
              have hrow4 := hkeep A1 dg.b.length c1 dg.b HROW.out HGE2.out
              obtain ⟨A', c', e', -, -, hb3, -⟩ := hrow4.parts
              simp only [Value.slice.injEq, true_and] at e'
              obtain ⟨rfl, rfl⟩ := e'
              obtain ⟨sb, hsb⟩ : ∃ sb, V4.heap.size = sb := ⟨_, rfl⟩
              obtain ⟨V5, hV5⟩ : ∃ V5, V4.alloc (.cells #[.int .i64 dg.no, .int .u32 dg.f.1, .int .i64 dg.f.2, .int .u32 dg.t.1, .int .i64 dg.t.2, .slice A2 dg.b.length c2] 43) = V5 := ⟨_, rfl⟩
              have hp5 : Pw w nb rb la M2 la M2 ((sb, .cells #[.int .i64 dg.no, .int .u32 dg.f.1, .int .i64 dg.f.2, .int .u32 dg.t.1, .int .i64 dg.t.2, .slice A2 dg.b.length c2] 43 (0, 0)) :: (sa, .cells #[.int .i64 dg.no, .int .u32 dg.f.1, .int .i64 dg.f.2, .int .u32 dg.t.1, .int .i64 dg.t.2, .slice A1 dg.b.length c1] 43 (0, 0)) :: osW w.heap.size br rb Ds) V5 := by rw [← hV5]; exact hp4.box _ 43 hsb.symm
              have hbx : Below V4.heap.size V4 V5 := by rw [← hV5]; exact (Below.refl _ _).alloc (Nat.le_refl _) _
              have hSm := same_d dg dg A1 A2 c1 c2 V5 (hb3.below hbx) (hb4.below hbx) (by have := HDZ.out; omega)
              rw [sameD_self] at hSm
              unfold sentC at hSm
              have HSM' := Lib.hid hSm; have HP5 := Lib.hid hp5
              obtain ⟨y0, y1, y2, y3, y4, y5⟩ := hp5.c6 (k := sa) (List.mem_cons_of_mem _ List.mem_cons_self)
              obtain ⟨z0, z1, z2, z3, z4, z5⟩ := hp5.c6 (k := sb) List.mem_cons_self
              have yl := World.block_lt_of_cell? _ _ y0
              have zl := World.block_lt_of_cell? _ _ z0
              dsimp only at yl zl
              clear hp4 hb4 hkeep hrow4 hb3 hp5 hbx hSm r0 rl hV3 hsa HR HROW HGE2
              go_wp2_with fail
              refine HSM'.out.mono ?_
              rintro e V ⟨rfl, hb6⟩
              have HPV : Hid (Pw w nb rb la M2 la M2 (osW w.heap.size br rb Ds) V) := Lib.hid ((HP5.out.below hb6).sub (fun p hp => List.mem_cons_of_mem _ (List.mem_cons_of_mem _ hp)))
              have q1 : (x2 != x2) = false := by simp
              have q2 := q1
              clear y0 y1 y2 y3 y4 y5 z0 z1 z2 z3 z4 z5 yl zl hb6 HSM' HP5 HX hV5 hsb
              have hpk := HPV.out.box (k := V.heap.size) #[.int .i64 0] 3 rfl
              obtain ⟨kc, hkc⟩ : ∃ kc, V.heap.size = kc := ⟨_, rfl⟩
              rw [hkc] at hpk
              have HA := Lib.hid (all_w hpk (HOK2.out.ok (by omega)))
              have HNK : Hid (∀ p ∈ osW w.heap.size br rb Ds, p.1 < kc) := Lib.hid (fun p hp => by rw [← hkc]; exact HPV.out.lt hp)
              have HWK : Hid (w.heap.size ≤ kc) := Lib.hid (by rw [← hkc]; exact HPV.out.low.size)
              clear hpk HPV
              go_wp2_with fail
              refine HA.out.mono ?_
              rintro e Va ⟨b2, kv2, L, rfl, hL, hS, hpa, hog, hbv⟩
              have hsz : kc + 1 ≤ Va.heap.size := by have := hbv.size; simp at this; omega
              have hgl := hS.lts
              have hlen : L.length = M2.length := by rw [← hL, List.length_map]
              have hsm : ∀ d ∈ M2, d.b.length ≤ 1300 := HOK2.out.sm
              have hst := all1_tells 5 (by omega) b2 (blks b2 kv2 L) kv2 L Va hgl hS (fun g hg => hg) (by have := HOK2.out.len; omega) (fun m hm => by have := hsm m.d (by rw [← hL]; exact List.mem_map.2 ⟨m, hm, rfl⟩); omega)
              obtain ⟨gs, hgs⟩ : ∃ gs, blks b2 kv2 L = gs := ⟨_, rfl⟩
              rw [hgs] at hst hog hgl
              have HPA := Lib.hid hpa; have HOG := Lib.hid hog; have HGL := Lib.hid hgl; have HL' := Lib.hid hL; have HSZ := Lib.hid hsz; have HLN := Lib.hid hlen; have HSMM := Lib.hid hsm
              have HOSL : Hid (∀ (m : Int), ∀ p ∈ (kc, Obj.cells #[.int .i64 m] 3 (0, 0)) :: osW w.heap.size br rb Ds, p.1 < Va.heap.size) := Lib.hid (fun m p hp => by
                rcases List.mem_cons.1 hp with rfl | hp
                · simp only; omega
                · have := HNK.out p hp; omega)
              have HWV : Hid (w.heap.size ≤ Va.heap.size) := Lib.hid (by have := HWK.out; omega)
              clear hgs hpa hog hL hsz hS hbv HA hkc q1 q2 hlen hsm
              go_wp2
              refine (wpIn_wide (n := 6)).1 ?_
              apply range_told4 (F := Fence.wide) (n := 6) (f := 32) (own := #[.pointer (some ⟨b2, 0, none⟩)]) ⟨rfl, by omega, trivial, enters_of Try.func32 (by kernel_rfl) rfl, hst⟩ rfl (Below.refl _ _) hgl (fun _ => rfl)
                (fun pre V => ∃ m, pre.length = m ∧ m ≤ M2.length ∧ Pw w nb rb la M2 la M2 ((kc, .cells #[.int .i64 (m : Int)] 3 (0, 0)) :: osW w.heap.size br rb Ds) V)
                (fun c pre V => False)
                ⟨fun s A C row ⟨m, h1, h2, h3⟩ hg hr => ⟨m, h1, h2, h3.own hg hr (HOSL.out _) HWV.out⟩, fun c s A C row h0 hg hr => h0⟩
                ⟨0, rfl, Nat.zero_le _, HPA.out⟩
              case al => exact fun z => .cells (sentC z.d.no z.d.f z.d.t z.v) 43
              case hassign =>
                intro l z W g K hg hK
                simp only [encM]
                unfold sentC Md.v at *
                gi_wp2
                exact hK
              case hbody =>
                rintro l pre z V0 V1 dd o o' gz ⟨m, hm1, hm2, hPm⟩ hb hok hd ho hBd hdl hg -
                obtain ⟨kk, mm, hLk, hkk, hzd⟩ := hok.1
                have hMk : M2[m]? = some z.d := by rw [← HL'.out, List.getElem?_map, ← hm1, ← hkk, hLk, hzd]; rfl
                have hml : m < M2.length := (List.getElem?_eq_some_iff.1 hMk).1
                obtain ⟨hpw, hbz⟩ := hPm.handed hb hok hd ho hBd (HOSL.out m) HWV.out hg (sentC z.d.no z.d.f z.d.t z.v) 43
                have hzs : z.d.b.length ≤ 1300 := HSMM.out z.d (List.mem_of_getElem? hMk)
                unfold sentC Md.v at hpw hbz ⊢
                generalize ((V1.alloc (.cells #[.int .i64 z.d.no, .int .u32 z.d.f.1, .int .i64 z.d.f.2, .int .u32 z.d.t.1, .int .i64 z.d.t.2, .slice z.A z.d.b.length z.c] 43)).putObj dd o) = W at *
                obtain ⟨Ar, cr, r1, rl1, rc1, rc2, hrow⟩ := hpw.rform
                obtain ⟨gr, A2, c2, rfl, hgr, s0', s1', s2', s3', s4', s5', hbr2⟩ := hrow m z.d hMk
                have hkp := hpw.sub (os' := (kc, .cells #[.int .i64 (m : Int)] 3 (0, 0)) :: osW w.heap.size br rb Ds) (fun p hp => List.mem_cons_of_mem _ hp)
                obtain ⟨t0, -, tl⟩ := hpw.c1 (k := kc) (v := .int .i64 (m : Int)) (t := 3) (by simp)
                obtain ⟨u0', -, ul⟩ := hpw.c1 (k := br) (v := .pointer (some ⟨rb, 0, none⟩)) (t := 27) (by simp [osW])
                obtain ⟨y0, y1, y2, y3, y4, y5⟩ := hpw.c6 (k := gz) List.mem_cons_self
                have hC : ∀ W' : World, Below W.heap.size W W' → Calls Try.prog 18 #[.agg (sentC z.d.no z.d.f z.d.t (.slice z.A z.d.b.length z.c)), .agg (sentC z.d.no z.d.f z.d.t (.slice A2 z.d.b.length c2))] W' fun e w' => e = .returned (.bool true) ∧ Below W'.heap.size W' w' := fun W' hb' => by
                  have := same_d z.d z.d z.A A2 z.c c2 W' (hbz.below hb') (hbr2.below hb') (by omega)
                  rwa [sameD_self] at this
                unfold sentC at hC
                have cP : ∀ d os, CallsIn Fence.wide 3 Try.prog 18 #[.agg #[.int .i64 z.d.no, .int .u32 z.d.f.1, .int .i64 z.d.f.2, .int .u32 z.d.t.1, .int .i64 z.d.t.2, .slice z.A z.d.b.length z.c], .agg #[.int .i64 z.d.no, .int .u32 z.d.f.1, .int .i64 z.d.f.2, .int .u32 z.d.t.1, .int .i64 z.d.t.2, .slice A2 z.d.b.length c2]] (grow (redrawn W d) os) fun e w'' => e = .returned (.bool true) ∧ ∃ p : Regrown, w'' = grow (redrawn W p.d) p.os := fun d os => CallsIn.regrown_of (callsIn_wide.2 (hC _ (below_regrown W d os)))
                have HVW : Hid (Va.heap.size ≤ W.heap.size) := Lib.hid (by have := hpw.lt (p := (gz, _)) List.mem_cons_self; simp only at this; omega)
                have HFIN : Hid (∀ V', Below W.heap.size W V' → Kept gs false Va.heap.size W V' ∧ Pw w nb rb la M2 la M2 ((kc, .cells #[.int .i64 (m : Int)] 3 (0, 0)) :: osW w.heap.size br rb Ds) V') := Lib.hid (fun V' hb' => ⟨Kept.of_below hb' (fun g hg => Nat.lt_of_lt_of_le (HGL.out g hg) HVW.out), hkp.below hb'⟩)
                have HM1 := Lib.hid hm1
                have c0' := cell_regrown t0; have c1' := cell_regrown u0'; have c2' := cell_regrown r1
                have c3' := cell_regrown y0; have c4' := cell_regrown y1; have c5' := cell_regrown y2; have c6' := cell_regrown y3; have c7' := cell_regrown y4; have c8' := cell_regrown y5
                have c9' := cell_regrown s0'; have ca' := cell_regrown s1'; have cb' := cell_regrown s2'; have cc' := cell_regrown s3'; have cd' := cell_regrown s4'; have ce' := cell_regrown s5'
                have hge : ¬ (M2.length : Int) ≤ (m : Int) := by omega
                have HM9 : Hid (m ≤ 150) := Lib.hid (by have := HOK2.out.len; omega)
                generalize M2.length = ml at *
                clear hLk hMk hzd hkk hbz hbr2 hrow hpw hPm hb hok hd ho hBd hdl hg hkp hC hst hgl hm1
                gi_wp2
                refine region_round (by kernel_rfl) (by kernel_rfl) (by kernel_rfl) ?_
                repeat (refine wpQuietIn_step (ask_wide _ _ _) (fun K hK => ?_); go_simp; first | (refine hK _ ?_; clear hK K) | (apply Exists.intro; refine ⟨fun _ => ?_, hK _ ?_⟩; (first | exact ⟨trivial, cP _ _⟩ | exact cP _ _); clear hK K))
                refine wpQuietIn_nil ?_
                intro _ hw'
                obtain ⟨⟨dq, osq⟩, hw''⟩ := hw'
                subst hw''
                have hV := below_regrown W dq osq
                have hV1 := HFIN.out _ hV
                clear c0' c1' c2' c3' c4' c5' c6' c7' c8' c9' ca' cb' cc' cd' ce' cP
                generalize grow (redrawn W dq) osq = V' at *
                obtain ⟨t0', tf', tl'⟩ := hV1.2.c1 (k := kc) (v := .int .i64 (m : Int)) (t := 3) (by simp)
                have hst' := hV1.2.store (j := 0) (v := .int .i64 ((m : Int) + 1)) (fun p hp => by have := HNK.out p hp; omega) HWK.out
                have hgl' : ∀ g ∈ gs, g < V'.heap.size := fun g hg => Nat.lt_of_lt_of_le (HGL.out g hg) (Nat.le_trans HVW.out hV.size)
                have hk' : Kept gs false Va.heap.size V' (V'.setCell ⟨kc, 0, none⟩ (.int .i64 ((m : Int) + 1))) := Kept.keeps (S := fun k => k = kc) (Keeps.set (S := fun k => k = kc) (Keeps.refl _ _) kc 0 _ rfl) hgl' (fun g hg e => HOG.out (kc, .cells #[.int .i64 0] 3 (0, 0)) (by simp) (by rw [← e]; exact hg)) (fun k e _ => by subst e; exact ⟨_, hV1.2.held (k, .cells #[.int .i64 (m : Int)] 3 (0, 0)) (by simp), rfl⟩)
                have HKE := Lib.hid (hV1.1.trans hk'); have HST := Lib.hid hst'
                have hpl : (pre ++ [z]).length = m + 1 := by rw [List.length_append, HM1.out]; rfl
                have HPL := Lib.hid hpl
                clear hV hV1 hst' hgl' hk' hpl t0 tl u0' ul y0 y1 y2 y3 y4 y5 r1 rl1 s0' s1' s2' s3' s4' s5' hgr
                have hm9 := HM9.out
                gi_wp2
                exact ⟨HKE.out, m + 1, HPL.out, by omega, by have := HST.out; simpa using this⟩
              case hstop => exact fun D c pre W hD hs h => h.elim
              case hdone =>
                rintro D xs W hD hxs ⟨m, hm1, hm2, hPm⟩ hK
                have hmk : m = M2.length := by
                  have h1 : xs.map Md.d = L.map Md.d := hxs
                  have h2 := congrArg List.length h1
                  rw [List.length_map, List.length_map, hm1, HLN.out] at h2
                  exact h2
                subst hmk
                have hph := hPm.hold hK rfl
                have HPE : Hid (Pw w nb rb la M2 la M2 (osW w.heap.size br rb (D :: Ds)) W.drew) := Lib.hid ((hph.sub (fun p hp => by
                  simp only [osW, marks, List.map_cons, List.mem_cons] at hp ⊢
                  rcases hp with h | h | h | h
                  · exact .inr (.inr (.inl h))
                  · exact .inr (.inr (.inr (.inl h)))
                  · exact .inl h
                  · exact .inr (.inr (.inr (.inr h))))).drew)
                have HMK : Hid (MarksOk w.heap.size (D :: Ds)) := Lib.hid (HND.out.cons (Nat.le_trans HWV.out hD) (fun h => by have h1 := HOSL.out 0 _ (List.mem_cons_of_mem _ (osW_d h)); simp only [markO] at h1; omega))
                obtain ⟨t0, -, tl⟩ := hPm.c1 (k := kc) (v := .int .i64 (M2.length : Int)) (t := 3) (by simp)
                obtain ⟨u0', -, ul⟩ := hPm.c1 (k := br) (v := .pointer (some ⟨rb, 0, none⟩)) (t := 27) (by simp [osW])
                obtain ⟨Ar, cr, r1, rl1, rc1, rc2, -⟩ := hPm.rform
                have hcn := count_w hPm.drew
                have HCN := Lib.hid hcn
                have HS37 : Hid ((W.drew.cell? ⟨kc, 0, none⟩ = some (.int .i64 (M2.length : Int)) ∧ W.drew.cell? ⟨br, 0, none⟩ = some (.pointer (some ⟨rb, 0, none⟩)) ∧ W.drew.cell? ⟨rb, 0, none⟩ = some (.slice Ar M2.length cr)) ∧ kc < W.drew.heap.size ∧ br < W.drew.heap.size ∧ rb < W.drew.heap.size) := Lib.hid ⟨⟨t0, u0', r1⟩, tl, ul, rl1⟩
                have hz1 : ((M2.length : Int) != (M2.length : Int)) = false := by simp
                clear hph hPm hK hD hxs hm1 hm2 hcn hst hgl
                generalize M2.length = ml at *
                go_upto_region 37 with (fail)
                refine Code.wp_mono (Q := OnlyN _) OnlyN.all ?_
                refine wp_region_held_drew (S := fun W => (W.cell? ⟨kc, 0, none⟩ = some (.int .i64 (ml : Int)) ∧ W.cell? ⟨br, 0, none⟩ = some (.pointer (some ⟨rb, 0, none⟩)) ∧ W.cell? ⟨rb, 0, none⟩ = some (.slice Ar ml cr)) ∧ kc < W.heap.size ∧ br < W.heap.size ∧ rb < W.heap.size) (by kernel_rfl) HS37.out (fun hHeld => ?_)
                refine wpAnyH_take (i := 0) (oi := _) (v := ?_) rfl (by kernel_rfl) (by kernel_rfl) (by kernel_rfl) (fun _ _ _ h => h) (Or.inl ⟨by rfl, ?_⟩) (by assumption) ?_
                case refine_2 => intro w hSw; obtain ⟨⟨p0, p1, p2⟩, pl1, pl2, pl3⟩ := hSw; go_simp; first | done | (with_reducible rfl)
                try simp only [Act.put, List.getElem_toArray, List.getElem_cons_zero, List.setIfInBounds_toArray, List.set_cons_zero, List.set_cons_succ]
                refine wpAnyH_take (i := 1) (oi := _) (v := ?_) rfl (by kernel_rfl) (by kernel_rfl) (by kernel_rfl) (fun _ _ _ h => h) (Or.inl ⟨by rfl, ?_⟩) (by assumption) ?_
                case refine_2 => intro w hSw; obtain ⟨⟨p0, p1, p2⟩, pl1, pl2, pl3⟩ := hSw; go_simp; first | done | (with_reducible rfl)
                try simp only [Act.put, List.getElem_toArray, List.getElem_cons_zero, List.getElem_cons_succ, List.setIfInBounds_toArray, List.set_cons_zero, List.set_cons_succ]
                refine wpAnyH_take (i := 2) (oi := _) (v := ?_) rfl (by kernel_rfl) (by kernel_rfl) (by kernel_rfl) (fun _ _ _ h => h) (Or.inl ⟨by rfl, ?_⟩) (by assumption) ?_
                case refine_2 => intro w hSw; obtain ⟨⟨p0, p1, p2⟩, pl1, pl2, pl3⟩ := hSw; go_simp; first | done | (with_reducible rfl)
                try simp only [Act.put, List.getElem_toArray, List.getElem_cons_zero, List.getElem_cons_succ, List.setIfInBounds_toArray, List.set_cons_zero, List.set_cons_succ]
                refine wpAnyH_take (i := 3) (oi := _) (v := ?_) rfl (by kernel_rfl) (by kernel_rfl) (by kernel_rfl) (fun _ _ _ h => h) (Or.inl ⟨by rfl, ?_⟩) (by assumption) ?_
                case refine_2 => intro w hSw; obtain ⟨⟨p0, p1, p2⟩, pl1, pl2, pl3⟩ := hSw; go_simp; first | done | (with_reducible rfl)
                try simp only [Act.put, List.getElem_toArray, List.getElem_cons_zero, List.getElem_cons_succ, List.setIfInBounds_toArray, List.set_cons_zero, List.set_cons_succ]
                refine wpAnyH_take (i := 4) (oi := _) (v := ?_) rfl (by kernel_rfl) (by kernel_rfl) (by kernel_rfl) (fun _ _ _ h => h) (Or.inl ⟨by rfl, ?_⟩) (by assumption) ?_
                case refine_2 => intro w hSw; obtain ⟨⟨p0, p1, p2⟩, pl1, pl2, pl3⟩ := hSw; go_simp; first | done | (with_reducible rfl)
                try simp only [Act.put, List.getElem_toArray, List.getElem_cons_zero, List.getElem_cons_succ, List.setIfInBounds_toArray, List.set_cons_zero, List.set_cons_succ]
                refine wpAnyH_take (i := 5) (oi := _) (v := ?_) rfl (by kernel_rfl) (by kernel_rfl) (by kernel_rfl) (fun _ _ _ h => h) (Or.inl ⟨by rfl, ?_⟩) (by assumption) ?_
                case refine_2 => intro w hSw; obtain ⟨⟨p0, p1, p2⟩, pl1, pl2, pl3⟩ := hSw; go_simp; first | done | (with_reducible rfl)
                try simp only [Act.put, List.getElem_toArray, List.getElem_cons_zero, List.getElem_cons_succ, List.setIfInBounds_toArray, List.set_cons_zero, List.set_cons_succ]
                refine wpAnyH_take (i := 6) (oi := _) (v := ?_) rfl (by kernel_rfl) (by kernel_rfl) (by kernel_rfl) (fun _ _ _ h => h) (Or.inl ⟨by rfl, ?_⟩) (by assumption) ?_
                case refine_2 => intro w hSw; obtain ⟨⟨p0, p1, p2⟩, pl1, pl2, pl3⟩ := hSw; go_simp; first | done | (with_reducible rfl)
                try simp only [Act.put, List.getElem_toArray, List.getElem_cons_zero, List.getElem_cons_succ, List.setIfInBounds_toArray, List.set_cons_zero, List.set_cons_succ]
                refine wpAnyH_take (i := 7) (oi := _) (v := ?_) rfl (by kernel_rfl) (by kernel_rfl) (by kernel_rfl) (fun _ _ _ h => h) (Or.inl ⟨by rfl, ?_⟩) (by assumption) ?_
                case refine_2 => intro w hSw; obtain ⟨⟨p0, p1, p2⟩, pl1, pl2, pl3⟩ := hSw; go_simp; first | done | (with_reducible rfl)
                try simp only [Act.put, List.getElem_toArray, List.getElem_cons_zero, List.getElem_cons_succ, List.setIfInBounds_toArray, List.set_cons_zero, List.set_cons_succ]
                refine wpAnyH_take (i := 8) (oi := _) (v := ?_) rfl (by kernel_rfl) (by kernel_rfl) (by kernel_rfl) (fun _ _ _ h => h) (Or.inl ⟨by rfl, ?_⟩) (by assumption) ?_
                case refine_2 => intro w hSw; obtain ⟨⟨p0, p1, p2⟩, pl1, pl2, pl3⟩ := hSw; go_simp; first | done | (with_reducible rfl)
                try simp only [Act.put, List.getElem_toArray, List.getElem_cons_zero, List.getElem_cons_succ, List.setIfInBounds_toArray, List.set_cons_zero, List.set_cons_succ]
                refine wpAnyH_take (i := 10) (oi := _) (v := ?_) rfl (by kernel_rfl) (by kernel_rfl) (by kernel_rfl) (fun _ _ _ h => h) (Or.inl ⟨by rfl, ?_⟩) (by assumption) ?_
                case refine_2 => intro w hSw; obtain ⟨⟨p0, p1, p2⟩, pl1, pl2, pl3⟩ := hSw; go_simp; first | done | (with_reducible rfl)
                try simp only [Act.put, List.getElem_toArray, List.getElem_cons_zero, List.getElem_cons_succ, List.setIfInBounds_toArray, List.set_cons_zero, List.set_cons_succ]
                refine wpAnyH_ready (rs := [9]) (by kernel_rfl) (by simp) ?_
                refine AllReadyH.cons rfl (fun K hK => ?_) AllReadyH.nil
                go_simp
                go_at_call 20
                refine HCN.out.mono ?_
                rintro e W2 ⟨rfl, rfl⟩
                refine hK.out _ _ HS37.out (fun hHeld => ?_)
                clear hK K
                try simp only [Act.put, List.getElem_toArray, List.getElem_cons_zero, List.getElem_cons_succ, List.setIfInBounds_toArray, List.set_cons_zero, List.set_cons_succ]
                refine wpAnyH_take (i := 11) (oi := _) (v := ?_) rfl (by kernel_rfl) (by kernel_rfl) (by kernel_rfl) (fun _ _ _ h => h) (Or.inl ⟨by rfl, ?_⟩) (by assumption) ?_
                case refine_2 => intro w hSw; obtain ⟨⟨p0, p1, p2⟩, pl1, pl2, pl3⟩ := hSw; go_simp; first | done | (with_reducible rfl)
                try simp only [Act.put, List.getElem_toArray, List.getElem_cons_zero, List.getElem_cons_succ, List.setIfInBounds_toArray, List.set_cons_zero, List.set_cons_succ]
                refine wpAnyH_take (i := 12) (oi := _) (v := ?_) rfl (by kernel_rfl) (by kernel_rfl) (by kernel_rfl) (fun _ _ _ h => h) (Or.inl ⟨by rfl, ?_⟩) (by assumption) ?_
                case refine_2 => intro w hSw; obtain ⟨⟨p0, p1, p2⟩, pl1, pl2, pl3⟩ := hSw; go_simp; first | done | (with_reducible rfl)
                try simp only [Act.put, List.getElem_toArray, List.getElem_cons_zero, List.getElem_cons_succ, List.setIfInBounds_toArray, List.set_cons_zero, List.set_cons_succ]
                refine wpAnyH_done (by kernel_rfl) ?_ _
                dsimp only [OnlyN]
                clear hHeld HS37 HCN hz1
                go_wp2
                refine ⟨⟨k + 1, M2, la, D :: Ds, .int .i64 ((k : Int) + 1), ⟨by go_num, by omega, by omega, HMK.out, HOK2.out, HPE.out⟩, ?_⟩, ?_⟩
                · (repeat apply Exists.intro)
                  rfl
                · simp [intOf]; omega
            · have l3 : (d.kind == 3) = false := by simp [hk3]
              clear hk3
              have hC := take_w HP1.out (HOK.out.ok (by omega)) d.no
              obtain ⟨⟨⟨dg, x2⟩, M2⟩, hx⟩ : ∃ z, takeN M d.no = z := ⟨_, rfl⟩
              have hok2 : Ok2 (k + 1) M2 la := by have := HOK.out.take d.no; rwa [hx] at this
              have hdz : dg.b.length ≤ 1300 := by have := HOK.out.taken d.no; rwa [hx] at this
              rw [hx] at hC
              unfold takeV sentC at hC
              dsimp only at hC
              have HC := Lib.hid hC; have HOK2 := Lib.hid hok2; have HX := Lib.hid hx; have HDZ := Lib.hid hdz
              clear hC hok2 hx hdz
              go_wp2_with fail
              refine HC.out.mono ?_
              rintro e V2 ⟨A1, c1, rfl, hp2, hb2, hrow, hge⟩
              obtain ⟨sa, hsa⟩ : ∃ sa, V2.heap.size = sa := ⟨_, rfl⟩
              obtain ⟨V3, hV3⟩ : ∃ V3, V2.alloc (.cells #[.int .i64 dg.no, .int .u32 dg.f.1, .int .i64 dg.f.2, .int .u32 dg.t.1, .int .i64 dg.t.2, .slice A1 dg.b.length c1] 43) = V3 := ⟨_, rfl⟩
              have hp3 : Pw w nb rb la M2 la M ((sa, .cells #[.int .i64 dg.no, .int .u32 dg.f.1, .int .i64 dg.f.2, .int .u32 dg.t.1, .int .i64 dg.t.2, .slice A1 dg.b.length c1] 43 (0, 0)) :: osW w.heap.size br rb Ds) V3 := by rw [← hV3]; exact (hp2.sub (fun p hp => List.mem_cons_of_mem _ hp)).box _ 43 hsa.symm
              have hrow3 : RowB V3 (.slice A1 dg.b.length c1) dg.b := by rw [← hV3]; exact hrow.below ((Below.refl _ _).alloc (Nat.le_refl _) _)
              have hR := rtake_w hp3 (HOK.out.ok (by omega)) d.no
              rw [HX.out] at hR
              unfold takeV sentC at hR
              dsimp only at hR
              have HR := Lib.hid hR; have HROW := Lib.hid hrow3
              have HGE2 : Hid (∀ g, (Value.slice A1 dg.b.length c1).ownBlock = some g → w.heap.size ≤ g) := Lib.hid (fun g hg => Nat.le_trans HP1.out.low.size (hge g hg))
              clear f0 f1 f2 f3 f4 f5 f6 gl HC d0 d1 d2 d3 d4 d5 d6 bl hR hrow3 hrow hb2 hge hp2
              obtain ⟨r0, -, rl⟩ := hp3.c1 (k := br) (v := .pointer (some ⟨rb, 0, none⟩)) (t := 27) (by simp [osW])
              clear hp3
              go_wp2_with fail
              refine HR.out.mono ?_
              rintro e V4 ⟨A2, c2, rfl, hp4, hb4, hkeep⟩
              have hrow4 := hkeep A1 dg.b.length c1 dg.b HROW.out HGE2.out
              obtain ⟨A', c', e', -, -, hb3, -⟩ := hrow4.parts
              simp only [Value.slice.injEq, true_and] at e'
              obtain ⟨rfl, rfl⟩ := e'
              obtain ⟨sb, hsb⟩ : ∃ sb, V4.heap.size = sb := ⟨_, rfl⟩
              obtain ⟨V5, hV5⟩ : ∃ V5, V4.alloc (.cells #[.int .i64 dg.no, .int .u32 dg.f.1, .int .i64 dg.f.2, .int .u32 dg.t.1, .int .i64 dg.t.2, .slice A2 dg.b.length c2] 43) = V5 := ⟨_, rfl⟩
              have hp5 : Pw w nb rb la M2 la M2 ((sb, .cells #[.int .i64 dg.no, .int .u32 dg.f.1, .int .i64 dg.f.2, .int .u32 dg.t.1, .int .i64 dg.t.2, .slice A2 dg.b.length c2] 43 (0, 0)) :: (sa, .cells #[.int .i64 dg.no, .int .u32 dg.f.1, .int .i64 dg.f.2, .int .u32 dg.t.1, .int .i64 dg.t.2, .slice A1 dg.b.length c1] 43 (0, 0)) :: osW w.heap.size br rb Ds) V5 := by rw [← hV5]; exact hp4.box _ 43 hsb.symm
              have hbx : Below V4.heap.size V4 V5 := by rw [← hV5]; exact (Below.refl _ _).alloc (Nat.le_refl _) _
              have hSm := same_d dg dg A1 A2 c1 c2 V5 (hb3.below hbx) (hb4.below hbx) (by have := HDZ.out; omega)
              rw [sameD_self] at hSm
              unfold sentC at hSm
              have HSM' := Lib.hid hSm; have HP5 := Lib.hid hp5
              obtain ⟨y0, y1, y2, y3, y4, y5⟩ := hp5.c6 (k := sa) (List.mem_cons_of_mem _ List.mem_cons_self)
              obtain ⟨z0, z1, z2, z3, z4, z5⟩ := hp5.c6 (k := sb) List.mem_cons_self
              have yl := World.block_lt_of_cell? _ _ y0
              have zl := World.block_lt_of_cell? _ _ z0
              dsimp only at yl zl
              clear hp4 hb4 hkeep hrow4 hb3 hp5 hbx hSm r0 rl hV3 hsa HR HROW HGE2
              go_wp2_with fail
              refine HSM'.out.mono ?_
              rintro e V ⟨rfl, hb6⟩
              have HPV : Hid (Pw w nb rb la M2 la M2 (osW w.heap.size br rb Ds) V) := Lib.hid ((HP5.out.below hb6).sub (fun p hp => List.mem_cons_of_mem _ (List.mem_cons_of_mem _ hp)))
              have q1 : (x2 != x2) = false := by simp
              have q2 := q1
              clear y0 y1 y2 y3 y4 y5 z0 z1 z2 z3 z4 z5 yl zl hb6 HSM' HP5 HX hV5 hsb
              have hpk := HPV.out.box (k := V.heap.size) #[.int .i64 0] 3 rfl
              obtain ⟨kc, hkc⟩ : ∃ kc, V.heap.size = kc := ⟨_, rfl⟩
              rw [hkc] at hpk
              have HA := Lib.hid (all_w hpk (HOK2.out.ok (by omega)))
              have HNK : Hid (∀ p ∈ osW w.heap.size br rb Ds, p.1 < kc) := Lib.hid (fun p hp => by rw [← hkc]; exact HPV.out.lt hp)
              have HWK : Hid (w.heap.size ≤ kc) := Lib.hid (by rw [← hkc]; exact HPV.out.low.size)
              clear hpk HPV
              go_wp2_with fail
              refine HA.out.mono ?_
              rintro e Va ⟨b2, kv2, L, rfl, hL, hS, hpa, hog, hbv⟩
              have hsz : kc + 1 ≤ Va.heap.size := by have := hbv.size; simp at this; omega
              have hgl := hS.lts
              have hlen : L.length = M2.length := by rw [← hL, List.length_map]
              have hsm : ∀ d ∈ M2, d.b.length ≤ 1300 := HOK2.out.sm
              have hst := all1_tells 5 (by omega) b2 (blks b2 kv2 L) kv2 L Va hgl hS (fun g hg => hg) (by have := HOK2.out.len; omega) (fun m hm => by have := hsm m.d (by rw [← hL]; exact List.mem_map.2 ⟨m, hm, rfl⟩); omega)
              obtain ⟨gs, hgs⟩ : ∃ gs, blks b2 kv2 L = gs := ⟨_, rfl⟩
              rw [hgs] at hst hog hgl
              have HPA := Lib.hid hpa; have HOG := Lib.hid hog; have HGL := Lib.hid hgl; have HL' := Lib.hid hL; have HSZ := Lib.hid hsz; have HLN := Lib.hid hlen; have HSMM := Lib.hid hsm
              have HOSL : Hid (∀ (m : Int), ∀ p ∈ (kc, Obj.cells #[.int .i64 m] 3 (0, 0)) :: osW w.heap.size br rb Ds, p.1 < Va.heap.size) := Lib.hid (fun m p hp => by
                rcases List.mem_cons.1 hp with rfl | hp
                · simp only; omega
                · have := HNK.out p hp; omega)
              have HWV : Hid (w.heap.size ≤ Va.heap.size) := Lib.hid (by have := HWK.out; omega)
              clear hgs hpa hog hL hsz hS hbv HA hkc q1 q2 hlen hsm
              go_wp2
              refine (wpIn_wide (n := 6)).1 ?_
              apply range_told4 (F := Fence.wide) (n := 6) (f := 32) (own := #[.pointer (some ⟨b2, 0, none⟩)]) ⟨rfl, by omega, trivial, enters_of Try.func32 (by kernel_rfl) rfl, hst⟩ rfl (Below.refl _ _) hgl (fun _ => rfl)
                (fun pre V => ∃ m, pre.length = m ∧ m ≤ M2.length ∧ Pw w nb rb la M2 la M2 ((kc, .cells #[.int .i64 (m : Int)] 3 (0, 0)) :: osW w.heap.size br rb Ds) V)
                (fun c pre V => False)
                ⟨fun s A C row ⟨m, h1, h2, h3⟩ hg hr => ⟨m, h1, h2, h3.own hg hr (HOSL.out _) HWV.out⟩, fun c s A C row h0 hg hr => h0⟩
                ⟨0, rfl, Nat.zero_le _, HPA.out⟩
              case al => exact fun z => .cells (sentC z.d.no z.d.f z.d.t z.v) 43
              case hassign =>
                intro l z W g K hg hK
                simp only [encM]
                unfold sentC Md.v at *
                gi_wp2
                exact hK
              case hbody =>
                rintro l pre z V0 V1 dd o o' gz ⟨m, hm1, hm2, hPm⟩ hb hok hd ho hBd hdl hg -
                obtain ⟨kk, mm, hLk, hkk, hzd⟩ := hok.1
                have hMk : M2[m]? = some z.d := by rw [← HL'.out, List.getElem?_map, ← hm1, ← hkk, hLk, hzd]; rfl
                have hml : m < M2.length := (List.getElem?_eq_some_iff.1 hMk).1
                obtain ⟨hpw, hbz⟩ := hPm.handed hb hok hd ho hBd (HOSL.out m) HWV.out hg (sentC z.d.no z.d.f z.d.t z.v) 43
                have hzs : z.d.b.length ≤ 1300 := HSMM.out z.d (List.mem_of_getElem? hMk)
                unfold sentC Md.v at hpw hbz ⊢
                generalize ((V1.alloc (.cells #[.int .i64 z.d.no, .int .u32 z.d.f.1, .int .i64 z.d.f.2, .int .u32 z.d.t.1, .int .i64 z.d.t.2, .slice z.A z.d.b.length z.c] 43)).putObj dd o) = W at *
                obtain ⟨Ar, cr, r1, rl1, rc1, rc2, hrow⟩ := hpw.rform
                obtain ⟨gr, A2, c2, rfl, hgr, s0', s1', s2', s3', s4', s5', hbr2⟩ := hrow m z.d hMk
                have hkp := hpw.sub (os' := (kc, .cells #[.int .i64 (m : Int)] 3 (0, 0)) :: osW w.heap.size br rb Ds) (fun p hp => List.mem_cons_of_mem _ hp)
                obtain ⟨t0, -, tl⟩ := hpw.c1 (k := kc) (v := .int .i64 (m : Int)) (t := 3) (by simp)
                obtain ⟨u0', -, ul⟩ := hpw.c1 (k := br) (v := .pointer (some ⟨rb, 0, none⟩)) (t := 27) (by simp [osW])
                obtain ⟨y0, y1, y2, y3, y4, y5⟩ := hpw.c6 (k := gz) List.mem_cons_self
                have hC : ∀ W' : World, Below W.heap.size W W' → Calls Try.prog 18 #[.agg (sentC z.d.no z.d.f z.d.t (.slice z.A z.d.b.length z.c)), .agg (sentC z.d.no z.d.f z.d.t (.slice A2 z.d.b.length c2))] W' fun e w' => e = .returned (.bool true) ∧ Below W'.heap.size W' w' := fun W' hb' => by
                  have := same_d z.d z.d z.A A2 z.c c2 W' (hbz.below hb') (hbr2.below hb') (by omega)
                  rwa [sameD_self] at this
                unfold sentC at hC
                have cP : ∀ d os, CallsIn Fence.wide 3 Try.prog 18 #[.agg #[.int .i64 z.d.no, .int .u32 z.d.f.1, .int .i64 z.d.f.2, .int .u32 z.d.t.1, .int .i64 z.d.t.2, .slice z.A z.d.b.length z.c], .agg #[.int .i64 z.d.no, .int .u32 z.d.f.1, .int .i64 z.d.f.2, .int .u32 z.d.t.1, .int .i64 z.d.t.2, .slice A2 z.d.b.length c2]] (grow (redrawn W d) os) fun e w'' => e = .returned (.bool true) ∧ ∃ p : Regrown, w'' = grow (redrawn W p.d) p.os := fun d os => CallsIn.regrown_of (callsIn_wide.2 (hC _ (below_regrown W d os)))
                have HVW : Hid (Va.heap.size ≤ W.heap.size) := Lib.hid (by have := hpw.lt (p := (gz, _)) List.mem_cons_self; simp only at this; omega)
                have HFIN : Hid (∀ V', Below W.heap.size W V' → Kept gs false Va.heap.size W V' ∧ Pw w nb rb la M2 la M2 ((kc, .cells #[.int .i64 (m : Int)] 3 (0, 0)) :: osW w.heap.size br rb Ds) V') := Lib.hid (fun V' hb' => ⟨Kept.of_below hb' (fun g hg => Nat.lt_of_lt_of_le (HGL.out g hg) HVW.out), hkp.below hb'⟩)
                have HM1 := Lib.hid hm1
                have c0' := cell_regrown t0; have c1' := cell_regrown u0'; have c2' := cell_regrown r1
                have c3' := cell_regrown y0; have c4' := cell_regrown y1; have c5' := cell_regrown y2; have c6' := cell_regrown y3; have c7' := cell_regrown y4; have c8' := cell_regrown y5
                have c9' := cell_regrown s0'; have ca' := cell_regrown s1'; have cb' := cell_regrown s2'; have cc' := cell_regrown s3'; have cd' := cell_regrown s4'; have ce' := cell_regrown s5'
                have hge : ¬ (M2.length : Int) ≤ (m : Int) := by omega
                have HM9 : Hid (m ≤ 150) := Lib.hid (by have := HOK2.out.len; omega)
                generalize M2.length = ml at *
                clear hLk hMk hzd hkk hbz hbr2 hrow hpw hPm hb hok hd ho hBd hdl hg hkp hC hst hgl hm1
                gi_wp2
                refine region_round (by kernel_rfl) (by kernel_rfl) (by kernel_rfl) ?_
                repeat (refine wpQuietIn_step (ask_wide _ _ _) (fun K hK => ?_); go_simp; first | (refine hK _ ?_; clear hK K) | (apply Exists.intro; refine ⟨fun _ => ?_, hK _ ?_⟩; (first | exact ⟨trivial, cP _ _⟩ | exact cP _ _); clear hK K))
                refine wpQuietIn_nil ?_
                intro _ hw'
                obtain ⟨⟨dq, osq⟩, hw''⟩ := hw'
                subst hw''
                have hV := below_regrown W dq osq
                have hV1 := HFIN.out _ hV
                clear c0' c1' c2' c3' c4' c5' c6' c7' c8' c9' ca' cb' cc' cd' ce' cP
                generalize grow (redrawn W dq) osq = V' at *
                obtain ⟨t0', tf', tl'⟩ := hV1.2.c1 (k := kc) (v := .int .i64 (m : Int)) (t := 3) (by simp)
                have hst' := hV1.2.store (j := 0) (v := .int .i64 ((m : Int) + 1)) (fun p hp => by have := HNK.out p hp; omega) HWK.out
                have hgl' : ∀ g ∈ gs, g < V'.heap.size := fun g hg => Nat.lt_of_lt_of_le (HGL.out g hg) (Nat.le_trans HVW.out hV.size)
                have hk' : Kept gs false Va.heap.size V' (V'.setCell ⟨kc, 0, none⟩ (.int .i64 ((m : Int) + 1))) := Kept.keeps (S := fun k => k = kc) (Keeps.set (S := fun k => k = kc) (Keeps.refl _ _) kc 0 _ rfl) hgl' (fun g hg e => HOG.out (kc, .cells #[.int .i64 0] 3 (0, 0)) (by simp) (by rw [← e]; exact hg)) (fun k e _ => by subst e; exact ⟨_, hV1.2.held (k, .cells #[.int .i64 (m : Int)] 3 (0, 0)) (by simp), rfl⟩)
                have HKE := Lib.hid (hV1.1.trans hk'); have HST := Lib.hid hst'
                have hpl : (pre ++ [z]).length = m + 1 := by rw [List.length_append, HM1.out]; rfl
                have HPL := Lib.hid hpl
                clear hV hV1 hst' hgl' hk' hpl t0 tl u0' ul y0 y1 y2 y3 y4 y5 r1 rl1 s0' s1' s2' s3' s4' s5' hgr
                have hm9 := HM9.out
                gi_wp2
                exact ⟨HKE.out, m + 1, HPL.out, by omega, by have := HST.out; simpa using this⟩
              case hstop => exact fun D c pre W hD hs h => h.elim
              case hdone =>
                rintro D xs W hD hxs ⟨m, hm1, hm2, hPm⟩ hK
                have hmk : m = M2.length := by
                  have h1 : xs.map Md.d = L.map Md.d := hxs
                  have h2 := congrArg List.length h1
                  rw [List.length_map, List.length_map, hm1, HLN.out] at h2
                  exact h2
                subst hmk
                have hph := hPm.hold hK rfl
                have HPE : Hid (Pw w nb rb la M2 la M2 (osW w.heap.size br rb (D :: Ds)) W.drew) := Lib.hid ((hph.sub (fun p hp => by
                  simp only [osW, marks, List.map_cons, List.mem_cons] at hp ⊢
                  rcases hp with h | h | h | h
                  · exact .inr (.inr (.inl h))
                  · exact .inr (.inr (.inr (.inl h)))
                  · exact .inl h
                  · exact .inr (.inr (.inr (.inr h))))).drew)
                have HMK : Hid (MarksOk w.heap.size (D :: Ds)) := Lib.hid (HND.out.cons (Nat.le_trans HWV.out hD) (fun h => by have h1 := HOSL.out 0 _ (List.mem_cons_of_mem _ (osW_d h)); simp only [markO] at h1; omega))
                obtain ⟨t0, -, tl⟩ := hPm.c1 (k := kc) (v := .int .i64 (M2.length : Int)) (t := 3) (by simp)
                obtain ⟨u0', -, ul⟩ := hPm.c1 (k := br) (v := .pointer (some ⟨rb, 0, none⟩)) (t := 27) (by simp [osW])
                obtain ⟨Ar, cr, r1, rl1, rc1, rc2, -⟩ := hPm.rform
                have hcn := count_w hPm.drew
                have HCN := Lib.hid hcn
                have HS37 : Hid ((W.drew.cell? ⟨kc, 0, none⟩ = some (.int .i64 (M2.length : Int)) ∧ W.drew.cell? ⟨br, 0, none⟩ = some (.pointer (some ⟨rb, 0, none⟩)) ∧ W.drew.cell? ⟨rb, 0, none⟩ = some (.slice Ar M2.length cr)) ∧ kc < W.drew.heap.size ∧ br < W.drew.heap.size ∧ rb < W.drew.heap.size) := Lib.hid ⟨⟨t0, u0', r1⟩, tl, ul, rl1⟩
                have hz1 : ((M2.length : Int) != (M2.length : Int)) = false := by simp
                clear hph hPm hK hD hxs hm1 hm2 hcn hst hgl
                generalize M2.length = ml at *
                go_upto_region 37 with (fail)
                refine Code.wp_mono (Q := OnlyN _) OnlyN.all ?_
                refine wp_region_held_drew (S := fun W => (W.cell? ⟨kc, 0, none⟩ = some (.int .i64 (ml : Int)) ∧ W.cell? ⟨br, 0, none⟩ = some (.pointer (some ⟨rb, 0, none⟩)) ∧ W.cell? ⟨rb, 0, none⟩ = some (.slice Ar ml cr)) ∧ kc < W.heap.size ∧ br < W.heap.size ∧ rb < W.heap.size) (by kernel_rfl) HS37.out (fun hHeld => ?_)
                refine wpAnyH_take (i := 0) (oi := _) (v := ?_) rfl (by kernel_rfl) (by kernel_rfl) (by kernel_rfl) (fun _ _ _ h => h) (Or.inl ⟨by rfl, ?_⟩) (by assumption) ?_
                case refine_2 => intro w hSw; obtain ⟨⟨p0, p1, p2⟩, pl1, pl2, pl3⟩ := hSw; go_simp; first | done | (with_reducible rfl)
                try simp only [Act.put, List.getElem_toArray, List.getElem_cons_zero, List.setIfInBounds_toArray, List.set_cons_zero, List.set_cons_succ]
                refine wpAnyH_take (i := 1) (oi := _) (v := ?_) rfl (by kernel_rfl) (by kernel_rfl) (by kernel_rfl) (fun _ _ _ h => h) (Or.inl ⟨by rfl, ?_⟩) (by assumption) ?_
                case refine_2 => intro w hSw; obtain ⟨⟨p0, p1, p2⟩, pl1, pl2, pl3⟩ := hSw; go_simp; first | done | (with_reducible rfl)
                try simp only [Act.put, List.getElem_toArray, List.getElem_cons_zero, List.getElem_cons_succ, List.setIfInBounds_toArray, List.set_cons_zero, List.set_cons_succ]
                refine wpAnyH_take (i := 2) (oi := _) (v := ?_) rfl (by kernel_rfl) (by kernel_rfl) (by kernel_rfl) (fun _ _ _ h => h) (Or.inl ⟨by rfl, ?_⟩) (by assumption) ?_
                case refine_2 => intro w hSw; obtain ⟨⟨p0, p1, p2⟩, pl1, pl2, pl3⟩ := hSw; go_simp; first | done | (with_reducible rfl)
                try simp only [Act.put, List.getElem_toArray, List.getElem_cons_zero, List.getElem_cons_succ, List.setIfInBounds_toArray, List.set_cons_zero, List.set_cons_succ]
                refine wpAnyH_take (i := 3) (oi := _) (v := ?_) rfl (by kernel_rfl) (by kernel_rfl) (by kernel_rfl) (fun _ _ _ h => h) (Or.inl ⟨by rfl, ?_⟩) (by assumption) ?_
                case refine_2 => intro w hSw; obtain ⟨⟨p0, p1, p2⟩, pl1, pl2, pl3⟩ := hSw; go_simp; first | done | (with_reducible rfl)
                try simp only [Act.put, List.getElem_toArray, List.getElem_cons_zero, List.getElem_cons_succ, List.setIfInBounds_toArray, List.set_cons_zero, List.set_cons_succ]
                refine wpAnyH_take (i := 4) (oi := _) (v := ?_) rfl (by kernel_rfl) (by kernel_rfl) (by kernel_rfl) (fun _ _ _ h => h) (Or.inl ⟨by rfl, ?_⟩) (by assumption) ?_
                case refine_2 => intro w hSw; obtain ⟨⟨p0, p1, p2⟩, pl1, pl2, pl3⟩ := hSw; go_simp; first | done | (with_reducible rfl)
                try simp only [Act.put, List.getElem_toArray, List.getElem_cons_zero, List.getElem_cons_succ, List.setIfInBounds_toArray, List.set_cons_zero, List.set_cons_succ]
                refine wpAnyH_take (i := 5) (oi := _) (v := ?_) rfl (by kernel_rfl) (by kernel_rfl) (by kernel_rfl) (fun _ _ _ h => h) (Or.inl ⟨by rfl, ?_⟩) (by assumption) ?_
                case refine_2 => intro w hSw; obtain ⟨⟨p0, p1, p2⟩, pl1, pl2, pl3⟩ := hSw; go_simp; first | done | (with_reducible rfl)
                try simp only [Act.put, List.getElem_toArray, List.getElem_cons_zero, List.getElem_cons_succ, List.setIfInBounds_toArray, List.set_cons_zero, List.set_cons_succ]
                refine wpAnyH_take (i := 6) (oi := _) (v := ?_) rfl (by kernel_rfl) (by kernel_rfl) (by kernel_rfl) (fun _ _ _ h => h) (Or.inl ⟨by rfl, ?_⟩) (by assumption) ?_
                case refine_2 => intro w hSw; obtain ⟨⟨p0, p1, p2⟩, pl1, pl2, pl3⟩ := hSw; go_simp; first | done | (with_reducible rfl)
                try simp only [Act.put, List.getElem_toArray, List.getElem_cons_zero, List.getElem_cons_succ, List.setIfInBounds_toArray, List.set_cons_zero, List.set_cons_succ]
                refine wpAnyH_take (i := 7) (oi := _) (v := ?_) rfl (by kernel_rfl) (by kernel_rfl) (by kernel_rfl) (fun _ _ _ h => h) (Or.inl ⟨by rfl, ?_⟩) (by assumption) ?_
                case refine_2 => intro w hSw; obtain ⟨⟨p0, p1, p2⟩, pl1, pl2, pl3⟩ := hSw; go_simp; first | done | (with_reducible rfl)
                try simp only [Act.put, List.getElem_toArray, List.getElem_cons_zero, List.getElem_cons_succ, List.setIfInBounds_toArray, List.set_cons_zero, List.set_cons_succ]
                refine wpAnyH_take (i := 8) (oi := _) (v := ?_) rfl (by kernel_rfl) (by kernel_rfl) (by kernel_rfl) (fun _ _ _ h => h) (Or.inl ⟨by rfl, ?_⟩) (by assumption) ?_
                case refine_2 => intro w hSw; obtain ⟨⟨p0, p1, p2⟩, pl1, pl2, pl3⟩ := hSw; go_simp; first | done | (with_reducible rfl)
                try simp only [Act.put, List.getElem_toArray, List.getElem_cons_zero, List.getElem_cons_succ, List.setIfInBounds_toArray, List.set_cons_zero, List.set_cons_succ]
                refine wpAnyH_take (i := 10) (oi := _) (v := ?_) rfl (by kernel_rfl) (by kernel_rfl) (by kernel_rfl) (fun _ _ _ h => h) (Or.inl ⟨by rfl, ?_⟩) (by assumption) ?_
                case refine_2 => intro w hSw; obtain ⟨⟨p0, p1, p2⟩, pl1, pl2, pl3⟩ := hSw; go_simp; first | done | (with_reducible rfl)
                try simp only [Act.put, List.getElem_toArray, List.getElem_cons_zero, List.getElem_cons_succ, List.setIfInBounds_toArray, List.set_cons_zero, List.set_cons_succ]
                refine wpAnyH_ready (rs := [9]) (by kernel_rfl) (by simp) ?_
                refine AllReadyH.cons rfl (fun K hK => ?_) AllReadyH.nil
                go_simp
                go_at_call 20
                refine HCN.out.mono ?_
                rintro e W2 ⟨rfl, rfl⟩
                refine hK.out _ _ HS37.out (fun hHeld => ?_)
                clear hK K
                try simp only [Act.put, List.getElem_toArray, List.getElem_cons_zero, List.getElem_cons_succ, List.setIfInBounds_toArray, List.set_cons_zero, List.set_cons_succ]
                refine wpAnyH_take (i := 11) (oi := _) (v := ?_) rfl (by kernel_rfl) (by kernel_rfl) (by kernel_rfl) (fun _ _ _ h => h) (Or.inl ⟨by rfl, ?_⟩) (by assumption) ?_
                case refine_2 => intro w hSw; obtain ⟨⟨p0, p1, p2⟩, pl1, pl2, pl3⟩ := hSw; go_simp; first | done | (with_reducible rfl)
                try simp only [Act.put, List.getElem_toArray, List.getElem_cons_zero, List.getElem_cons_succ, List.setIfInBounds_toArray, List.set_cons_zero, List.set_cons_succ]
                refine wpAnyH_take (i := 12) (oi := _) (v := ?_) rfl (by kernel_rfl) (by kernel_rfl) (by kernel_rfl) (fun _ _ _ h => h) (Or.inl ⟨by rfl, ?_⟩) (by assumption) ?_
                case refine_2 => intro w hSw; obtain ⟨⟨p0, p1, p2⟩, pl1, pl2, pl3⟩ := hSw; go_simp; first | done | (with_reducible rfl)
                try simp only [Act.put, List.getElem_toArray, List.getElem_cons_zero, List.getElem_cons_succ, List.setIfInBounds_toArray, List.set_cons_zero, List.set_cons_succ]
                refine wpAnyH_done (by kernel_rfl) ?_ _
                dsimp only [OnlyN]
                clear hHeld HS37 HCN hz1
                go_wp2
                refine ⟨⟨k + 1, M2, la, D :: Ds, .int .i64 ((k : Int) + 1), ⟨by go_num, by omega, by omega, HMK.out, HOK2.out, HPE.out⟩, ?_⟩, ?_⟩
                · (repeat apply Exists.intro)
                  rfl
                · simp [intOf]; omega
      · obtain rfl : k = 100 := by omega
        obtain ⟨c1, z1, cl⟩ := HP.out.c1 osW_r
        go_wp2
        exact plays_end HP.out HND.out (fun W' c9 => by simp [results, Try.results3, go_sem, c9])
    · obtain ⟨c1, z1, cl⟩ := HP.out.c1 osW_r
      go_wp2
      exact plays_end HP.out HND.out (fun W' c9 => by simp [results, Try.results3, go_sem, c9])

/-! ### THE ROW's STEP: WRITTEN OUT: LEAVE IT -/
set_option maxRecDepth 100000 in
theorem lifted (os : Os) (started : os.Started) (H : Type) (enc : TypeId × Value → H) :
    ReturnsInHanded {} Try.checked os 3 .any (Rows.netPlaysSpec.pre6 enc Try.prog Try.f3 Rows.netPlaysRow.domain false) (Rows.netPlaysSpec.post enc Try.prog Try.f3 false true false false) := by
  refine returnsInHanded_of_change (C := Try.checked) own started (by kernel_rfl) Try.func3
    (ChangeSpec.witness6 (enc := enc) (C := Try.checked) false ⟨#[], #[.slice none 0 0], []⟩ 8 (by kernel_rfl) (by kernel_rfl) (by kernel_rfl) (by kernel_rfl)) ?_
  intro W base args ds gs before hval0 hW hcnd _
  have hval : ∀ (j : Nat) t v, Try.f3.params[j]? = some t → args[j]? = some v → Value.okWide Try.prog W .any base t v := hval0
  have hW' := hW
  obtain ⟨p, q, hA0, hV, rfl, hfz, hnd⟩ := hW
  have hA : DataW.TrodAll enc Try.prog W 0 (fun _ => true) true Try.f3.params.toList args.toList ds p := hA0
  rw [Try.params3] at hA hval
  obtain ⟨v0, vs0, d0, ds0, p0, q0, hargs, rfl, rfl, h0, r0⟩ := trodAll_cons hA
  obtain ⟨rfl, rfl, rfl⟩ := trodAll_nil r0
  obtain rfl : args = #[v0] := by cases args; simp_all
  obtain ⟨rfl, rfl⟩ := trodVars_none hV
  have k0 := h0
  have lt0 : ∀ x ∈ p0, x.block < W.heap.size := by obtain ⟨m, hm⟩ := k0; exact DataW.trod_lt m _ _ _ hm
  obtain ⟨s0, w0⟩ := open_dos (hval 0 22 v0 rfl rfl) h0
  clear hA0 hval0
  refine (walk v0 s0 W w0).mono fun e W' ⟨he, bel⟩ => ?_
  subst he
  exact ⟨_, rfl, _, _, _, [], _, [], hW', trodAll_mk1 (shut_bool Try.underlying4 _), (trodAll_cons_mk (Below.trod laidOut (by kernel_rfl) (of_decide_eq_true (by kernel_rfl)) k0 bel lt0) trodAll_mk0), rfl, bel.frame _, fun h => by cases h⟩

theorem over : Rows.netPlaysRow.holds Try.pinned (OpenSpec.ofChange Rows.netPlaysSpec) :=
  OpenClaim.holds_of_wide 3 Try.f3 rfl rfl rfl rfl rfl rfl rfl ⟨rfl, rfl, rfl, rfl, rfl⟩ rfl rfl rfl rfl rfl (by kernel_rfl) Try.func3 (by kernel_rfl)
    (of_decide_eq_true (by kernel_rfl)) (by unfold Func.isWrapper; first | (rw [if_pos (by decide +kernel)]; kernel_rfl) | (rw [if_neg (by decide +kernel)]; exact ⟨rfl, rfl⟩))
    (fun os started H enc _ => lifted os started H enc)

/-- ████ THE STATEMENT ████ -/
theorem proved : Rows.NetPlaysSaid := over
#print axioms proved
end Go.Proofs.Ythfdnidcmkjmoaa.netPlays
