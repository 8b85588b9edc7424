/-
  Contracts of embrasure/pcp's ReadAsk, ReadAnswer and Version: what they read of bytes. Conditions: the slice reads as bytes.
  The contract of gate's Hear, by the contract of what answers the version. Conditions: the gateway stands; the bytes are held.
  Contracts of gate's New and Reboot. Conditions: the box stands; the gateway stands.
-/
import Derived.Test.YtemlnkcokeckmaaMh16
import Derived.Test.YtemlnkcokeckmaaMh15
import Derived.Test.YtemlnkcokeckmaaMh6
namespace Go.Proofs.Ytemlnkcokeckmaa.Pp
open Go.RowKit
attribute [local go_sem] Oper.semAt_some
set_option linter.unusedVariables false
set_option linter.unusedSimpArgs false

/-- a lease of version 2 is laid -/
def verL : Le := ⟨2, 0, 0, 0, 0, 0, 0, 0⟩
theorem Rs.startV (w : World) (A : Option Addr) (n c : Nat) (zs : List Int) (W : World) (hW : W = (w.alloc (.cells (leA zeroL) 64)).alloc (.cells (leA verL) 64)) (hb : Bts w A n zs) (h1 : n ≤ c) (h2 : c ≤ maxLen) (h3 : A = none → n = 0 ∧ c = 0) :
    ∃ b, Rs w (W.alloc (.cells #[.slice A n c] 60)) b verL (zs.drop 0) := by
  have a1 : Below w.heap.size w (w.alloc (.cells (leA zeroL) 64)) := (Below.refl _ w).alloc (Nat.le_refl _) _
  have n1 := LeAt.new w zeroL
  have n2 := LeAt.new (w.alloc (.cells (leA zeroL) 64)) verL
  rw [World.size_alloc] at n2
  have b2 : Below (w.heap.size + 1) (w.alloc (.cells (leA zeroL) 64)) ((w.alloc (.cells (leA zeroL) 64)).alloc (.cells (leA verL) 64)) := (Below.refl _ _).alloc (by simp) _
  have m3 : LeAt W w.heap.size zeroL := by rw [hW]; exact n1.below b2 (by omega)
  have m2 : LeAt W (w.heap.size + 1) verL := by rw [hW]; exact n2
  have m4 : Below w.heap.size w W := by rw [hW]; exact a1.alloc (by simp) _
  have hs : W.heap.size = w.heap.size + 2 := by rw [hW]; simp
  clear hW n1 n2 b2 a1
  have b3 : Below W.heap.size W (W.alloc (.cells #[.slice A n c] 60)) := (Below.refl _ _).alloc (Nat.le_refl _) _
  have n3 : (W.alloc (.cells #[.slice A n c] 60)).heap[w.heap.size + 2]? = some (.cells #[.slice A n c] 60 (0, 0)) := by
    rw [← hs]
    show (W.heap.push _)[W.heap.size]? = _
    simp
  have hd : ∃ b, (zs ≠ [] → b < w.heap.size) ∧ (0 < n → ∃ ad, A = some ad ∧ ad.block = b ∧ b ≠ w.heap.size + 2) := by
    rcases Nat.eq_zero_or_pos n with h0 | h0
    · refine ⟨0, fun hz => absurd (List.eq_nil_of_length_eq_zero (by have := hb.len; omega)) hz, fun h => by omega⟩
    · obtain ⟨b, off, rfl, hlt, _⟩ := hb.2.2 h0
      exact ⟨b, fun _ => hlt, fun _ => ⟨_, rfl, rfl, by omega⟩⟩
  obtain ⟨b, hb1, hb2⟩ := hd
  rw [List.drop_zero]
  exact ⟨b, m4.alloc m4.size _, m3.below b3 m3.lt, m2.below b3 m2.lt, ⟨A, n, c, n3, (hb.below m4).below b3, h1, h2, h3, hb2⟩, hb1⟩
theorem pask_sl (l : Le) (c : Int) (w : World) (hl : isL l) (hc : 0 ≤ c ∧ c < 4294967296) : Calls Try.prog 36 #[leV l, .int .u32 c] w fun e w' => ∃ A m k, e = .returned (.slice A m k) ∧ Bts w' A m (paskR l c) ∧ Below w.heap.size w w' := by
  refine (pask_any l c w hl hc).mono ?_
  rintro e w' ⟨V, rfl, ho, hb⟩
  obtain ⟨A, c, rfl, _, _, hbt⟩ := own_form ho (paskR_bd l c hl hc)
  exact ⟨A, _, c, rfl, hbt, hb⟩
theorem pans_sl (l : Le) (w : World) (hl : isL l) : Calls Try.prog 72 #[leV l] w fun e w' => ∃ A m k, e = .returned (.slice A m k) ∧ Bts w' A m (pansR l) ∧ Below w.heap.size w w' := by
  refine (panswer_any l w hl).mono ?_
  rintro e w' ⟨V, rfl, ho, hb⟩
  obtain ⟨A, c, rfl, _, _, hbt⟩ := own_form ho (pansR_bd l hl)
  exact ⟨A, _, c, rfl, hbt, hb⟩

set_option maxRecDepth 100000 in
set_option maxHeartbeats 8000000 in
/-- ReadAsk -/
theorem preadAsk_any (A : Option Addr) (n c : Nat) (zs : List Int) (w : World) (hb : Bts w A n zs) (h1 : n ≤ c) (h2 : c ≤ maxLen) (h3 : A = none → n = 0 ∧ c = 0) :
    Calls Try.prog 116 #[.slice A n c] w fun e w' => e = .returned (paR zs) ∧ Below w.heap.size w w' := by
  have HZ := Lib.hid hb
  have HBD := Lib.hid hb.bd
  have HST := Lib.hid (fun W hW => Rs.startV w A n c zs W hW hb h1 h2 h3)
  clear h1 h2 h3 hb
  rw [show paR zs = bif decide (zs = paskR (pAskL zs) (pCl zs)) then paT (pAskL zs) (pCl zs) 0 else paT zeroL 0 3 by unfold paR; rw [Bool.cond_decide]]
  have HPI := Lib.hid (pAskL_is HBD.out)
  have HCI := Lib.hid (pCl_is zs)
  obtain ⟨la, hla⟩ : ∃ l, pAskL zs = l := ⟨_, rfl⟩
  obtain ⟨cl, hcl2⟩ : ∃ c, pCl zs = c := ⟨_, rfl⟩
  rw [hla, hcl2]
  rw [hla] at HPI
  rw [hcl2] at HCI
  have HCL := Lib.hid hcl2
  clear hcl2
  have HLA := Lib.hid hla
  clear hla
  obtain ⟨ok, hok⟩ : ∃ k, decide (zs = paskR la cl) = k := ⟨_, rfl⟩
  rw [hok]
  have HOK := Lib.hid hok
  clear hok
  go_enter Try.func116, Try.ntmps116
  go_wp2_with fail
  refine (numbers_sl A n c _).mono ?_
  rintro e w0 ⟨rfl, rfl⟩
  obtain ⟨b, hs⟩ := HST.out _ rfl
  have HS0 := Lib.hid hs
  clear hs HST
  unfold zeroL verL leA at HS0
  dsimp only at HS0
  go_wp2_with fail
  refine (HS0.out.nextM HBD.out 4 4 (by decide) rfl).mono ?_
  rintro e w1 ⟨rfl, h1⟩
  have HS1 := Lib.hid h1; clear h1 HS0
  go_wp2_with fail
  refine (HS1.out.nextM HBD.out 4 8 (by decide) rfl).mono ?_
  rintro e w2 ⟨rfl, h2⟩
  have HS2 := Lib.hid h2; clear h2
  have hcc2 := HS2.out.cells
  obtain ⟨hl2, hf2⟩ := hcc2
  obtain ⟨x0, x1, x2, x3, x4, x5, x6, x7⟩ := HS2.out.box.cells
  have f3 := (hf2 3).1
  go_wp2_with fail
  have HS2b := Lib.hid (HS2.out.set 3 (.int .i64 (ncut zs 4 4)) ⟨2, 0, 0, ncut zs 4 4, 0, 0, 0, 0⟩ rfl (by decide))
  clear x0 x1 x2 x3 x4 x5 x6 x7 f3 hl2 hf2
  refine (HS2b.out.nextB 16 24 (by decide) rfl).mono ?_
  rintro e w3 ⟨rfl, h3⟩
  have HS3 := Lib.hid h3; clear h3
  have hcl : IntKind.u32.wrap (IntKind.i64.wrap (ncut zs 8 16)) = pCl zs := by
    unfold pCl
    rw [IntKind.wrap_i64]
    simp [IntKind.wrap, IntKind.bits, IntKind.signed]
    omega
  rw [HCL.out] at hcl
  generalize IntKind.i64.wrap (ncut zs 8 16) = a16 at *
  go_wp2_with fail
  have HRM := Lib.hid (rdmap_any w w3 b ⟨2, 0, 0, ncut zs 4 4, 0, 0, 0, 0⟩ zs HS3.out HBD.out)
  rw [show mapL ⟨2, 0, 0, ncut zs 4 4, 0, 0, 0, 0⟩ zs = pAskL zs from rfl, HLA.out] at HRM
  clear hcl
  refine HRM.out.mono ?_
  rintro e w4 ⟨rfl, h4⟩
  have HS4 := Lib.hid h4; clear h4
  have hcc4 := HS4.out.cells
  obtain ⟨hl4, hf4⟩ := hcc4
  obtain ⟨x0, x1, x2, x3, x4, x5, x6, x7⟩ := HS4.out.box.cells
  have CA := Lib.hid (fun W => pask_sl la cl W HPI.out.1 HCI.out)
  unfold leV leA at CA
  go_wp2_with fail
  refine (CA.out _).mono ?_
  rintro e w5 ⟨A5, m5, c5, rfl, hb5, hlow5⟩
  have HE := Lib.hid (equal_any A A5 n m5 c c5 zs (paskR la cl) w5 (HZ.out.below (HS4.out.low.trans (hlow5.mono HS4.out.low.size))) hb5)
  have HS5 : Hid (Below w.heap.size w w5 ∧ LeAt w5 w.heap.size zeroL ∧ LeAt w5 (w.heap.size + 1) la) := Lib.hid ⟨HS4.out.low.trans (hlow5.mono HS4.out.low.size), HS4.out.res.below hlow5 HS4.out.res.lt, HS4.out.box.below hlow5 HS4.out.box.lt⟩
  clear x0 x1 x2 x3 x4 x5 x6 x7 hl4 hf4 hlow5 hb5 HS4
  go_wp2_with fail
  refine HE.out.mono ?_
  rintro e w6 ⟨rfl, rfl⟩
  obtain ⟨hlow, hres, hbox⟩ := HS5.out
  obtain ⟨x0, x1, x2, x3, x4, x5, x6, x7⟩ := hbox.cells
  obtain ⟨y0, y1, y2, y3, y4, y5, y6, y7⟩ := hres.cells
  have hl1 := hbox.lt
  have hl0 := hres.lt
  have g0 := (cells_of hres 0).2
  have g1 := (cells_of hres 1).2
  have g2 := (cells_of hres 2).2
  have g3 := (cells_of hres 3).2
  have g4 := (cells_of hres 4).2
  have g5 := (cells_of hres 5).2
  have g6 := (cells_of hres 6).2
  have g7 := (cells_of hres 7).2
  unfold zeroL at y0 y1 y2 y3 y4 y5 y6 y7
  dsimp only at y0 y1 y2 y3 y4 y5 y6 y7
  clear hres hbox hlow
  rw [HOK.out]
  cases ok with
  | true =>
    go_wp2
    obtain ⟨w9, hw9⟩ : ∃ w9, put8 w5 w.heap.size la = w9 := ⟨_, rfl⟩
    have hR9 : LeAt w9 w.heap.size la := by rw [← hw9]; exact put8_res HS5.out.2.1
    have hB9 : Below w.heap.size w w9 := by rw [← hw9]; exact put8_below HS5.out.1 (Nat.le_refl _)
    unfold put8 at hw9
    try unfold zeroL at hw9
    try dsimp only at hw9
    rw [hw9]
    obtain ⟨z0, z1, z2, z3, z4, z5, z6, z7⟩ := hR9.cells
    try unfold zeroL at z0 z1 z2 z3 z4 z5 z6 z7
    try dsimp only at z0 z1 z2 z3 z4 z5 z6 z7
    exact ⟨rfl, .tuple #[leV la, .int .u32 cl, .int .i64 0], by simp [results, Try.results116, go_sem, z0, z1, z2, z3, z4, z5, z6, z7, leV, leA, zeroL], rfl, hB9⟩
  | false =>
    go_wp2
    obtain ⟨w9, hw9⟩ : ∃ w9, put8 w5 w.heap.size zeroL = w9 := ⟨_, rfl⟩
    have hR9 : LeAt w9 w.heap.size zeroL := by rw [← hw9]; exact put8_res HS5.out.2.1
    have hB9 : Below w.heap.size w w9 := by rw [← hw9]; exact put8_below HS5.out.1 (Nat.le_refl _)
    unfold put8 at hw9
    try unfold zeroL at hw9
    try dsimp only at hw9
    rw [hw9]
    obtain ⟨z0, z1, z2, z3, z4, z5, z6, z7⟩ := hR9.cells
    try unfold zeroL at z0 z1 z2 z3 z4 z5 z6 z7
    try dsimp only at z0 z1 z2 z3 z4 z5 z6 z7
    exact ⟨rfl, .tuple #[leV zeroL, .int .u32 0, .int .i64 3], by simp [results, Try.results116, go_sem, z0, z1, z2, z3, z4, z5, z6, z7, leV, leA, zeroL], rfl, hB9⟩

set_option maxRecDepth 100000 in
set_option maxHeartbeats 8000000 in
/-- ReadAnswer -/
theorem preadAns_any (A : Option Addr) (n c : Nat) (zs : List Int) (w : World) (hb : Bts w A n zs) (h1 : n ≤ c) (h2 : c ≤ maxLen) (h3 : A = none → n = 0 ∧ c = 0) :
    Calls Try.prog 35 #[.slice A n c] w fun e w' => e = .returned (pbR zs) ∧ Below w.heap.size w w' := by
  have HZ := Lib.hid hb
  have HBD := Lib.hid hb.bd
  have HST := Lib.hid (fun W hW => Rs.startV w A n c zs W hW hb h1 h2 h3)
  clear h1 h2 h3 hb
  rw [show pbR zs = bif decide (zs = pansR (pAnsL zs)) then pbT (pAnsL zs) 0 else pbT zeroL 3 by unfold pbR; rw [Bool.cond_decide]]
  have HPI := Lib.hid (pAnsL_is HBD.out)
  obtain ⟨la, hla⟩ : ∃ l, pAnsL zs = l := ⟨_, rfl⟩
  rw [hla]
  rw [hla] at HPI
  have HLA := Lib.hid hla
  clear hla
  obtain ⟨ok, hok⟩ : ∃ k, decide (zs = pansR la) = k := ⟨_, rfl⟩
  rw [hok]
  have HOK := Lib.hid hok
  clear hok
  go_enter Try.func35, Try.ntmps35
  go_wp2_with fail
  refine (numbers_sl A n c _).mono ?_
  rintro e w0 ⟨rfl, rfl⟩
  obtain ⟨b, hs⟩ := HST.out _ rfl
  have HS0 := Lib.hid hs
  clear hs HST
  unfold zeroL verL leA at HS0
  dsimp only at HS0
  go_wp2_with fail
  refine (HS0.out.nextM HBD.out 3 3 (by decide) rfl).mono ?_
  rintro e w1 ⟨rfl, h1⟩
  have HS1 := Lib.hid h1; clear h1 HS0
  go_wp2_with fail
  refine (HS1.out.nextM HBD.out 1 4 (by decide) rfl).mono ?_
  rintro e w1a ⟨rfl, h1⟩
  have HS1a := Lib.hid h1; clear h1
  go_wp2_with fail
  refine (HS1a.out.nextM HBD.out 4 8 (by decide) rfl).mono ?_
  rintro e w1b ⟨rfl, h1⟩
  have HS1b := Lib.hid h1; clear h1
  go_wp2_with fail
  refine (HS1b.out.nextM HBD.out 4 12 (by decide) rfl).mono ?_
  rintro e w2 ⟨rfl, h2⟩
  have HS2 := Lib.hid h2; clear h2
  have hcc2 := HS2.out.cells
  obtain ⟨hl2, hf2⟩ := hcc2
  obtain ⟨x0, x1, x2, x3, x4, x5, x6, x7⟩ := HS2.out.box.cells
  have f3 := (hf2 3).1
  have f5 := (hf2 5).1
  have f6 := (hf2 6).1
  go_wp2_with fail
  have HS2b := Lib.hid (((HS2.out.set 5 (.int .i64 (ncut zs 3 1)) ⟨2, 0, 0, 0, 0, ncut zs 3 1, 0, 0⟩ rfl (by decide)).set 3 (.int .i64 (ncut zs 4 4)) ⟨2, 0, 0, ncut zs 4 4, 0, ncut zs 3 1, 0, 0⟩ rfl (by decide)).set 6 (.int .i64 (ncut zs 8 4)) ⟨2, 0, 0, ncut zs 4 4, 0, ncut zs 3 1, ncut zs 8 4, 0⟩ rfl (by decide))
  clear x0 x1 x2 x3 x4 x5 x6 x7 f3 f5 f6 hl2 hf2
  refine (HS2b.out.nextB 12 24 (by decide) rfl).mono ?_
  rintro e w3 ⟨rfl, h3⟩
  have HS3 := Lib.hid h3; clear h3
  generalize IntKind.i64.wrap (ncut zs 12 12) = a12 at *
  go_wp2_with fail
  have HRM := Lib.hid (rdmap_any w w3 b ⟨2, 0, 0, ncut zs 4 4, 0, ncut zs 3 1, ncut zs 8 4, 0⟩ zs HS3.out HBD.out)
  rw [show mapL ⟨2, 0, 0, ncut zs 4 4, 0, ncut zs 3 1, ncut zs 8 4, 0⟩ zs = pAnsL zs from rfl, HLA.out] at HRM
  refine HRM.out.mono ?_
  rintro e w4 ⟨rfl, h4⟩
  have HS4 := Lib.hid h4; clear h4
  have hcc4 := HS4.out.cells
  obtain ⟨hl4, hf4⟩ := hcc4
  obtain ⟨x0, x1, x2, x3, x4, x5, x6, x7⟩ := HS4.out.box.cells
  have CA := Lib.hid (fun W => pans_sl la W HPI.out.1)
  unfold leV leA at CA
  go_wp2_with fail
  refine (CA.out _).mono ?_
  rintro e w5 ⟨A5, m5, c5, rfl, hb5, hlow5⟩
  have HE := Lib.hid (equal_any A A5 n m5 c c5 zs (pansR la) w5 (HZ.out.below (HS4.out.low.trans (hlow5.mono HS4.out.low.size))) hb5)
  have HS5 : Hid (Below w.heap.size w w5 ∧ LeAt w5 w.heap.size zeroL ∧ LeAt w5 (w.heap.size + 1) la) := Lib.hid ⟨HS4.out.low.trans (hlow5.mono HS4.out.low.size), HS4.out.res.below hlow5 HS4.out.res.lt, HS4.out.box.below hlow5 HS4.out.box.lt⟩
  clear x0 x1 x2 x3 x4 x5 x6 x7 hl4 hf4 hlow5 hb5 HS4
  go_wp2_with fail
  refine HE.out.mono ?_
  rintro e w6 ⟨rfl, rfl⟩
  obtain ⟨hlow, hres, hbox⟩ := HS5.out
  obtain ⟨x0, x1, x2, x3, x4, x5, x6, x7⟩ := hbox.cells
  obtain ⟨y0, y1, y2, y3, y4, y5, y6, y7⟩ := hres.cells
  have hl1 := hbox.lt
  have hl0 := hres.lt
  have g0 := (cells_of hres 0).2
  have g1 := (cells_of hres 1).2
  have g2 := (cells_of hres 2).2
  have g3 := (cells_of hres 3).2
  have g4 := (cells_of hres 4).2
  have g5 := (cells_of hres 5).2
  have g6 := (cells_of hres 6).2
  have g7 := (cells_of hres 7).2
  unfold zeroL at y0 y1 y2 y3 y4 y5 y6 y7
  dsimp only at y0 y1 y2 y3 y4 y5 y6 y7
  clear hres hbox hlow
  rw [HOK.out]
  cases ok with
  | true =>
    go_wp2
    obtain ⟨w9, hw9⟩ : ∃ w9, put8 w5 w.heap.size la = w9 := ⟨_, rfl⟩
    have hR9 : LeAt w9 w.heap.size la := by rw [← hw9]; exact put8_res HS5.out.2.1
    have hB9 : Below w.heap.size w w9 := by rw [← hw9]; exact put8_below HS5.out.1 (Nat.le_refl _)
    unfold put8 at hw9
    try unfold zeroL at hw9
    try dsimp only at hw9
    rw [hw9]
    obtain ⟨z0, z1, z2, z3, z4, z5, z6, z7⟩ := hR9.cells
    try unfold zeroL at z0 z1 z2 z3 z4 z5 z6 z7
    try dsimp only at z0 z1 z2 z3 z4 z5 z6 z7
    exact ⟨rfl, .tuple #[leV la, .int .i64 0], by simp [results, Try.results35, go_sem, z0, z1, z2, z3, z4, z5, z6, z7, leV, leA, zeroL], rfl, hB9⟩
  | false =>
    go_wp2
    obtain ⟨w9, hw9⟩ : ∃ w9, put8 w5 w.heap.size zeroL = w9 := ⟨_, rfl⟩
    have hR9 : LeAt w9 w.heap.size zeroL := by rw [← hw9]; exact put8_res HS5.out.2.1
    have hB9 : Below w.heap.size w w9 := by rw [← hw9]; exact put8_below HS5.out.1 (Nat.le_refl _)
    unfold put8 at hw9
    try unfold zeroL at hw9
    try dsimp only at hw9
    rw [hw9]
    obtain ⟨z0, z1, z2, z3, z4, z5, z6, z7⟩ := hR9.cells
    try unfold zeroL at z0 z1 z2 z3 z4 z5 z6 z7
    try dsimp only at z0 z1 z2 z3 z4 z5 z6 z7
    exact ⟨rfl, .tuple #[leV zeroL, .int .i64 3], by simp [results, Try.results35, go_sem, z0, z1, z2, z3, z4, z5, z6, z7, leV, leA, zeroL], rfl, hB9⟩

/-- Version -/
theorem pversion_any (A : Option Addr) (n c : Nat) (zs : List Int) (w : World) (hb : Bts w A n zs) :
    Calls Try.prog 63 #[.slice A n c] w fun e w' => e = .returned (.int .i64 (if n = 0 then -1 else zs.getD 0 0)) ∧ w' = w := by
  by_cases hn : n = 0
  · subst hn
    rw [if_pos rfl]
    go_enter Try.func63, Try.ntmps63
    go_wp2
    go_ret
    exact ⟨rfl, rfl⟩
  · rw [if_neg hn]
    obtain ⟨b, off, rfl, hlt, hc⟩ := hb.2.2 (by omega)
    have hc0 := hc 0 (by omega)
    have hz := getD_bd hb.bd 0
    clear hc hb
    have t1 : ((n : Int) == 0) = false := by simp; omega
    generalize zs.getD 0 0 = z at *
    simp only [Nat.add_zero] at hc0
    go_enter Try.func63, Try.ntmps63
    go_wp2
    go_ret
    exact ⟨rfl, rfl⟩
end Go.Proofs.Ytemlnkcokeckmaa.Pp
namespace Go.Proofs.Ytemlnkcokeckmaa
open Go.RowKit Go.Maps
attribute [local go_sem] Oper.semAt_some
set_option linter.unusedVariables false
set_option linter.unusedSimpArgs false

/-- the map of answers is held -/
def An (gb : Nat) (p q : Bool) (av : Value) (os : List (Nat × Obj)) : Prop := if p = false ∧ q = false then av = .map none else ∃ am o, av = .map (some am) ∧ (am, o) ∈ os ∧ ∀ W : World, W.heap[am]? = some o → W.ownsMap Try.prog 3 (Rf gb) am 2 (ansD (kOf0 p) (kOf2 q))
/-- the version of some bytes -/
def verL (zs : List Int) : Int := if zs.length = 0 then -1 else zs.getD 0 0
theorem version_row {V : Value} {zs : List Int} {w : World} (hr : Pp.Row w V zs) : Calls Try.prog 63 #[V] w fun e w' => e = .returned (.int .i64 (verL zs)) ∧ w' = w := by
  obtain ⟨A, c, rfl, h1, h2, h3, h4⟩ := hr
  exact Pp.pversion_any A _ c zs w h1
theorem row_form {w : World} {v : Value} {zs : List Int} (h : Pp.Row w v zs) : ∃ A c, v = .slice A zs.length c := by obtain ⟨A, c, e, _⟩ := h; exact ⟨A, c, e⟩
/-- who answers a version -/
def kAt (p q : Bool) (v : Int) : Option Nat := if p = false ∧ q = false then none else if v = 0 then some (kOf0 p) else if v = 2 then some (kOf2 q) else none
theorem ver_wf {zs : List Int} (h : Pp.Bd zs) : -1 ≤ verL zs ∧ verL zs ≤ 255 := by
  unfold verL
  split
  · omega
  · have := Pp.getD_bd h 0
    omega
/-- what the map of answers says -/
theorem an_look {gb : Nat} {p q : Bool} {av : Value} {os : List (Nat × Obj)} (h : An gb p q av os) {W : World} (hh : ∀ r ∈ os, W.heap[r.1]? = some r.2) (v : Int) (hv : (Lit.int .i64 v).wf = true) :
    (Instr.lookup 115 av (.int .i64 v) false).run Try.prog W = .ok (match kAt p q v with | some k => fnV gb k | none => Value.nilFunc) W := by
  have hz : (zeroValue 119).run Try.prog W = .ok Value.nilFunc W := by kernel_rfl
  unfold An at h
  unfold kAt
  split at h
  · rename_i hn
    subst h
    rw [if_pos hn]
    have := Maps.look_nil false lawI Try.underlying115 hz (keyOf_int_mk Try.underlying3 hv)
    exact this
  · rename_i hn
    obtain ⟨am, o, rfl, hm, hall⟩ := h
    rw [if_neg hn]
    obtain ⟨u, ps, hrun, hR⟩ := (hall W (hh _ hm)).lookup lawI Try.underlying115 hz (Rf_nil gb) (keyOf_int_mk Try.underlying3 hv)
    rw [hrun]
    by_cases h0 : v = 0
    · subst h0
      rw [show (Lit.int .i64 0) = k0I from rfl, ansD_0] at hR
      rw [if_pos rfl, Rf_lit hR]
    · by_cases h2 : v = 2
      · subst h2
        rw [show (Lit.int .i64 2) = k2I from rfl, ansD_2] at hR
        rw [if_neg h0, if_pos rfl, Rf_lit hR]
      · rw [ansD_other _ _ _ h0 h2] at hR
        rw [if_neg h0, if_neg h2, Rf_none hR]
theorem eql_nil (W : World) : (binOp .eql 119 Value.nilFunc Value.nilFunc).run Try.prog W = .ok (.bool true) W := by kernel_rfl
theorem eql_fn (gb k : Nat) (W : World) : (binOp .eql 119 (.func (.func k) #[.pointer (some ⟨gb, 0, none⟩)] #[]) Value.nilFunc).run Try.prog W = .ok (.bool false) W := by kernel_rfl
section
variable {w0 V V' : World} {gb nb nm : Nat} {x : Bx} {most since now now' : Int} {av : Value} {f f' : Nf} {c c' : Nat} {M M' : List Bn} {os : List (Nat × Obj)} {p q : Bool}
theorem in0_st (x : Bx) (n : Int) (M : List Bn) (t : Int) (a : A2) (hg : goes n t = true) : (inS x n M t 0 a).2.2.1 = t ∧ (inS x n M t 0 a).2.2.2 = liveM M t := by
  unfold inS
  rw [if_pos hg]
  exact ⟨rfl, rfl⟩
set_option maxRecDepth 100000 in
set_option maxHeartbeats 8000000 in
/-- who isn't heard -/
theorem hear_bad (h : Gm w0 gb nb nm x most since av f c now M os V) (hM : OkM M) (t : Int) (a : A2) (ha : isA a) (v : Value) (hb : (goes now t && mayA a) = false) :
    Calls Try.prog 32 #[.pointer (some ⟨gb, 0, none⟩), .int .i64 t, adr a, v] V fun e V' => e = .returned (.slice none 0 0) ∧ Gm w0 gb nb nm x most since av f c (inS x now M t 0 a).2.2.1 (inS x now M t 0 a).2.2.2 os V' := by
  have hbox := h.alloc (.cells #[.int .u32 a.1, .int .i64 a.2] 38)
  have HGO := Lib.hid (goesOn_gm hbox hM t a ha)
  rw [hb] at HGO
  clear h hbox hb
  unfold adr at HGO ⊢
  go_enter Try.func32, Try.ntmps32
  go_wp2_with fail
  refine HGO.out.mono ?_
  rintro e W1 ⟨rfl, hg1⟩
  have HG1 := Lib.hid hg1
  clear hg1
  go_wp2
  go_ret
  exact ⟨rfl, HG1.out⟩
set_option maxRecDepth 100000 in
set_option maxHeartbeats 8000000 in
theorem hear_tell (h : Gm w0 gb nb nm x most since av f c now M os V) (hM : OkM M) (t : Int) (a : A2) (ha : isA a) (v : Value) (zs : List Int) (hb : (goes now t && mayA a) = true) (hbd : Pp.Bd zs) (han : An gb p q av os)
    (hrow : ∀ f' n' M' W, Gm w0 gb nb nm x most since av f' c n' M' os W → Pp.Row W v zs) (R : Value → World → Prop)
    (hk : match kAt p q (verL zs) with
      | some k => ∀ W os', Gm w0 gb nb nm x most since av (keptF f (liveM M t)) c t (liveM M t) (os' ++ os) W → Calls Try.prog k #[.pointer (some ⟨gb, 0, none⟩), .int .i64 t, adr a, v] W fun e w' => ∃ u, e = .returned u ∧ R u w'
      | none => ∀ W, Gm w0 gb nb nm x most since av (keptF f (liveM M t)) c t (liveM M t) os W → R (.slice none 0 0) W) :
    Calls Try.prog 32 #[.pointer (some ⟨gb, 0, none⟩), .int .i64 t, adr a, v] V fun e w' => ∃ u, e = .returned u ∧ R u w' := by
  have hg : goes now t = true := by rw [Bool.and_eq_true] at hb; exact hb.1
  have hbox := h.box (k := V.heap.size) #[.int .u32 a.1, .int .i64 a.2] 38 rfl
  have HGO := Lib.hid (goesOn_gm hbox hM t a ha)
  rw [hb, (in0_st x now M t a hg).1, (in0_st x now M t a hg).2] at HGO
  obtain ⟨AO, hAO⟩ : ∃ o : Nat × Obj, o = (V.heap.size, .cells #[.int .u32 a.1, .int .i64 a.2] 38 (0, 0)) := ⟨_, rfl⟩
  rw [← hAO] at HGO
  have HCELL : Hid (∀ f' W, Gm w0 gb nb nm x most since av f' c t (liveM M t) (AO :: os) W → (W.cell? ⟨V.heap.size, 0, none⟩ = some (.int .u32 a.1) ∧ W.cell? ⟨V.heap.size, 1, none⟩ = some (.int .i64 a.2)) ∧ V.heap.size < W.heap.size) := Lib.hid (fun f' W hW => by
    have e := fun j => (hW.cellsOf (b := V.heap.size) (C := #[.int .u32 a.1, .int .i64 a.2]) (t := 38) (by rw [hAO]; simp) j).1
    exact ⟨⟨e 0, e 1⟩, hW.lt (p := AO) (by simp) |> fun z => by rw [hAO] at z; exact z⟩)
  have hMl : OkM (liveM M t) := ⟨Nat.le_trans (List.length_filter_le _ _) hM.len, fun b hb => hM.seen b (List.mem_filter.1 hb).1⟩
  have hgt : goes t t = true := by unfold goes at hg ⊢; simp only [Bool.and_eq_true, decide_eq_true_eq] at hg ⊢; omega
  have HF : Hid (∀ W, Gm w0 gb nb nm x most since av f c t (liveM M t) (AO :: os) W → Calls Try.prog 62 #[.pointer (some ⟨gb, 0, none⟩), .int .i64 t] W fun e V' => e = .returned (.tuple #[]) ∧ Gm w0 gb nb nm x most since av (keptF f (liveM M t)) c t (liveM M t) (AO :: os) V') := Lib.hid (fun W hW => by
    have := forget_gm hW hMl t hgt
    rwa [show liveM (liveM M t) t = liveM M t by unfold liveM; simp] at this)
  have HV := Lib.hid (fun f' W (hW : Gm w0 gb nb nm x most since av f' c t (liveM M t) (AO :: os) W) => version_row (hrow f' t (liveM M t) W (hW.sub (fun r hr => by simp [hr]))))
  have hvw := ver_wf hbd
  have HLK := Lib.hid (fun f' W (hW : Gm w0 gb nb nm x most since av f' c t (liveM M t) (AO :: os) W) => an_look han (W := W) (fun r hr => hW.held (by simp [hr])) (verL zs) (by simp [Lit.wf, IntKind.min, IntKind.max, IntKind.signed, IntKind.bits]; omega))
  have HK := Lib.hid hk
  obtain ⟨A, cc, hv⟩ := row_form (hrow f now M V h)
  subst hv
  clear h hbox hb hg hgt hM hMl hrow han hAO hk hvw
  generalize verL zs = vz at HV HLK HK
  unfold adr at HGO ⊢
  go_enter Try.func32, Try.ntmps32
  go_wp2_with fail
  refine HGO.out.mono ?_
  rintro e W1 ⟨rfl, hg1⟩
  have HF1 := Lib.hid (HF.out _ hg1)
  clear hg1
  go_wp2_with fail
  refine HF1.out.mono ?_
  rintro e W2 ⟨rfl, hg2⟩
  have HG2 := Lib.hid hg2
  obtain ⟨⟨c0, c1, c2, c3, c4⟩, cf, cl⟩ := hg2.cells
  clear hg2
  go_upto_region 4 with (fail)
  have hlk := HLK.out _ W2.drew (HG2.out.drewN 1)
  obtain ⟨fv, hfv⟩ : ∃ fv, fv = (match kAt p q vz with | some k => fnV gb k | none => Value.nilFunc) := ⟨_, rfl⟩
  rw [← hfv] at hlk
  have HFV := Lib.hid hfv
  clear hfv
  have HV2 := Lib.hid (HV.out _ W2.drew (HG2.out.drewN 1))
  have HGD := Lib.hid (HG2.out.drewN 1)
  go_cut [9] from 10 (fun v9 wc => v9 = fv ∧ Hid (Gm w0 gb nb nm x most since av (keptF f (liveM M t)) c t (liveM M t) (AO :: os) wc))
  case first =>
    go_region_with (go_at_call 63; refine HV2.out.mono ?_; rintro e W3 ⟨rfl, rfl⟩)
    all_goals go_wp2
    all_goals (go_meet; case rel => exact ⟨rfl, HGD⟩)
  case rest =>
    obtain ⟨rfl, HGC⟩ := hcut
    clear hlk HV2 HGD HV HLK HF HGO HF1 HG2 c0 c1 c2 c3 c4 cf cl
    obtain ⟨⟨b0, b1⟩, bl⟩ := HCELL.out _ _ HGC.out
    have hkk : kAt p q vz = none ∨ kAt p q vz = some 90 ∨ kAt p q vz = some 93 ∨ kAt p q vz = some 91 ∨ kAt p q vz = some 92 := by
      unfold kAt kOf0 kOf2
      cases p <;> cases q <;> by_cases h0 : vz = 0 <;> by_cases h2 : vz = 2 <;> simp [h0, h2]
    rcases hkk with hkk | hkk | hkk | hkk | hkk
    · rw [hkk] at HK HFV
      dsimp only at HK HFV
      obtain rfl := HFV.out
      clear HFV
      have HE := Lib.hid (HK.out _ (HGC.out.sub (fun r hr => by simp [hr])))
      have hq := eql_nil
      go_wp2
      go_ret
      exact ⟨_, rfl, HE.out⟩
    · rw [hkk] at HK HFV
      dsimp only at HK HFV
      obtain rfl := HFV.out
      clear HFV
      unfold fnV
      have hq := fun W => eql_fn gb 90 W
      go_upto_region 7 with (fail)
      go_wp2_with (go_at_call 90; refine (HK.out _ [AO] HGC.out).mono ?_; rintro e W4 ⟨u, rfl, hR⟩; have HR := Lib.hid hR; clear hR)
      go_ret
      exact ⟨u, rfl, HR.out⟩
    · rw [hkk] at HK HFV
      dsimp only at HK HFV
      obtain rfl := HFV.out
      clear HFV
      unfold fnV
      have hq := fun W => eql_fn gb 93 W
      go_upto_region 7 with (fail)
      go_wp2_with (go_at_call 93; refine (HK.out _ [AO] HGC.out).mono ?_; rintro e W4 ⟨u, rfl, hR⟩; have HR := Lib.hid hR; clear hR)
      go_ret
      exact ⟨u, rfl, HR.out⟩
    · rw [hkk] at HK HFV
      dsimp only at HK HFV
      obtain rfl := HFV.out
      clear HFV
      unfold fnV
      have hq := fun W => eql_fn gb 91 W
      go_upto_region 7 with (fail)
      go_wp2_with (go_at_call 91; refine (HK.out _ [AO] HGC.out).mono ?_; rintro e W4 ⟨u, rfl, hR⟩; have HR := Lib.hid hR; clear hR)
      go_ret
      exact ⟨u, rfl, HR.out⟩
    · rw [hkk] at HK HFV
      dsimp only at HK HFV
      obtain rfl := HFV.out
      clear HFV
      unfold fnV
      have hq := fun W => eql_fn gb 92 W
      go_upto_region 7 with (fail)
      go_wp2_with (go_at_call 92; refine (HK.out _ [AO] HGC.out).mono ?_; rintro e W4 ⟨u, rfl, hR⟩; have HR := Lib.hid hR; clear hR)
      go_ret
      exact ⟨u, rfl, HR.out⟩
end
end Go.Proofs.Ytemlnkcokeckmaa
namespace Go.Proofs.Ytemlnkcokeckmaa
open Go.RowKit Go.Maps
attribute [local go_sem] Oper.semAt_some
set_option linter.unusedVariables false
set_option linter.unusedSimpArgs false

section
variable {w0 V V' : World} {gb nb nm : Nat} {x : Bx} {most since now now' : Int} {av : Value} {f f' : Nf} {c c' : Nat} {M M' : List Bn} {os : List (Nat × Obj)} {p q : Bool}
set_option maxRecDepth 100000 in
set_option maxHeartbeats 8000000 in
theorem gnew_pl (h : Pl w0 nb x now M os V) (p q : Bool) (m t : Int) (hm : 1 ≤ m ∧ m ≤ 4294967295) (ht : 0 ≤ t ∧ t ≤ 1099511627776) :
    Calls Try.prog 31 #[.pointer (some ⟨nb, 0, none⟩), .agg #[.bool p, .bool q, .int .i64 m], .int .i64 t] V fun e V' => ∃ gb nm av os', e = .returned (.tuple #[.pointer (some ⟨gb, 0, none⟩), .int .i64 0]) ∧ Gm w0 gb nb nm x m t av f0 0 now M (os' ++ os) V' ∧ An gb p q av (os' ++ os) := by
  have hp1 := h.fresh ((Below.refl _ V).alloc (Nat.le_refl _) (.cells #[.bool p, .bool q, .int .i64 m] 70)) (Nat.le_refl _) (World.alloc_heap_new V _)
  have HG := Lib.hid (isGateway_any p q m (V.alloc (.cells #[.bool p, .bool q, .int .i64 m] 70)))
  have HR : Hid ((decide (1 ≤ m) && decide (m ≤ 4294967295)) = true) := Lib.hid (by simp [hm.1, hm.2])
  rw [HR.out] at HG
  have HP1 := Lib.hid hp1
  have HMM := @run_makeMap Try.prog
  have g0 := (cells_of (hp1.held (V.heap.size, .cells #[.bool p, .bool q, .int .i64 m] 70 (0, 0)) (by simp)) 0).1
  have g1 := (cells_of (hp1.held (V.heap.size, .cells #[.bool p, .bool q, .int .i64 m] 70 (0, 0)) (by simp)) 1).1
  have HLW := Lib.hid h.low.size
  have HOS : Hid (∀ r ∈ os, r.1 < V.heap.size) := Lib.hid (fun r hr => h.lt hr)
  obtain ⟨m1, m2⟩ := hm
  obtain ⟨t1, t2⟩ := ht
  clear hp1 h g0 g1
  go_enter Try.func31, Try.ntmps31
  go_wp2_with fail
  refine HG.out.mono ?_
  rintro e W2 ⟨rfl, hb2⟩
  have hp2 := HP1.out.below hb2
  have hc := fun j => (hp2.cells (b := V.heap.size) (C := #[.bool p, .bool q, .int .i64 m]) (t := 70) (by simp) j).1
  have g0 : W2.cell? ⟨V.heap.size, 0, none⟩ = some (.bool p) := hc 0
  have g1 : W2.cell? ⟨V.heap.size, 1, none⟩ = some (.bool q) := hc 1
  have g2 : W2.cell? ⟨V.heap.size, 2, none⟩ = some (.int .i64 m) := hc 2
  have gl : V.heap.size < W2.heap.size := hp2.lt (p := (V.heap.size, .cells #[.bool p, .bool q, .int .i64 m] 70 (0, 0))) (by simp)
  have hp3 := hp2.fresh ((Below.refl _ W2).alloc (Nat.le_refl _) (.map #[] 0)) (Nat.le_refl _) (World.alloc_heap_new W2 _)
  have hp4 := hp3.fresh (k := W2.heap.size + 1) ((Below.refl _ (W2.alloc (.map #[] 0))).alloc (Nat.le_refl _) (.cells (gCells nb m t (.map none) W2.heap.size) 117)) (by simp) (by
    have := World.alloc_heap_new (W2.alloc (.map #[] 0)) (.cells (gCells nb m t (.map none) W2.heap.size) 117)
    rwa [World.size_alloc] at this)
  have HP4 := Lib.hid hp4
  have HOM := Lib.hid ((World.ownsMap_made W2 Try.prog 38 (plainElem (H := Unit) Try.prog 62)).alloc (.cells (gCells nb m t (.map none) W2.heap.size) 117))
  have HSP := Lib.hid (spoken_any (W2.heap.size + 1) p q m ((W2.alloc (.map #[] 0)).alloc (.cells (gCells nb m t (.map none) W2.heap.size) 117)))
  have HL2 := Lib.hid hp2.low.size
  unfold gCells at HSP
  clear hp2 hp3 hp4 hc hb2
  go_wp2_with fail
  refine HSP.out.mono ?_
  rintro e W5 ⟨av, rfl, hsp, hb5⟩
  have HB5 := Lib.hid hb5
  have HSK := Lib.hid hsp
  have hob : W5.heap[W2.heap.size + 1]? = some (.cells (gCells nb m t (.map none) W2.heap.size) 117 (0, 0)) := (hb5.block _ (by simp)).trans (HP4.out.held (W2.heap.size + 1, .cells (gCells nb m t (.map none) W2.heap.size) 117 (0, 0)) (by simp))
  have q3 : W5.cell? ⟨W2.heap.size + 1, 3, none⟩ = some (.map none) := (cells_of hob 3).1
  have qf : W5.frozen? ⟨W2.heap.size + 1, 3, none⟩ = false := (cells_of hob 3).2
  have ql := (Array.getElem?_eq_some_iff.1 hob).1
  have HOB := Lib.hid hob
  have HFIN : Hid (∃ os', Gm w0 (W2.heap.size + 1) nb W2.heap.size x m t av f0 0 now M (os' ++ os) (W5.setCell ⟨W2.heap.size + 1, 3, none⟩ av) ∧ An (W2.heap.size + 1) p q av (os' ++ os)) := Lib.hid (by
    have hL2 := HL2.out
    have hnm : (W5.setCell ⟨W2.heap.size + 1, 3, none⟩ av).ownsMap Try.prog 38 (plainElem (H := Unit) Try.prog 62) W2.heap.size 0 (.map []) := map_keptG (map_keptG HOM.out (HB5.out.block _ (by simp; omega))) (heap_setCell_other W5 ⟨W2.heap.size + 1, 3, none⟩ W2.heap.size av (by simp))
    have hst : ∀ os1, Pl w0 nb x now M ((W2.heap.size + 1, .cells (gCells nb m t (.map none) W2.heap.size) 117 (0, 0)) :: os1) W5 → (∀ r ∈ os1, r.1 ≠ W2.heap.size + 1) → Pl w0 nb x now M ((W2.heap.size + 1, .cells (gCells nb m t av W2.heap.size) 117 (0, 0)) :: os1) (W5.setCell ⟨W2.heap.size + 1, 3, none⟩ av) := fun os1 h1 h2 => by
      have h3 := h1.store (j := 3) (v := av) h2 (by omega)
      exact h3
    have hosn : ∀ r ∈ os, r.1 ≠ W2.heap.size + 1 ∧ r.1 ≠ W2.heap.size := fun r hr => by have := HOS.out r hr; omega
    have hs := HSK.out
    unfold Spk at hs
    unfold An
    split at hs
    · rename_i hn
      refine ⟨[], ⟨⟨_, hst _ ((HP4.out.below HB5.out).sub (os' := (W2.heap.size + 1, .cells (gCells nb m t (.map none) W2.heap.size) 117 (0, 0)) :: (W2.heap.size, .map #[] 0) :: os) (fun r hr => ?_)) (fun r hr => ?_)⟩, ⟨_, hnm, Nn.nil⟩, by omega, by omega, by omega, fun r hr => hosn r hr⟩, ?_⟩
      · simp only [List.mem_cons] at hr ⊢
        rcases hr with h | h | h
        · exact .inl h
        · exact .inr (.inl h)
        · exact .inr (.inr (.inr h))
      · rcases List.mem_cons.1 hr with rfl | hr
        · simp
        · exact (hosn r hr).1
      · rw [if_pos hn]; exact hs
    · rename_i hn
      obtain ⟨am, rfl, ham, hown⟩ := hs
      obtain ⟨es, clk, hb, hrest⟩ := hown
      have ham2 : W2.heap.size + 2 ≤ am := by simpa using ham
      refine ⟨[(am, .map es clk)], ⟨⟨_, hst _ ((HP4.out.fresh HB5.out ham hb).sub (os' := (W2.heap.size + 1, .cells (gCells nb m t (.map none) W2.heap.size) 117 (0, 0)) :: (W2.heap.size, .map #[] 0) :: (am, .map es clk) :: os) (fun r hr => ?_)) (fun r hr => ?_)⟩, ⟨_, hnm, Nn.nil⟩, by omega, by omega, by omega, fun r hr => ?_⟩, ?_⟩
      · simp only [List.mem_cons] at hr ⊢
        rcases hr with h | h | h | h
        · exact .inr (.inl h)
        · exact .inr (.inr (.inl h))
        · exact .inl h
        · exact .inr (.inr (.inr (.inr h)))
      · rcases List.mem_cons.1 hr with rfl | hr
        · simp
        · rcases List.mem_cons.1 hr with rfl | hr
          · dsimp only; omega
          · exact (hosn r hr).1
      · rcases List.mem_cons.1 (show r ∈ (am, Obj.map es clk) :: os from hr) with rfl | hr
        · exact ⟨by dsimp only; omega, by dsimp only; omega⟩
        · exact hosn r hr
      · rw [if_neg hn]
        exact ⟨am, .map es clk, rfl, by simp, fun W hW => ⟨es, clk, hW, hrest⟩⟩)
  obtain ⟨mo, rfl⟩ : ∃ mo, av = .map mo := by
    unfold Spk at hsp
    split at hsp
    · exact ⟨_, hsp⟩
    · obtain ⟨am, e, _⟩ := hsp; exact ⟨_, e⟩
  clear hsp hb5 hob
  go_wp2
  refine ⟨rfl, .tuple #[.pointer (some ⟨W2.heap.size + 1, 0, none⟩), .int .i64 0], by simp [results, Try.results31, go_sem], ?_⟩
  obtain ⟨os', h1, h2⟩ := HFIN.out
  exact ⟨_, _, _, os', rfl, h1, h2⟩
end
end Go.Proofs.Ytemlnkcokeckmaa
