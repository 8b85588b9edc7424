/-
  Contracts of embrasure/pcp's ReadAsk, ReadAnswer and Version: what they read of bytes. Conditions: the slice reads as bytes.
-/
import Derived.Test.YtfaekiopmfnpkaaQPred
namespace Go.Proofs.Ytfaekiopmfnpkaa.Pp
open Go.RowKit
attribute [local go_sem] Oper.semAt_some
set_option linter.unusedVariables false
set_option linter.unusedSimpArgs false

/-- a lease of version 2 is laid -/
def verL : Le := ⟨2, 0, 0, 0, 0, 0, 0, 0⟩
theorem Rs.startV (w : World) (A : Option Addr) (n c : Nat) (zs : List Int) (W : World) (hW : W = (w.alloc (.cells (leA zeroL) 36)).alloc (.cells (leA verL) 36)) (hb : Bts w A n zs) (h1 : n ≤ c) (h2 : c ≤ maxLen) (h3 : A = none → n = 0 ∧ c = 0) :
    ∃ b, Rs w (W.alloc (.cells #[.slice A n c] 38)) b verL (zs.drop 0) := by
  have a1 : Below w.heap.size w (w.alloc (.cells (leA zeroL) 36)) := (Below.refl _ w).alloc (Nat.le_refl _) _
  have n1 := LeAt.new w zeroL
  have n2 := LeAt.new (w.alloc (.cells (leA zeroL) 36)) verL
  rw [World.size_alloc] at n2
  have b2 : Below (w.heap.size + 1) (w.alloc (.cells (leA zeroL) 36)) ((w.alloc (.cells (leA zeroL) 36)).alloc (.cells (leA verL) 36)) := (Below.refl _ _).alloc (by simp) _
  have m3 : LeAt W w.heap.size zeroL := by rw [hW]; exact n1.below b2 (by omega)
  have m2 : LeAt W (w.heap.size + 1) verL := by rw [hW]; exact n2
  have m4 : Below w.heap.size w W := by rw [hW]; exact a1.alloc (by simp) _
  have hs : W.heap.size = w.heap.size + 2 := by rw [hW]; simp
  clear hW n1 n2 b2 a1
  have b3 : Below W.heap.size W (W.alloc (.cells #[.slice A n c] 38)) := (Below.refl _ _).alloc (Nat.le_refl _) _
  have n3 : (W.alloc (.cells #[.slice A n c] 38)).heap[w.heap.size + 2]? = some (.cells #[.slice A n c] 38 (0, 0)) := by
    rw [← hs]
    show (W.heap.push _)[W.heap.size]? = _
    simp
  have hd : ∃ b, (zs ≠ [] → b < w.heap.size) ∧ (0 < n → ∃ ad, A = some ad ∧ ad.block = b ∧ b ≠ w.heap.size + 2) := by
    rcases Nat.eq_zero_or_pos n with h0 | h0
    · refine ⟨0, fun hz => absurd (List.eq_nil_of_length_eq_zero (by have := hb.len; omega)) hz, fun h => by omega⟩
    · obtain ⟨b, off, rfl, hlt, _⟩ := hb.2.2 h0
      exact ⟨b, fun _ => hlt, fun _ => ⟨_, rfl, rfl, by omega⟩⟩
  obtain ⟨b, hb1, hb2⟩ := hd
  rw [List.drop_zero]
  exact ⟨b, m4.alloc m4.size _, m3.below b3 m3.lt, m2.below b3 m2.lt, ⟨A, n, c, n3, (hb.below m4).below b3, h1, h2, h3, hb2⟩, hb1⟩
theorem pask_sl (l : Le) (c : Int) (w : World) (hl : isL l) (hc : 0 ≤ c ∧ c < 4294967296) : Calls Try.prog 43 #[leV l, .int .u32 c] w fun e w' => ∃ A m k, e = .returned (.slice A m k) ∧ Bts w' A m (paskR l c) ∧ Below w.heap.size w w' := by
  refine (pask_any l c w hl hc).mono ?_
  rintro e w' ⟨V, rfl, ho, hb⟩
  obtain ⟨A, c, rfl, _, _, hbt⟩ := own_form ho (paskR_bd l c hl hc)
  exact ⟨A, _, c, rfl, hbt, hb⟩
theorem pans_sl (l : Le) (w : World) (hl : isL l) : Calls Try.prog 9 #[leV l] w fun e w' => ∃ A m k, e = .returned (.slice A m k) ∧ Bts w' A m (pansR l) ∧ Below w.heap.size w w' := by
  refine (panswer_any l w hl).mono ?_
  rintro e w' ⟨V, rfl, ho, hb⟩
  obtain ⟨A, c, rfl, _, _, hbt⟩ := own_form ho (pansR_bd l hl)
  exact ⟨A, _, c, rfl, hbt, hb⟩

set_option maxRecDepth 100000 in
set_option maxHeartbeats 8000000 in
/-- ReadAnswer -/
theorem preadAns_any (A : Option Addr) (n c : Nat) (zs : List Int) (w : World) (hb : Bts w A n zs) (h1 : n ≤ c) (h2 : c ≤ maxLen) (h3 : A = none → n = 0 ∧ c = 0) :
    Calls Try.prog 34 #[.slice A n c] w fun e w' => e = .returned (pbR zs) ∧ Below w.heap.size w w' := by
  have HZ := Lib.hid hb
  have HBD := Lib.hid hb.bd
  have HST := Lib.hid (fun W hW => Rs.startV w A n c zs W hW hb h1 h2 h3)
  clear h1 h2 h3 hb
  rw [show pbR zs = bif decide (zs = pansR (pAnsL zs)) then pbT (pAnsL zs) 0 else pbT zeroL 3 by unfold pbR; rw [Bool.cond_decide]]
  have HPI := Lib.hid (pAnsL_is HBD.out)
  obtain ⟨la, hla⟩ : ∃ l, pAnsL zs = l := ⟨_, rfl⟩
  rw [hla]
  rw [hla] at HPI
  have HLA := Lib.hid hla
  clear hla
  obtain ⟨ok, hok⟩ : ∃ k, decide (zs = pansR la) = k := ⟨_, rfl⟩
  rw [hok]
  have HOK := Lib.hid hok
  clear hok
  go_enter Try.func34, Try.ntmps34
  go_wp2_with fail
  refine (numbers_sl A n c _).mono ?_
  rintro e w0 ⟨rfl, rfl⟩
  obtain ⟨b, hs⟩ := HST.out _ rfl
  have HS0 := Lib.hid hs
  clear hs HST
  unfold zeroL verL leA at HS0
  dsimp only at HS0
  go_wp2_with fail
  refine (HS0.out.nextM HBD.out 3 3 (by decide) rfl).mono ?_
  rintro e w1 ⟨rfl, h1⟩
  have HS1 := Lib.hid h1; clear h1 HS0
  go_wp2_with fail
  refine (HS1.out.nextM HBD.out 1 4 (by decide) rfl).mono ?_
  rintro e w1a ⟨rfl, h1⟩
  have HS1a := Lib.hid h1; clear h1
  go_wp2_with fail
  refine (HS1a.out.nextM HBD.out 4 8 (by decide) rfl).mono ?_
  rintro e w1b ⟨rfl, h1⟩
  have HS1b := Lib.hid h1; clear h1
  go_wp2_with fail
  refine (HS1b.out.nextM HBD.out 4 12 (by decide) rfl).mono ?_
  rintro e w2 ⟨rfl, h2⟩
  have HS2 := Lib.hid h2; clear h2
  have hcc2 := HS2.out.cells
  obtain ⟨hl2, hf2⟩ := hcc2
  obtain ⟨x0, x1, x2, x3, x4, x5, x6, x7⟩ := HS2.out.box.cells
  have f3 := (hf2 3).1
  have f5 := (hf2 5).1
  have f6 := (hf2 6).1
  go_wp2_with fail
  have HS2b := Lib.hid (((HS2.out.set 5 (.int .i64 (ncut zs 3 1)) ⟨2, 0, 0, 0, 0, ncut zs 3 1, 0, 0⟩ rfl (by decide)).set 3 (.int .i64 (ncut zs 4 4)) ⟨2, 0, 0, ncut zs 4 4, 0, ncut zs 3 1, 0, 0⟩ rfl (by decide)).set 6 (.int .i64 (ncut zs 8 4)) ⟨2, 0, 0, ncut zs 4 4, 0, ncut zs 3 1, ncut zs 8 4, 0⟩ rfl (by decide))
  clear x0 x1 x2 x3 x4 x5 x6 x7 f3 f5 f6 hl2 hf2
  refine (HS2b.out.nextB 12 24 (by decide) rfl).mono ?_
  rintro e w3 ⟨rfl, h3⟩
  have HS3 := Lib.hid h3; clear h3
  generalize IntKind.i64.wrap (ncut zs 12 12) = a12 at *
  go_wp2_with fail
  have HRM := Lib.hid (rdmap_any w w3 b ⟨2, 0, 0, ncut zs 4 4, 0, ncut zs 3 1, ncut zs 8 4, 0⟩ zs HS3.out HBD.out)
  rw [show mapL ⟨2, 0, 0, ncut zs 4 4, 0, ncut zs 3 1, ncut zs 8 4, 0⟩ zs = pAnsL zs from rfl, HLA.out] at HRM
  refine HRM.out.mono ?_
  rintro e w4 ⟨rfl, h4⟩
  have HS4 := Lib.hid h4; clear h4
  have hcc4 := HS4.out.cells
  obtain ⟨hl4, hf4⟩ := hcc4
  obtain ⟨x0, x1, x2, x3, x4, x5, x6, x7⟩ := HS4.out.box.cells
  have CA := Lib.hid (fun W => pans_sl la W HPI.out.1)
  unfold leV leA at CA
  go_wp2_with fail
  refine (CA.out _).mono ?_
  rintro e w5 ⟨A5, m5, c5, rfl, hb5, hlow5⟩
  have HE := Lib.hid (equal_any A A5 n m5 c c5 zs (pansR la) w5 (HZ.out.below (HS4.out.low.trans (hlow5.mono HS4.out.low.size))) hb5)
  have HS5 : Hid (Below w.heap.size w w5 ∧ LeAt w5 w.heap.size zeroL ∧ LeAt w5 (w.heap.size + 1) la) := Lib.hid ⟨HS4.out.low.trans (hlow5.mono HS4.out.low.size), HS4.out.res.below hlow5 HS4.out.res.lt, HS4.out.box.below hlow5 HS4.out.box.lt⟩
  clear x0 x1 x2 x3 x4 x5 x6 x7 hl4 hf4 hlow5 hb5 HS4
  go_wp2_with fail
  refine HE.out.mono ?_
  rintro e w6 ⟨rfl, rfl⟩
  obtain ⟨hlow, hres, hbox⟩ := HS5.out
  obtain ⟨x0, x1, x2, x3, x4, x5, x6, x7⟩ := hbox.cells
  obtain ⟨y0, y1, y2, y3, y4, y5, y6, y7⟩ := hres.cells
  have hl1 := hbox.lt
  have hl0 := hres.lt
  have g0 := (cells_of hres 0).2
  have g1 := (cells_of hres 1).2
  have g2 := (cells_of hres 2).2
  have g3 := (cells_of hres 3).2
  have g4 := (cells_of hres 4).2
  have g5 := (cells_of hres 5).2
  have g6 := (cells_of hres 6).2
  have g7 := (cells_of hres 7).2
  unfold zeroL at y0 y1 y2 y3 y4 y5 y6 y7
  dsimp only at y0 y1 y2 y3 y4 y5 y6 y7
  clear hres hbox hlow
  rw [HOK.out]
  cases ok with
  | true =>
    go_wp2
    obtain ⟨w9, hw9⟩ : ∃ w9, put8 w5 w.heap.size la = w9 := ⟨_, rfl⟩
    have hR9 : LeAt w9 w.heap.size la := by rw [← hw9]; exact put8_res HS5.out.2.1
    have hB9 : Below w.heap.size w w9 := by rw [← hw9]; exact put8_below HS5.out.1 (Nat.le_refl _)
    unfold put8 at hw9
    try unfold zeroL at hw9
    try dsimp only at hw9
    rw [hw9]
    obtain ⟨z0, z1, z2, z3, z4, z5, z6, z7⟩ := hR9.cells
    try unfold zeroL at z0 z1 z2 z3 z4 z5 z6 z7
    try dsimp only at z0 z1 z2 z3 z4 z5 z6 z7
    exact ⟨rfl, .tuple #[leV la, .int .i64 0], by simp [results, Try.results34, go_sem, z0, z1, z2, z3, z4, z5, z6, z7, leV, leA, zeroL], rfl, hB9⟩
  | false =>
    go_wp2
    obtain ⟨w9, hw9⟩ : ∃ w9, put8 w5 w.heap.size zeroL = w9 := ⟨_, rfl⟩
    have hR9 : LeAt w9 w.heap.size zeroL := by rw [← hw9]; exact put8_res HS5.out.2.1
    have hB9 : Below w.heap.size w w9 := by rw [← hw9]; exact put8_below HS5.out.1 (Nat.le_refl _)
    unfold put8 at hw9
    try unfold zeroL at hw9
    try dsimp only at hw9
    rw [hw9]
    obtain ⟨z0, z1, z2, z3, z4, z5, z6, z7⟩ := hR9.cells
    try unfold zeroL at z0 z1 z2 z3 z4 z5 z6 z7
    try dsimp only at z0 z1 z2 z3 z4 z5 z6 z7
    exact ⟨rfl, .tuple #[leV zeroL, .int .i64 3], by simp [results, Try.results34, go_sem, z0, z1, z2, z3, z4, z5, z6, z7, leV, leA, zeroL], rfl, hB9⟩

/-- Version -/
theorem pversion_any (A : Option Addr) (n c : Nat) (zs : List Int) (w : World) (hb : Bts w A n zs) :
    Calls Try.prog 32 #[.slice A n c] w fun e w' => e = .returned (.int .i64 (if n = 0 then -1 else zs.getD 0 0)) ∧ w' = w := by
  by_cases hn : n = 0
  · subst hn
    rw [if_pos rfl]
    go_enter Try.func32, Try.ntmps32
    go_wp2
    go_ret
    exact ⟨rfl, rfl⟩
  · rw [if_neg hn]
    obtain ⟨b, off, rfl, hlt, hc⟩ := hb.2.2 (by omega)
    have hc0 := hc 0 (by omega)
    have hz := getD_bd hb.bd 0
    clear hc hb
    have t1 : ((n : Int) == 0) = false := by simp; omega
    generalize zs.getD 0 0 = z at *
    simp only [Nat.add_zero] at hc0
    go_enter Try.func32, Try.ntmps32
    go_wp2
    go_ret
    exact ⟨rfl, rfl⟩
end Go.Proofs.Ytfaekiopmfnpkaa.Pp
