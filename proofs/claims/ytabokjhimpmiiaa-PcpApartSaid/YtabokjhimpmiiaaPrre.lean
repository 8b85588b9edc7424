/-
  Contracts of the document's own ReadAsk and ReadAnswer of PCP's datagrams, and words for the laws. Conditions: the slice reads as bytes.
-/
import Derived.Test.YtabokjhimpmiiaaPof
import Derived.Test.YtabokjhimpmiiaaPrda
namespace Go.Proofs.Ytabokjhimpmiiaa
open Go.RowKit
attribute [local go_sem] Oper.semAt_some
set_option linter.unusedVariables false
set_option linter.unusedSimpArgs false

theorem paR_len {zs : List Int} (hb : Bd zs) (h : zs.length ≠ 60) : paR zs = paT zeroL 0 3 := by
  unfold paR
  rw [if_neg]
  intro e
  exact h (by rw [e]; exact paskR_len _ (pAskL_is hb).2)
theorem pbR_len {zs : List Int} (hb : Bd zs) (h : zs.length ≠ 60) : pbR zs = pbT zeroL 3 := by
  unfold pbR
  rw [if_neg]
  intro e
  exact h (by rw [e]; exact pansR_len (pAnsL_is hb).2)
/-- the answer's cell, and a lease's in block g -/
structure Dg (w W : World) (g : Nat) (l : Le) : Prop where
  low : Below w.heap.size w W
  res : LeAt W w.heap.size zeroL
  box : LeAt W g l
  gne : w.heap.size < g
theorem Dg.start {w W : World} (h : Below w.heap.size w W) (hr : LeAt W w.heap.size zeroL) (l : Le) : Dg w (W.alloc (.cells (leA l) 25)) W.heap.size l :=
  ⟨h.alloc h.size _, hr.below ((Below.refl _ W).alloc (Nat.le_refl _) _) hr.lt, LeAt.new W l, hr.lt⟩
theorem Dg.below {w W W' : World} {g : Nat} {l : Le} (h : Dg w W g l) (hb : Below W.heap.size W W') : Dg w W' g l := ⟨h.low.trans (hb.mono h.low.size), h.res.below hb h.res.lt, h.box.below hb h.box.lt, h.gne⟩
theorem Dg.set {w W : World} {g : Nat} {l : Le} (h : Dg w W g l) (k : Nat) (v : Value) (l' : Le) (hl : (leA l).setIfInBounds k v = leA l') (hk : k < 8) : Dg w (W.setCell ⟨g, k, none⟩ v) g l' := by
  have hg := h.gne
  refine ⟨h.low.setCell (p := ⟨g, k, none⟩) (by show w.heap.size ≤ g; omega) _, (Below.heap_setCell _ _ _ _ (by show w.heap.size ≠ g; omega)).trans h.res, ?_, hg⟩
  have := heap_mod h.box (k := k) (by exact hk) v
  rw [hl] at this
  exact this
theorem Dg.fin {w W : World} {g : Nat} {l : Le} (h : Dg w W g l) (l' : Le) : Below w.heap.size w (put8 W w.heap.size l') ∧ LeAt (put8 W w.heap.size l') w.heap.size l' := ⟨put8_below h.low (Nat.le_refl _), put8_res h.res⟩
theorem rpask_row (l : Le) (c : Int) (w : World) (hl : isL l) (hc : 0 ≤ c ∧ c < 4294967296) : Calls Try.prog 24 #[leV l, .int .u32 c] w fun e w' => ∃ V, e = .returned V ∧ Row w' V (paskR l c) ∧ Below w.heap.size w w' :=
  (rpask_any l c w hl hc).mono fun e w' ⟨V, h1, h2, h3⟩ => ⟨V, h1, Row.own h2 (paskR_bd l c hl hc), h3⟩
theorem rpans_row (l : Le) (w : World) (hl : isL l) : Calls Try.prog 25 #[leV l] w fun e w' => ∃ V, e = .returned V ∧ Row w' V (pansR l) ∧ Below w.heap.size w w' :=
  (rpans_any l w hl).mono fun e w' ⟨V, h1, h2, h3⟩ => ⟨V, h1, Row.own h2 (pansR_bd l hl), h3⟩

set_option maxRecDepth 100000 in
set_option maxHeartbeats 8000000 in
theorem rpreadAsk_60 (A : Option Addr) (c : Nat) (zs : List Int) (w : World) (hb : Bts w A 60 zs) (h1 : 60 ≤ c) (h2 : c ≤ maxLen) :
    Calls Try.prog 28 #[.slice A 60 c] w fun e w' => e = .returned (paR zs) ∧ Below w.heap.size w w' := by
  obtain ⟨b, off, rfl, _, _⟩ := hb.2.2 (by decide)
  have hl := hb.len
  have HZ := Lib.hid hb
  have HBD := Lib.hid hb.bd
  have hcl := rof_cl hb.bd hl
  rw [show paR zs = bif decide (paskR (pAskL zs) (pCl zs) = zs) then paT (pAskL zs) (pCl zs) 0 else paT zeroL 0 3 by unfold paR; rw [Bool.cond_decide]; simp only [eq_comm]]
  have HPI := Lib.hid (pAskL_is HBD.out)
  have HCI := Lib.hid (pCl_is zs)
  have HRO := Lib.hid (fun W (hw : Below w.heap.size w W) => rof_any b off c zs W (hb.below hw) h1 h2)
  rw [rofL_eq hb.bd hl] at HRO
  have hwr : IntKind.u32.wrap (ncut zs 20 4) = pCl zs := by
    have := ncut_bd hb.bd 20 4 (by decide)
    unfold pCl
    rw [hcl]
    simp [IntKind.wrap, IntKind.bits, IntKind.signed]
    omega
  generalize pAskL zs = la at *
  generalize pCl zs = cl at *
  obtain ⟨ok, hok⟩ : ∃ k, decide (paskR la cl = zs) = k := ⟨_, rfl⟩
  rw [hok]
  have HOK := Lib.hid hok
  clear hok hb hcl
  have HS0 : Hid (Below w.heap.size w (w.alloc (.cells (leA zeroL) 25)) ∧ LeAt (w.alloc (.cells (leA zeroL) 25)) w.heap.size zeroL) := Lib.hid ⟨(Below.refl _ w).alloc (Nat.le_refl _) _, LeAt.new w zeroL⟩
  have HRO1 := Lib.hid (HRO.out _ HS0.out.1)
  clear HRO
  unfold zeroL leA at HS0 HRO1
  dsimp only at HS0 HRO1
  unfold leV leA at HRO1
  have i20 : (20 : Int) ≤ (c : Int) := by omega
  have i24 : (24 : Int) ≤ (c : Int) := by omega
  have n20 : ¬ c = 20 := by omega
  unfold maxLen at h2
  go_enter Try.func28, Try.ntmps28
  go_wp2_with fail
  refine HRO1.out.mono ?_
  rintro e w1 ⟨rfl, hb1⟩
  have HS1 : Hid (Below w.heap.size w w1 ∧ LeAt w1 w.heap.size zeroL) := Lib.hid ⟨HS0.out.1.trans (hb1.mono HS0.out.1.size), LeAt.below HS0.out.2 hb1 (LeAt.lt HS0.out.2)⟩
  clear hb1 HRO1 HS0
  have HD2 := Lib.hid (Dg.start HS1.out.1 HS1.out.2 la)
  have HB2 := Lib.hid (HZ.out.below HD2.out.low)
  unfold leA at HD2 HB2
  go_wp2_with fail
  refine (num_mid HB2.out 20 4 _ (by decide) (by decide) (by decide)).mono ?_
  rintro e w' ⟨rfl, rfl⟩
  have CA := Lib.hid (fun W => rpask_row la cl W HPI.out.1 HCI.out)
  unfold leV leA at CA
  obtain ⟨x0, x1, x2, x3, x4, x5, x6, x7⟩ := HD2.out.box.cells
  have hl2 := HD2.out.box.lt
  go_wp2_with fail
  refine (CA.out _).mono ?_
  rintro e w3 ⟨V3, rfl, hr, hb⟩
  have HD3 := Lib.hid (HD2.out.below hb)
  have HB3 := Lib.hid (HB2.out.below hb)
  obtain ⟨A3, c3, rfl, v1, v2, v3, v4⟩ := hr
  have HS := Lib.hid (same_any _ _ _ _ c3 c (paskR la cl) zs w3 (by omega) v1 HB3.out)
  clear v1 v2 v3 v4 hb x0 x1 x2 x3 x4 x5 x6 x7 hl2
  generalize w1.heap.size = g at *
  go_wp2_with fail
  refine HS.out.mono ?_
  rintro e w4 ⟨rfl, q, rfl⟩
  have HD4 : Hid (Dg w (w3.drewN q) g la) := Lib.hid ⟨below_drewN' HD3.out.low q, HD3.out.res, HD3.out.box, HD3.out.gne⟩
  obtain ⟨w4, hw4⟩ : ∃ w4, w3.drewN q = w4 := ⟨_, rfl⟩
  rw [hw4] at HD4 ⊢
  clear hw4
  obtain ⟨x0, x1, x2, x3, x4, x5, x6, x7⟩ := HD4.out.box.cells
  obtain ⟨y0, y1, y2, y3, y4, y5, y6, y7⟩ := HD4.out.res.cells
  have hl4 := HD4.out.box.lt
  have hl5 := HD4.out.res.lt
  have f0 := fun k => (cells_of HD4.out.res k).2
  unfold zeroL at y0 y1 y2 y3 y4 y5 y6 y7
  dsimp only at y0 y1 y2 y3 y4 y5 y6 y7
  rw [HOK.out]
  cases ok with
  | true =>
    go_wp2
    obtain ⟨w9, hw9⟩ : ∃ w9, put8 w4 w.heap.size la = w9 := ⟨_, rfl⟩
    obtain ⟨hb9, hr9⟩ := HD4.out.fin la
    rw [hw9] at hb9 hr9
    unfold put8 at hw9
    rw [hw9]
    obtain ⟨z0, z1, z2, z3, z4, z5, z6, z7⟩ := hr9.cells
    exact ⟨rfl, .tuple #[leV la, .int .u32 cl, .int .i64 0], by simp [results, Try.results28, go_sem, z0, z1, z2, z3, z4, z5, z6, z7, leV, leA], rfl, hb9⟩
  | false =>
    go_wp2
    obtain ⟨w9, hw9⟩ : ∃ w9, put8 w4 w.heap.size zeroL = w9 := ⟨_, rfl⟩
    obtain ⟨hb9, hr9⟩ := HD4.out.fin zeroL
    rw [hw9] at hb9 hr9
    unfold put8 zeroL at hw9
    dsimp only at hw9
    rw [hw9]
    obtain ⟨z0, z1, z2, z3, z4, z5, z6, z7⟩ := hr9.cells
    unfold zeroL at z0 z1 z2 z3 z4 z5 z6 z7
    dsimp only at z0 z1 z2 z3 z4 z5 z6 z7
    exact ⟨rfl, .tuple #[leV zeroL, .int .u32 0, .int .i64 3], by simp [results, Try.results28, go_sem, z0, z1, z2, z3, z4, z5, z6, z7, leV, leA, zeroL], rfl, hb9⟩
theorem rpreadAsk_any (A : Option Addr) (n c : Nat) (zs : List Int) (w : World) (hb : Bts w A n zs) (h1 : n ≤ c) (h2 : c ≤ maxLen) :
    Calls Try.prog 28 #[.slice A n c] w fun e w' => e = .returned (paR zs) ∧ Below w.heap.size w w' := by
  by_cases hn : n = 60
  · subst hn
    exact rpreadAsk_60 A c zs w hb h1 h2
  · rw [paR_len hb.bd (by rw [hb.len]; exact hn)]
    have t1 : ((n : Int) != 60) = true := by simp; omega
    have hb9 : Hid (∀ C : Obj, Below w.heap.size w (w.alloc C)) := Lib.hid (fun C => (Below.refl _ w).alloc (Nat.le_refl _) _)
    clear hb h1 h2
    go_enter Try.func28, Try.ntmps28
    go_wp2
    exact ⟨rfl, .tuple #[leV zeroL, .int .u32 0, .int .i64 3], by simp [results, Try.results28, go_sem, leV, leA, zeroL], rfl, hb9.out _⟩

set_option maxRecDepth 100000 in
set_option maxHeartbeats 8000000 in
theorem rpreadAns_60 (A : Option Addr) (c : Nat) (zs : List Int) (w : World) (hb : Bts w A 60 zs) (h1 : 60 ≤ c) (h2 : c ≤ maxLen) :
    Calls Try.prog 29 #[.slice A 60 c] w fun e w' => e = .returned (pbR zs) ∧ Below w.heap.size w w' := by
  obtain ⟨b, off, rfl, _, _⟩ := hb.2.2 (by decide)
  have hl := hb.len
  have HZ := Lib.hid hb
  have HBD := Lib.hid hb.bd
  rw [show pbR zs = bif decide (pansR (pAnsL zs) = zs) then pbT (pAnsL zs) 0 else pbT zeroL 3 by unfold pbR; rw [Bool.cond_decide]; simp only [eq_comm]]
  have HPI := Lib.hid (pAnsL_is HBD.out)
  have HRO := Lib.hid (fun W (hw : Below w.heap.size w W) => rof_any b off c zs W (hb.below hw) h1 h2)
  rw [rofL_eq hb.bd hl] at HRO
  have h31 : ncut zs 3 1 = zs.getD 3 0 := by
    unfold ncut
    have e : (zs.drop 3).take 1 = [zs.getD 3 0] := by
      apply List.ext_getElem
      · simp; omega
      · intro i i1 i2
        obtain rfl : i = 0 := by simp at i2; omega
        simp [List.getD, List.getElem?_eq_getElem (show 3 < zs.length by omega)]
    rw [e]; simp [nu]
  have hz3 := getD_bd hb.bd 3
  have HLM : Hid (pAnsL zs = ⟨(pAskL zs).ver, (pAskL zs).ins, (pAskL zs).prt, (pAskL zs).secs, (pAskL zs).non, zs.getD 3 0, ncut zs 8 4, (pAskL zs).hst⟩) := Lib.hid (by rw [← h31]; rfl)
  have hcell : ∀ W, Below w.heap.size w W → W.cell? ⟨b, off + 3, none⟩ = some (.int .u8 (zs.getD 3 0)) := by
    intro W hw
    obtain ⟨b', off', e, _, hc⟩ := (hb.below hw).2.2 (by decide)
    cases e
    exact hc 3 (by decide)
  have HCELL := Lib.hid hcell
  clear hcell h31
  generalize zs.getD 3 0 = z3 at *
  generalize pAskL zs = l0 at *
  generalize pAnsL zs = la at *
  obtain ⟨ok, hok⟩ : ∃ k, decide (pansR la = zs) = k := ⟨_, rfl⟩
  rw [hok]
  have HOK := Lib.hid hok
  clear hok hb
  have HS0 : Hid (Below w.heap.size w (w.alloc (.cells (leA zeroL) 25)) ∧ LeAt (w.alloc (.cells (leA zeroL) 25)) w.heap.size zeroL) := Lib.hid ⟨(Below.refl _ w).alloc (Nat.le_refl _) _, LeAt.new w zeroL⟩
  have HRO1 := Lib.hid (HRO.out _ HS0.out.1)
  clear HRO
  unfold zeroL leA at HS0 HRO1
  dsimp only at HS0 HRO1
  unfold leV leA at HRO1
  have i8 : (8 : Int) ≤ (c : Int) := by omega
  have i12 : (12 : Int) ≤ (c : Int) := by omega
  have n8 : ¬ c = 8 := by omega
  unfold maxLen at h2
  go_enter Try.func29, Try.ntmps29
  go_wp2_with fail
  refine HRO1.out.mono ?_
  rintro e w1 ⟨rfl, hb1⟩
  have HS1 : Hid (Below w.heap.size w w1 ∧ LeAt w1 w.heap.size zeroL) := Lib.hid ⟨HS0.out.1.trans (hb1.mono HS0.out.1.size), LeAt.below HS0.out.2 hb1 (LeAt.lt HS0.out.2)⟩
  clear hb1 HRO1 HS0
  have hc3 := HCELL.out _ (HS1.out.1.alloc HS1.out.1.size (.cells (leA l0) 25))
  have HD2 := Lib.hid (Dg.start HS1.out.1 HS1.out.2 ⟨l0.ver, l0.ins, l0.prt, l0.secs, l0.non, z3, l0.epo, l0.hst⟩)
  have HB2 := Lib.hid (HZ.out.below HD2.out.low)
  unfold leA at HD2 HB2 hc3
  dsimp only at HD2 HB2
  go_wp2_with fail
  refine (num_mid HB2.out 8 4 _ (by decide) (by decide) (by decide)).mono ?_
  rintro e w' ⟨rfl, rfl⟩
  have hlm := HLM.out
  clear HLM HD2 HB2 hc3
  subst hlm
  have HD2b := Lib.hid (Dg.start HS1.out.1 HS1.out.2 ⟨l0.ver, l0.ins, l0.prt, l0.secs, l0.non, z3, ncut zs 8 4, l0.hst⟩)
  have HB2b := Lib.hid (HZ.out.below HD2b.out.low)
  have CA := Lib.hid (fun W => rpans_row ⟨l0.ver, l0.ins, l0.prt, l0.secs, l0.non, z3, ncut zs 8 4, l0.hst⟩ W HPI.out.1)
  unfold leV leA at CA
  unfold leA at HD2b HB2b
  dsimp only at CA HD2b HB2b
  go_wp2_with fail
  refine (CA.out _).mono ?_
  rintro e w3 ⟨V3, rfl, hr, hb⟩
  have HD3 := Lib.hid (HD2b.out.below hb)
  have HB3 := Lib.hid (HB2b.out.below hb)
  obtain ⟨A3, c3, rfl, v1, v2, v3, v4⟩ := hr
  have HS := Lib.hid (same_any _ _ _ _ c3 c (pansR ⟨l0.ver, l0.ins, l0.prt, l0.secs, l0.non, z3, ncut zs 8 4, l0.hst⟩) zs w3 (by omega) v1 HB3.out)
  clear v1 v2 v3 v4 hb
  generalize w1.heap.size = g at *
  go_wp2_with fail
  refine HS.out.mono ?_
  rintro e w4 ⟨rfl, q, rfl⟩
  have HD4 : Hid (Dg w (w3.drewN q) g ⟨l0.ver, l0.ins, l0.prt, l0.secs, l0.non, z3, ncut zs 8 4, l0.hst⟩) := Lib.hid ⟨below_drewN' HD3.out.low q, HD3.out.res, HD3.out.box, HD3.out.gne⟩
  obtain ⟨w4, hw4⟩ : ∃ w4, w3.drewN q = w4 := ⟨_, rfl⟩
  rw [hw4] at HD4 ⊢
  clear hw4
  obtain ⟨x0, x1, x2, x3, x4, x5, x6, x7⟩ := HD4.out.box.cells
  dsimp only at x0 x1 x2 x3 x4 x5 x6 x7
  obtain ⟨y0, y1, y2, y3, y4, y5, y6, y7⟩ := HD4.out.res.cells
  have hl4 := HD4.out.box.lt
  have hl5 := HD4.out.res.lt
  have f0 := fun k => (cells_of HD4.out.res k).2
  unfold zeroL at y0 y1 y2 y3 y4 y5 y6 y7
  dsimp only at y0 y1 y2 y3 y4 y5 y6 y7
  rw [HOK.out]
  cases ok with
  | true =>
    go_wp2
    obtain ⟨w9, hw9⟩ : ∃ w9, put8 w4 w.heap.size ⟨l0.ver, l0.ins, l0.prt, l0.secs, l0.non, z3, ncut zs 8 4, l0.hst⟩ = w9 := ⟨_, rfl⟩
    obtain ⟨hb9, hr9⟩ := HD4.out.fin ⟨l0.ver, l0.ins, l0.prt, l0.secs, l0.non, z3, ncut zs 8 4, l0.hst⟩
    rw [hw9] at hb9 hr9
    unfold put8 at hw9
    dsimp only at hw9
    rw [hw9]
    obtain ⟨q0, q1, q2, q3, q4, q5, q6, q7⟩ := hr9.cells
    dsimp only at q0 q1 q2 q3 q4 q5 q6 q7
    exact ⟨rfl, .tuple #[leV ⟨l0.ver, l0.ins, l0.prt, l0.secs, l0.non, z3, ncut zs 8 4, l0.hst⟩, .int .i64 0], by simp [results, Try.results29, go_sem, q0, q1, q2, q3, q4, q5, q6, q7, leV, leA], rfl, hb9⟩
  | false =>
    go_wp2
    obtain ⟨w9, hw9⟩ : ∃ w9, put8 w4 w.heap.size zeroL = w9 := ⟨_, rfl⟩
    obtain ⟨hb9, hr9⟩ := HD4.out.fin zeroL
    rw [hw9] at hb9 hr9
    unfold put8 zeroL at hw9
    dsimp only at hw9
    rw [hw9]
    obtain ⟨z0, z1, z2, z3, z4, z5, z6, z7⟩ := hr9.cells
    unfold zeroL at z0 z1 z2 z3 z4 z5 z6 z7
    dsimp only at z0 z1 z2 z3 z4 z5 z6 z7
    exact ⟨rfl, .tuple #[leV zeroL, .int .i64 3], by simp [results, Try.results29, go_sem, z0, z1, z2, z3, z4, z5, z6, z7, leV, leA, zeroL], rfl, hb9⟩
theorem rpreadAns_any (A : Option Addr) (n c : Nat) (zs : List Int) (w : World) (hb : Bts w A n zs) (h1 : n ≤ c) (h2 : c ≤ maxLen) :
    Calls Try.prog 29 #[.slice A n c] w fun e w' => e = .returned (pbR zs) ∧ Below w.heap.size w w' := by
  by_cases hn : n = 60
  · subst hn
    exact rpreadAns_60 A c zs w hb h1 h2
  · rw [pbR_len hb.bd (by rw [hb.len]; exact hn)]
    have t1 : ((n : Int) != 60) = true := by simp; omega
    have hb9 : Hid (∀ C : Obj, Below w.heap.size w (w.alloc C)) := Lib.hid (fun C => (Below.refl _ w).alloc (Nat.le_refl _) _)
    clear hb h1 h2
    go_enter Try.func29, Try.ntmps29
    go_wp2
    exact ⟨rfl, .tuple #[leV zeroL, .int .i64 3], by simp [results, Try.results29, go_sem, leV, leA, zeroL], rfl, hb9.out _⟩
end Go.Proofs.Ytabokjhimpmiiaa
