/-
  Contracts of the document's own ReadAsk and ReadAnswer. Conditions: the slice reads as bytes.
-/
import Derived.Test.YtabokjhimpmiiaaWds
namespace Go.Proofs.Ytabokjhimpmiiaa
open Go.RowKit
attribute [local go_sem] Oper.semAt_some
set_option linter.unusedVariables false
set_option linter.unusedSimpArgs false

theorem Bts.mid {w : World} {b off n : Nat} {zs : List Int} (h : Bts w (some ⟨b, off, none⟩) n zs) (k m : Nat) (hk : k + m ≤ n) (hm : 0 < m) : Bts w (some ⟨b, off + k, none⟩) m ((zs.drop k).take m) := by
  obtain ⟨h1, h2, h3⟩ := h
  refine ⟨by simp; omega, fun z hz => h2 z (List.mem_of_mem_drop (List.mem_of_mem_take hz)), fun hn => ?_⟩
  obtain ⟨b', off', e, hlt, hc⟩ := h3 (by omega)
  cases e
  refine ⟨b, off + k, rfl, hlt, fun j hj => ?_⟩
  rw [Nat.add_assoc, hc (k + j) (by omega)]
  simp [List.getD, hj]
theorem num_mid {w : World} {b off n : Nat} {zs : List Int} (h : Bts w (some ⟨b, off, none⟩) n zs) (k m c : Nat) (hk : k + m ≤ n) (hm : 0 < m) (h4 : m ≤ 4) :
    Calls Try.prog 40 #[.slice (some ⟨b, off + k, none⟩) m c] w fun e w' => e = .returned (.int .i64 (ncut zs k m)) ∧ w = w' := num_any _ m c _ w (h.mid k m hk hm) h4
/-- the answer's cell and the lease's -/
structure Dn (w W : World) (l : Le) : Prop where
  low : Below w.heap.size w W
  res : LeAt W w.heap.size zeroL
  box : LeAt W (w.heap.size + 1) l
theorem Dn.start (w : World) : Dn w ((w.alloc (.cells (leA zeroL) 25)).alloc (.cells (leA zeroL) 25)) zeroL := by
  have a1 : Below w.heap.size w (w.alloc (.cells (leA zeroL) 25)) := (Below.refl _ w).alloc (Nat.le_refl _) _
  have b2 : Below (w.heap.size + 1) (w.alloc (.cells (leA zeroL) 25)) ((w.alloc (.cells (leA zeroL) 25)).alloc (.cells (leA zeroL) 25)) := (Below.refl _ _).alloc (by simp) _
  have n2 := LeAt.new (w.alloc (.cells (leA zeroL) 25)) zeroL
  rw [World.size_alloc] at n2
  exact ⟨a1.alloc (by simp) _, (LeAt.new w zeroL).below b2 (by omega), n2⟩
theorem Dn.start2 (w : World) (l : Le) : Dn w ((w.alloc (.cells (leA zeroL) 25)).alloc (.cells (leA l) 25)) l := by
  have a1 : Below w.heap.size w (w.alloc (.cells (leA zeroL) 25)) := (Below.refl _ w).alloc (Nat.le_refl _) _
  have b2 : Below (w.heap.size + 1) (w.alloc (.cells (leA zeroL) 25)) ((w.alloc (.cells (leA zeroL) 25)).alloc (.cells (leA l) 25)) := (Below.refl _ _).alloc (by simp) _
  have n2 := LeAt.new (w.alloc (.cells (leA zeroL) 25)) l
  rw [World.size_alloc] at n2
  exact ⟨a1.alloc (by simp) _, (LeAt.new w zeroL).below b2 (by omega), n2⟩
theorem Dn.start3 (w : World) (l : Le) : Dn w ((w.alloc (.cells (leA zeroL) 25)).drew.alloc (.cells (leA l) 25)) l := by
  have a1 : Below w.heap.size w (w.alloc (.cells (leA zeroL) 25)).drew := below_drewN' ((Below.refl _ w).alloc (Nat.le_refl _) _) 1
  have b2 : Below (w.heap.size + 1) (w.alloc (.cells (leA zeroL) 25)).drew ((w.alloc (.cells (leA zeroL) 25)).drew.alloc (.cells (leA l) 25)) := (Below.refl _ _).alloc (by show w.heap.size + 1 ≤ (w.alloc (.cells (leA zeroL) 25)).heap.size; simp) _
  have n2 := LeAt.new (w.alloc (.cells (leA zeroL) 25)).drew l
  have e : (w.alloc (.cells (leA zeroL) 25)).drew.heap.size = w.heap.size + 1 := by show (w.alloc (.cells (leA zeroL) 25)).heap.size = _; simp
  rw [e] at n2
  exact ⟨a1.alloc (by rw [e]; omega) _, LeAt.below (w := (w.alloc (.cells (leA zeroL) 25)).drew) (LeAt.new w zeroL) b2 (by omega), n2⟩
theorem Dn.drewN {w W : World} {l : Le} (h : Dn w W l) (q : Nat) : Dn w (W.drewN q) l := ⟨below_drewN' h.low q, h.res, h.box⟩
theorem Dn.drew {w W : World} {l : Le} (h : Dn w W l) : Dn w W.drew l := ⟨below_drewN' h.low 1, h.res, h.box⟩
theorem Dn.below {w W W' : World} {l : Le} (h : Dn w W l) (hb : Below W.heap.size W W') : Dn w W' l := ⟨h.low.trans (hb.mono h.low.size), h.res.below hb h.res.lt, h.box.below hb h.box.lt⟩
theorem Dn.put {w W : World} {l : Le} (h : Dn w W l) (l' : Le) : Dn w (put8 W (w.heap.size + 1) l') l' := ⟨put8_below h.low (by omega), (put8_other (by omega)).trans h.res, put8_res h.box⟩
theorem Dn.set {w W : World} {l : Le} (h : Dn w W l) (k : Nat) (v : Value) (l' : Le) (hl : (leA l).setIfInBounds k v = leA l') (hk : k < 8) : Dn w (W.setCell ⟨w.heap.size + 1, k, none⟩ v) l' := by
  refine ⟨h.low.setCell (p := ⟨w.heap.size + 1, k, none⟩) (by show w.heap.size ≤ w.heap.size + 1; omega) _, (Below.heap_setCell _ _ _ _ (by show w.heap.size ≠ w.heap.size + 1; omega)).trans h.res, ?_⟩
  have := heap_mod h.box (k := k) (by exact hk) v
  rw [hl] at this
  exact this
theorem Dn.fin {w W : World} {l : Le} (h : Dn w W l) (l' : Le) : Below w.heap.size w (put8 W w.heap.size l') ∧ LeAt (put8 W w.heap.size l') w.heap.size l' := ⟨put8_below h.low (Nat.le_refl _), put8_res h.res⟩
theorem Dn.cells {w W : World} {l : Le} (h : Dn w W l) : w.heap.size + 1 < W.heap.size ∧ ∀ k, W.frozen? ⟨w.heap.size + 1, k, none⟩ = false ∧ W.frozen? ⟨w.heap.size, k, none⟩ = false := ⟨h.box.lt, fun k => ⟨(cells_of h.box k).2, (cells_of h.res k).2⟩⟩

set_option maxRecDepth 100000 in
set_option maxHeartbeats 8000000 in
theorem rreadAsk_12 (A : Option Addr) (n c : Nat) (zs : List Int) (w : World) (hb : Bts w A n zs) (h1 : n ≤ c) (h2 : c ≤ maxLen) (h3 : A = none → n = 0 ∧ c = 0) (h12 : n = 12) :
    Calls Try.prog 19 #[.slice A n c] w fun e w' => e = .returned (hldT (rokA zs) (rAskL zs) (rAskH zs)) ∧ Below w.heap.size w w' := by
  subst h12
  have hl := hb.len
  obtain ⟨b, off, rfl, _, _⟩ := hb.2.2 (by decide)
  have HZ := Lib.hid hb
  have HIS := Lib.hid (rAskL_is hb.bd)
  have e1 : rAskL zs = ⟨0, ncut zs 4 2, ncut zs 6 2, ncut zs 8 4, 0, 0, 0, 0⟩ := by unfold rAskL; rw [if_pos hl]
  have e2 : rAskH zs = false := by unfold rAskH; rw [hl]; rfl
  have HOKF : rokA zs = decide (askR (rAskL zs) (rAskH zs) = zs) := by unfold rokA; rw [hl]; rfl
  rw [e1, e2] at HOKF
  rw [e1, e2]
  rw [e1] at HIS
  have HOKE := Lib.hid HOKF
  clear HOKF e1 e2 h3
  have HS0 := Lib.hid (Dn.start w).drew
  have HBD := Lib.hid (hb.below HS0.out.low)
  clear hb
  unfold maxLen at h2
  unfold zeroL leA at HS0 HBD
  dsimp only at HS0 HBD
  have i4 : (4 : Int) ≤ (c : Int) := by omega
  have i6 : (6 : Int) ≤ (c : Int) := by omega
  have i8 : (8 : Int) ≤ (c : Int) := by omega
  have i12 : (12 : Int) ≤ (c : Int) := by omega
  have n4 : ¬ c = 4 := by omega
  have n6 : ¬ c = 6 := by omega
  have n8 : ¬ c = 8 := by omega
  go_enter Try.func19, Try.ntmps19
  go_wp2_with fail
  refine wp_region_held_drew (S := fun _ => True) (by kernel_rfl) trivial (fun hHeld => ?_)
  refine wpAnyH_take (i := 0) (oi := _) (v := ?_) rfl (by kernel_rfl) (by kernel_rfl) (by kernel_rfl) (fun _ _ _ h => h) (Or.inl ⟨by rfl, ?_⟩) (by assumption) ?_
  case refine_2 => intro w hSw; (try dsimp only at hSw); go_simp; first | done | (with_reducible rfl)
  try simp only [Act.put, List.getElem_toArray, List.getElem_cons_zero, List.setIfInBounds_toArray, List.set_cons_zero, List.set_cons_succ]
  refine wpAnyH_take (i := 1) (oi := _) (v := ?_) rfl (by kernel_rfl) (by kernel_rfl) (by kernel_rfl) (fun _ _ _ h => h) (Or.inl ⟨by rfl, ?_⟩) (by assumption) ?_
  case refine_2 => intro w hSw; (try dsimp only at hSw); go_simp; first | done | (with_reducible rfl)
  try simp only [Act.put, List.getElem_toArray, List.getElem_cons_zero, List.getElem_cons_succ, List.setIfInBounds_toArray, List.set_cons_zero, List.set_cons_succ]
  refine wpAnyH_take (i := 3) (oi := _) (v := ?_) rfl (by kernel_rfl) (by kernel_rfl) (by kernel_rfl) (fun _ _ _ h => h) (Or.inl ⟨by rfl, ?_⟩) (by assumption) ?_
  case refine_2 => intro w hSw; (try dsimp only at hSw); go_simp; first | done | (with_reducible rfl)
  try simp only [Act.put, List.getElem_toArray, List.getElem_cons_zero, List.getElem_cons_succ, List.setIfInBounds_toArray, List.set_cons_zero, List.set_cons_succ]
  refine wpAnyH_take (i := 4) (oi := _) (v := ?_) rfl (by kernel_rfl) (by kernel_rfl) (by kernel_rfl) (fun _ _ _ h => h) (Or.inl ⟨by rfl, ?_⟩) (by assumption) ?_
  case refine_2 => intro w hSw; (try dsimp only at hSw); go_simp; first | done | (with_reducible rfl)
  try simp only [Act.put, List.getElem_toArray, List.getElem_cons_zero, List.getElem_cons_succ, List.setIfInBounds_toArray, List.set_cons_zero, List.set_cons_succ]
  refine wpAnyH_take (i := 6) (oi := _) (v := ?_) rfl (by kernel_rfl) (by kernel_rfl) (by kernel_rfl) (fun _ _ _ h => h) (Or.inl ⟨by rfl, ?_⟩) (by assumption) ?_
  case refine_2 => intro w hSw; (try dsimp only at hSw); go_simp; first | done | (with_reducible rfl)
  try simp only [Act.put, List.getElem_toArray, List.getElem_cons_zero, List.getElem_cons_succ, List.setIfInBounds_toArray, List.set_cons_zero, List.set_cons_succ]
  refine wpAnyH_take (i := 7) (oi := _) (v := ?_) rfl (by kernel_rfl) (by kernel_rfl) (by kernel_rfl) (fun _ _ _ h => h) (Or.inl ⟨by rfl, ?_⟩) (by assumption) ?_
  case refine_2 => intro w hSw; (try dsimp only at hSw); go_simp; first | done | (with_reducible rfl)
  try simp only [Act.put, List.getElem_toArray, List.getElem_cons_zero, List.getElem_cons_succ, List.setIfInBounds_toArray, List.set_cons_zero, List.set_cons_succ]
  refine wpAnyH_ready (rs := [2]) (by kernel_rfl) (by simp) ?_
  refine AllReadyH.cons rfl (fun K hK => ?_) AllReadyH.nil
  go_simp
  go_at_call 40
  refine (num_mid HBD.out 4 2 _ (by decide) (by decide) (by decide)).mono ?_
  rintro e w' ⟨rfl, rfl⟩
  refine hK.out _ _ trivial (fun hHeld => ?_)
  clear hK K
  try simp only [Act.put, List.getElem_toArray, List.getElem_cons_zero, List.getElem_cons_succ, List.setIfInBounds_toArray, List.set_cons_zero, List.set_cons_succ]
  refine wpAnyH_ready (rs := [5]) (by kernel_rfl) (by simp) ?_
  refine AllReadyH.cons rfl (fun K hK => ?_) AllReadyH.nil
  go_simp
  go_at_call 40
  refine (num_mid HBD.out 6 2 _ (by decide) (by decide) (by decide)).mono ?_
  rintro e w' ⟨rfl, rfl⟩
  refine hK.out _ _ trivial (fun hHeld => ?_)
  clear hK K
  try simp only [Act.put, List.getElem_toArray, List.getElem_cons_zero, List.getElem_cons_succ, List.setIfInBounds_toArray, List.set_cons_zero, List.set_cons_succ]
  refine wpAnyH_ready (rs := [8]) (by kernel_rfl) (by simp) ?_
  refine AllReadyH.cons rfl (fun K hK => ?_) AllReadyH.nil
  go_simp
  go_at_call 40
  refine (num_mid HBD.out 8 4 _ (by decide) (by decide) (by decide)).mono ?_
  rintro e w' ⟨rfl, rfl⟩
  refine hK.out _ _ trivial (fun hHeld => ?_)
  clear hK K
  try simp only [Act.put, List.getElem_toArray, List.getElem_cons_zero, List.getElem_cons_succ, List.setIfInBounds_toArray, List.set_cons_zero, List.set_cons_succ]
  refine wpAnyH_take (i := 9) (oi := _) (v := ?_) rfl (by kernel_rfl) (by kernel_rfl) (by kernel_rfl) (fun _ _ _ h => h) (Or.inl ⟨by rfl, ?_⟩) (by assumption) ?_
  case refine_2 => intro w hSw; (try dsimp only at hSw); go_simp; first | done | (with_reducible rfl)
  try simp only [Act.put, List.getElem_toArray, List.getElem_cons_zero, List.getElem_cons_succ, List.setIfInBounds_toArray, List.set_cons_zero, List.set_cons_succ]
  refine wpAnyH_ready (rs := [10]) (by kernel_rfl) (by simp) ?_
  refine AllReadyH.cons rfl (fun K hK => ?_) AllReadyH.nil
  go_simp
  obtain ⟨w9, hw9⟩ : ∃ w9, ((w.alloc (.cells (leA zeroL) 25)).alloc (.cells (leA ⟨0, ncut zs 4 2, ncut zs 6 2, ncut zs 8 4, 0, 0, 0, 0⟩) 25)).drew = w9 := ⟨_, rfl⟩
  have HD9 := (Dn.start2 w ⟨0, ncut zs 4 2, ncut zs 6 2, ncut zs 8 4, 0, 0, 0, 0⟩).drew
  rw [hw9] at HD9
  unfold leA zeroL at hw9
  dsimp only at hw9
  rw [hw9]
  refine hK.out _ _ trivial (fun hHeld => ?_)
  clear hK K
  try simp only [Act.put, List.getElem_toArray, List.getElem_cons_zero, List.getElem_cons_succ, List.setIfInBounds_toArray, List.set_cons_zero, List.set_cons_succ]
  refine wpAnyH_done (by kernel_rfl) ?_ _
  have HD10 := Lib.hid HD9
  clear HD9 hw9
  obtain ⟨x0, x1, x2, x3, x4, x5, x6, x7⟩ := HD10.out.box.cells
  skip
  dsimp only at x0 x1 x2 x3 x4 x5 x6 x7
  have HBW := Lib.hid (HZ.out.below HD10.out.low)
  have CA := Lib.hid (fun W => rtell_ask ⟨0, ncut zs 4 2, ncut zs 6 2, ncut zs 8 4, 0, 0, 0, 0⟩ false W HIS.out)
  unfold leV leA at CA
  try unfold zeroL at CA
  dsimp only at CA
  go_wp2_with fail
  refine (CA.out _).mono ?_
  rintro e w7 ⟨V, rfl, hr, hb⟩
  have HD7 := Lib.hid (HD10.out.below hb)
  have HRV := Lib.hid hr
  have HB7 := Lib.hid (HBW.out.below hb)
  clear hb hr
  clear x0 x1 x2 x3 x4 x5 x6 x7
  obtain ⟨A2, c2, rfl, v1, v2, v3, v4⟩ := HRV.out
  clear HRV
  have HS := Lib.hid (same_any _ _ _ _ c2 c (askR ⟨0, ncut zs 4 2, ncut zs 6 2, ncut zs 8 4, 0, 0, 0, 0⟩ false) zs w7 (by omega) v1 HB7.out)
  clear v1 v2 v3 v4
  go_wp2_with fail
  refine HS.out.mono ?_
  rintro e w8 ⟨rfl, q, rfl⟩
  have HD8 := Lib.hid (HD7.out.drewN q)
  obtain ⟨hl8, hf8⟩ := HD8.out.cells
  obtain ⟨x0, x1, x2, x3, x4, x5, x6, x7⟩ := HD8.out.box.cells
  obtain ⟨y0, y1, y2, y3, y4, y5, y6, y7⟩ := HD8.out.res.cells
  try unfold zeroL at x0 x1 x2 x3 x4 x5 x6 x7
  unfold zeroL at y0 y1 y2 y3 y4 y5 y6 y7
  dsimp only at x0 x1 x2 x3 x4 x5 x6 x7 y0 y1 y2 y3 y4 y5 y6 y7
  have f8 := fun k => (hf8 k).2
  cases hok : decide (askR ⟨0, ncut zs 4 2, ncut zs 6 2, ncut zs 8 4, 0, 0, 0, 0⟩ false = zs) with
  | false =>
    have HOK := Lib.hid hok
    clear hok
    go_wp2
    obtain ⟨w9, hw9⟩ : ∃ w9, put8 (w7.drewN q) w.heap.size zeroL = w9 := ⟨_, rfl⟩
    obtain ⟨hb9, hr9⟩ := HD8.out.fin zeroL
    rw [hw9] at hb9 hr9
    unfold put8 at hw9
    try unfold zeroL at hw9
    dsimp only at hw9
    rw [hw9]
    obtain ⟨z0, z1, z2, z3, z4, z5, z6, z7⟩ := hr9.cells
    try unfold zeroL at z0 z1 z2 z3 z4 z5 z6 z7
    dsimp only at z0 z1 z2 z3 z4 z5 z6 z7
    clear x0 x1 x2 x3 x4 x5 x6 x7 y0 y1 y2 y3 y4 y5 y6 y7
    exact ⟨rfl, .tuple #[leV zeroL, .bool false, .int .i64 3], by simp [results, Try.results19, go_sem, z0, z1, z2, z3, z4, z5, z6, z7, leV, leA, zeroL], by rw [HOKE.out, HOK.out]; rfl, hb9⟩
  | true =>
    have HOK := Lib.hid hok
    clear hok
    go_wp2
    obtain ⟨w9, hw9⟩ : ∃ w9, put8 (w7.drewN q) w.heap.size ⟨0, ncut zs 4 2, ncut zs 6 2, ncut zs 8 4, 0, 0, 0, 0⟩ = w9 := ⟨_, rfl⟩
    obtain ⟨hb9, hr9⟩ := HD8.out.fin ⟨0, ncut zs 4 2, ncut zs 6 2, ncut zs 8 4, 0, 0, 0, 0⟩
    rw [hw9] at hb9 hr9
    unfold put8 at hw9
    try unfold zeroL at hw9
    dsimp only at hw9
    rw [hw9]
    obtain ⟨z0, z1, z2, z3, z4, z5, z6, z7⟩ := hr9.cells
    try unfold zeroL at z0 z1 z2 z3 z4 z5 z6 z7
    dsimp only at z0 z1 z2 z3 z4 z5 z6 z7
    clear x0 x1 x2 x3 x4 x5 x6 x7 y0 y1 y2 y3 y4 y5 y6 y7
    exact ⟨rfl, .tuple #[leV ⟨0, ncut zs 4 2, ncut zs 6 2, ncut zs 8 4, 0, 0, 0, 0⟩, .bool false, .int .i64 0], by simp [results, Try.results19, go_sem, z0, z1, z2, z3, z4, z5, z6, z7, leV, leA, zeroL], by rw [HOKE.out, HOK.out]; rfl, hb9⟩
set_option maxRecDepth 100000 in
set_option maxHeartbeats 8000000 in
theorem rreadAsk_2 (A : Option Addr) (n c : Nat) (zs : List Int) (w : World) (hb : Bts w A n zs) (h1 : n ≤ c) (h2 : c ≤ maxLen) (h3 : A = none → n = 0 ∧ c = 0) (h12 : n = 2) :
    Calls Try.prog 19 #[.slice A n c] w fun e w' => e = .returned (hldT (rokA zs) (rAskL zs) (rAskH zs)) ∧ Below w.heap.size w w' := by
  subst h12
  have hl := hb.len
  have HZ := Lib.hid hb
  have HIS := Lib.hid (rAskL_is hb.bd)
  have e1 : rAskL zs = zeroL := by unfold rAskL; rw [hl]; rfl
  have e2 : rAskH zs = true := by unfold rAskH; rw [hl]; rfl
  have HOKF : rokA zs = decide (askR (rAskL zs) (rAskH zs) = zs) := by unfold rokA; rw [hl]; rfl
  rw [e1, e2] at HOKF
  rw [e1, e2]
  rw [e1] at HIS
  have HOKE := Lib.hid HOKF
  clear HOKF e1 e2 h3
  have HS0 := Lib.hid (Dn.start w)
  clear hb
  unfold maxLen at h2
  go_enter Try.func19, Try.ntmps19
  obtain ⟨x0, x1, x2, x3, x4, x5, x6, x7⟩ := HS0.out.box.cells
  unfold zeroL at x0 x1 x2 x3 x4 x5 x6 x7
  dsimp only at x0 x1 x2 x3 x4 x5 x6 x7
  have HBW := Lib.hid (HZ.out.below HS0.out.low)
  have CA := Lib.hid (fun W => rtell_ask zeroL true W HIS.out)
  unfold leV leA at CA
  try unfold zeroL at CA
  dsimp only at CA
  go_wp2_with fail
  refine (CA.out _).mono ?_
  rintro e w7 ⟨V, rfl, hr, hb⟩
  have HD7 := Lib.hid (HS0.out.below hb)
  have HRV := Lib.hid hr
  have HB7 := Lib.hid (HBW.out.below hb)
  clear hb hr
  clear x0 x1 x2 x3 x4 x5 x6 x7
  obtain ⟨A2, c2, rfl, v1, v2, v3, v4⟩ := HRV.out
  clear HRV
  have HS := Lib.hid (same_any _ _ _ _ c2 c (askR zeroL true) zs w7 (by omega) v1 HB7.out)
  clear v1 v2 v3 v4
  go_wp2_with fail
  refine HS.out.mono ?_
  rintro e w8 ⟨rfl, q, rfl⟩
  have HD8 := Lib.hid (HD7.out.drewN q)
  obtain ⟨hl8, hf8⟩ := HD8.out.cells
  obtain ⟨x0, x1, x2, x3, x4, x5, x6, x7⟩ := HD8.out.box.cells
  obtain ⟨y0, y1, y2, y3, y4, y5, y6, y7⟩ := HD8.out.res.cells
  try unfold zeroL at x0 x1 x2 x3 x4 x5 x6 x7
  unfold zeroL at y0 y1 y2 y3 y4 y5 y6 y7
  dsimp only at x0 x1 x2 x3 x4 x5 x6 x7 y0 y1 y2 y3 y4 y5 y6 y7
  have f8 := fun k => (hf8 k).2
  cases hok : decide (askR zeroL true = zs) with
  | false =>
    have HOK := Lib.hid hok
    clear hok
    go_wp2
    obtain ⟨w9, hw9⟩ : ∃ w9, put8 (w7.drewN q) w.heap.size zeroL = w9 := ⟨_, rfl⟩
    obtain ⟨hb9, hr9⟩ := HD8.out.fin zeroL
    rw [hw9] at hb9 hr9
    unfold put8 at hw9
    try unfold zeroL at hw9
    dsimp only at hw9
    rw [hw9]
    obtain ⟨z0, z1, z2, z3, z4, z5, z6, z7⟩ := hr9.cells
    try unfold zeroL at z0 z1 z2 z3 z4 z5 z6 z7
    dsimp only at z0 z1 z2 z3 z4 z5 z6 z7
    clear x0 x1 x2 x3 x4 x5 x6 x7 y0 y1 y2 y3 y4 y5 y6 y7
    exact ⟨rfl, .tuple #[leV zeroL, .bool false, .int .i64 3], by simp [results, Try.results19, go_sem, z0, z1, z2, z3, z4, z5, z6, z7, leV, leA, zeroL], by rw [HOKE.out, HOK.out]; rfl, hb9⟩
  | true =>
    have HOK := Lib.hid hok
    clear hok
    go_wp2
    obtain ⟨w9, hw9⟩ : ∃ w9, put8 (w7.drewN q) w.heap.size zeroL = w9 := ⟨_, rfl⟩
    obtain ⟨hb9, hr9⟩ := HD8.out.fin zeroL
    rw [hw9] at hb9 hr9
    unfold put8 at hw9
    try unfold zeroL at hw9
    dsimp only at hw9
    rw [hw9]
    obtain ⟨z0, z1, z2, z3, z4, z5, z6, z7⟩ := hr9.cells
    try unfold zeroL at z0 z1 z2 z3 z4 z5 z6 z7
    dsimp only at z0 z1 z2 z3 z4 z5 z6 z7
    clear x0 x1 x2 x3 x4 x5 x6 x7 y0 y1 y2 y3 y4 y5 y6 y7
    exact ⟨rfl, .tuple #[leV zeroL, .bool true, .int .i64 0], by simp [results, Try.results19, go_sem, z0, z1, z2, z3, z4, z5, z6, z7, leV, leA, zeroL], by rw [HOKE.out, HOK.out]; rfl, hb9⟩
set_option maxRecDepth 100000 in
set_option maxHeartbeats 8000000 in
theorem rreadAsk_other (A : Option Addr) (n c : Nat) (zs : List Int) (w : World) (hb : Bts w A n zs) (h1 : n ≤ c) (h2 : c ≤ maxLen) (h3 : A = none → n = 0 ∧ c = 0) (h12 : ¬ n = 12) (h02 : ¬ n = 2) :
    Calls Try.prog 19 #[.slice A n c] w fun e w' => e = .returned (hldT (rokA zs) (rAskL zs) (rAskH zs)) ∧ Below w.heap.size w w' := by
  have hl := hb.len
  have e : rokA zs = false := by unfold rokA; rw [hl]; simp [h12, h02]
  rw [e]
  have t1 : ((n : Int) == 12) = false := by simp; omega
  have t2 : ((n : Int) != 12) = true := by simp; omega
  have t3 : ((n : Int) != 2) = true := by simp; omega
  have t4 : ((n : Int) == 2) = false := by simp; omega
  clear hb h1 h2 h3 hl e h12 h02
  go_enter Try.func19, Try.ntmps19
  go_wp2
  exact ⟨rfl, .tuple #[leV zeroL, .bool false, .int .i64 3], by simp [results, Try.results19, go_sem, leV, leA, zeroL], rfl, ((Below.refl _ w).alloc (Nat.le_refl _) _).alloc (by simp) _⟩
theorem rreadAsk_any (A : Option Addr) (n c : Nat) (zs : List Int) (w : World) (hb : Bts w A n zs) (h1 : n ≤ c) (h2 : c ≤ maxLen) (h3 : A = none → n = 0 ∧ c = 0) :
    Calls Try.prog 19 #[.slice A n c] w fun e w' => e = .returned (hldT (rokA zs) (rAskL zs) (rAskH zs)) ∧ Below w.heap.size w w' := by
  by_cases h12 : n = 12
  · exact rreadAsk_12 A n c zs w hb h1 h2 h3 h12
  · by_cases h02 : n = 2
    · exact rreadAsk_2 A n c zs w hb h1 h2 h3 h02
    · exact rreadAsk_other A n c zs w hb h1 h2 h3 h12 h02
set_option maxRecDepth 100000 in
set_option maxHeartbeats 8000000 in
theorem rreadAns_12 (A : Option Addr) (n c : Nat) (zs : List Int) (w : World) (hb : Bts w A n zs) (h1 : n ≤ c) (h2 : c ≤ maxLen) (h3 : A = none → n = 0 ∧ c = 0) (h12 : n = 12) :
    Calls Try.prog 20 #[.slice A n c] w fun e w' => e = .returned (hldT (rokB zs) (rAnsL zs) (rAnsH zs)) ∧ Below w.heap.size w w' := by
  subst h12
  have hl := hb.len
  have hbd := hb.bd
  obtain ⟨b, off, rfl, _, _⟩ := hb.2.2 (by decide)
  have HZ := Lib.hid hb
  have HIS := Lib.hid (rAnsL_is hb.bd)
  have e1 : rAnsL zs = ⟨0, 0, 0, 0, 0, ncut zs 2 2, ncut zs 4 4, ncut zs 8 4⟩ := by unfold rAnsL; rw [if_pos hl]
  have e2 : rAnsH zs = true := by unfold rAnsH; rw [hl]; rfl
  have HOKF : rokB zs = decide (ansR (rAnsL zs) (rAnsH zs) = zs) := by unfold rokB; rw [hl]; rfl
  rw [e1, e2] at HOKF
  rw [e1, e2]
  rw [e1] at HIS
  have HOKE := Lib.hid HOKF
  clear HOKF e1 e2 h3
  have hmod : ncut zs 8 4 % 4294967296 = ncut zs 8 4 := by have := ncut_bd hbd 8 4 (by decide); omega
  have HB1 : Hid (Bts (w.alloc (.cells (leA zeroL) 25)).drew (some ⟨b, off, none⟩) 12 zs) := Lib.hid ((hb.alloc _).drewN 1)
  have HB2 : Hid (Bts ((w.alloc (.cells (leA zeroL) 25)).drew.alloc (.cells (leA zeroL) 25)) (some ⟨b, off, none⟩) 12 zs) := Lib.hid (HB1.out.alloc _)
  clear hb hbd
  unfold maxLen at h2
  unfold zeroL leA at HB1 HB2
  dsimp only at HB1 HB2
  have i2 : (2 : Int) ≤ (c : Int) := by omega
  have i4 : (4 : Int) ≤ (c : Int) := by omega
  have i8 : (8 : Int) ≤ (c : Int) := by omega
  have i12 : (12 : Int) ≤ (c : Int) := by omega
  have n2 : ¬ c = 2 := by omega
  have n4 : ¬ c = 4 := by omega
  have n8 : ¬ c = 8 := by omega
  go_enter Try.func20, Try.ntmps20
  go_wp2_with fail
  refine wp_region_held_drew (S := fun _ => True) (by kernel_rfl) trivial (fun hHeld => ?_)
  refine wpAnyH_take (i := 0) (oi := _) (v := ?_) rfl (by kernel_rfl) (by kernel_rfl) (by kernel_rfl) (fun _ _ _ h => h) (Or.inl ⟨by rfl, ?_⟩) (by assumption) ?_
  case refine_2 => intro w hSw; (try dsimp only at hSw); go_simp; first | done | (with_reducible rfl)
  try simp only [Act.put, List.getElem_toArray, List.getElem_cons_zero, List.setIfInBounds_toArray, List.set_cons_zero, List.set_cons_succ]
  refine wpAnyH_take (i := 1) (oi := _) (v := ?_) rfl (by kernel_rfl) (by kernel_rfl) (by kernel_rfl) (fun _ _ _ h => h) (Or.inl ⟨by rfl, ?_⟩) (by assumption) ?_
  case refine_2 => intro w hSw; (try dsimp only at hSw); go_simp; first | done | (with_reducible rfl)
  try simp only [Act.put, List.getElem_toArray, List.getElem_cons_zero, List.getElem_cons_succ, List.setIfInBounds_toArray, List.set_cons_zero, List.set_cons_succ]
  refine wpAnyH_take (i := 3) (oi := _) (v := ?_) rfl (by kernel_rfl) (by kernel_rfl) (by kernel_rfl) (fun _ _ _ h => h) (Or.inl ⟨by rfl, ?_⟩) (by assumption) ?_
  case refine_2 => intro w hSw; (try dsimp only at hSw); go_simp; first | done | (with_reducible rfl)
  try simp only [Act.put, List.getElem_toArray, List.getElem_cons_zero, List.getElem_cons_succ, List.setIfInBounds_toArray, List.set_cons_zero, List.set_cons_succ]
  refine wpAnyH_take (i := 4) (oi := _) (v := ?_) rfl (by kernel_rfl) (by kernel_rfl) (by kernel_rfl) (fun _ _ _ h => h) (Or.inl ⟨by rfl, ?_⟩) (by assumption) ?_
  case refine_2 => intro w hSw; (try dsimp only at hSw); go_simp; first | done | (with_reducible rfl)
  try simp only [Act.put, List.getElem_toArray, List.getElem_cons_zero, List.getElem_cons_succ, List.setIfInBounds_toArray, List.set_cons_zero, List.set_cons_succ]
  refine wpAnyH_ready (rs := [2, 7]) (by kernel_rfl) (by simp) ?_
  refine AllReadyH.cons rfl (fun K hK => ?_) (AllReadyH.cons rfl (fun K hK => ?_) AllReadyH.nil)
  · go_simp
    go_at_call 40
    refine (num_mid HB1.out 2 2 _ (by decide) (by decide) (by decide)).mono ?_
    rintro e w' ⟨rfl, rfl⟩
    refine hK.out _ _ trivial (fun hHeld => ?_)
    clear hK K
    try simp only [Act.put, List.getElem_toArray, List.getElem_cons_zero, List.getElem_cons_succ, List.setIfInBounds_toArray, List.set_cons_zero, List.set_cons_succ]
    refine wpAnyH_ready (rs := [5, 7]) (by kernel_rfl) (by simp) ?_
    refine AllReadyH.cons rfl (fun K hK => ?_) (AllReadyH.cons rfl (fun K hK => ?_) AllReadyH.nil)
    · go_simp
      go_at_call 40
      refine (num_mid HB1.out 4 4 _ (by decide) (by decide) (by decide)).mono ?_
      rintro e w' ⟨rfl, rfl⟩
      refine hK.out _ _ trivial (fun hHeld => ?_)
      clear hK K
      try simp only [Act.put, List.getElem_toArray, List.getElem_cons_zero, List.getElem_cons_succ, List.setIfInBounds_toArray, List.set_cons_zero, List.set_cons_succ]
      refine wpAnyH_take (i := 6) (oi := _) (v := ?_) rfl (by kernel_rfl) (by kernel_rfl) (by kernel_rfl) (fun _ _ _ h => h) (Or.inl ⟨by rfl, ?_⟩) (by assumption) ?_
      case refine_2 => intro w hSw; (try dsimp only at hSw); go_simp; first | done | (with_reducible rfl)
      try simp only [Act.put, List.getElem_toArray, List.getElem_cons_zero, List.getElem_cons_succ, List.setIfInBounds_toArray, List.set_cons_zero, List.set_cons_succ]
      refine wpAnyH_ready (rs := [7]) (by kernel_rfl) (by simp) ?_
      refine AllReadyH.cons rfl (fun K hK => ?_) AllReadyH.nil
      go_simp
      refine hK.out _ _ trivial (fun hHeld => ?_)
      clear hK K
      try simp only [Act.put, List.getElem_toArray, List.getElem_cons_zero, List.getElem_cons_succ, List.setIfInBounds_toArray, List.set_cons_zero, List.set_cons_succ]
      refine wpAnyH_ready (rs := [8]) (by kernel_rfl) (by simp) ?_
      refine AllReadyH.cons rfl (fun K hK => ?_) AllReadyH.nil
      go_simp
      obtain ⟨w9, hw9⟩ : ∃ w9, ((w.alloc (.cells (leA zeroL) 25)).alloc (.cells (leA ⟨0, 0, 0, 0, 0, ncut zs 2 2, ncut zs 4 4, 0⟩) 25)).drew = w9 := ⟨_, rfl⟩
      have HD9 := (Dn.start2 w ⟨0, 0, 0, 0, 0, ncut zs 2 2, ncut zs 4 4, 0⟩).drew
      rw [hw9] at HD9
      unfold leA zeroL at hw9
      dsimp only at hw9
      rw [hw9]
      refine hK.out _ _ trivial (fun hHeld => ?_)
      clear hK K
      try simp only [Act.put, List.getElem_toArray, List.getElem_cons_zero, List.getElem_cons_succ, List.setIfInBounds_toArray, List.set_cons_zero, List.set_cons_succ]
      refine wpAnyH_done (by kernel_rfl) ?_ _
      have HD10 := Lib.hid HD9
      clear HD9 hw9 HB1 HB2
      have HB9 := Lib.hid (HZ.out.below HD10.out.low)
      obtain ⟨hl10, hf10⟩ := HD10.out.cells
      obtain ⟨x0, x1, x2, x3, x4, x5, x6, x7⟩ := HD10.out.box.cells
      dsimp only at x0 x1 x2 x3 x4 x5 x6 x7
      have f10 := fun k => (hf10 k).1
      go_wp2_with fail
      refine (num_mid HB9.out 8 4 _ (by decide) (by decide) (by decide)).mono ?_
      rintro e w' ⟨rfl, rfl⟩
      have HD11 := Lib.hid (HD10.out.set 7 (.int .u32 (ncut zs 8 4)) ⟨0, 0, 0, 0, 0, ncut zs 2 2, ncut zs 4 4, ncut zs 8 4⟩ rfl (by decide))
      obtain ⟨xx0, xx1, xx2, xx3, xx4, xx5, xx6, xx7⟩ := HD11.out.box.cells
      dsimp only at xx0 xx1 xx2 xx3 xx4 xx5 xx6 xx7
      have HBW := Lib.hid (HZ.out.below HD11.out.low)
      have CA := Lib.hid (fun W => rtell_ans ⟨0, 0, 0, 0, 0, ncut zs 2 2, ncut zs 4 4, ncut zs 8 4⟩ true W HIS.out)
      unfold leV leA at CA
      try unfold zeroL at CA
      dsimp only at CA
      go_wp2_with fail
      refine (CA.out _).mono ?_
      rintro e w7 ⟨V, rfl, hr, hb⟩
      have HD7 := Lib.hid (HD11.out.below hb)
      have HRV := Lib.hid hr
      have HB7 := Lib.hid (HBW.out.below hb)
      clear hb hr
      clear x0 x1 x2 x3 x4 x5 x6 x7 xx0 xx1 xx2 xx3 xx4 xx5 xx6 xx7 hf10 f10 hl10
      obtain ⟨A2, c2, rfl, v1, v2, v3, v4⟩ := HRV.out
      clear HRV
      have HS := Lib.hid (same_any _ _ _ _ c2 c (ansR ⟨0, 0, 0, 0, 0, ncut zs 2 2, ncut zs 4 4, ncut zs 8 4⟩ true) zs w7 (by omega) v1 HB7.out)
      clear v1 v2 v3 v4
      go_wp2_with fail
      refine HS.out.mono ?_
      rintro e w8 ⟨rfl, q, rfl⟩
      have HD8 := Lib.hid (HD7.out.drewN q)
      obtain ⟨hl8, hf8⟩ := HD8.out.cells
      obtain ⟨x0, x1, x2, x3, x4, x5, x6, x7⟩ := HD8.out.box.cells
      obtain ⟨y0, y1, y2, y3, y4, y5, y6, y7⟩ := HD8.out.res.cells
      try unfold zeroL at x0 x1 x2 x3 x4 x5 x6 x7
      unfold zeroL at y0 y1 y2 y3 y4 y5 y6 y7
      dsimp only at x0 x1 x2 x3 x4 x5 x6 x7 y0 y1 y2 y3 y4 y5 y6 y7
      have f8 := fun k => (hf8 k).2
      cases hok : decide (ansR ⟨0, 0, 0, 0, 0, ncut zs 2 2, ncut zs 4 4, ncut zs 8 4⟩ true = zs) with
      | false =>
        have HOK := Lib.hid hok
        clear hok
        go_wp2
        obtain ⟨w9, hw9⟩ : ∃ w9, put8 (w7.drewN q) w.heap.size zeroL = w9 := ⟨_, rfl⟩
        obtain ⟨hb9, hr9⟩ := HD8.out.fin zeroL
        rw [hw9] at hb9 hr9
        unfold put8 at hw9
        try unfold zeroL at hw9
        dsimp only at hw9
        rw [hw9]
        obtain ⟨z0, z1, z2, z3, z4, z5, z6, z7⟩ := hr9.cells
        try unfold zeroL at z0 z1 z2 z3 z4 z5 z6 z7
        dsimp only at z0 z1 z2 z3 z4 z5 z6 z7
        clear x0 x1 x2 x3 x4 x5 x6 x7 y0 y1 y2 y3 y4 y5 y6 y7
        exact ⟨rfl, .tuple #[leV zeroL, .bool false, .int .i64 3], by simp [results, Try.results20, go_sem, z0, z1, z2, z3, z4, z5, z6, z7, leV, leA, zeroL], by rw [HOKE.out, HOK.out]; rfl, hb9⟩
      | true =>
        have HOK := Lib.hid hok
        clear hok
        go_wp2
        obtain ⟨w9, hw9⟩ : ∃ w9, put8 (w7.drewN q) w.heap.size ⟨0, 0, 0, 0, 0, ncut zs 2 2, ncut zs 4 4, ncut zs 8 4⟩ = w9 := ⟨_, rfl⟩
        obtain ⟨hb9, hr9⟩ := HD8.out.fin ⟨0, 0, 0, 0, 0, ncut zs 2 2, ncut zs 4 4, ncut zs 8 4⟩
        rw [hw9] at hb9 hr9
        unfold put8 at hw9
        try unfold zeroL at hw9
        dsimp only at hw9
        rw [hw9]
        obtain ⟨z0, z1, z2, z3, z4, z5, z6, z7⟩ := hr9.cells
        try unfold zeroL at z0 z1 z2 z3 z4 z5 z6 z7
        dsimp only at z0 z1 z2 z3 z4 z5 z6 z7
        clear x0 x1 x2 x3 x4 x5 x6 x7 y0 y1 y2 y3 y4 y5 y6 y7
        exact ⟨rfl, .tuple #[leV ⟨0, 0, 0, 0, 0, ncut zs 2 2, ncut zs 4 4, ncut zs 8 4⟩, .bool true, .int .i64 0], by simp [results, Try.results20, go_sem, z0, z1, z2, z3, z4, z5, z6, z7, leV, leA, zeroL], by rw [HOKE.out, HOK.out]; rfl, hb9⟩
    · go_simp
      refine hK.out _ _ trivial (fun hHeld => ?_)
      clear hK K
      try simp only [Act.put, List.getElem_toArray, List.getElem_cons_zero, List.getElem_cons_succ, List.setIfInBounds_toArray, List.set_cons_zero, List.set_cons_succ]
      refine wpAnyH_ready (rs := [5]) (by kernel_rfl) (by simp) ?_
      refine AllReadyH.cons rfl (fun K hK => ?_) AllReadyH.nil
      go_simp
      go_at_call 40
      refine (num_mid HB2.out 4 4 _ (by decide) (by decide) (by decide)).mono ?_
      rintro e w' ⟨rfl, rfl⟩
      refine hK.out _ _ trivial (fun hHeld => ?_)
      clear hK K
      try simp only [Act.put, List.getElem_toArray, List.getElem_cons_zero, List.getElem_cons_succ, List.setIfInBounds_toArray, List.set_cons_zero, List.set_cons_succ]
      refine wpAnyH_take (i := 6) (oi := _) (v := ?_) rfl (by kernel_rfl) (by kernel_rfl) (by kernel_rfl) (fun _ _ _ h => h) (Or.inl ⟨by rfl, ?_⟩) (by assumption) ?_
      case refine_2 => intro w hSw; (try dsimp only at hSw); go_simp; first | done | (with_reducible rfl)
      try simp only [Act.put, List.getElem_toArray, List.getElem_cons_zero, List.getElem_cons_succ, List.setIfInBounds_toArray, List.set_cons_zero, List.set_cons_succ]
      refine wpAnyH_ready (rs := [8]) (by kernel_rfl) (by simp) ?_
      refine AllReadyH.cons rfl (fun K hK => ?_) AllReadyH.nil
      go_simp
      obtain ⟨w9, hw9⟩ : ∃ w9, ((w.alloc (.cells (leA zeroL) 25)).alloc (.cells (leA ⟨0, 0, 0, 0, 0, ncut zs 2 2, ncut zs 4 4, 0⟩) 25)).drew = w9 := ⟨_, rfl⟩
      have HD9 := (Dn.start2 w ⟨0, 0, 0, 0, 0, ncut zs 2 2, ncut zs 4 4, 0⟩).drew
      rw [hw9] at HD9
      unfold leA zeroL at hw9
      dsimp only at hw9
      rw [hw9]
      refine hK.out _ _ trivial (fun hHeld => ?_)
      clear hK K
      try simp only [Act.put, List.getElem_toArray, List.getElem_cons_zero, List.getElem_cons_succ, List.setIfInBounds_toArray, List.set_cons_zero, List.set_cons_succ]
      refine wpAnyH_done (by kernel_rfl) ?_ _
      have HD10 := Lib.hid HD9
      clear HD9 hw9 HB1 HB2
      have HB9 := Lib.hid (HZ.out.below HD10.out.low)
      obtain ⟨hl10, hf10⟩ := HD10.out.cells
      obtain ⟨x0, x1, x2, x3, x4, x5, x6, x7⟩ := HD10.out.box.cells
      dsimp only at x0 x1 x2 x3 x4 x5 x6 x7
      have f10 := fun k => (hf10 k).1
      go_wp2_with fail
      refine (num_mid HB9.out 8 4 _ (by decide) (by decide) (by decide)).mono ?_
      rintro e w' ⟨rfl, rfl⟩
      have HD11 := Lib.hid (HD10.out.set 7 (.int .u32 (ncut zs 8 4)) ⟨0, 0, 0, 0, 0, ncut zs 2 2, ncut zs 4 4, ncut zs 8 4⟩ rfl (by decide))
      obtain ⟨xx0, xx1, xx2, xx3, xx4, xx5, xx6, xx7⟩ := HD11.out.box.cells
      dsimp only at xx0 xx1 xx2 xx3 xx4 xx5 xx6 xx7
      have HBW := Lib.hid (HZ.out.below HD11.out.low)
      have CA := Lib.hid (fun W => rtell_ans ⟨0, 0, 0, 0, 0, ncut zs 2 2, ncut zs 4 4, ncut zs 8 4⟩ true W HIS.out)
      unfold leV leA at CA
      try unfold zeroL at CA
      dsimp only at CA
      go_wp2_with fail
      refine (CA.out _).mono ?_
      rintro e w7 ⟨V, rfl, hr, hb⟩
      have HD7 := Lib.hid (HD11.out.below hb)
      have HRV := Lib.hid hr
      have HB7 := Lib.hid (HBW.out.below hb)
      clear hb hr
      clear x0 x1 x2 x3 x4 x5 x6 x7 xx0 xx1 xx2 xx3 xx4 xx5 xx6 xx7 hf10 f10 hl10
      obtain ⟨A2, c2, rfl, v1, v2, v3, v4⟩ := HRV.out
      clear HRV
      have HS := Lib.hid (same_any _ _ _ _ c2 c (ansR ⟨0, 0, 0, 0, 0, ncut zs 2 2, ncut zs 4 4, ncut zs 8 4⟩ true) zs w7 (by omega) v1 HB7.out)
      clear v1 v2 v3 v4
      go_wp2_with fail
      refine HS.out.mono ?_
      rintro e w8 ⟨rfl, q, rfl⟩
      have HD8 := Lib.hid (HD7.out.drewN q)
      obtain ⟨hl8, hf8⟩ := HD8.out.cells
      obtain ⟨x0, x1, x2, x3, x4, x5, x6, x7⟩ := HD8.out.box.cells
      obtain ⟨y0, y1, y2, y3, y4, y5, y6, y7⟩ := HD8.out.res.cells
      try unfold zeroL at x0 x1 x2 x3 x4 x5 x6 x7
      unfold zeroL at y0 y1 y2 y3 y4 y5 y6 y7
      dsimp only at x0 x1 x2 x3 x4 x5 x6 x7 y0 y1 y2 y3 y4 y5 y6 y7
      have f8 := fun k => (hf8 k).2
      cases hok : decide (ansR ⟨0, 0, 0, 0, 0, ncut zs 2 2, ncut zs 4 4, ncut zs 8 4⟩ true = zs) with
      | false =>
        have HOK := Lib.hid hok
        clear hok
        go_wp2
        obtain ⟨w9, hw9⟩ : ∃ w9, put8 (w7.drewN q) w.heap.size zeroL = w9 := ⟨_, rfl⟩
        obtain ⟨hb9, hr9⟩ := HD8.out.fin zeroL
        rw [hw9] at hb9 hr9
        unfold put8 at hw9
        try unfold zeroL at hw9
        dsimp only at hw9
        rw [hw9]
        obtain ⟨z0, z1, z2, z3, z4, z5, z6, z7⟩ := hr9.cells
        try unfold zeroL at z0 z1 z2 z3 z4 z5 z6 z7
        dsimp only at z0 z1 z2 z3 z4 z5 z6 z7
        clear x0 x1 x2 x3 x4 x5 x6 x7 y0 y1 y2 y3 y4 y5 y6 y7
        exact ⟨rfl, .tuple #[leV zeroL, .bool false, .int .i64 3], by simp [results, Try.results20, go_sem, z0, z1, z2, z3, z4, z5, z6, z7, leV, leA, zeroL], by rw [HOKE.out, HOK.out]; rfl, hb9⟩
      | true =>
        have HOK := Lib.hid hok
        clear hok
        go_wp2
        obtain ⟨w9, hw9⟩ : ∃ w9, put8 (w7.drewN q) w.heap.size ⟨0, 0, 0, 0, 0, ncut zs 2 2, ncut zs 4 4, ncut zs 8 4⟩ = w9 := ⟨_, rfl⟩
        obtain ⟨hb9, hr9⟩ := HD8.out.fin ⟨0, 0, 0, 0, 0, ncut zs 2 2, ncut zs 4 4, ncut zs 8 4⟩
        rw [hw9] at hb9 hr9
        unfold put8 at hw9
        try unfold zeroL at hw9
        dsimp only at hw9
        rw [hw9]
        obtain ⟨z0, z1, z2, z3, z4, z5, z6, z7⟩ := hr9.cells
        try unfold zeroL at z0 z1 z2 z3 z4 z5 z6 z7
        dsimp only at z0 z1 z2 z3 z4 z5 z6 z7
        clear x0 x1 x2 x3 x4 x5 x6 x7 y0 y1 y2 y3 y4 y5 y6 y7
        exact ⟨rfl, .tuple #[leV ⟨0, 0, 0, 0, 0, ncut zs 2 2, ncut zs 4 4, ncut zs 8 4⟩, .bool true, .int .i64 0], by simp [results, Try.results20, go_sem, z0, z1, z2, z3, z4, z5, z6, z7, leV, leA, zeroL], by rw [HOKE.out, HOK.out]; rfl, hb9⟩
  · go_simp
    refine hK.out _ _ trivial (fun hHeld => ?_)
    clear hK K
    try simp only [Act.put, List.getElem_toArray, List.getElem_cons_zero, List.getElem_cons_succ, List.setIfInBounds_toArray, List.set_cons_zero, List.set_cons_succ]
    refine wpAnyH_ready (rs := [2]) (by kernel_rfl) (by simp) ?_
    refine AllReadyH.cons rfl (fun K hK => ?_) AllReadyH.nil
    go_simp
    go_at_call 40
    refine (num_mid HB2.out 2 2 _ (by decide) (by decide) (by decide)).mono ?_
    rintro e w' ⟨rfl, rfl⟩
    refine hK.out _ _ trivial (fun hHeld => ?_)
    clear hK K
    try simp only [Act.put, List.getElem_toArray, List.getElem_cons_zero, List.getElem_cons_succ, List.setIfInBounds_toArray, List.set_cons_zero, List.set_cons_succ]
    refine wpAnyH_ready (rs := [5]) (by kernel_rfl) (by simp) ?_
    refine AllReadyH.cons rfl (fun K hK => ?_) AllReadyH.nil
    go_simp
    go_at_call 40
    refine (num_mid HB2.out 4 4 _ (by decide) (by decide) (by decide)).mono ?_
    rintro e w' ⟨rfl, rfl⟩
    refine hK.out _ _ trivial (fun hHeld => ?_)
    clear hK K
    try simp only [Act.put, List.getElem_toArray, List.getElem_cons_zero, List.getElem_cons_succ, List.setIfInBounds_toArray, List.set_cons_zero, List.set_cons_succ]
    refine wpAnyH_take (i := 6) (oi := _) (v := ?_) rfl (by kernel_rfl) (by kernel_rfl) (by kernel_rfl) (fun _ _ _ h => h) (Or.inl ⟨by rfl, ?_⟩) (by assumption) ?_
    case refine_2 => intro w hSw; (try dsimp only at hSw); go_simp; first | done | (with_reducible rfl)
    try simp only [Act.put, List.getElem_toArray, List.getElem_cons_zero, List.getElem_cons_succ, List.setIfInBounds_toArray, List.set_cons_zero, List.set_cons_succ]
    refine wpAnyH_ready (rs := [8]) (by kernel_rfl) (by simp) ?_
    refine AllReadyH.cons rfl (fun K hK => ?_) AllReadyH.nil
    go_simp
    obtain ⟨w9, hw9⟩ : ∃ w9, ((w.alloc (.cells (leA zeroL) 25)).alloc (.cells (leA ⟨0, 0, 0, 0, 0, ncut zs 2 2, ncut zs 4 4, 0⟩) 25)).drew = w9 := ⟨_, rfl⟩
    have HD9 := (Dn.start2 w ⟨0, 0, 0, 0, 0, ncut zs 2 2, ncut zs 4 4, 0⟩).drew
    rw [hw9] at HD9
    unfold leA zeroL at hw9
    dsimp only at hw9
    rw [hw9]
    refine hK.out _ _ trivial (fun hHeld => ?_)
    clear hK K
    try simp only [Act.put, List.getElem_toArray, List.getElem_cons_zero, List.getElem_cons_succ, List.setIfInBounds_toArray, List.set_cons_zero, List.set_cons_succ]
    refine wpAnyH_done (by kernel_rfl) ?_ _
    have HD10 := Lib.hid HD9
    clear HD9 hw9 HB1 HB2
    have HB9 := Lib.hid (HZ.out.below HD10.out.low)
    obtain ⟨hl10, hf10⟩ := HD10.out.cells
    obtain ⟨x0, x1, x2, x3, x4, x5, x6, x7⟩ := HD10.out.box.cells
    dsimp only at x0 x1 x2 x3 x4 x5 x6 x7
    have f10 := fun k => (hf10 k).1
    go_wp2_with fail
    refine (num_mid HB9.out 8 4 _ (by decide) (by decide) (by decide)).mono ?_
    rintro e w' ⟨rfl, rfl⟩
    have HD11 := Lib.hid (HD10.out.set 7 (.int .u32 (ncut zs 8 4)) ⟨0, 0, 0, 0, 0, ncut zs 2 2, ncut zs 4 4, ncut zs 8 4⟩ rfl (by decide))
    obtain ⟨xx0, xx1, xx2, xx3, xx4, xx5, xx6, xx7⟩ := HD11.out.box.cells
    dsimp only at xx0 xx1 xx2 xx3 xx4 xx5 xx6 xx7
    have HBW := Lib.hid (HZ.out.below HD11.out.low)
    have CA := Lib.hid (fun W => rtell_ans ⟨0, 0, 0, 0, 0, ncut zs 2 2, ncut zs 4 4, ncut zs 8 4⟩ true W HIS.out)
    unfold leV leA at CA
    try unfold zeroL at CA
    dsimp only at CA
    go_wp2_with fail
    refine (CA.out _).mono ?_
    rintro e w7 ⟨V, rfl, hr, hb⟩
    have HD7 := Lib.hid (HD11.out.below hb)
    have HRV := Lib.hid hr
    have HB7 := Lib.hid (HBW.out.below hb)
    clear hb hr
    clear x0 x1 x2 x3 x4 x5 x6 x7 xx0 xx1 xx2 xx3 xx4 xx5 xx6 xx7 hf10 f10 hl10
    obtain ⟨A2, c2, rfl, v1, v2, v3, v4⟩ := HRV.out
    clear HRV
    have HS := Lib.hid (same_any _ _ _ _ c2 c (ansR ⟨0, 0, 0, 0, 0, ncut zs 2 2, ncut zs 4 4, ncut zs 8 4⟩ true) zs w7 (by omega) v1 HB7.out)
    clear v1 v2 v3 v4
    go_wp2_with fail
    refine HS.out.mono ?_
    rintro e w8 ⟨rfl, q, rfl⟩
    have HD8 := Lib.hid (HD7.out.drewN q)
    obtain ⟨hl8, hf8⟩ := HD8.out.cells
    obtain ⟨x0, x1, x2, x3, x4, x5, x6, x7⟩ := HD8.out.box.cells
    obtain ⟨y0, y1, y2, y3, y4, y5, y6, y7⟩ := HD8.out.res.cells
    try unfold zeroL at x0 x1 x2 x3 x4 x5 x6 x7
    unfold zeroL at y0 y1 y2 y3 y4 y5 y6 y7
    dsimp only at x0 x1 x2 x3 x4 x5 x6 x7 y0 y1 y2 y3 y4 y5 y6 y7
    have f8 := fun k => (hf8 k).2
    cases hok : decide (ansR ⟨0, 0, 0, 0, 0, ncut zs 2 2, ncut zs 4 4, ncut zs 8 4⟩ true = zs) with
    | false =>
      have HOK := Lib.hid hok
      clear hok
      go_wp2
      obtain ⟨w9, hw9⟩ : ∃ w9, put8 (w7.drewN q) w.heap.size zeroL = w9 := ⟨_, rfl⟩
      obtain ⟨hb9, hr9⟩ := HD8.out.fin zeroL
      rw [hw9] at hb9 hr9
      unfold put8 at hw9
      try unfold zeroL at hw9
      dsimp only at hw9
      rw [hw9]
      obtain ⟨z0, z1, z2, z3, z4, z5, z6, z7⟩ := hr9.cells
      try unfold zeroL at z0 z1 z2 z3 z4 z5 z6 z7
      dsimp only at z0 z1 z2 z3 z4 z5 z6 z7
      clear x0 x1 x2 x3 x4 x5 x6 x7 y0 y1 y2 y3 y4 y5 y6 y7
      exact ⟨rfl, .tuple #[leV zeroL, .bool false, .int .i64 3], by simp [results, Try.results20, go_sem, z0, z1, z2, z3, z4, z5, z6, z7, leV, leA, zeroL], by rw [HOKE.out, HOK.out]; rfl, hb9⟩
    | true =>
      have HOK := Lib.hid hok
      clear hok
      go_wp2
      obtain ⟨w9, hw9⟩ : ∃ w9, put8 (w7.drewN q) w.heap.size ⟨0, 0, 0, 0, 0, ncut zs 2 2, ncut zs 4 4, ncut zs 8 4⟩ = w9 := ⟨_, rfl⟩
      obtain ⟨hb9, hr9⟩ := HD8.out.fin ⟨0, 0, 0, 0, 0, ncut zs 2 2, ncut zs 4 4, ncut zs 8 4⟩
      rw [hw9] at hb9 hr9
      unfold put8 at hw9
      try unfold zeroL at hw9
      dsimp only at hw9
      rw [hw9]
      obtain ⟨z0, z1, z2, z3, z4, z5, z6, z7⟩ := hr9.cells
      try unfold zeroL at z0 z1 z2 z3 z4 z5 z6 z7
      dsimp only at z0 z1 z2 z3 z4 z5 z6 z7
      clear x0 x1 x2 x3 x4 x5 x6 x7 y0 y1 y2 y3 y4 y5 y6 y7
      exact ⟨rfl, .tuple #[leV ⟨0, 0, 0, 0, 0, ncut zs 2 2, ncut zs 4 4, ncut zs 8 4⟩, .bool true, .int .i64 0], by simp [results, Try.results20, go_sem, z0, z1, z2, z3, z4, z5, z6, z7, leV, leA, zeroL], by rw [HOKE.out, HOK.out]; rfl, hb9⟩
set_option maxRecDepth 100000 in
set_option maxHeartbeats 8000000 in
theorem rreadAns_16 (A : Option Addr) (n c : Nat) (zs : List Int) (w : World) (hb : Bts w A n zs) (h1 : n ≤ c) (h2 : c ≤ maxLen) (h3 : A = none → n = 0 ∧ c = 0) (h12 : n = 16) :
    Calls Try.prog 20 #[.slice A n c] w fun e w' => e = .returned (hldT (rokB zs) (rAnsL zs) (rAnsH zs)) ∧ Below w.heap.size w w' := by
  subst h12
  have hl := hb.len
  have hbd := hb.bd
  obtain ⟨b, off, rfl, _, _⟩ := hb.2.2 (by decide)
  have HZ := Lib.hid hb
  have HIS := Lib.hid (rAnsL_is hb.bd)
  have e1 : rAnsL zs = ⟨0, ncut zs 8 2, ncut zs 10 2, ncut zs 12 4, 0, ncut zs 2 2, ncut zs 4 4, 0⟩ := by unfold rAnsL; rw [if_neg (by omega)]
  have e2 : rAnsH zs = false := by unfold rAnsH; rw [hl]; rfl
  have HOKF : rokB zs = decide (ansR (rAnsL zs) (rAnsH zs) = zs) := by unfold rokB; rw [hl]; rfl
  rw [e1, e2] at HOKF
  rw [e1, e2]
  rw [e1] at HIS
  have HOKE := Lib.hid HOKF
  clear HOKF e1 e2 h3
  have HB1 : Hid (Bts (w.alloc (.cells (leA zeroL) 25)).drew (some ⟨b, off, none⟩) 16 zs) := Lib.hid ((hb.alloc _).drewN 1)
  have HB2 : Hid (Bts ((w.alloc (.cells (leA zeroL) 25)).drew.alloc (.cells (leA zeroL) 25)) (some ⟨b, off, none⟩) 16 zs) := Lib.hid (HB1.out.alloc _)
  clear hb hbd
  unfold maxLen at h2
  unfold zeroL leA at HB1 HB2
  dsimp only at HB1 HB2
  have i2 : (2 : Int) ≤ (c : Int) := by omega
  have i4 : (4 : Int) ≤ (c : Int) := by omega
  have i8 : (8 : Int) ≤ (c : Int) := by omega
  have i10 : (10 : Int) ≤ (c : Int) := by omega
  have i12 : (12 : Int) ≤ (c : Int) := by omega
  have i16 : (16 : Int) ≤ (c : Int) := by omega
  have n2 : ¬ c = 2 := by omega
  have n4 : ¬ c = 4 := by omega
  have n8 : ¬ c = 8 := by omega
  have n10 : ¬ c = 10 := by omega
  have n12 : ¬ c = 12 := by omega
  go_enter Try.func20, Try.ntmps20
  go_wp2_with fail
  refine wp_region_held_drew (S := fun _ => True) (by kernel_rfl) trivial (fun hHeld => ?_)
  refine wpAnyH_take (i := 0) (oi := _) (v := ?_) rfl (by kernel_rfl) (by kernel_rfl) (by kernel_rfl) (fun _ _ _ h => h) (Or.inl ⟨by rfl, ?_⟩) (by assumption) ?_
  case refine_2 => intro w hSw; (try dsimp only at hSw); go_simp; first | done | (with_reducible rfl)
  try simp only [Act.put, List.getElem_toArray, List.getElem_cons_zero, List.setIfInBounds_toArray, List.set_cons_zero, List.set_cons_succ]
  refine wpAnyH_take (i := 1) (oi := _) (v := ?_) rfl (by kernel_rfl) (by kernel_rfl) (by kernel_rfl) (fun _ _ _ h => h) (Or.inl ⟨by rfl, ?_⟩) (by assumption) ?_
  case refine_2 => intro w hSw; (try dsimp only at hSw); go_simp; first | done | (with_reducible rfl)
  try simp only [Act.put, List.getElem_toArray, List.getElem_cons_zero, List.getElem_cons_succ, List.setIfInBounds_toArray, List.set_cons_zero, List.set_cons_succ]
  refine wpAnyH_take (i := 3) (oi := _) (v := ?_) rfl (by kernel_rfl) (by kernel_rfl) (by kernel_rfl) (fun _ _ _ h => h) (Or.inl ⟨by rfl, ?_⟩) (by assumption) ?_
  case refine_2 => intro w hSw; (try dsimp only at hSw); go_simp; first | done | (with_reducible rfl)
  try simp only [Act.put, List.getElem_toArray, List.getElem_cons_zero, List.getElem_cons_succ, List.setIfInBounds_toArray, List.set_cons_zero, List.set_cons_succ]
  refine wpAnyH_take (i := 4) (oi := _) (v := ?_) rfl (by kernel_rfl) (by kernel_rfl) (by kernel_rfl) (fun _ _ _ h => h) (Or.inl ⟨by rfl, ?_⟩) (by assumption) ?_
  case refine_2 => intro w hSw; (try dsimp only at hSw); go_simp; first | done | (with_reducible rfl)
  try simp only [Act.put, List.getElem_toArray, List.getElem_cons_zero, List.getElem_cons_succ, List.setIfInBounds_toArray, List.set_cons_zero, List.set_cons_succ]
  refine wpAnyH_ready (rs := [2, 7]) (by kernel_rfl) (by simp) ?_
  refine AllReadyH.cons rfl (fun K hK => ?_) (AllReadyH.cons rfl (fun K hK => ?_) AllReadyH.nil)
  · go_simp
    go_at_call 40
    refine (num_mid HB1.out 2 2 _ (by decide) (by decide) (by decide)).mono ?_
    rintro e w' ⟨rfl, rfl⟩
    refine hK.out _ _ trivial (fun hHeld => ?_)
    clear hK K
    try simp only [Act.put, List.getElem_toArray, List.getElem_cons_zero, List.getElem_cons_succ, List.setIfInBounds_toArray, List.set_cons_zero, List.set_cons_succ]
    refine wpAnyH_ready (rs := [5, 7]) (by kernel_rfl) (by simp) ?_
    refine AllReadyH.cons rfl (fun K hK => ?_) (AllReadyH.cons rfl (fun K hK => ?_) AllReadyH.nil)
    · go_simp
      go_at_call 40
      refine (num_mid HB1.out 4 4 _ (by decide) (by decide) (by decide)).mono ?_
      rintro e w' ⟨rfl, rfl⟩
      refine hK.out _ _ trivial (fun hHeld => ?_)
      clear hK K
      try simp only [Act.put, List.getElem_toArray, List.getElem_cons_zero, List.getElem_cons_succ, List.setIfInBounds_toArray, List.set_cons_zero, List.set_cons_succ]
      refine wpAnyH_take (i := 6) (oi := _) (v := ?_) rfl (by kernel_rfl) (by kernel_rfl) (by kernel_rfl) (fun _ _ _ h => h) (Or.inl ⟨by rfl, ?_⟩) (by assumption) ?_
      case refine_2 => intro w hSw; (try dsimp only at hSw); go_simp; first | done | (with_reducible rfl)
      try simp only [Act.put, List.getElem_toArray, List.getElem_cons_zero, List.getElem_cons_succ, List.setIfInBounds_toArray, List.set_cons_zero, List.set_cons_succ]
      refine wpAnyH_ready (rs := [7]) (by kernel_rfl) (by simp) ?_
      refine AllReadyH.cons rfl (fun K hK => ?_) AllReadyH.nil
      go_simp
      refine hK.out _ _ trivial (fun hHeld => ?_)
      clear hK K
      try simp only [Act.put, List.getElem_toArray, List.getElem_cons_zero, List.getElem_cons_succ, List.setIfInBounds_toArray, List.set_cons_zero, List.set_cons_succ]
      refine wpAnyH_ready (rs := [8]) (by kernel_rfl) (by simp) ?_
      refine AllReadyH.cons rfl (fun K hK => ?_) AllReadyH.nil
      go_simp
      obtain ⟨w9, hw9⟩ : ∃ w9, ((w.alloc (.cells (leA zeroL) 25)).alloc (.cells (leA ⟨0, 0, 0, 0, 0, ncut zs 2 2, ncut zs 4 4, 0⟩) 25)).drew = w9 := ⟨_, rfl⟩
      have HD9 := (Dn.start2 w ⟨0, 0, 0, 0, 0, ncut zs 2 2, ncut zs 4 4, 0⟩).drew
      rw [hw9] at HD9
      unfold leA zeroL at hw9
      dsimp only at hw9
      rw [hw9]
      refine hK.out _ _ trivial (fun hHeld => ?_)
      clear hK K
      try simp only [Act.put, List.getElem_toArray, List.getElem_cons_zero, List.getElem_cons_succ, List.setIfInBounds_toArray, List.set_cons_zero, List.set_cons_succ]
      refine wpAnyH_done (by kernel_rfl) ?_ _
      have HD10 := Lib.hid HD9
      clear HD9 hw9 HB1 HB2
      have HB9 := Lib.hid (HZ.out.below HD10.out.low)
      obtain ⟨hl10, hf10⟩ := HD10.out.cells
      obtain ⟨x0, x1, x2, x3, x4, x5, x6, x7⟩ := HD10.out.box.cells
      dsimp only at x0 x1 x2 x3 x4 x5 x6 x7
      have f10 := fun k => (hf10 k).1
      have HDa := Lib.hid (HD10.out.set 1 (.int .i64 (ncut zs 8 2)) ⟨0, ncut zs 8 2, 0, 0, 0, ncut zs 2 2, ncut zs 4 4, 0⟩ rfl (by decide))
      have HDb := Lib.hid (HDa.out.set 2 (.int .i64 (ncut zs 10 2)) ⟨0, ncut zs 8 2, ncut zs 10 2, 0, 0, ncut zs 2 2, ncut zs 4 4, 0⟩ rfl (by decide))
      have HD11 := Lib.hid (HDb.out.set 3 (.int .i64 (ncut zs 12 4)) ⟨0, ncut zs 8 2, ncut zs 10 2, ncut zs 12 4, 0, ncut zs 2 2, ncut zs 4 4, 0⟩ rfl (by decide))
      have HBa := Lib.hid (HZ.out.below HDa.out.low)
      have HBb := Lib.hid (HZ.out.below HDb.out.low)
      go_wp2_with fail
      refine (num_mid HB9.out 8 2 _ (by decide) (by decide) (by decide)).mono ?_
      rintro e w' ⟨rfl, rfl⟩
      go_wp2_with fail
      refine (num_mid HBa.out 10 2 _ (by decide) (by decide) (by decide)).mono ?_
      rintro e w' ⟨rfl, rfl⟩
      go_wp2_with fail
      refine (num_mid HBb.out 12 4 _ (by decide) (by decide) (by decide)).mono ?_
      rintro e w' ⟨rfl, rfl⟩
      obtain ⟨xx0, xx1, xx2, xx3, xx4, xx5, xx6, xx7⟩ := HD11.out.box.cells
      dsimp only at xx0 xx1 xx2 xx3 xx4 xx5 xx6 xx7
      have HBW := Lib.hid (HZ.out.below HD11.out.low)
      have CA := Lib.hid (fun W => rtell_ans ⟨0, ncut zs 8 2, ncut zs 10 2, ncut zs 12 4, 0, ncut zs 2 2, ncut zs 4 4, 0⟩ false W HIS.out)
      unfold leV leA at CA
      try unfold zeroL at CA
      dsimp only at CA
      go_wp2_with fail
      refine (CA.out _).mono ?_
      rintro e w7 ⟨V, rfl, hr, hb⟩
      have HD7 := Lib.hid (HD11.out.below hb)
      have HRV := Lib.hid hr
      have HB7 := Lib.hid (HBW.out.below hb)
      clear hb hr
      clear x0 x1 x2 x3 x4 x5 x6 x7 xx0 xx1 xx2 xx3 xx4 xx5 xx6 xx7 hf10 f10 hl10
      obtain ⟨A2, c2, rfl, v1, v2, v3, v4⟩ := HRV.out
      clear HRV
      have HS := Lib.hid (same_any _ _ _ _ c2 c (ansR ⟨0, ncut zs 8 2, ncut zs 10 2, ncut zs 12 4, 0, ncut zs 2 2, ncut zs 4 4, 0⟩ false) zs w7 (by omega) v1 HB7.out)
      clear v1 v2 v3 v4
      go_wp2_with fail
      refine HS.out.mono ?_
      rintro e w8 ⟨rfl, q, rfl⟩
      have HD8 := Lib.hid (HD7.out.drewN q)
      obtain ⟨hl8, hf8⟩ := HD8.out.cells
      obtain ⟨x0, x1, x2, x3, x4, x5, x6, x7⟩ := HD8.out.box.cells
      obtain ⟨y0, y1, y2, y3, y4, y5, y6, y7⟩ := HD8.out.res.cells
      try unfold zeroL at x0 x1 x2 x3 x4 x5 x6 x7
      unfold zeroL at y0 y1 y2 y3 y4 y5 y6 y7
      dsimp only at x0 x1 x2 x3 x4 x5 x6 x7 y0 y1 y2 y3 y4 y5 y6 y7
      have f8 := fun k => (hf8 k).2
      cases hok : decide (ansR ⟨0, ncut zs 8 2, ncut zs 10 2, ncut zs 12 4, 0, ncut zs 2 2, ncut zs 4 4, 0⟩ false = zs) with
      | false =>
        have HOK := Lib.hid hok
        clear hok
        go_wp2
        obtain ⟨w9, hw9⟩ : ∃ w9, put8 (w7.drewN q) w.heap.size zeroL = w9 := ⟨_, rfl⟩
        obtain ⟨hb9, hr9⟩ := HD8.out.fin zeroL
        rw [hw9] at hb9 hr9
        unfold put8 at hw9
        try unfold zeroL at hw9
        dsimp only at hw9
        rw [hw9]
        obtain ⟨z0, z1, z2, z3, z4, z5, z6, z7⟩ := hr9.cells
        try unfold zeroL at z0 z1 z2 z3 z4 z5 z6 z7
        dsimp only at z0 z1 z2 z3 z4 z5 z6 z7
        clear x0 x1 x2 x3 x4 x5 x6 x7 y0 y1 y2 y3 y4 y5 y6 y7
        exact ⟨rfl, .tuple #[leV zeroL, .bool false, .int .i64 3], by simp [results, Try.results20, go_sem, z0, z1, z2, z3, z4, z5, z6, z7, leV, leA, zeroL], by rw [HOKE.out, HOK.out]; rfl, hb9⟩
      | true =>
        have HOK := Lib.hid hok
        clear hok
        go_wp2
        obtain ⟨w9, hw9⟩ : ∃ w9, put8 (w7.drewN q) w.heap.size ⟨0, ncut zs 8 2, ncut zs 10 2, ncut zs 12 4, 0, ncut zs 2 2, ncut zs 4 4, 0⟩ = w9 := ⟨_, rfl⟩
        obtain ⟨hb9, hr9⟩ := HD8.out.fin ⟨0, ncut zs 8 2, ncut zs 10 2, ncut zs 12 4, 0, ncut zs 2 2, ncut zs 4 4, 0⟩
        rw [hw9] at hb9 hr9
        unfold put8 at hw9
        try unfold zeroL at hw9
        dsimp only at hw9
        rw [hw9]
        obtain ⟨z0, z1, z2, z3, z4, z5, z6, z7⟩ := hr9.cells
        try unfold zeroL at z0 z1 z2 z3 z4 z5 z6 z7
        dsimp only at z0 z1 z2 z3 z4 z5 z6 z7
        clear x0 x1 x2 x3 x4 x5 x6 x7 y0 y1 y2 y3 y4 y5 y6 y7
        exact ⟨rfl, .tuple #[leV ⟨0, ncut zs 8 2, ncut zs 10 2, ncut zs 12 4, 0, ncut zs 2 2, ncut zs 4 4, 0⟩, .bool false, .int .i64 0], by simp [results, Try.results20, go_sem, z0, z1, z2, z3, z4, z5, z6, z7, leV, leA, zeroL], by rw [HOKE.out, HOK.out]; rfl, hb9⟩
    · go_simp
      refine hK.out _ _ trivial (fun hHeld => ?_)
      clear hK K
      try simp only [Act.put, List.getElem_toArray, List.getElem_cons_zero, List.getElem_cons_succ, List.setIfInBounds_toArray, List.set_cons_zero, List.set_cons_succ]
      refine wpAnyH_ready (rs := [5]) (by kernel_rfl) (by simp) ?_
      refine AllReadyH.cons rfl (fun K hK => ?_) AllReadyH.nil
      go_simp
      go_at_call 40
      refine (num_mid HB2.out 4 4 _ (by decide) (by decide) (by decide)).mono ?_
      rintro e w' ⟨rfl, rfl⟩
      refine hK.out _ _ trivial (fun hHeld => ?_)
      clear hK K
      try simp only [Act.put, List.getElem_toArray, List.getElem_cons_zero, List.getElem_cons_succ, List.setIfInBounds_toArray, List.set_cons_zero, List.set_cons_succ]
      refine wpAnyH_take (i := 6) (oi := _) (v := ?_) rfl (by kernel_rfl) (by kernel_rfl) (by kernel_rfl) (fun _ _ _ h => h) (Or.inl ⟨by rfl, ?_⟩) (by assumption) ?_
      case refine_2 => intro w hSw; (try dsimp only at hSw); go_simp; first | done | (with_reducible rfl)
      try simp only [Act.put, List.getElem_toArray, List.getElem_cons_zero, List.getElem_cons_succ, List.setIfInBounds_toArray, List.set_cons_zero, List.set_cons_succ]
      refine wpAnyH_ready (rs := [8]) (by kernel_rfl) (by simp) ?_
      refine AllReadyH.cons rfl (fun K hK => ?_) AllReadyH.nil
      go_simp
      obtain ⟨w9, hw9⟩ : ∃ w9, ((w.alloc (.cells (leA zeroL) 25)).alloc (.cells (leA ⟨0, 0, 0, 0, 0, ncut zs 2 2, ncut zs 4 4, 0⟩) 25)).drew = w9 := ⟨_, rfl⟩
      have HD9 := (Dn.start2 w ⟨0, 0, 0, 0, 0, ncut zs 2 2, ncut zs 4 4, 0⟩).drew
      rw [hw9] at HD9
      unfold leA zeroL at hw9
      dsimp only at hw9
      rw [hw9]
      refine hK.out _ _ trivial (fun hHeld => ?_)
      clear hK K
      try simp only [Act.put, List.getElem_toArray, List.getElem_cons_zero, List.getElem_cons_succ, List.setIfInBounds_toArray, List.set_cons_zero, List.set_cons_succ]
      refine wpAnyH_done (by kernel_rfl) ?_ _
      have HD10 := Lib.hid HD9
      clear HD9 hw9 HB1 HB2
      have HB9 := Lib.hid (HZ.out.below HD10.out.low)
      obtain ⟨hl10, hf10⟩ := HD10.out.cells
      obtain ⟨x0, x1, x2, x3, x4, x5, x6, x7⟩ := HD10.out.box.cells
      dsimp only at x0 x1 x2 x3 x4 x5 x6 x7
      have f10 := fun k => (hf10 k).1
      have HDa := Lib.hid (HD10.out.set 1 (.int .i64 (ncut zs 8 2)) ⟨0, ncut zs 8 2, 0, 0, 0, ncut zs 2 2, ncut zs 4 4, 0⟩ rfl (by decide))
      have HDb := Lib.hid (HDa.out.set 2 (.int .i64 (ncut zs 10 2)) ⟨0, ncut zs 8 2, ncut zs 10 2, 0, 0, ncut zs 2 2, ncut zs 4 4, 0⟩ rfl (by decide))
      have HD11 := Lib.hid (HDb.out.set 3 (.int .i64 (ncut zs 12 4)) ⟨0, ncut zs 8 2, ncut zs 10 2, ncut zs 12 4, 0, ncut zs 2 2, ncut zs 4 4, 0⟩ rfl (by decide))
      have HBa := Lib.hid (HZ.out.below HDa.out.low)
      have HBb := Lib.hid (HZ.out.below HDb.out.low)
      go_wp2_with fail
      refine (num_mid HB9.out 8 2 _ (by decide) (by decide) (by decide)).mono ?_
      rintro e w' ⟨rfl, rfl⟩
      go_wp2_with fail
      refine (num_mid HBa.out 10 2 _ (by decide) (by decide) (by decide)).mono ?_
      rintro e w' ⟨rfl, rfl⟩
      go_wp2_with fail
      refine (num_mid HBb.out 12 4 _ (by decide) (by decide) (by decide)).mono ?_
      rintro e w' ⟨rfl, rfl⟩
      obtain ⟨xx0, xx1, xx2, xx3, xx4, xx5, xx6, xx7⟩ := HD11.out.box.cells
      dsimp only at xx0 xx1 xx2 xx3 xx4 xx5 xx6 xx7
      have HBW := Lib.hid (HZ.out.below HD11.out.low)
      have CA := Lib.hid (fun W => rtell_ans ⟨0, ncut zs 8 2, ncut zs 10 2, ncut zs 12 4, 0, ncut zs 2 2, ncut zs 4 4, 0⟩ false W HIS.out)
      unfold leV leA at CA
      try unfold zeroL at CA
      dsimp only at CA
      go_wp2_with fail
      refine (CA.out _).mono ?_
      rintro e w7 ⟨V, rfl, hr, hb⟩
      have HD7 := Lib.hid (HD11.out.below hb)
      have HRV := Lib.hid hr
      have HB7 := Lib.hid (HBW.out.below hb)
      clear hb hr
      clear x0 x1 x2 x3 x4 x5 x6 x7 xx0 xx1 xx2 xx3 xx4 xx5 xx6 xx7 hf10 f10 hl10
      obtain ⟨A2, c2, rfl, v1, v2, v3, v4⟩ := HRV.out
      clear HRV
      have HS := Lib.hid (same_any _ _ _ _ c2 c (ansR ⟨0, ncut zs 8 2, ncut zs 10 2, ncut zs 12 4, 0, ncut zs 2 2, ncut zs 4 4, 0⟩ false) zs w7 (by omega) v1 HB7.out)
      clear v1 v2 v3 v4
      go_wp2_with fail
      refine HS.out.mono ?_
      rintro e w8 ⟨rfl, q, rfl⟩
      have HD8 := Lib.hid (HD7.out.drewN q)
      obtain ⟨hl8, hf8⟩ := HD8.out.cells
      obtain ⟨x0, x1, x2, x3, x4, x5, x6, x7⟩ := HD8.out.box.cells
      obtain ⟨y0, y1, y2, y3, y4, y5, y6, y7⟩ := HD8.out.res.cells
      try unfold zeroL at x0 x1 x2 x3 x4 x5 x6 x7
      unfold zeroL at y0 y1 y2 y3 y4 y5 y6 y7
      dsimp only at x0 x1 x2 x3 x4 x5 x6 x7 y0 y1 y2 y3 y4 y5 y6 y7
      have f8 := fun k => (hf8 k).2
      cases hok : decide (ansR ⟨0, ncut zs 8 2, ncut zs 10 2, ncut zs 12 4, 0, ncut zs 2 2, ncut zs 4 4, 0⟩ false = zs) with
      | false =>
        have HOK := Lib.hid hok
        clear hok
        go_wp2
        obtain ⟨w9, hw9⟩ : ∃ w9, put8 (w7.drewN q) w.heap.size zeroL = w9 := ⟨_, rfl⟩
        obtain ⟨hb9, hr9⟩ := HD8.out.fin zeroL
        rw [hw9] at hb9 hr9
        unfold put8 at hw9
        try unfold zeroL at hw9
        dsimp only at hw9
        rw [hw9]
        obtain ⟨z0, z1, z2, z3, z4, z5, z6, z7⟩ := hr9.cells
        try unfold zeroL at z0 z1 z2 z3 z4 z5 z6 z7
        dsimp only at z0 z1 z2 z3 z4 z5 z6 z7
        clear x0 x1 x2 x3 x4 x5 x6 x7 y0 y1 y2 y3 y4 y5 y6 y7
        exact ⟨rfl, .tuple #[leV zeroL, .bool false, .int .i64 3], by simp [results, Try.results20, go_sem, z0, z1, z2, z3, z4, z5, z6, z7, leV, leA, zeroL], by rw [HOKE.out, HOK.out]; rfl, hb9⟩
      | true =>
        have HOK := Lib.hid hok
        clear hok
        go_wp2
        obtain ⟨w9, hw9⟩ : ∃ w9, put8 (w7.drewN q) w.heap.size ⟨0, ncut zs 8 2, ncut zs 10 2, ncut zs 12 4, 0, ncut zs 2 2, ncut zs 4 4, 0⟩ = w9 := ⟨_, rfl⟩
        obtain ⟨hb9, hr9⟩ := HD8.out.fin ⟨0, ncut zs 8 2, ncut zs 10 2, ncut zs 12 4, 0, ncut zs 2 2, ncut zs 4 4, 0⟩
        rw [hw9] at hb9 hr9
        unfold put8 at hw9
        try unfold zeroL at hw9
        dsimp only at hw9
        rw [hw9]
        obtain ⟨z0, z1, z2, z3, z4, z5, z6, z7⟩ := hr9.cells
        try unfold zeroL at z0 z1 z2 z3 z4 z5 z6 z7
        dsimp only at z0 z1 z2 z3 z4 z5 z6 z7
        clear x0 x1 x2 x3 x4 x5 x6 x7 y0 y1 y2 y3 y4 y5 y6 y7
        exact ⟨rfl, .tuple #[leV ⟨0, ncut zs 8 2, ncut zs 10 2, ncut zs 12 4, 0, ncut zs 2 2, ncut zs 4 4, 0⟩, .bool false, .int .i64 0], by simp [results, Try.results20, go_sem, z0, z1, z2, z3, z4, z5, z6, z7, leV, leA, zeroL], by rw [HOKE.out, HOK.out]; rfl, hb9⟩
  · go_simp
    refine hK.out _ _ trivial (fun hHeld => ?_)
    clear hK K
    try simp only [Act.put, List.getElem_toArray, List.getElem_cons_zero, List.getElem_cons_succ, List.setIfInBounds_toArray, List.set_cons_zero, List.set_cons_succ]
    refine wpAnyH_ready (rs := [2]) (by kernel_rfl) (by simp) ?_
    refine AllReadyH.cons rfl (fun K hK => ?_) AllReadyH.nil
    go_simp
    go_at_call 40
    refine (num_mid HB2.out 2 2 _ (by decide) (by decide) (by decide)).mono ?_
    rintro e w' ⟨rfl, rfl⟩
    refine hK.out _ _ trivial (fun hHeld => ?_)
    clear hK K
    try simp only [Act.put, List.getElem_toArray, List.getElem_cons_zero, List.getElem_cons_succ, List.setIfInBounds_toArray, List.set_cons_zero, List.set_cons_succ]
    refine wpAnyH_ready (rs := [5]) (by kernel_rfl) (by simp) ?_
    refine AllReadyH.cons rfl (fun K hK => ?_) AllReadyH.nil
    go_simp
    go_at_call 40
    refine (num_mid HB2.out 4 4 _ (by decide) (by decide) (by decide)).mono ?_
    rintro e w' ⟨rfl, rfl⟩
    refine hK.out _ _ trivial (fun hHeld => ?_)
    clear hK K
    try simp only [Act.put, List.getElem_toArray, List.getElem_cons_zero, List.getElem_cons_succ, List.setIfInBounds_toArray, List.set_cons_zero, List.set_cons_succ]
    refine wpAnyH_take (i := 6) (oi := _) (v := ?_) rfl (by kernel_rfl) (by kernel_rfl) (by kernel_rfl) (fun _ _ _ h => h) (Or.inl ⟨by rfl, ?_⟩) (by assumption) ?_
    case refine_2 => intro w hSw; (try dsimp only at hSw); go_simp; first | done | (with_reducible rfl)
    try simp only [Act.put, List.getElem_toArray, List.getElem_cons_zero, List.getElem_cons_succ, List.setIfInBounds_toArray, List.set_cons_zero, List.set_cons_succ]
    refine wpAnyH_ready (rs := [8]) (by kernel_rfl) (by simp) ?_
    refine AllReadyH.cons rfl (fun K hK => ?_) AllReadyH.nil
    go_simp
    obtain ⟨w9, hw9⟩ : ∃ w9, ((w.alloc (.cells (leA zeroL) 25)).alloc (.cells (leA ⟨0, 0, 0, 0, 0, ncut zs 2 2, ncut zs 4 4, 0⟩) 25)).drew = w9 := ⟨_, rfl⟩
    have HD9 := (Dn.start2 w ⟨0, 0, 0, 0, 0, ncut zs 2 2, ncut zs 4 4, 0⟩).drew
    rw [hw9] at HD9
    unfold leA zeroL at hw9
    dsimp only at hw9
    rw [hw9]
    refine hK.out _ _ trivial (fun hHeld => ?_)
    clear hK K
    try simp only [Act.put, List.getElem_toArray, List.getElem_cons_zero, List.getElem_cons_succ, List.setIfInBounds_toArray, List.set_cons_zero, List.set_cons_succ]
    refine wpAnyH_done (by kernel_rfl) ?_ _
    have HD10 := Lib.hid HD9
    clear HD9 hw9 HB1 HB2
    have HB9 := Lib.hid (HZ.out.below HD10.out.low)
    obtain ⟨hl10, hf10⟩ := HD10.out.cells
    obtain ⟨x0, x1, x2, x3, x4, x5, x6, x7⟩ := HD10.out.box.cells
    dsimp only at x0 x1 x2 x3 x4 x5 x6 x7
    have f10 := fun k => (hf10 k).1
    have HDa := Lib.hid (HD10.out.set 1 (.int .i64 (ncut zs 8 2)) ⟨0, ncut zs 8 2, 0, 0, 0, ncut zs 2 2, ncut zs 4 4, 0⟩ rfl (by decide))
    have HDb := Lib.hid (HDa.out.set 2 (.int .i64 (ncut zs 10 2)) ⟨0, ncut zs 8 2, ncut zs 10 2, 0, 0, ncut zs 2 2, ncut zs 4 4, 0⟩ rfl (by decide))
    have HD11 := Lib.hid (HDb.out.set 3 (.int .i64 (ncut zs 12 4)) ⟨0, ncut zs 8 2, ncut zs 10 2, ncut zs 12 4, 0, ncut zs 2 2, ncut zs 4 4, 0⟩ rfl (by decide))
    have HBa := Lib.hid (HZ.out.below HDa.out.low)
    have HBb := Lib.hid (HZ.out.below HDb.out.low)
    go_wp2_with fail
    refine (num_mid HB9.out 8 2 _ (by decide) (by decide) (by decide)).mono ?_
    rintro e w' ⟨rfl, rfl⟩
    go_wp2_with fail
    refine (num_mid HBa.out 10 2 _ (by decide) (by decide) (by decide)).mono ?_
    rintro e w' ⟨rfl, rfl⟩
    go_wp2_with fail
    refine (num_mid HBb.out 12 4 _ (by decide) (by decide) (by decide)).mono ?_
    rintro e w' ⟨rfl, rfl⟩
    obtain ⟨xx0, xx1, xx2, xx3, xx4, xx5, xx6, xx7⟩ := HD11.out.box.cells
    dsimp only at xx0 xx1 xx2 xx3 xx4 xx5 xx6 xx7
    have HBW := Lib.hid (HZ.out.below HD11.out.low)
    have CA := Lib.hid (fun W => rtell_ans ⟨0, ncut zs 8 2, ncut zs 10 2, ncut zs 12 4, 0, ncut zs 2 2, ncut zs 4 4, 0⟩ false W HIS.out)
    unfold leV leA at CA
    try unfold zeroL at CA
    dsimp only at CA
    go_wp2_with fail
    refine (CA.out _).mono ?_
    rintro e w7 ⟨V, rfl, hr, hb⟩
    have HD7 := Lib.hid (HD11.out.below hb)
    have HRV := Lib.hid hr
    have HB7 := Lib.hid (HBW.out.below hb)
    clear hb hr
    clear x0 x1 x2 x3 x4 x5 x6 x7 xx0 xx1 xx2 xx3 xx4 xx5 xx6 xx7 hf10 f10 hl10
    obtain ⟨A2, c2, rfl, v1, v2, v3, v4⟩ := HRV.out
    clear HRV
    have HS := Lib.hid (same_any _ _ _ _ c2 c (ansR ⟨0, ncut zs 8 2, ncut zs 10 2, ncut zs 12 4, 0, ncut zs 2 2, ncut zs 4 4, 0⟩ false) zs w7 (by omega) v1 HB7.out)
    clear v1 v2 v3 v4
    go_wp2_with fail
    refine HS.out.mono ?_
    rintro e w8 ⟨rfl, q, rfl⟩
    have HD8 := Lib.hid (HD7.out.drewN q)
    obtain ⟨hl8, hf8⟩ := HD8.out.cells
    obtain ⟨x0, x1, x2, x3, x4, x5, x6, x7⟩ := HD8.out.box.cells
    obtain ⟨y0, y1, y2, y3, y4, y5, y6, y7⟩ := HD8.out.res.cells
    try unfold zeroL at x0 x1 x2 x3 x4 x5 x6 x7
    unfold zeroL at y0 y1 y2 y3 y4 y5 y6 y7
    dsimp only at x0 x1 x2 x3 x4 x5 x6 x7 y0 y1 y2 y3 y4 y5 y6 y7
    have f8 := fun k => (hf8 k).2
    cases hok : decide (ansR ⟨0, ncut zs 8 2, ncut zs 10 2, ncut zs 12 4, 0, ncut zs 2 2, ncut zs 4 4, 0⟩ false = zs) with
    | false =>
      have HOK := Lib.hid hok
      clear hok
      go_wp2
      obtain ⟨w9, hw9⟩ : ∃ w9, put8 (w7.drewN q) w.heap.size zeroL = w9 := ⟨_, rfl⟩
      obtain ⟨hb9, hr9⟩ := HD8.out.fin zeroL
      rw [hw9] at hb9 hr9
      unfold put8 at hw9
      try unfold zeroL at hw9
      dsimp only at hw9
      rw [hw9]
      obtain ⟨z0, z1, z2, z3, z4, z5, z6, z7⟩ := hr9.cells
      try unfold zeroL at z0 z1 z2 z3 z4 z5 z6 z7
      dsimp only at z0 z1 z2 z3 z4 z5 z6 z7
      clear x0 x1 x2 x3 x4 x5 x6 x7 y0 y1 y2 y3 y4 y5 y6 y7
      exact ⟨rfl, .tuple #[leV zeroL, .bool false, .int .i64 3], by simp [results, Try.results20, go_sem, z0, z1, z2, z3, z4, z5, z6, z7, leV, leA, zeroL], by rw [HOKE.out, HOK.out]; rfl, hb9⟩
    | true =>
      have HOK := Lib.hid hok
      clear hok
      go_wp2
      obtain ⟨w9, hw9⟩ : ∃ w9, put8 (w7.drewN q) w.heap.size ⟨0, ncut zs 8 2, ncut zs 10 2, ncut zs 12 4, 0, ncut zs 2 2, ncut zs 4 4, 0⟩ = w9 := ⟨_, rfl⟩
      obtain ⟨hb9, hr9⟩ := HD8.out.fin ⟨0, ncut zs 8 2, ncut zs 10 2, ncut zs 12 4, 0, ncut zs 2 2, ncut zs 4 4, 0⟩
      rw [hw9] at hb9 hr9
      unfold put8 at hw9
      try unfold zeroL at hw9
      dsimp only at hw9
      rw [hw9]
      obtain ⟨z0, z1, z2, z3, z4, z5, z6, z7⟩ := hr9.cells
      try unfold zeroL at z0 z1 z2 z3 z4 z5 z6 z7
      dsimp only at z0 z1 z2 z3 z4 z5 z6 z7
      clear x0 x1 x2 x3 x4 x5 x6 x7 y0 y1 y2 y3 y4 y5 y6 y7
      exact ⟨rfl, .tuple #[leV ⟨0, ncut zs 8 2, ncut zs 10 2, ncut zs 12 4, 0, ncut zs 2 2, ncut zs 4 4, 0⟩, .bool false, .int .i64 0], by simp [results, Try.results20, go_sem, z0, z1, z2, z3, z4, z5, z6, z7, leV, leA, zeroL], by rw [HOKE.out, HOK.out]; rfl, hb9⟩
set_option maxRecDepth 100000 in
set_option maxHeartbeats 8000000 in
theorem rreadAns_other (A : Option Addr) (n c : Nat) (zs : List Int) (w : World) (hb : Bts w A n zs) (h1 : n ≤ c) (h2 : c ≤ maxLen) (h3 : A = none → n = 0 ∧ c = 0) (h12 : ¬ n = 12) (h02 : ¬ n = 16) :
    Calls Try.prog 20 #[.slice A n c] w fun e w' => e = .returned (hldT (rokB zs) (rAnsL zs) (rAnsH zs)) ∧ Below w.heap.size w w' := by
  have hl := hb.len
  have e : rokB zs = false := by unfold rokB; rw [hl]; simp [h12, h02]
  rw [e]
  have t1 : ((n : Int) == 12) = false := by simp; omega
  have t2 : ((n : Int) != 12) = true := by simp; omega
  have t3 : ((n : Int) != 16) = true := by simp; omega
  clear hb h1 h2 h3 hl e h12 h02
  go_enter Try.func20, Try.ntmps20
  go_wp2
  exact ⟨rfl, .tuple #[leV zeroL, .bool false, .int .i64 3], by simp [results, Try.results20, go_sem, leV, leA, zeroL], rfl, (Below.refl _ w).alloc (Nat.le_refl _) _⟩
theorem rreadAns_any (A : Option Addr) (n c : Nat) (zs : List Int) (w : World) (hb : Bts w A n zs) (h1 : n ≤ c) (h2 : c ≤ maxLen) (h3 : A = none → n = 0 ∧ c = 0) :
    Calls Try.prog 20 #[.slice A n c] w fun e w' => e = .returned (hldT (rokB zs) (rAnsL zs) (rAnsH zs)) ∧ Below w.heap.size w w' := by
  by_cases h12 : n = 12
  · exact rreadAns_12 A n c zs w hb h1 h2 h3 h12
  · by_cases h02 : n = 16
    · exact rreadAns_16 A n c zs w hb h1 h2 h3 h02
    · exact rreadAns_other A n c zs w hb h1 h2 h3 h12 h02
theorem rread_ask_yes {V : Value} {zs : List Int} {w : World} (hr : Row w V zs) {l : Le} {h : Bool} (hz : AskOf zs l h) : Calls Try.prog 19 #[V] w fun e w' => e = .returned (okV l h) ∧ Below w.heap.size w w' := by
  obtain ⟨A, c, rfl, a1, a2, a3, a4⟩ := hr
  have := rreadAsk_any A _ c zs w a1 a2 a3 a4
  rwa [rask_yes hz] at this
theorem rread_ask_not {V : Value} {zs : List Int} {w : World} (hr : Row w V zs) (hz : ∀ l h, ¬ AskOf zs l h) : Calls Try.prog 19 #[V] w fun e w' => e = .returned noV ∧ Below w.heap.size w w' := by
  obtain ⟨A, c, rfl, a1, a2, a3, a4⟩ := hr
  have := rreadAsk_any A _ c zs w a1 a2 a3 a4
  rwa [rask_not hz] at this
theorem rread_ans_yes {V : Value} {zs : List Int} {w : World} (hr : Row w V zs) {l : Le} {h : Bool} (hz : AnsOf zs l h) : Calls Try.prog 20 #[V] w fun e w' => e = .returned (okV l h) ∧ Below w.heap.size w w' := by
  obtain ⟨A, c, rfl, a1, a2, a3, a4⟩ := hr
  have := rreadAns_any A _ c zs w a1 a2 a3 a4
  rwa [rans_yes hz] at this
theorem rread_ans_not {V : Value} {zs : List Int} {w : World} (hr : Row w V zs) (hz : ∀ l h, ¬ AnsOf zs l h) : Calls Try.prog 20 #[V] w fun e w' => e = .returned noV ∧ Below w.heap.size w w' := by
  obtain ⟨A, c, rfl, a1, a2, a3, a4⟩ := hr
  have := rreadAns_any A _ c zs w a1 a2 a3 a4
  rwa [rans_not a1.bd hz] at this
end Go.Proofs.Ytabokjhimpmiiaa
