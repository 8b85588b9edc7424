/-
  Contracts of embrasure/pcp's place, mapping, Ask and Answer: what they tell. Conditions: the lease's fields, and the client's host, are of their types.
  PCP's leases as bytes and back, in plain words. Conditions: as each lemma states.
  Contracts of embrasure/pcp's readMapping, ReadAsk and ReadAnswer: what they read of bytes. Conditions: the slice reads as bytes.
-/
import Derived.Test.YtemlnkcokeckmaaMh15
import Derived.Test.YtemlnkcokeckmaaMh4
import Derived.Test.YtemlnkcokeckmaaMh2
import Derived.Test.YtemlnkcokeckmaaMh6
namespace Go.Proofs.Ytemlnkcokeckmaa.Pp
open Go.RowKit
attribute [local go_sem] Oper.semAt_some
set_option linter.unusedVariables false
set_option linter.unusedSimpArgs false

/-- a host as 16 bytes -/
def hostR (h : Int) : List Int := [0, 0, 0, 0, 0, 0, 0, 0, 0, 0, 255, 255] ++ be 4 h
/-- what both end with -/
def mapR (l : Le) : List Int := [0, 0, 0, 0] ++ (be 8 l.non ++ ([17, 0, 0, 0] ++ (be 2 l.ins ++ (be 2 l.prt ++ hostR l.hst))))
def paskR (l : Le) (c : Int) : List Int := if Pas l then [2, 1, 0, 0] ++ (be 4 l.secs ++ (hostR c ++ mapR l)) else []
def pansR (l : Le) : List Int := if Pan l then [2, 129, 0] ++ (be 1 l.res ++ (be 4 l.secs ++ (be 4 l.epo ++ ([0, 0, 0, 0, 0, 0, 0, 0, 0, 0, 0, 0] ++ mapR l)))) else []
theorem hostR_length (h : Int) : (hostR h).length = 16 := by simp [hostR]
theorem mapR_length (l : Le) : (mapR l).length = 36 := by simp [mapR, hostR_length]
theorem hostR_be (h : Int) (h0 : 0 ≤ h ∧ h < 4294967296) : be 16 (281470681743360 + h) = hostR h := by
  obtain ⟨h1, h2⟩ := h0
  simp only [be, hostR, List.cons_append, List.nil_append]
  simp
  omega
theorem be8_wrap (n : Int) (h : 0 ≤ n ∧ n < 18446744073709551616) : be 8 (IntKind.i64.wrap n) = be 8 n := by
  obtain ⟨h1, h2⟩ := h
  simp only [be, IntKind.wrap_i64]
  simp
  omega
theorem or_host (h : Int) (h0 : 0 ≤ h ∧ h < 4294967296) : bits .or .i64 281470681743360 h = 281470681743360 + h := by
  obtain ⟨z, rfl⟩ : ∃ z : Nat, h = (z : Int) := ⟨h.toNat, by omega⟩
  show IntKind.i64.wrap ((BitVec.ofInt 64 (281470681743360 : Int) ||| BitVec.ofInt 64 (z : Int)).toNat : Int) = _
  have e1 : (BitVec.ofInt 64 (z : Int)).toNat = z := by rw [BitVec.toNat_ofInt]; omega
  have e2 : (BitVec.ofInt 64 (281470681743360 : Int)).toNat = 281470681743360 := by decide
  rw [BitVec.toNat_or, e1, e2, nat_join 32 281470681743360 z (by omega) (by omega), IntKind.wrap_i64]
  omega
theorem be_bd' (n : Nat) (v : Int) : ∀ z ∈ be n v, 0 ≤ z ∧ z ≤ 255 := be_bd n v

/-- place: a host as 16 bytes -/
theorem place_any (h : Int) (w : World) (h0 : 0 ≤ h ∧ h < 4294967296) :
    Calls Try.prog 74 #[.int .u32 h] w fun e w' => e = .returned (.slice (some ⟨w.heap.size, 0, none⟩) 16 16) ∧ w'.ownsRow w.heap.size 5 1 (.slice (some ⟨w.heap.size, 0, none⟩) 16 16) 16 (B (hostR h)) ∧ Below w.heap.size w w' := by
  have HE := Lib.hid (hostR_be h h0)
  have hor := or_host h h0
  have hwr : IntKind.i64.wrap h = h := by rw [IntKind.wrap_i64]; omega
  have HN := Lib.hid (number_any 16 (281470681743360 + h) w (by decide) ⟨by omega, by omega⟩)
  rw [HE.out] at HN
  clear HE
  obtain ⟨h1, h2⟩ := h0
  go_enter Try.func74, Try.ntmps74
  go_wp2_with (go_at_call 66; refine HN.out.mono ?_; rintro e w5 ⟨rfl, ho5, hb5⟩; have HO5 := Lib.hid ho5; have HB5 := Lib.hid hb5; clear ho5 hb5)
  go_ret
  exact ⟨rfl, HO5.out, HB5.out⟩
theorem Gath.placed {w W : World} {g : Nat} {l : Le} {ps : Ps} (h : Gath w W g l ps) (c : Int) (h0 : 0 ≤ c ∧ c < 4294967296) :
    Calls Try.prog 74 #[.int .u32 c] W fun e W' => ∃ p, e = .returned (.slice (some ⟨p, 0, none⟩) 16 16) ∧ Gath w W' g l (ps ++ [(p, 16, 16, hostR c)]) := by
  refine (place_any c W h0).mono ?_
  rintro e W' ⟨rfl, h1, h2⟩
  refine ⟨_, rfl, h.low.trans (h2.mono h.low.size), h.gle, h.box.below h2 h.box.lt, fun q hq => ?_⟩
  rcases List.mem_append.1 hq with hq | hq
  · exact (h.held q hq).below h2
  · obtain rfl : q = (W.heap.size, 16, 16, hostR c) := by simpa using hq
    obtain ⟨A, c, e, e1, e2, e3⟩ := own_form h1 (by rw [← hostR_be c h0]; exact be_bd 16 _)
    cases e
    exact ⟨e3, e1, e2⟩

set_option maxRecDepth 100000 in
set_option maxHeartbeats 4000000 in
/-- mapping: what both end with -/
theorem mapping_any (l : Le) (w : World) (hl : isL l) : Calls Try.prog 75 #[leV l] w fun e w' => ∃ V, e = .returned V ∧ w'.ownsRow w.heap.size 5 1 V 36 (B (mapR l)) ∧ Below w.heap.size w w' := by
  obtain ⟨nv, hnv⟩ : ∃ v, IntKind.i64.wrap l.non = v := ⟨_, rfl⟩
  have hnw : W64 nv := by rw [← hnv, IntKind.wrap_i64]; constructor <;> omega
  have hraw : be 4 0 ++ (be 8 nv ++ (be 1 17 ++ (be 3 0 ++ (be 2 l.ins ++ (be 2 l.prt ++ hostR l.hst))))) = mapR l := by
    rw [← hnv, be8_wrap l.non hl.non]
    simp [mapR, be]
  have hnon0 := hl.non
  have hlen := mapR_length l
  have HL := Lib.hid hl; clear hl
  unfold leV leA at *
  go_enter Try.func75, Try.ntmps75
  have HG0 : Hid (Gath w (w.alloc (.cells (leA l) 64)) w.heap.size l []) := Lib.hid ⟨(Below.refl _ w).alloc (Nat.le_refl _) _, Nat.le_refl _, LeAt.new w l, by simp⟩
  have HG00 := Lib.hid HG0.out.drew
  unfold leA at HG0 HG00
  go_wp2_with fail
  refine wp_region_held_drew (S := fun W => LeAt W w.heap.size l) (by kernel_rfl) (HG00.out.box) (fun hHeld => ?_)
  refine wpAnyH_take (i := 1) (oi := _) (v := ?_) rfl (by kernel_rfl) (by kernel_rfl) (by kernel_rfl) (fun _ _ _ h => h) (Or.inl ⟨by rfl, ?_⟩) (by assumption) ?_
  case refine_2 => intro w hSw; (try dsimp only at hSw); have hcs := LeAt.cells hSw; obtain ⟨y0, y1, y2, y3, y4, y5, y6, y7⟩ := hcs; clear hSw; go_simp; first | done | (with_reducible rfl)
  try simp only [Act.put, List.getElem_toArray, List.getElem_cons_zero, List.getElem_cons_succ, List.setIfInBounds_toArray, List.set_cons_zero, List.set_cons_succ]
  refine wpAnyH_take (i := 2) (oi := _) (v := ?_) rfl (by kernel_rfl) (by kernel_rfl) (by kernel_rfl) (fun _ _ _ h => h) (Or.inl ⟨by rfl, ?_⟩) (by assumption) ?_
  case refine_2 => intro w hSw; (try dsimp only at hSw); have hcs := LeAt.cells hSw; obtain ⟨y0, y1, y2, y3, y4, y5, y6, y7⟩ := hcs; clear hSw; go_simp; first | done | (with_reducible rfl)
  try simp only [Act.put, List.getElem_toArray, List.getElem_cons_zero, List.getElem_cons_succ, List.setIfInBounds_toArray, List.set_cons_zero, List.set_cons_succ]
  refine wpAnyH_take (i := 3) (oi := _) (v := ?_) rfl (by kernel_rfl) (by kernel_rfl) (by kernel_rfl) (fun _ _ _ h => h) (Or.inl ⟨by rfl, ?_⟩) (by assumption) ?_
  case refine_2 => intro w hSw; (try dsimp only at hSw); have hcs := LeAt.cells hSw; obtain ⟨y0, y1, y2, y3, y4, y5, y6, y7⟩ := hcs; clear hSw; go_simp; first | done | (with_reducible rfl)
  try simp only [Act.put, List.getElem_toArray, List.getElem_cons_zero, List.getElem_cons_succ, List.setIfInBounds_toArray, List.set_cons_zero, List.set_cons_succ]
  refine wpAnyH_take (i := 7) (oi := _) (v := ?_) rfl (by kernel_rfl) (by kernel_rfl) (by kernel_rfl) (fun _ _ _ h => h) (Or.inl ⟨by rfl, ?_⟩) (by assumption) ?_
  case refine_2 => intro w hSw; (try dsimp only at hSw); have hcs := LeAt.cells hSw; obtain ⟨y0, y1, y2, y3, y4, y5, y6, y7⟩ := hcs; clear hSw; go_simp; first | done | (with_reducible rfl)
  try simp only [Act.put, List.getElem_toArray, List.getElem_cons_zero, List.getElem_cons_succ, List.setIfInBounds_toArray, List.set_cons_zero, List.set_cons_succ]
  refine wpAnyH_take (i := 8) (oi := _) (v := ?_) rfl (by kernel_rfl) (by kernel_rfl) (by kernel_rfl) (fun _ _ _ h => h) (Or.inl ⟨by rfl, ?_⟩) (by assumption) ?_
  case refine_2 => intro w hSw; (try dsimp only at hSw); have hcs := LeAt.cells hSw; obtain ⟨y0, y1, y2, y3, y4, y5, y6, y7⟩ := hcs; clear hSw; go_simp; first | done | (with_reducible rfl)
  try simp only [Act.put, List.getElem_toArray, List.getElem_cons_zero, List.getElem_cons_succ, List.setIfInBounds_toArray, List.set_cons_zero, List.set_cons_succ]
  refine wpAnyH_take (i := 10) (oi := _) (v := ?_) rfl (by kernel_rfl) (by kernel_rfl) (by kernel_rfl) (fun _ _ _ h => h) (Or.inl ⟨by rfl, ?_⟩) (by assumption) ?_
  case refine_2 => intro w hSw; (try dsimp only at hSw); have hcs := LeAt.cells hSw; obtain ⟨y0, y1, y2, y3, y4, y5, y6, y7⟩ := hcs; clear hSw; go_simp; first | done | (with_reducible rfl)
  try simp only [Act.put, List.getElem_toArray, List.getElem_cons_zero, List.getElem_cons_succ, List.setIfInBounds_toArray, List.set_cons_zero, List.set_cons_succ]
  refine wpAnyH_take (i := 11) (oi := _) (v := ?_) rfl (by kernel_rfl) (by kernel_rfl) (by kernel_rfl) (fun _ _ _ h => h) (Or.inl ⟨by rfl, ?_⟩) (by assumption) ?_
  case refine_2 => intro w hSw; (try dsimp only at hSw); have hcs := LeAt.cells hSw; obtain ⟨y0, y1, y2, y3, y4, y5, y6, y7⟩ := hcs; clear hSw; go_simp; first | done | (with_reducible rfl)
  try simp only [Act.put, List.getElem_toArray, List.getElem_cons_zero, List.getElem_cons_succ, List.setIfInBounds_toArray, List.set_cons_zero, List.set_cons_succ]
  refine wpAnyH_take (i := 13) (oi := _) (v := ?_) rfl (by kernel_rfl) (by kernel_rfl) (by kernel_rfl) (fun _ _ _ h => h) (Or.inl ⟨by rfl, ?_⟩) (by assumption) ?_
  case refine_2 => intro w hSw; (try dsimp only at hSw); have hcs := LeAt.cells hSw; obtain ⟨y0, y1, y2, y3, y4, y5, y6, y7⟩ := hcs; clear hSw; go_simp; first | done | (with_reducible rfl)
  try simp only [Act.put, List.getElem_toArray, List.getElem_cons_zero, List.getElem_cons_succ, List.setIfInBounds_toArray, List.set_cons_zero, List.set_cons_succ]
  refine wpAnyH_take (i := 14) (oi := _) (v := ?_) rfl (by kernel_rfl) (by kernel_rfl) (by kernel_rfl) (fun _ _ _ h => h) (Or.inl ⟨by rfl, ?_⟩) (by assumption) ?_
  case refine_2 => intro w hSw; (try dsimp only at hSw); have hcs := LeAt.cells hSw; obtain ⟨y0, y1, y2, y3, y4, y5, y6, y7⟩ := hcs; clear hSw; go_simp; first | done | (with_reducible rfl)
  try simp only [Act.put, List.getElem_toArray, List.getElem_cons_zero, List.getElem_cons_succ, List.setIfInBounds_toArray, List.set_cons_zero, List.set_cons_succ]
  refine wpAnyH_ready (rs := [0]) (by kernel_rfl) (by simp) ?_
  refine AllReadyH.cons rfl (fun K hK => ?_) AllReadyH.nil
  go_simp
  go_at_call 66
  refine (HG00.out.number 4 0 (by decide) ⟨by decide, by decide⟩).mono ?_
  rintro e w2 ⟨p1, rfl, hg1⟩
  have HG1 := Lib.hid hg1
  clear hg1
  refine hK.out _ _ HG1.out.box (fun hHeld => ?_)
  clear hK K
  try simp only [Act.put, List.getElem_toArray, List.getElem_cons_zero, List.getElem_cons_succ, List.setIfInBounds_toArray, List.set_cons_zero, List.set_cons_succ]
  refine wpAnyH_ready (rs := [4]) (by kernel_rfl) (by simp) ?_
  refine AllReadyH.cons rfl (fun K hK => ?_) AllReadyH.nil
  go_simp
  go_at_call 66
  refine (HG1.out.number 8 nv (by decide) hnw).mono ?_
  rintro e w3 ⟨p2, rfl, hg2⟩
  have HG2 := Lib.hid hg2
  clear hg2
  refine hK.out _ _ HG2.out.box (fun hHeld => ?_)
  clear hK K
  try simp only [Act.put, List.getElem_toArray, List.getElem_cons_zero, List.getElem_cons_succ, List.setIfInBounds_toArray, List.set_cons_zero, List.set_cons_succ]
  refine wpAnyH_ready (rs := [5]) (by kernel_rfl) (by simp) ?_
  refine AllReadyH.cons rfl (fun K hK => ?_) AllReadyH.nil
  go_simp
  go_at_call 66
  refine (HG2.out.number 1 17 (by decide) ⟨by decide, by decide⟩).mono ?_
  rintro e w4 ⟨p3, rfl, hg3⟩
  have HG3 := Lib.hid hg3
  clear hg3
  refine hK.out _ _ HG3.out.box (fun hHeld => ?_)
  clear hK K
  try simp only [Act.put, List.getElem_toArray, List.getElem_cons_zero, List.getElem_cons_succ, List.setIfInBounds_toArray, List.set_cons_zero, List.set_cons_succ]
  refine wpAnyH_ready (rs := [6]) (by kernel_rfl) (by simp) ?_
  refine AllReadyH.cons rfl (fun K hK => ?_) AllReadyH.nil
  go_simp
  go_at_call 66
  refine (HG3.out.number 3 0 (by decide) ⟨by decide, by decide⟩).mono ?_
  rintro e w5 ⟨p4, rfl, hg4⟩
  have HG4 := Lib.hid hg4
  clear hg4
  refine hK.out _ _ HG4.out.box (fun hHeld => ?_)
  clear hK K
  try simp only [Act.put, List.getElem_toArray, List.getElem_cons_zero, List.getElem_cons_succ, List.setIfInBounds_toArray, List.set_cons_zero, List.set_cons_succ]
  refine wpAnyH_ready (rs := [9]) (by kernel_rfl) (by simp) ?_
  refine AllReadyH.cons rfl (fun K hK => ?_) AllReadyH.nil
  go_simp
  go_at_call 66
  refine (HG4.out.number 2 l.ins (by decide) HL.out.ins).mono ?_
  rintro e w6 ⟨p5, rfl, hg5⟩
  have HG5 := Lib.hid hg5
  clear hg5
  refine hK.out _ _ HG5.out.box (fun hHeld => ?_)
  clear hK K
  try simp only [Act.put, List.getElem_toArray, List.getElem_cons_zero, List.getElem_cons_succ, List.setIfInBounds_toArray, List.set_cons_zero, List.set_cons_succ]
  refine wpAnyH_ready (rs := [12]) (by kernel_rfl) (by simp) ?_
  refine AllReadyH.cons rfl (fun K hK => ?_) AllReadyH.nil
  go_simp
  go_at_call 66
  refine (HG5.out.number 2 l.prt (by decide) HL.out.prt).mono ?_
  rintro e w7 ⟨p6, rfl, hg6⟩
  have HG6 := Lib.hid hg6
  clear hg6
  refine hK.out _ _ HG6.out.box (fun hHeld => ?_)
  clear hK K
  try simp only [Act.put, List.getElem_toArray, List.getElem_cons_zero, List.getElem_cons_succ, List.setIfInBounds_toArray, List.set_cons_zero, List.set_cons_succ]
  refine wpAnyH_ready (rs := [15]) (by kernel_rfl) (by simp) ?_
  refine AllReadyH.cons rfl (fun K hK => ?_) AllReadyH.nil
  go_simp
  go_at_call 74
  refine (HG6.out.placed l.hst HL.out.hst).mono ?_
  rintro e w8 ⟨p7, rfl, hg7⟩
  have HG7 := Lib.hid hg7
  clear hg7
  refine hK.out _ _ HG7.out.box (fun hHeld => ?_)
  clear hK K
  try simp only [Act.put, List.getElem_toArray, List.getElem_cons_zero, List.getElem_cons_succ, List.setIfInBounds_toArray, List.set_cons_zero, List.set_cons_succ]
  refine wpAnyH_ready (rs := [16]) (by kernel_rfl) (by simp) ?_
  refine AllReadyH.cons rfl (fun K hK => ?_) AllReadyH.nil
  go_simp
  have HJ := Lib.hid (HG7.out.join #[.slice (some ⟨p1, 0, none⟩) 4 4, .slice (some ⟨p2, 0, none⟩) 8 8, .slice (some ⟨p3, 0, none⟩) 1 1, .slice (some ⟨p4, 0, none⟩) 3 3, .slice (some ⟨p5, 0, none⟩) 2 2, .slice (some ⟨p6, 0, none⟩) 2 2, .slice (some ⟨p7, 0, none⟩) 16 16] 60 (by simp [pv]) 7 (by simp) (by simp) (be 4 0 ++ (be 8 nv ++ (be 1 17 ++ (be 3 0 ++ (be 2 l.ins ++ (be 2 l.prt ++ hostR l.hst)))))) (by simp [flat]) (by simp [hostR_length, mapR_length]) (by simp [hostR_length, mapR_length]))
  refine hK.out _ _ (HG7.out.box.below ((Below.refl _ _).alloc (Nat.le_refl _) _) HG7.out.box.lt) (fun hHeld => ?_)
  clear hK K
  try simp only [Act.put, List.getElem_toArray, List.getElem_cons_zero, List.getElem_cons_succ, List.setIfInBounds_toArray, List.set_cons_zero, List.set_cons_succ]
  refine wpAnyH_ready (rs := [17]) (by kernel_rfl) (by simp) ?_
  refine AllReadyH.cons rfl (fun K hK => ?_) AllReadyH.nil
  go_simp
  go_at_call 65
  refine HJ.out.mono ?_
  rintro e w9 ⟨V, rfl, ho, hb, hbox⟩
  rw [hraw] at ho
  have HO := Lib.hid ho
  have HB9 := Lib.hid hb
  clear ho hb
  refine hK.out _ _ hbox (fun hHeld => ?_)
  clear hK K
  try simp only [Act.put, List.getElem_toArray, List.getElem_cons_zero, List.getElem_cons_succ, List.setIfInBounds_toArray, List.set_cons_zero, List.set_cons_succ]
  refine wpAnyH_take (i := 18) (oi := _) (v := ?_) rfl (by kernel_rfl) (by kernel_rfl) (by kernel_rfl) (fun _ _ _ h => h) (Or.inl ⟨by rfl, ?_⟩) (by assumption) ?_
  case refine_2 => intro w hSw; (try dsimp only at hSw); have hcs := LeAt.cells hSw; obtain ⟨y0, y1, y2, y3, y4, y5, y6, y7⟩ := hcs; clear hSw; go_simp; first | done | (with_reducible rfl)
  try simp only [Act.put, List.getElem_toArray, List.getElem_cons_zero, List.getElem_cons_succ, List.setIfInBounds_toArray, List.set_cons_zero, List.set_cons_succ]
  refine wpAnyH_done (by kernel_rfl) ?_ _
  go_wp2
  go_ret
  rw [hlen] at HO
  exact ⟨_, rfl, HO.out, HB9.out⟩
theorem mapR_bd (l : Le) (hl : isL l) : ∀ z ∈ mapR l, 0 ≤ z ∧ z ≤ 255 := by
  unfold mapR
  refine mem_append_bd (by simp) (mem_append_bd (be_bd _ _) (mem_append_bd (by simp) (mem_append_bd (be_bd _ _) (mem_append_bd (be_bd _ _) ?_))))
  rw [← hostR_be _ hl.hst]
  exact be_bd 16 _
theorem Gath.mapped {w W : World} {g : Nat} {l : Le} {ps : Ps} (h : Gath w W g l ps) (m : Le) (hm : isL m) :
    Calls Try.prog 75 #[leV m] W fun e W' => ∃ p c, e = .returned (.slice (some ⟨p, 0, none⟩) 36 c) ∧ Gath w W' g l (ps ++ [(p, 36, c, mapR m)]) := by
  refine (mapping_any m W hm).mono ?_
  rintro e W' ⟨V, rfl, h1, h2⟩
  obtain ⟨p, c, rfl, _, _, _⟩ := own_some h1 (by decide)
  refine ⟨_, _, rfl, h.low.trans (h2.mono h.low.size), h.gle, h.box.below h2 h.box.lt, fun q hq => ?_⟩
  rcases List.mem_append.1 hq with hq | hq
  · exact (h.held q hq).below h2
  · obtain rfl : q = (p, 36, c, mapR m) := by simpa using hq
    obtain ⟨A, c, e, e1, e2, e3⟩ := own_form h1 (mapR_bd m hm)
    cases e
    exact ⟨e3, e1, e2⟩

set_option maxRecDepth 100000 in
set_option maxHeartbeats 4000000 in
theorem pask_yes (l : Le) (c : Int) (w : World) (hl : isL l) (hc : 0 ≤ c ∧ c < 4294967296) (hh : Pas l) : Calls Try.prog 36 #[leV l, .int .u32 c] w fun e w' => ∃ V, e = .returned V ∧ w'.ownsRow w.heap.size 5 1 V ([2, 1, 0, 0] ++ (be 4 l.secs ++ (hostR c ++ mapR l))).length (B ([2, 1, 0, 0] ++ (be 4 l.secs ++ (hostR c ++ mapR l)))) ∧ Below w.heap.size w w' := by
  have HM := Lib.hid (fun W => pmayAsk_any l W hl)
  rw [show decide (Pas l) = true from decide_eq_true hh] at HM
  have hraw : be 1 2 ++ (be 1 1 ++ (be 2 0 ++ (be 4 l.secs ++ (hostR c ++ mapR l)))) = [2, 1, 0, 0] ++ (be 4 l.secs ++ (hostR c ++ mapR l)) := by simp [be]
  clear hh
  have HL := Lib.hid hl; clear hl
  unfold leV leA at *
  go_enter Try.func36, Try.ntmps36
  go_wp2_with fail
  refine (HM.out _).mono ?_
  rintro e w1 ⟨rfl, hb⟩
  have HG0 : Hid (Gath w w1 w.heap.size l []) := Lib.hid ⟨((Below.refl _ w).alloc (Nat.le_refl _) _).trans (hb.mono (by simp)), Nat.le_refl _, (LeAt.new w l).below hb (by simp), by simp⟩
  clear hb
  have HG00 := Lib.hid HG0.out.drew
  go_wp2_with fail
  refine wp_region_held_drew (S := fun W => LeAt W w.heap.size l) (by kernel_rfl) (HG00.out.box) (fun hHeld => ?_)
  refine wpAnyH_take (i := 3) (oi := _) (v := ?_) rfl (by kernel_rfl) (by kernel_rfl) (by kernel_rfl) (fun _ _ _ h => h) (Or.inl ⟨by rfl, ?_⟩) (by assumption) ?_
  case refine_2 => intro w hSw; (try dsimp only at hSw); have hcs := LeAt.cells hSw; obtain ⟨y0, y1, y2, y3, y4, y5, y6, y7⟩ := hcs; clear hSw; go_simp; first | done | (with_reducible rfl)
  try simp only [Act.put, List.getElem_toArray, List.getElem_cons_zero, List.getElem_cons_succ, List.setIfInBounds_toArray, List.set_cons_zero, List.set_cons_succ]
  refine wpAnyH_take (i := 4) (oi := _) (v := ?_) rfl (by kernel_rfl) (by kernel_rfl) (by kernel_rfl) (fun _ _ _ h => h) (Or.inl ⟨by rfl, ?_⟩) (by assumption) ?_
  case refine_2 => intro w hSw; (try dsimp only at hSw); have hcs := LeAt.cells hSw; obtain ⟨y0, y1, y2, y3, y4, y5, y6, y7⟩ := hcs; clear hSw; go_simp; first | done | (with_reducible rfl)
  try simp only [Act.put, List.getElem_toArray, List.getElem_cons_zero, List.getElem_cons_succ, List.setIfInBounds_toArray, List.set_cons_zero, List.set_cons_succ]
  refine wpAnyH_take (i := 6) (oi := _) (v := ?_) rfl (by kernel_rfl) (by kernel_rfl) (by kernel_rfl) (fun _ _ _ h => h) (Or.inl ⟨by rfl, ?_⟩) (by assumption) ?_
  case refine_2 => intro w hSw; (try dsimp only at hSw); have hcs := LeAt.cells hSw; obtain ⟨y0, y1, y2, y3, y4, y5, y6, y7⟩ := hcs; clear hSw; go_simp; first | done | (with_reducible rfl)
  try simp only [Act.put, List.getElem_toArray, List.getElem_cons_zero, List.getElem_cons_succ, List.setIfInBounds_toArray, List.set_cons_zero, List.set_cons_succ]
  refine wpAnyH_take (i := 8) (oi := _) (v := ?_) rfl (by kernel_rfl) (by kernel_rfl) (by kernel_rfl) (fun _ _ _ h => h) (Or.inl ⟨by rfl, ?_⟩) (by assumption) ?_
  case refine_2 => intro w hSw; (try dsimp only at hSw); have hcs := LeAt.cells hSw; obtain ⟨y0, y1, y2, y3, y4, y5, y6, y7⟩ := hcs; clear hSw; go_simp; first | done | (with_reducible rfl)
  try simp only [Act.put, List.getElem_toArray, List.getElem_cons_zero, List.getElem_cons_succ, List.setIfInBounds_toArray, List.set_cons_zero, List.set_cons_succ]
  refine wpAnyH_ready (rs := [0]) (by kernel_rfl) (by simp) ?_
  refine AllReadyH.cons rfl (fun K hK => ?_) AllReadyH.nil
  go_simp
  go_at_call 66
  refine (HG00.out.number 1 2 (by decide) ⟨by decide, by decide⟩).mono ?_
  rintro e w2 ⟨p1, rfl, hg1⟩
  have HG1 := Lib.hid hg1
  clear hg1
  refine hK.out _ _ HG1.out.box (fun hHeld => ?_)
  clear hK K
  try simp only [Act.put, List.getElem_toArray, List.getElem_cons_zero, List.getElem_cons_succ, List.setIfInBounds_toArray, List.set_cons_zero, List.set_cons_succ]
  refine wpAnyH_ready (rs := [1]) (by kernel_rfl) (by simp) ?_
  refine AllReadyH.cons rfl (fun K hK => ?_) AllReadyH.nil
  go_simp
  go_at_call 66
  refine (HG1.out.number 1 1 (by decide) ⟨by decide, by decide⟩).mono ?_
  rintro e w3 ⟨p2, rfl, hg2⟩
  have HG2 := Lib.hid hg2
  clear hg2
  refine hK.out _ _ HG2.out.box (fun hHeld => ?_)
  clear hK K
  try simp only [Act.put, List.getElem_toArray, List.getElem_cons_zero, List.getElem_cons_succ, List.setIfInBounds_toArray, List.set_cons_zero, List.set_cons_succ]
  refine wpAnyH_ready (rs := [2]) (by kernel_rfl) (by simp) ?_
  refine AllReadyH.cons rfl (fun K hK => ?_) AllReadyH.nil
  go_simp
  go_at_call 66
  refine (HG2.out.number 2 0 (by decide) ⟨by decide, by decide⟩).mono ?_
  rintro e w4 ⟨p3, rfl, hg3⟩
  have HG3 := Lib.hid hg3
  clear hg3
  refine hK.out _ _ HG3.out.box (fun hHeld => ?_)
  clear hK K
  try simp only [Act.put, List.getElem_toArray, List.getElem_cons_zero, List.getElem_cons_succ, List.setIfInBounds_toArray, List.set_cons_zero, List.set_cons_succ]
  refine wpAnyH_ready (rs := [5]) (by kernel_rfl) (by simp) ?_
  refine AllReadyH.cons rfl (fun K hK => ?_) AllReadyH.nil
  go_simp
  go_at_call 66
  refine (HG3.out.number 4 l.secs (by decide) HL.out.secs).mono ?_
  rintro e w5 ⟨p4, rfl, hg4⟩
  have HG4 := Lib.hid hg4
  clear hg4
  refine hK.out _ _ HG4.out.box (fun hHeld => ?_)
  clear hK K
  try simp only [Act.put, List.getElem_toArray, List.getElem_cons_zero, List.getElem_cons_succ, List.setIfInBounds_toArray, List.set_cons_zero, List.set_cons_succ]
  refine wpAnyH_ready (rs := [7]) (by kernel_rfl) (by simp) ?_
  refine AllReadyH.cons rfl (fun K hK => ?_) AllReadyH.nil
  go_simp
  go_at_call 74
  refine (HG4.out.placed c hc).mono ?_
  rintro e w6 ⟨p5, rfl, hg5⟩
  have HG5 := Lib.hid hg5
  clear hg5
  refine hK.out _ _ HG5.out.box (fun hHeld => ?_)
  clear hK K
  try simp only [Act.put, List.getElem_toArray, List.getElem_cons_zero, List.getElem_cons_succ, List.setIfInBounds_toArray, List.set_cons_zero, List.set_cons_succ]
  refine wpAnyH_ready (rs := [9]) (by kernel_rfl) (by simp) ?_
  refine AllReadyH.cons rfl (fun K hK => ?_) AllReadyH.nil
  go_simp
  go_at_call 75
  refine (HG5.out.mapped l HL.out).mono ?_
  rintro e w7 ⟨p6, c6, rfl, hg6⟩
  have HG6 := Lib.hid hg6
  clear hg6
  refine hK.out _ _ HG6.out.box (fun hHeld => ?_)
  clear hK K
  try simp only [Act.put, List.getElem_toArray, List.getElem_cons_zero, List.getElem_cons_succ, List.setIfInBounds_toArray, List.set_cons_zero, List.set_cons_succ]
  refine wpAnyH_ready (rs := [10]) (by kernel_rfl) (by simp) ?_
  refine AllReadyH.cons rfl (fun K hK => ?_) AllReadyH.nil
  go_simp
  have HJ := Lib.hid (HG6.out.join #[.slice (some ⟨p1, 0, none⟩) 1 1, .slice (some ⟨p2, 0, none⟩) 1 1, .slice (some ⟨p3, 0, none⟩) 2 2, .slice (some ⟨p4, 0, none⟩) 4 4, .slice (some ⟨p5, 0, none⟩) 16 16, .slice (some ⟨p6, 0, none⟩) 36 c6] 60 (by simp [pv]) 6 (by simp) (by simp) (be 1 2 ++ (be 1 1 ++ (be 2 0 ++ (be 4 l.secs ++ (hostR c ++ mapR l))))) (by simp [flat]) (by simp [hostR_length, mapR_length]) (by simp [hostR_length, mapR_length]))
  refine hK.out _ _ (HG6.out.box.below ((Below.refl _ _).alloc (Nat.le_refl _) _) HG6.out.box.lt) (fun hHeld => ?_)
  clear hK K
  try simp only [Act.put, List.getElem_toArray, List.getElem_cons_zero, List.getElem_cons_succ, List.setIfInBounds_toArray, List.set_cons_zero, List.set_cons_succ]
  refine wpAnyH_ready (rs := [11]) (by kernel_rfl) (by simp) ?_
  refine AllReadyH.cons rfl (fun K hK => ?_) AllReadyH.nil
  go_simp
  go_at_call 65
  refine HJ.out.mono ?_
  rintro e w8 ⟨V, rfl, ho, hb, hbox⟩
  rw [hraw] at ho
  have HO := Lib.hid ho
  have HB9 := Lib.hid hb
  clear ho hb
  refine hK.out _ _ hbox (fun hHeld => ?_)
  clear hK K
  try simp only [Act.put, List.getElem_toArray, List.getElem_cons_zero, List.getElem_cons_succ, List.setIfInBounds_toArray, List.set_cons_zero, List.set_cons_succ]
  refine wpAnyH_take (i := 12) (oi := _) (v := ?_) rfl (by kernel_rfl) (by kernel_rfl) (by kernel_rfl) (fun _ _ _ h => h) (Or.inl ⟨by rfl, ?_⟩) (by assumption) ?_
  case refine_2 => intro w hSw; (try dsimp only at hSw); have hcs := LeAt.cells hSw; obtain ⟨y0, y1, y2, y3, y4, y5, y6, y7⟩ := hcs; clear hSw; go_simp; first | done | (with_reducible rfl)
  try simp only [Act.put, List.getElem_toArray, List.getElem_cons_zero, List.getElem_cons_succ, List.setIfInBounds_toArray, List.set_cons_zero, List.set_cons_succ]
  refine wpAnyH_done (by kernel_rfl) ?_ _
  go_wp2
  go_ret
  exact ⟨_, rfl, HO.out, HB9.out⟩

set_option maxRecDepth 100000 in
set_option maxHeartbeats 4000000 in
theorem pans_yes (l : Le) (w : World) (hl : isL l) (hh : Pan l) : Calls Try.prog 72 #[leV l] w fun e w' => ∃ V, e = .returned V ∧ w'.ownsRow w.heap.size 5 1 V ([2, 129, 0] ++ (be 1 l.res ++ (be 4 l.secs ++ (be 4 l.epo ++ ([0, 0, 0, 0, 0, 0, 0, 0, 0, 0, 0, 0] ++ mapR l))))).length (B ([2, 129, 0] ++ (be 1 l.res ++ (be 4 l.secs ++ (be 4 l.epo ++ ([0, 0, 0, 0, 0, 0, 0, 0, 0, 0, 0, 0] ++ mapR l)))))) ∧ Below w.heap.size w w' := by
  have HM := Lib.hid (fun W => pmayAnswer_any l W hl)
  rw [show decide (Pan l) = true from decide_eq_true hh] at HM
  have hraw : be 1 2 ++ (be 1 129 ++ (be 1 0 ++ (be 1 l.res ++ (be 4 l.secs ++ (be 4 l.epo ++ (be 12 0 ++ mapR l)))))) = [2, 129, 0] ++ (be 1 l.res ++ (be 4 l.secs ++ (be 4 l.epo ++ ([0, 0, 0, 0, 0, 0, 0, 0, 0, 0, 0, 0] ++ mapR l)))) := by simp [be]
  clear hh
  have HL := Lib.hid hl; clear hl
  unfold leV leA at *
  go_enter Try.func72, Try.ntmps72
  go_wp2_with fail
  refine (HM.out _).mono ?_
  rintro e w1 ⟨rfl, hb⟩
  have HG0 : Hid (Gath w w1 w.heap.size l []) := Lib.hid ⟨((Below.refl _ w).alloc (Nat.le_refl _) _).trans (hb.mono (by simp)), Nat.le_refl _, (LeAt.new w l).below hb (by simp), by simp⟩
  clear hb
  have HG00 := Lib.hid HG0.out.drew
  go_wp2_with fail
  refine wp_region_held_drew (S := fun W => LeAt W w.heap.size l) (by kernel_rfl) (HG00.out.box) (fun hHeld => ?_)
  refine wpAnyH_take (i := 3) (oi := _) (v := ?_) rfl (by kernel_rfl) (by kernel_rfl) (by kernel_rfl) (fun _ _ _ h => h) (Or.inl ⟨by rfl, ?_⟩) (by assumption) ?_
  case refine_2 => intro w hSw; (try dsimp only at hSw); have hcs := LeAt.cells hSw; obtain ⟨y0, y1, y2, y3, y4, y5, y6, y7⟩ := hcs; clear hSw; go_simp; first | done | (with_reducible rfl)
  try simp only [Act.put, List.getElem_toArray, List.getElem_cons_zero, List.getElem_cons_succ, List.setIfInBounds_toArray, List.set_cons_zero, List.set_cons_succ]
  refine wpAnyH_take (i := 4) (oi := _) (v := ?_) rfl (by kernel_rfl) (by kernel_rfl) (by kernel_rfl) (fun _ _ _ h => h) (Or.inl ⟨by rfl, ?_⟩) (by assumption) ?_
  case refine_2 => intro w hSw; (try dsimp only at hSw); have hcs := LeAt.cells hSw; obtain ⟨y0, y1, y2, y3, y4, y5, y6, y7⟩ := hcs; clear hSw; go_simp; first | done | (with_reducible rfl)
  try simp only [Act.put, List.getElem_toArray, List.getElem_cons_zero, List.getElem_cons_succ, List.setIfInBounds_toArray, List.set_cons_zero, List.set_cons_succ]
  refine wpAnyH_take (i := 6) (oi := _) (v := ?_) rfl (by kernel_rfl) (by kernel_rfl) (by kernel_rfl) (fun _ _ _ h => h) (Or.inl ⟨by rfl, ?_⟩) (by assumption) ?_
  case refine_2 => intro w hSw; (try dsimp only at hSw); have hcs := LeAt.cells hSw; obtain ⟨y0, y1, y2, y3, y4, y5, y6, y7⟩ := hcs; clear hSw; go_simp; first | done | (with_reducible rfl)
  try simp only [Act.put, List.getElem_toArray, List.getElem_cons_zero, List.getElem_cons_succ, List.setIfInBounds_toArray, List.set_cons_zero, List.set_cons_succ]
  refine wpAnyH_take (i := 7) (oi := _) (v := ?_) rfl (by kernel_rfl) (by kernel_rfl) (by kernel_rfl) (fun _ _ _ h => h) (Or.inl ⟨by rfl, ?_⟩) (by assumption) ?_
  case refine_2 => intro w hSw; (try dsimp only at hSw); have hcs := LeAt.cells hSw; obtain ⟨y0, y1, y2, y3, y4, y5, y6, y7⟩ := hcs; clear hSw; go_simp; first | done | (with_reducible rfl)
  try simp only [Act.put, List.getElem_toArray, List.getElem_cons_zero, List.getElem_cons_succ, List.setIfInBounds_toArray, List.set_cons_zero, List.set_cons_succ]
  refine wpAnyH_take (i := 9) (oi := _) (v := ?_) rfl (by kernel_rfl) (by kernel_rfl) (by kernel_rfl) (fun _ _ _ h => h) (Or.inl ⟨by rfl, ?_⟩) (by assumption) ?_
  case refine_2 => intro w hSw; (try dsimp only at hSw); have hcs := LeAt.cells hSw; obtain ⟨y0, y1, y2, y3, y4, y5, y6, y7⟩ := hcs; clear hSw; go_simp; first | done | (with_reducible rfl)
  try simp only [Act.put, List.getElem_toArray, List.getElem_cons_zero, List.getElem_cons_succ, List.setIfInBounds_toArray, List.set_cons_zero, List.set_cons_succ]
  refine wpAnyH_take (i := 10) (oi := _) (v := ?_) rfl (by kernel_rfl) (by kernel_rfl) (by kernel_rfl) (fun _ _ _ h => h) (Or.inl ⟨by rfl, ?_⟩) (by assumption) ?_
  case refine_2 => intro w hSw; (try dsimp only at hSw); have hcs := LeAt.cells hSw; obtain ⟨y0, y1, y2, y3, y4, y5, y6, y7⟩ := hcs; clear hSw; go_simp; first | done | (with_reducible rfl)
  try simp only [Act.put, List.getElem_toArray, List.getElem_cons_zero, List.getElem_cons_succ, List.setIfInBounds_toArray, List.set_cons_zero, List.set_cons_succ]
  refine wpAnyH_take (i := 13) (oi := _) (v := ?_) rfl (by kernel_rfl) (by kernel_rfl) (by kernel_rfl) (fun _ _ _ h => h) (Or.inl ⟨by rfl, ?_⟩) (by assumption) ?_
  case refine_2 => intro w hSw; (try dsimp only at hSw); have hcs := LeAt.cells hSw; obtain ⟨y0, y1, y2, y3, y4, y5, y6, y7⟩ := hcs; clear hSw; go_simp; first | done | (with_reducible rfl)
  try simp only [Act.put, List.getElem_toArray, List.getElem_cons_zero, List.getElem_cons_succ, List.setIfInBounds_toArray, List.set_cons_zero, List.set_cons_succ]
  refine wpAnyH_ready (rs := [0]) (by kernel_rfl) (by simp) ?_
  refine AllReadyH.cons rfl (fun K hK => ?_) AllReadyH.nil
  go_simp
  go_at_call 66
  refine (HG00.out.number 1 2 (by decide) ⟨by decide, by decide⟩).mono ?_
  rintro e w2 ⟨p1, rfl, hg1⟩
  have HG1 := Lib.hid hg1
  clear hg1
  refine hK.out _ _ HG1.out.box (fun hHeld => ?_)
  clear hK K
  try simp only [Act.put, List.getElem_toArray, List.getElem_cons_zero, List.getElem_cons_succ, List.setIfInBounds_toArray, List.set_cons_zero, List.set_cons_succ]
  refine wpAnyH_ready (rs := [1]) (by kernel_rfl) (by simp) ?_
  refine AllReadyH.cons rfl (fun K hK => ?_) AllReadyH.nil
  go_simp
  go_at_call 66
  refine (HG1.out.number 1 129 (by decide) ⟨by decide, by decide⟩).mono ?_
  rintro e w3 ⟨p2, rfl, hg2⟩
  have HG2 := Lib.hid hg2
  clear hg2
  refine hK.out _ _ HG2.out.box (fun hHeld => ?_)
  clear hK K
  try simp only [Act.put, List.getElem_toArray, List.getElem_cons_zero, List.getElem_cons_succ, List.setIfInBounds_toArray, List.set_cons_zero, List.set_cons_succ]
  refine wpAnyH_ready (rs := [2]) (by kernel_rfl) (by simp) ?_
  refine AllReadyH.cons rfl (fun K hK => ?_) AllReadyH.nil
  go_simp
  go_at_call 66
  refine (HG2.out.number 1 0 (by decide) ⟨by decide, by decide⟩).mono ?_
  rintro e w4 ⟨p3, rfl, hg3⟩
  have HG3 := Lib.hid hg3
  clear hg3
  refine hK.out _ _ HG3.out.box (fun hHeld => ?_)
  clear hK K
  try simp only [Act.put, List.getElem_toArray, List.getElem_cons_zero, List.getElem_cons_succ, List.setIfInBounds_toArray, List.set_cons_zero, List.set_cons_succ]
  refine wpAnyH_ready (rs := [5]) (by kernel_rfl) (by simp) ?_
  refine AllReadyH.cons rfl (fun K hK => ?_) AllReadyH.nil
  go_simp
  go_at_call 66
  refine (HG3.out.number 1 l.res (by decide) HL.out.res).mono ?_
  rintro e w5 ⟨p4, rfl, hg4⟩
  have HG4 := Lib.hid hg4
  clear hg4
  refine hK.out _ _ HG4.out.box (fun hHeld => ?_)
  clear hK K
  try simp only [Act.put, List.getElem_toArray, List.getElem_cons_zero, List.getElem_cons_succ, List.setIfInBounds_toArray, List.set_cons_zero, List.set_cons_succ]
  refine wpAnyH_ready (rs := [8]) (by kernel_rfl) (by simp) ?_
  refine AllReadyH.cons rfl (fun K hK => ?_) AllReadyH.nil
  go_simp
  go_at_call 66
  refine (HG4.out.number 4 l.secs (by decide) HL.out.secs).mono ?_
  rintro e w6 ⟨p5, rfl, hg5⟩
  have HG5 := Lib.hid hg5
  clear hg5
  refine hK.out _ _ HG5.out.box (fun hHeld => ?_)
  clear hK K
  try simp only [Act.put, List.getElem_toArray, List.getElem_cons_zero, List.getElem_cons_succ, List.setIfInBounds_toArray, List.set_cons_zero, List.set_cons_succ]
  refine wpAnyH_ready (rs := [11]) (by kernel_rfl) (by simp) ?_
  refine AllReadyH.cons rfl (fun K hK => ?_) AllReadyH.nil
  go_simp
  go_at_call 66
  refine (HG5.out.number 4 l.epo (by decide) HL.out.epo).mono ?_
  rintro e w7 ⟨p6, rfl, hg6⟩
  have HG6 := Lib.hid hg6
  clear hg6
  refine hK.out _ _ HG6.out.box (fun hHeld => ?_)
  clear hK K
  try simp only [Act.put, List.getElem_toArray, List.getElem_cons_zero, List.getElem_cons_succ, List.setIfInBounds_toArray, List.set_cons_zero, List.set_cons_succ]
  refine wpAnyH_ready (rs := [12]) (by kernel_rfl) (by simp) ?_
  refine AllReadyH.cons rfl (fun K hK => ?_) AllReadyH.nil
  go_simp
  go_at_call 66
  refine (HG6.out.number 12 0 (by decide) ⟨by decide, by decide⟩).mono ?_
  rintro e w8 ⟨p7, rfl, hg7⟩
  have HG7 := Lib.hid hg7
  clear hg7
  refine hK.out _ _ HG7.out.box (fun hHeld => ?_)
  clear hK K
  try simp only [Act.put, List.getElem_toArray, List.getElem_cons_zero, List.getElem_cons_succ, List.setIfInBounds_toArray, List.set_cons_zero, List.set_cons_succ]
  refine wpAnyH_ready (rs := [14]) (by kernel_rfl) (by simp) ?_
  refine AllReadyH.cons rfl (fun K hK => ?_) AllReadyH.nil
  go_simp
  go_at_call 75
  refine (HG7.out.mapped l HL.out).mono ?_
  rintro e w9 ⟨p8, c8, rfl, hg8⟩
  have HG8 := Lib.hid hg8
  clear hg8
  refine hK.out _ _ HG8.out.box (fun hHeld => ?_)
  clear hK K
  try simp only [Act.put, List.getElem_toArray, List.getElem_cons_zero, List.getElem_cons_succ, List.setIfInBounds_toArray, List.set_cons_zero, List.set_cons_succ]
  refine wpAnyH_ready (rs := [15]) (by kernel_rfl) (by simp) ?_
  refine AllReadyH.cons rfl (fun K hK => ?_) AllReadyH.nil
  go_simp
  have HJ := Lib.hid (HG8.out.join #[.slice (some ⟨p1, 0, none⟩) 1 1, .slice (some ⟨p2, 0, none⟩) 1 1, .slice (some ⟨p3, 0, none⟩) 1 1, .slice (some ⟨p4, 0, none⟩) 1 1, .slice (some ⟨p5, 0, none⟩) 4 4, .slice (some ⟨p6, 0, none⟩) 4 4, .slice (some ⟨p7, 0, none⟩) 12 12, .slice (some ⟨p8, 0, none⟩) 36 c8] 60 (by simp [pv]) 8 (by simp) (by simp) (be 1 2 ++ (be 1 129 ++ (be 1 0 ++ (be 1 l.res ++ (be 4 l.secs ++ (be 4 l.epo ++ (be 12 0 ++ mapR l))))))) (by simp [flat]) (by simp [hostR_length, mapR_length]) (by simp [hostR_length, mapR_length]))
  refine hK.out _ _ (HG8.out.box.below ((Below.refl _ _).alloc (Nat.le_refl _) _) HG8.out.box.lt) (fun hHeld => ?_)
  clear hK K
  try simp only [Act.put, List.getElem_toArray, List.getElem_cons_zero, List.getElem_cons_succ, List.setIfInBounds_toArray, List.set_cons_zero, List.set_cons_succ]
  refine wpAnyH_ready (rs := [16]) (by kernel_rfl) (by simp) ?_
  refine AllReadyH.cons rfl (fun K hK => ?_) AllReadyH.nil
  go_simp
  go_at_call 65
  refine HJ.out.mono ?_
  rintro e w10 ⟨V, rfl, ho, hb, hbox⟩
  rw [hraw] at ho
  have HO := Lib.hid ho
  have HB9 := Lib.hid hb
  clear ho hb
  refine hK.out _ _ hbox (fun hHeld => ?_)
  clear hK K
  try simp only [Act.put, List.getElem_toArray, List.getElem_cons_zero, List.getElem_cons_succ, List.setIfInBounds_toArray, List.set_cons_zero, List.set_cons_succ]
  refine wpAnyH_take (i := 17) (oi := _) (v := ?_) rfl (by kernel_rfl) (by kernel_rfl) (by kernel_rfl) (fun _ _ _ h => h) (Or.inl ⟨by rfl, ?_⟩) (by assumption) ?_
  case refine_2 => intro w hSw; (try dsimp only at hSw); have hcs := LeAt.cells hSw; obtain ⟨y0, y1, y2, y3, y4, y5, y6, y7⟩ := hcs; clear hSw; go_simp; first | done | (with_reducible rfl)
  try simp only [Act.put, List.getElem_toArray, List.getElem_cons_zero, List.getElem_cons_succ, List.setIfInBounds_toArray, List.set_cons_zero, List.set_cons_succ]
  refine wpAnyH_done (by kernel_rfl) ?_ _
  go_wp2
  go_ret
  exact ⟨_, rfl, HO.out, HB9.out⟩

theorem pask_no (l : Le) (c : Int) (w : World) (hl : isL l) (hh : ¬ Pas l) : Calls Try.prog 36 #[leV l, .int .u32 c] w fun e w' => ∃ V, e = .returned V ∧ w'.ownsRow w.heap.size 5 1 V ([] : List Int).length (B []) ∧ Below w.heap.size w w' := by
  have HM := Lib.hid (fun W => pmayAsk_any l W hl)
  rw [show decide (Pas l) = false from decide_eq_false hh] at HM
  clear hh hl
  unfold leV leA at *
  go_enter Try.func36, Try.ntmps36
  go_wp2_with fail
  refine (HM.out _).mono ?_
  rintro e w1 ⟨rfl, hb⟩
  have HB9 : Hid (Below w.heap.size w w1) := Lib.hid (((Below.refl _ w).alloc (Nat.le_refl _) _).trans (hb.mono (by simp)))
  clear hb
  go_wp2
  go_ret
  exact ⟨_, rfl, World.ownsRow_nil _ _ _ _, HB9.out⟩

theorem pans_no (l : Le) (w : World) (hl : isL l) (hh : ¬ Pan l) : Calls Try.prog 72 #[leV l] w fun e w' => ∃ V, e = .returned V ∧ w'.ownsRow w.heap.size 5 1 V ([] : List Int).length (B []) ∧ Below w.heap.size w w' := by
  have HM := Lib.hid (fun W => pmayAnswer_any l W hl)
  rw [show decide (Pan l) = false from decide_eq_false hh] at HM
  clear hh hl
  unfold leV leA at *
  go_enter Try.func72, Try.ntmps72
  go_wp2_with fail
  refine (HM.out _).mono ?_
  rintro e w1 ⟨rfl, hb⟩
  have HB9 : Hid (Below w.heap.size w w1) := Lib.hid (((Below.refl _ w).alloc (Nat.le_refl _) _).trans (hb.mono (by simp)))
  clear hb
  go_wp2
  go_ret
  exact ⟨_, rfl, World.ownsRow_nil _ _ _ _, HB9.out⟩

/-- Ask -/
theorem pask_any (l : Le) (c : Int) (w : World) (hl : isL l) (hc : 0 ≤ c ∧ c < 4294967296) : Calls Try.prog 36 #[leV l, .int .u32 c] w fun e w' => ∃ V, e = .returned V ∧ w'.ownsRow w.heap.size 5 1 V (paskR l c).length (B (paskR l c)) ∧ Below w.heap.size w w' := by
  unfold paskR
  by_cases hh : Pas l
  · rw [if_pos hh]; exact pask_yes l c w hl hc hh
  · rw [if_neg hh]; exact pask_no l c w hl hh
/-- Answer -/
theorem panswer_any (l : Le) (w : World) (hl : isL l) : Calls Try.prog 72 #[leV l] w fun e w' => ∃ V, e = .returned V ∧ w'.ownsRow w.heap.size 5 1 V (pansR l).length (B (pansR l)) ∧ Below w.heap.size w w' := by
  unfold pansR
  by_cases hh : Pan l
  · rw [if_pos hh]; exact pans_yes l w hl hh
  · rw [if_neg hh]; exact pans_no l w hl hh
end Go.Proofs.Ytemlnkcokeckmaa.Pp
namespace Go.Proofs.Ytemlnkcokeckmaa.Pp
open Go.RowKit
set_option linter.unusedVariables false
set_option linter.unusedSimpArgs false

theorem nu_append (xs ys : List Int) : nu (xs ++ ys) = nu xs * 256 ^ ys.length + nu ys := by
  refine snocRec (P := fun ys => nu (xs ++ ys) = nu xs * 256 ^ ys.length + nu ys) (by simp [nu_nil]) (fun l c ih => ?_) ys
  rw [← List.append_assoc, nu_snoc, nu_snoc, ih, List.length_append, List.length_singleton, Int.pow_succ, Int.add_mul, Int.mul_assoc]
  omega
theorem ncut_skip (a b : List Int) (k n m : Nat) (h : a.length + m = k) : ncut (a ++ b) k n = ncut b m n := by
  unfold ncut
  rw [← h, List.drop_length_add_append]
theorem ncut_front (xs post : List Int) (n : Nat) (h : xs.length = n) : ncut (xs ++ post) 0 n = nu xs := by
  unfold ncut
  rw [List.drop_zero, List.take_left' h]
theorem ncut_split (zs : List Int) (k n m t : Nat) (h : n + m = t) (hl : k + t ≤ zs.length) : ncut zs k t = ncut zs k n * 256 ^ m + ncut zs (k + n) m := by
  unfold ncut
  have e : (zs.drop k).take t = (zs.drop k).take n ++ (zs.drop (k + n)).take m := by
    rw [← h, List.take_add, List.drop_drop]
  have e2 : ((zs.drop (k + n)).take m).length = m := by rw [List.length_take, List.length_drop]; omega
  rw [e, nu_append, e2]

/-- what ReadAsk, and ReadAnswer, read -/
def pAskL (zs : List Int) : Le := ⟨2, ncut zs 40 2, ncut zs 42 2, ncut zs 4 4, ncut zs 28 8, 0, 0, ncut zs 44 16 % 4294967296⟩
def pCl (zs : List Int) : Int := ncut zs 8 16 % 4294967296
def pAnsL (zs : List Int) : Le := ⟨2, ncut zs 40 2, ncut zs 42 2, ncut zs 4 4, ncut zs 28 8, ncut zs 3 1, ncut zs 8 4, ncut zs 44 16 % 4294967296⟩
theorem nu_lt {l : List Int} (h : Bd l) (n : Nat) (hl : l.length ≤ n) : 0 ≤ nu l ∧ nu l < 256 ^ n := by
  have h1 := nu_bd h
  have h2 : (256 : Int) ^ l.length ≤ 256 ^ n := by
    have := Nat.pow_le_pow_right (n := 256) (by decide) hl
    have e : ∀ k : Nat, (256 : Int) ^ k = ((256 ^ k : Nat) : Int) := fun k => by rw [Int.natCast_pow]; rfl
    rw [e, e]
    exact Int.ofNat_le.2 this
  omega
theorem ncut_lt {zs : List Int} (h : Bd zs) (k n : Nat) : 0 ≤ ncut zs k n ∧ ncut zs k n < 256 ^ n :=
  nu_lt (fun z hz => h z (List.mem_of_mem_drop (List.mem_of_mem_take hz))) n (by rw [List.length_take]; omega)
theorem pAskL_is {zs : List Int} (h : Bd zs) : isL (pAskL zs) ∧ Pas (pAskL zs) := by
  have a1 := ncut_lt h 40 2
  have a2 := ncut_lt h 42 2
  have a3 := ncut_lt h 4 4
  have a4 := ncut_lt h 28 8
  constructor
  · unfold pAskL; constructor <;> simp only [W64] <;> omega
  · unfold pAskL Pas Pan; dsimp only; omega
theorem pAnsL_is {zs : List Int} (h : Bd zs) : isL (pAnsL zs) ∧ Pan (pAnsL zs) := by
  have a1 := ncut_lt h 40 2
  have a2 := ncut_lt h 42 2
  have a3 := ncut_lt h 4 4
  have a4 := ncut_lt h 28 8
  have a5 := ncut_lt h 3 1
  have a6 := ncut_lt h 8 4
  constructor
  · unfold pAnsL; constructor <;> simp only [W64] <;> omega
  · unfold pAnsL Pan; dsimp only; omega
theorem pCl_is (zs : List Int) : 0 ≤ pCl zs ∧ pCl zs < 4294967296 := by unfold pCl; omega

theorem hostR_bd (h : Int) (h0 : 0 ≤ h ∧ h < 4294967296) : Bd (hostR h) := by rw [← hostR_be h h0]; exact be_bd 16 _
theorem nu_host (h : Int) (h0 : 0 ≤ h ∧ h < 4294967296) : nu (hostR h) % 4294967296 = h := by
  rw [← hostR_be h h0, nu_be 16 _ (by omega) (by
    have : (256 : Int) ^ 16 = 340282366920938463463374607431768211456 := by decide
    omega)]
  omega
theorem map_non (l : Le) (hl : isL l) : ncut (mapR l) 4 8 = l.non := by
  unfold mapR
  have := hl.non
  rw [ncut_skip _ _ 4 8 0 rfl, ncut_front _ _ 8 (by simp), nu_be 8 _ (by omega) (by show l.non < 18446744073709551616; omega)]
theorem map_ins (l : Le) (h : 0 ≤ l.ins ∧ l.ins ≤ 65535) : ncut (mapR l) 16 2 = l.ins := by
  unfold mapR
  rw [ncut_skip _ _ 16 2 12 rfl, ncut_skip _ _ 12 2 4 (by simp), ncut_skip _ _ 4 2 0 rfl, ncut_front _ _ 2 (by simp), nu2 h]
theorem map_prt (l : Le) (h : 0 ≤ l.prt ∧ l.prt ≤ 65535) : ncut (mapR l) 18 2 = l.prt := by
  unfold mapR
  rw [ncut_skip _ _ 18 2 14 rfl, ncut_skip _ _ 14 2 6 (by simp), ncut_skip _ _ 6 2 2 rfl, ncut_skip _ _ 2 2 0 (by simp), ncut_front _ _ 2 (by simp), nu2 h]
theorem map_hst (l : Le) (hl : isL l) : ncut (mapR l) 20 16 % 4294967296 = l.hst := by
  unfold mapR
  have e := ncut_front (hostR l.hst) [] 16 (hostR_length _)
  rw [List.append_nil] at e
  rw [ncut_skip _ _ 20 16 16 rfl, ncut_skip _ _ 16 16 8 (by simp), ncut_skip _ _ 8 16 4 rfl, ncut_skip _ _ 4 16 2 (by simp), ncut_skip _ _ 2 16 0 (by simp), e, nu_host _ hl.hst]
theorem paskR_yes {l : Le} (c : Int) (h : Pas l) : paskR l c = [2, 1, 0, 0] ++ (be 4 l.secs ++ (hostR c ++ mapR l)) := by unfold paskR; rw [if_pos h]
theorem pansR_yes {l : Le} (h : Pan l) : pansR l = [2, 129, 0] ++ (be 1 l.res ++ (be 4 l.secs ++ (be 4 l.epo ++ ([0, 0, 0, 0, 0, 0, 0, 0, 0, 0, 0, 0] ++ mapR l)))) := by unfold pansR; rw [if_pos h]
theorem paskR_len {l : Le} (c : Int) (h : Pas l) : (paskR l c).length = 60 := by rw [paskR_yes c h]; simp [hostR_length, mapR_length]
theorem pansR_len {l : Le} (h : Pan l) : (pansR l).length = 60 := by rw [pansR_yes h]; simp [mapR_length]
theorem paskR_no {l : Le} (c : Int) (h : ¬ Pas l) : paskR l c = [] := by unfold paskR; rw [if_neg h]
theorem pansR_no {l : Le} (h : ¬ Pan l) : pansR l = [] := by unfold pansR; rw [if_neg h]
theorem paskR_bd (l : Le) (c : Int) (hl : isL l) (hc : 0 ≤ c ∧ c < 4294967296) : Bd (paskR l c) := by
  by_cases h : Pas l
  · rw [paskR_yes c h]
    exact mem_append_bd (by simp) (mem_append_bd (be_bd _ _) (mem_append_bd (hostR_bd c hc) (mapR_bd l hl)))
  · rw [paskR_no c h]; intro z hz; cases hz
theorem pansR_bd (l : Le) (hl : isL l) : Bd (pansR l) := by
  by_cases h : Pan l
  · rw [pansR_yes h]
    exact mem_append_bd (by simp) (mem_append_bd (be_bd _ _) (mem_append_bd (be_bd _ _) (mem_append_bd (be_bd _ _) (mem_append_bd (by simp) (mapR_bd l hl)))))
  · rw [pansR_no h]; intro z hz; cases hz
theorem pback_ask {l : Le} {c : Int} (hl : isL l) (hc : 0 ≤ c ∧ c < 4294967296) (h : Pas l) : pAskL (paskR l c) = l ∧ pCl (paskR l c) = c := by
  have hp := h
  obtain ⟨⟨h0, h1, h2, h3, h4, h5⟩, h6, h7⟩ := h
  rw [paskR_yes c hp]
  have sk : ∀ k n m, 24 + m = k → ncut ([2, 1, 0, 0] ++ (be 4 l.secs ++ (hostR c ++ mapR l))) k n = ncut (mapR l) m n := by
    intro k n m e
    rw [ncut_skip _ _ k n (20 + m) (by simp; omega), ncut_skip _ _ (20 + m) n (16 + m) (by simp; omega), ncut_skip _ _ (16 + m) n m (by simp [hostR_length])]
  have e1 : ncut ([2, 1, 0, 0] ++ (be 4 l.secs ++ (hostR c ++ mapR l))) 4 4 = l.secs := by
    rw [ncut_skip _ _ 4 4 0 rfl, ncut_front _ _ 4 (by simp), nu4 h3]
  have e2 : ncut ([2, 1, 0, 0] ++ (be 4 l.secs ++ (hostR c ++ mapR l))) 8 16 % 4294967296 = c := by
    rw [ncut_skip _ _ 8 16 4 rfl, ncut_skip _ _ 4 16 0 (by simp), ncut_front _ _ 16 (hostR_length _), nu_host c hc]
  unfold pAskL pCl
  rw [e1, e2, sk 40 2 16 rfl, sk 42 2 18 rfl, sk 28 8 4 rfl, sk 44 16 20 rfl, map_ins l h1, map_prt l h2, map_non l hl, map_hst l hl]
  obtain ⟨a, b, d, e, f, g, i, j⟩ := l
  dsimp only at *
  subst h0 h6 h7
  exact ⟨rfl, rfl⟩
theorem pback_ans {l : Le} (hl : isL l) (h : Pan l) : pAnsL (pansR l) = l := by
  have hp := h
  obtain ⟨h0, h1, h2, h3, h4, h5⟩ := h
  rw [pansR_yes hp]
  have sk : ∀ k n m, 24 + m = k → ncut ([2, 129, 0] ++ (be 1 l.res ++ (be 4 l.secs ++ (be 4 l.epo ++ ([0, 0, 0, 0, 0, 0, 0, 0, 0, 0, 0, 0] ++ mapR l))))) k n = ncut (mapR l) m n := by
    intro k n m e
    rw [ncut_skip _ _ k n (21 + m) (by simp; omega), ncut_skip _ _ (21 + m) n (20 + m) (by simp; omega), ncut_skip _ _ (20 + m) n (16 + m) (by simp; omega), ncut_skip _ _ (16 + m) n (12 + m) (by simp; omega), ncut_skip _ _ (12 + m) n m (by simp)]
  have e1 : ncut ([2, 129, 0] ++ (be 1 l.res ++ (be 4 l.secs ++ (be 4 l.epo ++ ([0, 0, 0, 0, 0, 0, 0, 0, 0, 0, 0, 0] ++ mapR l))))) 4 4 = l.secs := by
    rw [ncut_skip _ _ 4 4 1 rfl, ncut_skip _ _ 1 4 0 (by simp), ncut_front _ _ 4 (by simp), nu4 h3]
  have e2 : ncut ([2, 129, 0] ++ (be 1 l.res ++ (be 4 l.secs ++ (be 4 l.epo ++ ([0, 0, 0, 0, 0, 0, 0, 0, 0, 0, 0, 0] ++ mapR l))))) 3 1 = l.res := by
    rw [ncut_skip _ _ 3 1 0 rfl, ncut_front _ _ 1 (by simp), nu_be 1 _ (by omega) (by show l.res < 256; omega)]
  have e3 : ncut ([2, 129, 0] ++ (be 1 l.res ++ (be 4 l.secs ++ (be 4 l.epo ++ ([0, 0, 0, 0, 0, 0, 0, 0, 0, 0, 0, 0] ++ mapR l))))) 8 4 = l.epo := by
    rw [ncut_skip _ _ 8 4 5 rfl, ncut_skip _ _ 5 4 4 (by simp), ncut_skip _ _ 4 4 0 (by simp), ncut_front _ _ 4 (by simp), nu4 h5]
  unfold pAnsL
  rw [e1, e2, e3, sk 40 2 16 rfl, sk 42 2 18 rfl, sk 28 8 4 rfl, sk 44 16 20 rfl, map_ins l h1, map_prt l h2, map_non l hl, map_hst l hl]
  obtain ⟨a, b, d, e, f, g, i, j⟩ := l
  dsimp only at *
  subst h0
  rfl
/-- the document's way to cut 60 bytes -/
theorem rof_non {zs : List Int} (h : zs.length = 60) : ncut zs 28 8 = ncut zs 28 4 * 4294967296 + ncut zs 32 4 := by
  have := ncut_split zs 28 4 4 8 rfl (by omega)
  exact this
theorem rof_hst {zs : List Int} (hb : Bd zs) (h : zs.length = 60) : ncut zs 44 16 % 4294967296 = ncut zs 56 4 := by
  have e := ncut_split zs 44 12 4 16 rfl (by omega)
  have a := ncut_lt hb 56 4
  have e2 : (256 : Int) ^ 4 = 4294967296 := by decide
  rw [e2] at e a
  simp only [Nat.reduceAdd] at e
  omega
theorem rof_cl {zs : List Int} (hb : Bd zs) (h : zs.length = 60) : ncut zs 8 16 % 4294967296 = ncut zs 20 4 := by
  have e := ncut_split zs 8 12 4 16 rfl (by omega)
  have a := ncut_lt hb 20 4
  have e2 : (256 : Int) ^ 4 = 4294967296 := by decide
  rw [e2] at e a
  simp only [Nat.reduceAdd] at e
  omega

structure PAskOf (zs : List Int) (l : Le) (c : Int) : Prop where
  is : isL l
  cl : 0 ≤ c ∧ c < 4294967296
  may : Pas l
  row : zs = paskR l c
structure PAnsOf (zs : List Int) (l : Le) : Prop where
  is : isL l
  may : Pan l
  row : zs = pansR l
/-- what the readers answer -/
def paT (l : Le) (c e : Int) : Value := .tuple #[leV l, .int .u32 c, .int .i64 e]
def pbT (l : Le) (e : Int) : Value := .tuple #[leV l, .int .i64 e]
def paR (zs : List Int) : Value := if zs = paskR (pAskL zs) (pCl zs) then paT (pAskL zs) (pCl zs) 0 else paT zeroL 0 3
def pbR (zs : List Int) : Value := if zs = pansR (pAnsL zs) then pbT (pAnsL zs) 0 else pbT zeroL 3
theorem paR_yes {zs : List Int} {l : Le} {c : Int} (h : PAskOf zs l c) : paR zs = paT l c 0 := by
  obtain ⟨h1, h2, h3, rfl⟩ := h
  obtain ⟨e1, e2⟩ := pback_ask h1 h2 h3
  unfold paR
  rw [e1, e2, if_pos rfl]
theorem paR_no {zs : List Int} (hb : Bd zs) (h : ∀ l c, ¬ PAskOf zs l c) : paR zs = paT zeroL 0 3 := by
  unfold paR
  rw [if_neg]
  intro e
  exact h _ _ ⟨(pAskL_is hb).1, pCl_is zs, (pAskL_is hb).2, e⟩
theorem pbR_yes {zs : List Int} {l : Le} (h : PAnsOf zs l) : pbR zs = pbT l 0 := by
  obtain ⟨h1, h3, rfl⟩ := h
  have e1 := pback_ans h1 h3
  unfold pbR
  rw [e1, if_pos rfl]
theorem pbR_no {zs : List Int} (hb : Bd zs) (h : ∀ l, ¬ PAnsOf zs l) : pbR zs = pbT zeroL 3 := by
  unfold pbR
  rw [if_neg]
  intro e
  exact h _ ⟨(pAnsL_is hb).1, (pAnsL_is hb).2, e⟩
theorem PAskOf.len {zs : List Int} {l : Le} {c : Int} (h : PAskOf zs l c) : zs.length = 60 := by rw [h.row]; exact paskR_len c h.may
theorem PAnsOf.len {zs : List Int} {l : Le} (h : PAnsOf zs l) : zs.length = 60 := by rw [h.row]; exact pansR_len h.may
theorem PAskOf.snd {zs : List Int} {l : Le} {c : Int} (h : PAskOf zs l c) : zs.getD 1 0 = 1 ∧ zs.getD 0 0 = 2 := by rw [h.row, paskR_yes c h.may]; exact ⟨rfl, rfl⟩
theorem PAnsOf.snd {zs : List Int} {l : Le} (h : PAnsOf zs l) : zs.getD 1 0 = 129 ∧ zs.getD 0 0 = 2 := by rw [h.row, pansR_yes h.may]; exact ⟨rfl, rfl⟩
theorem pask_pans {zs : List Int} {l l' : Le} {c : Int} (h1 : PAskOf zs l c) (h2 : PAnsOf zs l') : False := by
  have a := h1.snd.1
  have b := h2.snd.1
  omega
end Go.Proofs.Ytemlnkcokeckmaa.Pp
namespace Go.Proofs.Ytemlnkcokeckmaa.Pp
open Go.RowKit
attribute [local go_sem] Oper.semAt_some
set_option linter.unusedVariables false
set_option linter.unusedSimpArgs false

section
variable {w W : World} {b : Nat} {l : Le} {zs : List Int}
/-- the reader's next number, of up to sixteen bytes -/
theorem Rs.nextB {k : Nat} (h : Rs w W b l (zs.drop k)) (n m : Nat) (hn : n ≤ 16) (hm : k + n = m) :
    Calls Try.prog 99 #[.int .i64 (n : Int), .pointer (some ⟨w.heap.size + 2, 0, none⟩)] W fun e W' => e = .returned (.int .i64 (IntKind.i64.wrap (ncut zs k n))) ∧ Rs w W' b l (zs.drop m) := by
  refine (next_big _ b n (zs.drop k) W h.rd hn).mono ?_
  rintro e W' ⟨rfl, h1, h2⟩
  have hs := h.low.size
  rw [List.drop_drop, hm] at h1
  refine ⟨rfl, h.low.grown h2 hs (fun g hg => by cases hg; omega), (h2.block _ h.res.lt (fun e => by injection e; omega)).trans h.res, (h2.block _ h.box.lt (fun e => by injection e; omega)).trans h.box, h1, fun hz => h.old (fun e => hz ?_)⟩
  rw [← hm, ← List.drop_drop, e]; simp
theorem Rs.nextM {k : Nat} (h : Rs w W b l (zs.drop k)) (hb : Bd zs) (n m : Nat) (hn : n ≤ 7) (hm : k + n = m) :
    Calls Try.prog 99 #[.int .i64 (n : Int), .pointer (some ⟨w.heap.size + 2, 0, none⟩)] W fun e W' => e = .returned (.int .i64 (ncut zs k n)) ∧ Rs w W' b l (zs.drop m) := by
  have e : IntKind.i64.wrap (ncut zs k n) = ncut zs k n := nu_w64 (fun z hz => hb z (List.mem_of_mem_drop (List.mem_of_mem_take hz))) (by rw [List.length_take]; omega)
  have := h.nextB n m (by omega) hm
  rwa [e] at this
end
/-- what the mapping's part of the bytes says, in a lease -/
def mapL (l : Le) (zs : List Int) : Le := ⟨l.ver, ncut zs 40 2, ncut zs 42 2, l.secs, ncut zs 28 8, l.res, l.epo, ncut zs 44 16 % 4294967296⟩

set_option maxRecDepth 100000 in
set_option maxHeartbeats 8000000 in
theorem rdmap_any (w W : World) (b : Nat) (l : Le) (zs : List Int) (h : Rs w W b l (zs.drop 24)) (hb : Bd zs) :
    Calls Try.prog 70 #[.func (.func 99) #[] #[.pointer (some ⟨w.heap.size + 2, 0, none⟩)], .pointer (some ⟨w.heap.size + 1, 0, none⟩)] W fun e W' => e = .returned (.tuple #[]) ∧ Rs w W' b (mapL l zs) (zs.drop 60) := by
  have HS0 := Lib.hid h; clear h
  have HBD := Lib.hid hb
  obtain ⟨a8, ha8⟩ : ∃ a, IntKind.i64.wrap (ncut zs 28 8) = a := ⟨_, rfl⟩
  obtain ⟨a16, ha16⟩ : ∃ a, IntKind.i64.wrap (ncut zs 44 16) = a := ⟨_, rfl⟩
  have hu8 : IntKind.u64.wrap a8 = ncut zs 28 8 := by
    have := ncut_lt hb 28 8
    have e2 : (256 : Int) ^ 8 = 18446744073709551616 := by decide
    rw [e2] at this
    rw [← ha8, IntKind.wrap_i64]
    simp [IntKind.wrap, IntKind.bits, IntKind.signed]
    omega
  have hu16 : IntKind.u32.wrap a16 = ncut zs 44 16 % 4294967296 := by
    rw [← ha16, IntKind.wrap_i64]
    simp [IntKind.wrap, IntKind.bits, IntKind.signed]
    omega
  have HA8 := Lib.hid ha8
  have HA16 := Lib.hid ha16
  clear ha8 ha16 hb
  go_enter Try.func70, Try.ntmps70
  go_wp2_with fail
  refine (HS0.out.nextM HBD.out 4 28 (by decide) rfl).mono ?_
  rintro e w1 ⟨rfl, h1⟩
  have HS1 := Lib.hid h1; clear h1
  go_wp2_with fail
  refine (HS1.out.nextB 8 36 (by decide) rfl).mono ?_
  rintro e w2 ⟨rfl, h2⟩
  have HS2 := Lib.hid h2; clear h2
  rw [HA8.out]
  have hcc2 := HS2.out.cells
  obtain ⟨hl2, hf2⟩ := hcc2
  obtain ⟨x0, x1, x2, x3, x4, x5, x6, x7⟩ := HS2.out.box.cells
  have f4 := (hf2 4).1
  go_wp2_with fail
  have HS2b := Lib.hid (HS2.out.set 4 (.int .u64 (ncut zs 28 8)) ⟨l.ver, l.ins, l.prt, l.secs, ncut zs 28 8, l.res, l.epo, l.hst⟩ rfl (by decide))
  clear x0 x1 x2 x3 x4 x5 x6 x7 f4 hl2 hf2
  refine (HS2b.out.nextM HBD.out 4 40 (by decide) rfl).mono ?_
  rintro e w3 ⟨rfl, h3⟩
  have HS3 := Lib.hid h3; clear h3
  go_wp2_with fail
  refine (HS3.out.nextM HBD.out 2 42 (by decide) rfl).mono ?_
  rintro e w4 ⟨rfl, h4⟩
  have HS4 := Lib.hid h4; clear h4
  go_wp2_with fail
  refine (HS4.out.nextM HBD.out 2 44 (by decide) rfl).mono ?_
  rintro e w5 ⟨rfl, h5⟩
  have HS5 := Lib.hid h5; clear h5
  have hcc5 := HS5.out.cells
  obtain ⟨hl5, hf5⟩ := hcc5
  obtain ⟨x0, x1, x2, x3, x4, x5, x6, x7⟩ := HS5.out.box.cells
  have f1 := (hf5 1).1
  have f2 := (hf5 2).1
  go_wp2_with fail
  have HS5b := Lib.hid ((HS5.out.set 1 (.int .i64 (ncut zs 40 2)) ⟨l.ver, ncut zs 40 2, l.prt, l.secs, ncut zs 28 8, l.res, l.epo, l.hst⟩ rfl (by decide)).set 2 (.int .i64 (ncut zs 42 2)) ⟨l.ver, ncut zs 40 2, ncut zs 42 2, l.secs, ncut zs 28 8, l.res, l.epo, l.hst⟩ rfl (by decide))
  clear x0 x1 x2 x3 x4 x5 x6 x7 f1 f2 hl5 hf5
  refine (HS5b.out.nextB 16 60 (by decide) rfl).mono ?_
  rintro e w6 ⟨rfl, h6⟩
  have HS6 := Lib.hid h6; clear h6
  rw [HA16.out]
  have hcc6 := HS6.out.cells
  obtain ⟨hl6, hf6⟩ := hcc6
  obtain ⟨x0, x1, x2, x3, x4, x5, x6, x7⟩ := HS6.out.box.cells
  have f7 := (hf6 7).1
  go_wp2
  have HS7 := Lib.hid (HS6.out.set 7 (.int .u32 (ncut zs 44 16 % 4294967296)) (mapL l zs) rfl (by decide))
  clear x0 x1 x2 x3 x4 x5 x6 x7 f7 hl6 hf6
  go_end0
  exact ⟨rfl, HS7.out⟩
end Go.Proofs.Ytemlnkcokeckmaa.Pp
