/-
  Contracts of embrasure/pcp's place, mapping, Ask and Answer: what they tell. Conditions: the lease's fields, and the client's host, are of their types.
-/
import Derived.Test.YtfaekiopmfnpkaaQPmay
import Derived.Test.YtfaekiopmfnpkaaQAsk
import Derived.Test.YtfaekiopmfnpkaaQRdr
namespace Go.Proofs.Ytfaekiopmfnpkaa.Pp
open Go.RowKit
attribute [local go_sem] Oper.semAt_some
set_option linter.unusedVariables false
set_option linter.unusedSimpArgs false

/-- a host as 16 bytes -/
def hostR (h : Int) : List Int := [0, 0, 0, 0, 0, 0, 0, 0, 0, 0, 255, 255] ++ be 4 h
/-- what both end with -/
def mapR (l : Le) : List Int := [0, 0, 0, 0] ++ (be 8 l.non ++ ([17, 0, 0, 0] ++ (be 2 l.ins ++ (be 2 l.prt ++ hostR l.hst))))
def paskR (l : Le) (c : Int) : List Int := if Pas l then [2, 1, 0, 0] ++ (be 4 l.secs ++ (hostR c ++ mapR l)) else []
def pansR (l : Le) : List Int := if Pan l then [2, 129, 0] ++ (be 1 l.res ++ (be 4 l.secs ++ (be 4 l.epo ++ ([0, 0, 0, 0, 0, 0, 0, 0, 0, 0, 0, 0] ++ mapR l)))) else []
theorem hostR_length (h : Int) : (hostR h).length = 16 := by simp [hostR]
theorem mapR_length (l : Le) : (mapR l).length = 36 := by simp [mapR, hostR_length]
theorem hostR_be (h : Int) (h0 : 0 ≤ h ∧ h < 4294967296) : be 16 (281470681743360 + h) = hostR h := by
  obtain ⟨h1, h2⟩ := h0
  simp only [be, hostR, List.cons_append, List.nil_append]
  simp
  omega
theorem be8_wrap (n : Int) (h : 0 ≤ n ∧ n < 18446744073709551616) : be 8 (IntKind.i64.wrap n) = be 8 n := by
  obtain ⟨h1, h2⟩ := h
  simp only [be, IntKind.wrap_i64]
  simp
  omega
theorem or_host (h : Int) (h0 : 0 ≤ h ∧ h < 4294967296) : bits .or .i64 281470681743360 h = 281470681743360 + h := by
  obtain ⟨z, rfl⟩ : ∃ z : Nat, h = (z : Int) := ⟨h.toNat, by omega⟩
  show IntKind.i64.wrap ((BitVec.ofInt 64 (281470681743360 : Int) ||| BitVec.ofInt 64 (z : Int)).toNat : Int) = _
  have e1 : (BitVec.ofInt 64 (z : Int)).toNat = z := by rw [BitVec.toNat_ofInt]; omega
  have e2 : (BitVec.ofInt 64 (281470681743360 : Int)).toNat = 281470681743360 := by decide
  rw [BitVec.toNat_or, e1, e2, nat_join 32 281470681743360 z (by omega) (by omega), IntKind.wrap_i64]
  omega
theorem be_bd' (n : Nat) (v : Int) : ∀ z ∈ be n v, 0 ≤ z ∧ z ≤ 255 := be_bd n v

/-- place: a host as 16 bytes -/
theorem place_any (h : Int) (w : World) (h0 : 0 ≤ h ∧ h < 4294967296) :
    Calls Try.prog 39 #[.int .u32 h] w fun e w' => e = .returned (.slice (some ⟨w.heap.size, 0, none⟩) 16 16) ∧ w'.ownsRow w.heap.size 5 1 (.slice (some ⟨w.heap.size, 0, none⟩) 16 16) 16 (B (hostR h)) ∧ Below w.heap.size w w' := by
  have HE := Lib.hid (hostR_be h h0)
  have hor := or_host h h0
  have hwr : IntKind.i64.wrap h = h := by rw [IntKind.wrap_i64]; omega
  have HN := Lib.hid (number_any 16 (281470681743360 + h) w (by decide) ⟨by omega, by omega⟩)
  rw [HE.out] at HN
  clear HE
  obtain ⟨h1, h2⟩ := h0
  go_enter Try.func39, Try.ntmps39
  go_wp2_with (go_at_call 24; refine HN.out.mono ?_; rintro e w5 ⟨rfl, ho5, hb5⟩; have HO5 := Lib.hid ho5; have HB5 := Lib.hid hb5; clear ho5 hb5)
  go_ret
  exact ⟨rfl, HO5.out, HB5.out⟩
theorem Gath.placed {w W : World} {g : Nat} {l : Le} {ps : Ps} (h : Gath w W g l ps) (c : Int) (h0 : 0 ≤ c ∧ c < 4294967296) :
    Calls Try.prog 39 #[.int .u32 c] W fun e W' => ∃ p, e = .returned (.slice (some ⟨p, 0, none⟩) 16 16) ∧ Gath w W' g l (ps ++ [(p, 16, 16, hostR c)]) := by
  refine (place_any c W h0).mono ?_
  rintro e W' ⟨rfl, h1, h2⟩
  refine ⟨_, rfl, h.low.trans (h2.mono h.low.size), h.gle, h.box.below h2 h.box.lt, fun q hq => ?_⟩
  rcases List.mem_append.1 hq with hq | hq
  · exact (h.held q hq).below h2
  · obtain rfl : q = (W.heap.size, 16, 16, hostR c) := by simpa using hq
    obtain ⟨A, c, e, e1, e2, e3⟩ := own_form h1 (by rw [← hostR_be c h0]; exact be_bd 16 _)
    cases e
    exact ⟨e3, e1, e2⟩

set_option maxRecDepth 100000 in
set_option maxHeartbeats 4000000 in
/-- mapping: what both end with -/
theorem mapping_any (l : Le) (w : World) (hl : isL l) : Calls Try.prog 25 #[leV l] w fun e w' => ∃ V, e = .returned V ∧ w'.ownsRow w.heap.size 5 1 V 36 (B (mapR l)) ∧ Below w.heap.size w w' := by
  obtain ⟨nv, hnv⟩ : ∃ v, IntKind.i64.wrap l.non = v := ⟨_, rfl⟩
  have hnw : W64 nv := by rw [← hnv, IntKind.wrap_i64]; constructor <;> omega
  have hraw : be 4 0 ++ (be 8 nv ++ (be 1 17 ++ (be 3 0 ++ (be 2 l.ins ++ (be 2 l.prt ++ hostR l.hst))))) = mapR l := by
    rw [← hnv, be8_wrap l.non hl.non]
    simp [mapR, be]
  have hnon0 := hl.non
  have hlen := mapR_length l
  have HL := Lib.hid hl; clear hl
  unfold leV leA at *
  go_enter Try.func25, Try.ntmps25
  have HG0 : Hid (Gath w (w.alloc (.cells (leA l) 36)) w.heap.size l []) := Lib.hid ⟨(Below.refl _ w).alloc (Nat.le_refl _) _, Nat.le_refl _, LeAt.new w l, by simp⟩
  have HG00 := Lib.hid HG0.out.drew
  unfold leA at HG0 HG00
  go_wp2_with fail
  refine wp_region_held_drew (S := fun W => LeAt W w.heap.size l) (by kernel_rfl) (HG00.out.box) (fun hHeld => ?_)
  refine wpAnyH_take (i := 1) (oi := _) (v := ?_) rfl (by kernel_rfl) (by kernel_rfl) (by kernel_rfl) (fun _ _ _ h => h) (Or.inl ⟨by rfl, ?_⟩) (by assumption) ?_
  case refine_2 => intro w hSw; (try dsimp only at hSw); have hcs := LeAt.cells hSw; obtain ⟨y0, y1, y2, y3, y4, y5, y6, y7⟩ := hcs; clear hSw; go_simp; first | done | (with_reducible rfl)
  try simp only [Act.put, List.getElem_toArray, List.getElem_cons_zero, List.getElem_cons_succ, List.setIfInBounds_toArray, List.set_cons_zero, List.set_cons_succ]
  refine wpAnyH_take (i := 2) (oi := _) (v := ?_) rfl (by kernel_rfl) (by kernel_rfl) (by kernel_rfl) (fun _ _ _ h => h) (Or.inl ⟨by rfl, ?_⟩) (by assumption) ?_
  case refine_2 => intro w hSw; (try dsimp only at hSw); have hcs := LeAt.cells hSw; obtain ⟨y0, y1, y2, y3, y4, y5, y6, y7⟩ := hcs; clear hSw; go_simp; first | done | (with_reducible rfl)
  try simp only [Act.put, List.getElem_toArray, List.getElem_cons_zero, List.getElem_cons_succ, List.setIfInBounds_toArray, List.set_cons_zero, List.set_cons_succ]
  refine wpAnyH_take (i := 3) (oi := _) (v := ?_) rfl (by kernel_rfl) (by kernel_rfl) (by kernel_rfl) (fun _ _ _ h => h) (Or.inl ⟨by rfl, ?_⟩) (by assumption) ?_
  case refine_2 => intro w hSw; (try dsimp only at hSw); have hcs := LeAt.cells hSw; obtain ⟨y0, y1, y2, y3, y4, y5, y6, y7⟩ := hcs; clear hSw; go_simp; first | done | (with_reducible rfl)
  try simp only [Act.put, List.getElem_toArray, List.getElem_cons_zero, List.getElem_cons_succ, List.setIfInBounds_toArray, List.set_cons_zero, List.set_cons_succ]
  refine wpAnyH_take (i := 7) (oi := _) (v := ?_) rfl (by kernel_rfl) (by kernel_rfl) (by kernel_rfl) (fun _ _ _ h => h) (Or.inl ⟨by rfl, ?_⟩) (by assumption) ?_
  case refine_2 => intro w hSw; (try dsimp only at hSw); have hcs := LeAt.cells hSw; obtain ⟨y0, y1, y2, y3, y4, y5, y6, y7⟩ := hcs; clear hSw; go_simp; first | done | (with_reducible rfl)
  try simp only [Act.put, List.getElem_toArray, List.getElem_cons_zero, List.getElem_cons_succ, List.setIfInBounds_toArray, List.set_cons_zero, List.set_cons_succ]
  refine wpAnyH_take (i := 8) (oi := _) (v := ?_) rfl (by kernel_rfl) (by kernel_rfl) (by kernel_rfl) (fun _ _ _ h => h) (Or.inl ⟨by rfl, ?_⟩) (by assumption) ?_
  case refine_2 => intro w hSw; (try dsimp only at hSw); have hcs := LeAt.cells hSw; obtain ⟨y0, y1, y2, y3, y4, y5, y6, y7⟩ := hcs; clear hSw; go_simp; first | done | (with_reducible rfl)
  try simp only [Act.put, List.getElem_toArray, List.getElem_cons_zero, List.getElem_cons_succ, List.setIfInBounds_toArray, List.set_cons_zero, List.set_cons_succ]
  refine wpAnyH_take (i := 10) (oi := _) (v := ?_) rfl (by kernel_rfl) (by kernel_rfl) (by kernel_rfl) (fun _ _ _ h => h) (Or.inl ⟨by rfl, ?_⟩) (by assumption) ?_
  case refine_2 => intro w hSw; (try dsimp only at hSw); have hcs := LeAt.cells hSw; obtain ⟨y0, y1, y2, y3, y4, y5, y6, y7⟩ := hcs; clear hSw; go_simp; first | done | (with_reducible rfl)
  try simp only [Act.put, List.getElem_toArray, List.getElem_cons_zero, List.getElem_cons_succ, List.setIfInBounds_toArray, List.set_cons_zero, List.set_cons_succ]
  refine wpAnyH_take (i := 11) (oi := _) (v := ?_) rfl (by kernel_rfl) (by kernel_rfl) (by kernel_rfl) (fun _ _ _ h => h) (Or.inl ⟨by rfl, ?_⟩) (by assumption) ?_
  case refine_2 => intro w hSw; (try dsimp only at hSw); have hcs := LeAt.cells hSw; obtain ⟨y0, y1, y2, y3, y4, y5, y6, y7⟩ := hcs; clear hSw; go_simp; first | done | (with_reducible rfl)
  try simp only [Act.put, List.getElem_toArray, List.getElem_cons_zero, List.getElem_cons_succ, List.setIfInBounds_toArray, List.set_cons_zero, List.set_cons_succ]
  refine wpAnyH_take (i := 13) (oi := _) (v := ?_) rfl (by kernel_rfl) (by kernel_rfl) (by kernel_rfl) (fun _ _ _ h => h) (Or.inl ⟨by rfl, ?_⟩) (by assumption) ?_
  case refine_2 => intro w hSw; (try dsimp only at hSw); have hcs := LeAt.cells hSw; obtain ⟨y0, y1, y2, y3, y4, y5, y6, y7⟩ := hcs; clear hSw; go_simp; first | done | (with_reducible rfl)
  try simp only [Act.put, List.getElem_toArray, List.getElem_cons_zero, List.getElem_cons_succ, List.setIfInBounds_toArray, List.set_cons_zero, List.set_cons_succ]
  refine wpAnyH_take (i := 14) (oi := _) (v := ?_) rfl (by kernel_rfl) (by kernel_rfl) (by kernel_rfl) (fun _ _ _ h => h) (Or.inl ⟨by rfl, ?_⟩) (by assumption) ?_
  case refine_2 => intro w hSw; (try dsimp only at hSw); have hcs := LeAt.cells hSw; obtain ⟨y0, y1, y2, y3, y4, y5, y6, y7⟩ := hcs; clear hSw; go_simp; first | done | (with_reducible rfl)
  try simp only [Act.put, List.getElem_toArray, List.getElem_cons_zero, List.getElem_cons_succ, List.setIfInBounds_toArray, List.set_cons_zero, List.set_cons_succ]
  refine wpAnyH_ready (rs := [0]) (by kernel_rfl) (by simp) ?_
  refine AllReadyH.cons rfl (fun K hK => ?_) AllReadyH.nil
  go_simp
  go_at_call 24
  refine (HG00.out.number 4 0 (by decide) ⟨by decide, by decide⟩).mono ?_
  rintro e w2 ⟨p1, rfl, hg1⟩
  have HG1 := Lib.hid hg1
  clear hg1
  refine hK.out _ _ HG1.out.box (fun hHeld => ?_)
  clear hK K
  try simp only [Act.put, List.getElem_toArray, List.getElem_cons_zero, List.getElem_cons_succ, List.setIfInBounds_toArray, List.set_cons_zero, List.set_cons_succ]
  refine wpAnyH_ready (rs := [4]) (by kernel_rfl) (by simp) ?_
  refine AllReadyH.cons rfl (fun K hK => ?_) AllReadyH.nil
  go_simp
  go_at_call 24
  refine (HG1.out.number 8 nv (by decide) hnw).mono ?_
  rintro e w3 ⟨p2, rfl, hg2⟩
  have HG2 := Lib.hid hg2
  clear hg2
  refine hK.out _ _ HG2.out.box (fun hHeld => ?_)
  clear hK K
  try simp only [Act.put, List.getElem_toArray, List.getElem_cons_zero, List.getElem_cons_succ, List.setIfInBounds_toArray, List.set_cons_zero, List.set_cons_succ]
  refine wpAnyH_ready (rs := [5]) (by kernel_rfl) (by simp) ?_
  refine AllReadyH.cons rfl (fun K hK => ?_) AllReadyH.nil
  go_simp
  go_at_call 24
  refine (HG2.out.number 1 17 (by decide) ⟨by decide, by decide⟩).mono ?_
  rintro e w4 ⟨p3, rfl, hg3⟩
  have HG3 := Lib.hid hg3
  clear hg3
  refine hK.out _ _ HG3.out.box (fun hHeld => ?_)
  clear hK K
  try simp only [Act.put, List.getElem_toArray, List.getElem_cons_zero, List.getElem_cons_succ, List.setIfInBounds_toArray, List.set_cons_zero, List.set_cons_succ]
  refine wpAnyH_ready (rs := [6]) (by kernel_rfl) (by simp) ?_
  refine AllReadyH.cons rfl (fun K hK => ?_) AllReadyH.nil
  go_simp
  go_at_call 24
  refine (HG3.out.number 3 0 (by decide) ⟨by decide, by decide⟩).mono ?_
  rintro e w5 ⟨p4, rfl, hg4⟩
  have HG4 := Lib.hid hg4
  clear hg4
  refine hK.out _ _ HG4.out.box (fun hHeld => ?_)
  clear hK K
  try simp only [Act.put, List.getElem_toArray, List.getElem_cons_zero, List.getElem_cons_succ, List.setIfInBounds_toArray, List.set_cons_zero, List.set_cons_succ]
  refine wpAnyH_ready (rs := [9]) (by kernel_rfl) (by simp) ?_
  refine AllReadyH.cons rfl (fun K hK => ?_) AllReadyH.nil
  go_simp
  go_at_call 24
  refine (HG4.out.number 2 l.ins (by decide) HL.out.ins).mono ?_
  rintro e w6 ⟨p5, rfl, hg5⟩
  have HG5 := Lib.hid hg5
  clear hg5
  refine hK.out _ _ HG5.out.box (fun hHeld => ?_)
  clear hK K
  try simp only [Act.put, List.getElem_toArray, List.getElem_cons_zero, List.getElem_cons_succ, List.setIfInBounds_toArray, List.set_cons_zero, List.set_cons_succ]
  refine wpAnyH_ready (rs := [12]) (by kernel_rfl) (by simp) ?_
  refine AllReadyH.cons rfl (fun K hK => ?_) AllReadyH.nil
  go_simp
  go_at_call 24
  refine (HG5.out.number 2 l.prt (by decide) HL.out.prt).mono ?_
  rintro e w7 ⟨p6, rfl, hg6⟩
  have HG6 := Lib.hid hg6
  clear hg6
  refine hK.out _ _ HG6.out.box (fun hHeld => ?_)
  clear hK K
  try simp only [Act.put, List.getElem_toArray, List.getElem_cons_zero, List.getElem_cons_succ, List.setIfInBounds_toArray, List.set_cons_zero, List.set_cons_succ]
  refine wpAnyH_ready (rs := [15]) (by kernel_rfl) (by simp) ?_
  refine AllReadyH.cons rfl (fun K hK => ?_) AllReadyH.nil
  go_simp
  go_at_call 39
  refine (HG6.out.placed l.hst HL.out.hst).mono ?_
  rintro e w8 ⟨p7, rfl, hg7⟩
  have HG7 := Lib.hid hg7
  clear hg7
  refine hK.out _ _ HG7.out.box (fun hHeld => ?_)
  clear hK K
  try simp only [Act.put, List.getElem_toArray, List.getElem_cons_zero, List.getElem_cons_succ, List.setIfInBounds_toArray, List.set_cons_zero, List.set_cons_succ]
  refine wpAnyH_ready (rs := [16]) (by kernel_rfl) (by simp) ?_
  refine AllReadyH.cons rfl (fun K hK => ?_) AllReadyH.nil
  go_simp
  have HJ := Lib.hid (HG7.out.join #[.slice (some ⟨p1, 0, none⟩) 4 4, .slice (some ⟨p2, 0, none⟩) 8 8, .slice (some ⟨p3, 0, none⟩) 1 1, .slice (some ⟨p4, 0, none⟩) 3 3, .slice (some ⟨p5, 0, none⟩) 2 2, .slice (some ⟨p6, 0, none⟩) 2 2, .slice (some ⟨p7, 0, none⟩) 16 16] 38 (by simp [pv]) 7 (by simp) (by simp) (be 4 0 ++ (be 8 nv ++ (be 1 17 ++ (be 3 0 ++ (be 2 l.ins ++ (be 2 l.prt ++ hostR l.hst)))))) (by simp [flat]) (by simp [hostR_length, mapR_length]) (by simp [hostR_length, mapR_length]))
  refine hK.out _ _ (HG7.out.box.below ((Below.refl _ _).alloc (Nat.le_refl _) _) HG7.out.box.lt) (fun hHeld => ?_)
  clear hK K
  try simp only [Act.put, List.getElem_toArray, List.getElem_cons_zero, List.getElem_cons_succ, List.setIfInBounds_toArray, List.set_cons_zero, List.set_cons_succ]
  refine wpAnyH_ready (rs := [17]) (by kernel_rfl) (by simp) ?_
  refine AllReadyH.cons rfl (fun K hK => ?_) AllReadyH.nil
  go_simp
  go_at_call 23
  refine HJ.out.mono ?_
  rintro e w9 ⟨V, rfl, ho, hb, hbox⟩
  rw [hraw] at ho
  have HO := Lib.hid ho
  have HB9 := Lib.hid hb
  clear ho hb
  refine hK.out _ _ hbox (fun hHeld => ?_)
  clear hK K
  try simp only [Act.put, List.getElem_toArray, List.getElem_cons_zero, List.getElem_cons_succ, List.setIfInBounds_toArray, List.set_cons_zero, List.set_cons_succ]
  refine wpAnyH_take (i := 18) (oi := _) (v := ?_) rfl (by kernel_rfl) (by kernel_rfl) (by kernel_rfl) (fun _ _ _ h => h) (Or.inl ⟨by rfl, ?_⟩) (by assumption) ?_
  case refine_2 => intro w hSw; (try dsimp only at hSw); have hcs := LeAt.cells hSw; obtain ⟨y0, y1, y2, y3, y4, y5, y6, y7⟩ := hcs; clear hSw; go_simp; first | done | (with_reducible rfl)
  try simp only [Act.put, List.getElem_toArray, List.getElem_cons_zero, List.getElem_cons_succ, List.setIfInBounds_toArray, List.set_cons_zero, List.set_cons_succ]
  refine wpAnyH_done (by kernel_rfl) ?_ _
  go_wp2
  go_ret
  rw [hlen] at HO
  exact ⟨_, rfl, HO.out, HB9.out⟩
theorem mapR_bd (l : Le) (hl : isL l) : ∀ z ∈ mapR l, 0 ≤ z ∧ z ≤ 255 := by
  unfold mapR
  refine mem_append_bd (by simp) (mem_append_bd (be_bd _ _) (mem_append_bd (by simp) (mem_append_bd (be_bd _ _) (mem_append_bd (be_bd _ _) ?_))))
  rw [← hostR_be _ hl.hst]
  exact be_bd 16 _
theorem Gath.mapped {w W : World} {g : Nat} {l : Le} {ps : Ps} (h : Gath w W g l ps) (m : Le) (hm : isL m) :
    Calls Try.prog 25 #[leV m] W fun e W' => ∃ p c, e = .returned (.slice (some ⟨p, 0, none⟩) 36 c) ∧ Gath w W' g l (ps ++ [(p, 36, c, mapR m)]) := by
  refine (mapping_any m W hm).mono ?_
  rintro e W' ⟨V, rfl, h1, h2⟩
  obtain ⟨p, c, rfl, _, _, _⟩ := own_some h1 (by decide)
  refine ⟨_, _, rfl, h.low.trans (h2.mono h.low.size), h.gle, h.box.below h2 h.box.lt, fun q hq => ?_⟩
  rcases List.mem_append.1 hq with hq | hq
  · exact (h.held q hq).below h2
  · obtain rfl : q = (p, 36, c, mapR m) := by simpa using hq
    obtain ⟨A, c, e, e1, e2, e3⟩ := own_form h1 (mapR_bd m hm)
    cases e
    exact ⟨e3, e1, e2⟩

set_option maxRecDepth 100000 in
set_option maxHeartbeats 4000000 in
theorem pask_yes (l : Le) (c : Int) (w : World) (hl : isL l) (hc : 0 ≤ c ∧ c < 4294967296) (hh : Pas l) : Calls Try.prog 43 #[leV l, .int .u32 c] w fun e w' => ∃ V, e = .returned V ∧ w'.ownsRow w.heap.size 5 1 V ([2, 1, 0, 0] ++ (be 4 l.secs ++ (hostR c ++ mapR l))).length (B ([2, 1, 0, 0] ++ (be 4 l.secs ++ (hostR c ++ mapR l)))) ∧ Below w.heap.size w w' := by
  have HM := Lib.hid (fun W => pmayAsk_any l W hl)
  rw [show decide (Pas l) = true from decide_eq_true hh] at HM
  have hraw : be 1 2 ++ (be 1 1 ++ (be 2 0 ++ (be 4 l.secs ++ (hostR c ++ mapR l)))) = [2, 1, 0, 0] ++ (be 4 l.secs ++ (hostR c ++ mapR l)) := by simp [be]
  clear hh
  have HL := Lib.hid hl; clear hl
  unfold leV leA at *
  go_enter Try.func43, Try.ntmps43
  go_wp2_with fail
  refine (HM.out _).mono ?_
  rintro e w1 ⟨rfl, hb⟩
  have HG0 : Hid (Gath w w1 w.heap.size l []) := Lib.hid ⟨((Below.refl _ w).alloc (Nat.le_refl _) _).trans (hb.mono (by simp)), Nat.le_refl _, (LeAt.new w l).below hb (by simp), by simp⟩
  clear hb
  have HG00 := Lib.hid HG0.out.drew
  go_wp2_with fail
  refine wp_region_held_drew (S := fun W => LeAt W w.heap.size l) (by kernel_rfl) (HG00.out.box) (fun hHeld => ?_)
  refine wpAnyH_take (i := 3) (oi := _) (v := ?_) rfl (by kernel_rfl) (by kernel_rfl) (by kernel_rfl) (fun _ _ _ h => h) (Or.inl ⟨by rfl, ?_⟩) (by assumption) ?_
  case refine_2 => intro w hSw; (try dsimp only at hSw); have hcs := LeAt.cells hSw; obtain ⟨y0, y1, y2, y3, y4, y5, y6, y7⟩ := hcs; clear hSw; go_simp; first | done | (with_reducible rfl)
  try simp only [Act.put, List.getElem_toArray, List.getElem_cons_zero, List.getElem_cons_succ, List.setIfInBounds_toArray, List.set_cons_zero, List.set_cons_succ]
  refine wpAnyH_take (i := 4) (oi := _) (v := ?_) rfl (by kernel_rfl) (by kernel_rfl) (by kernel_rfl) (fun _ _ _ h => h) (Or.inl ⟨by rfl, ?_⟩) (by assumption) ?_
  case refine_2 => intro w hSw; (try dsimp only at hSw); have hcs := LeAt.cells hSw; obtain ⟨y0, y1, y2, y3, y4, y5, y6, y7⟩ := hcs; clear hSw; go_simp; first | done | (with_reducible rfl)
  try simp only [Act.put, List.getElem_toArray, List.getElem_cons_zero, List.getElem_cons_succ, List.setIfInBounds_toArray, List.set_cons_zero, List.set_cons_succ]
  refine wpAnyH_take (i := 6) (oi := _) (v := ?_) rfl (by kernel_rfl) (by kernel_rfl) (by kernel_rfl) (fun _ _ _ h => h) (Or.inl ⟨by rfl, ?_⟩) (by assumption) ?_
  case refine_2 => intro w hSw; (try dsimp only at hSw); have hcs := LeAt.cells hSw; obtain ⟨y0, y1, y2, y3, y4, y5, y6, y7⟩ := hcs; clear hSw; go_simp; first | done | (with_reducible rfl)
  try simp only [Act.put, List.getElem_toArray, List.getElem_cons_zero, List.getElem_cons_succ, List.setIfInBounds_toArray, List.set_cons_zero, List.set_cons_succ]
  refine wpAnyH_take (i := 8) (oi := _) (v := ?_) rfl (by kernel_rfl) (by kernel_rfl) (by kernel_rfl) (fun _ _ _ h => h) (Or.inl ⟨by rfl, ?_⟩) (by assumption) ?_
  case refine_2 => intro w hSw; (try dsimp only at hSw); have hcs := LeAt.cells hSw; obtain ⟨y0, y1, y2, y3, y4, y5, y6, y7⟩ := hcs; clear hSw; go_simp; first | done | (with_reducible rfl)
  try simp only [Act.put, List.getElem_toArray, List.getElem_cons_zero, List.getElem_cons_succ, List.setIfInBounds_toArray, List.set_cons_zero, List.set_cons_succ]
  refine wpAnyH_ready (rs := [0]) (by kernel_rfl) (by simp) ?_
  refine AllReadyH.cons rfl (fun K hK => ?_) AllReadyH.nil
  go_simp
  go_at_call 24
  refine (HG00.out.number 1 2 (by decide) ⟨by decide, by decide⟩).mono ?_
  rintro e w2 ⟨p1, rfl, hg1⟩
  have HG1 := Lib.hid hg1
  clear hg1
  refine hK.out _ _ HG1.out.box (fun hHeld => ?_)
  clear hK K
  try simp only [Act.put, List.getElem_toArray, List.getElem_cons_zero, List.getElem_cons_succ, List.setIfInBounds_toArray, List.set_cons_zero, List.set_cons_succ]
  refine wpAnyH_ready (rs := [1]) (by kernel_rfl) (by simp) ?_
  refine AllReadyH.cons rfl (fun K hK => ?_) AllReadyH.nil
  go_simp
  go_at_call 24
  refine (HG1.out.number 1 1 (by decide) ⟨by decide, by decide⟩).mono ?_
  rintro e w3 ⟨p2, rfl, hg2⟩
  have HG2 := Lib.hid hg2
  clear hg2
  refine hK.out _ _ HG2.out.box (fun hHeld => ?_)
  clear hK K
  try simp only [Act.put, List.getElem_toArray, List.getElem_cons_zero, List.getElem_cons_succ, List.setIfInBounds_toArray, List.set_cons_zero, List.set_cons_succ]
  refine wpAnyH_ready (rs := [2]) (by kernel_rfl) (by simp) ?_
  refine AllReadyH.cons rfl (fun K hK => ?_) AllReadyH.nil
  go_simp
  go_at_call 24
  refine (HG2.out.number 2 0 (by decide) ⟨by decide, by decide⟩).mono ?_
  rintro e w4 ⟨p3, rfl, hg3⟩
  have HG3 := Lib.hid hg3
  clear hg3
  refine hK.out _ _ HG3.out.box (fun hHeld => ?_)
  clear hK K
  try simp only [Act.put, List.getElem_toArray, List.getElem_cons_zero, List.getElem_cons_succ, List.setIfInBounds_toArray, List.set_cons_zero, List.set_cons_succ]
  refine wpAnyH_ready (rs := [5]) (by kernel_rfl) (by simp) ?_
  refine AllReadyH.cons rfl (fun K hK => ?_) AllReadyH.nil
  go_simp
  go_at_call 24
  refine (HG3.out.number 4 l.secs (by decide) HL.out.secs).mono ?_
  rintro e w5 ⟨p4, rfl, hg4⟩
  have HG4 := Lib.hid hg4
  clear hg4
  refine hK.out _ _ HG4.out.box (fun hHeld => ?_)
  clear hK K
  try simp only [Act.put, List.getElem_toArray, List.getElem_cons_zero, List.getElem_cons_succ, List.setIfInBounds_toArray, List.set_cons_zero, List.set_cons_succ]
  refine wpAnyH_ready (rs := [7]) (by kernel_rfl) (by simp) ?_
  refine AllReadyH.cons rfl (fun K hK => ?_) AllReadyH.nil
  go_simp
  go_at_call 39
  refine (HG4.out.placed c hc).mono ?_
  rintro e w6 ⟨p5, rfl, hg5⟩
  have HG5 := Lib.hid hg5
  clear hg5
  refine hK.out _ _ HG5.out.box (fun hHeld => ?_)
  clear hK K
  try simp only [Act.put, List.getElem_toArray, List.getElem_cons_zero, List.getElem_cons_succ, List.setIfInBounds_toArray, List.set_cons_zero, List.set_cons_succ]
  refine wpAnyH_ready (rs := [9]) (by kernel_rfl) (by simp) ?_
  refine AllReadyH.cons rfl (fun K hK => ?_) AllReadyH.nil
  go_simp
  go_at_call 25
  refine (HG5.out.mapped l HL.out).mono ?_
  rintro e w7 ⟨p6, c6, rfl, hg6⟩
  have HG6 := Lib.hid hg6
  clear hg6
  refine hK.out _ _ HG6.out.box (fun hHeld => ?_)
  clear hK K
  try simp only [Act.put, List.getElem_toArray, List.getElem_cons_zero, List.getElem_cons_succ, List.setIfInBounds_toArray, List.set_cons_zero, List.set_cons_succ]
  refine wpAnyH_ready (rs := [10]) (by kernel_rfl) (by simp) ?_
  refine AllReadyH.cons rfl (fun K hK => ?_) AllReadyH.nil
  go_simp
  have HJ := Lib.hid (HG6.out.join #[.slice (some ⟨p1, 0, none⟩) 1 1, .slice (some ⟨p2, 0, none⟩) 1 1, .slice (some ⟨p3, 0, none⟩) 2 2, .slice (some ⟨p4, 0, none⟩) 4 4, .slice (some ⟨p5, 0, none⟩) 16 16, .slice (some ⟨p6, 0, none⟩) 36 c6] 38 (by simp [pv]) 6 (by simp) (by simp) (be 1 2 ++ (be 1 1 ++ (be 2 0 ++ (be 4 l.secs ++ (hostR c ++ mapR l))))) (by simp [flat]) (by simp [hostR_length, mapR_length]) (by simp [hostR_length, mapR_length]))
  refine hK.out _ _ (HG6.out.box.below ((Below.refl _ _).alloc (Nat.le_refl _) _) HG6.out.box.lt) (fun hHeld => ?_)
  clear hK K
  try simp only [Act.put, List.getElem_toArray, List.getElem_cons_zero, List.getElem_cons_succ, List.setIfInBounds_toArray, List.set_cons_zero, List.set_cons_succ]
  refine wpAnyH_ready (rs := [11]) (by kernel_rfl) (by simp) ?_
  refine AllReadyH.cons rfl (fun K hK => ?_) AllReadyH.nil
  go_simp
  go_at_call 23
  refine HJ.out.mono ?_
  rintro e w8 ⟨V, rfl, ho, hb, hbox⟩
  rw [hraw] at ho
  have HO := Lib.hid ho
  have HB9 := Lib.hid hb
  clear ho hb
  refine hK.out _ _ hbox (fun hHeld => ?_)
  clear hK K
  try simp only [Act.put, List.getElem_toArray, List.getElem_cons_zero, List.getElem_cons_succ, List.setIfInBounds_toArray, List.set_cons_zero, List.set_cons_succ]
  refine wpAnyH_take (i := 12) (oi := _) (v := ?_) rfl (by kernel_rfl) (by kernel_rfl) (by kernel_rfl) (fun _ _ _ h => h) (Or.inl ⟨by rfl, ?_⟩) (by assumption) ?_
  case refine_2 => intro w hSw; (try dsimp only at hSw); have hcs := LeAt.cells hSw; obtain ⟨y0, y1, y2, y3, y4, y5, y6, y7⟩ := hcs; clear hSw; go_simp; first | done | (with_reducible rfl)
  try simp only [Act.put, List.getElem_toArray, List.getElem_cons_zero, List.getElem_cons_succ, List.setIfInBounds_toArray, List.set_cons_zero, List.set_cons_succ]
  refine wpAnyH_done (by kernel_rfl) ?_ _
  go_wp2
  go_ret
  exact ⟨_, rfl, HO.out, HB9.out⟩

set_option maxRecDepth 100000 in
set_option maxHeartbeats 4000000 in
theorem pans_yes (l : Le) (w : World) (hl : isL l) (hh : Pan l) : Calls Try.prog 9 #[leV l] w fun e w' => ∃ V, e = .returned V ∧ w'.ownsRow w.heap.size 5 1 V ([2, 129, 0] ++ (be 1 l.res ++ (be 4 l.secs ++ (be 4 l.epo ++ ([0, 0, 0, 0, 0, 0, 0, 0, 0, 0, 0, 0] ++ mapR l))))).length (B ([2, 129, 0] ++ (be 1 l.res ++ (be 4 l.secs ++ (be 4 l.epo ++ ([0, 0, 0, 0, 0, 0, 0, 0, 0, 0, 0, 0] ++ mapR l)))))) ∧ Below w.heap.size w w' := by
  have HM := Lib.hid (fun W => pmayAnswer_any l W hl)
  rw [show decide (Pan l) = true from decide_eq_true hh] at HM
  have hraw : be 1 2 ++ (be 1 129 ++ (be 1 0 ++ (be 1 l.res ++ (be 4 l.secs ++ (be 4 l.epo ++ (be 12 0 ++ mapR l)))))) = [2, 129, 0] ++ (be 1 l.res ++ (be 4 l.secs ++ (be 4 l.epo ++ ([0, 0, 0, 0, 0, 0, 0, 0, 0, 0, 0, 0] ++ mapR l)))) := by simp [be]
  clear hh
  have HL := Lib.hid hl; clear hl
  unfold leV leA at *
  go_enter Try.func9, Try.ntmps9
  go_wp2_with fail
  refine (HM.out _).mono ?_
  rintro e w1 ⟨rfl, hb⟩
  have HG0 : Hid (Gath w w1 w.heap.size l []) := Lib.hid ⟨((Below.refl _ w).alloc (Nat.le_refl _) _).trans (hb.mono (by simp)), Nat.le_refl _, (LeAt.new w l).below hb (by simp), by simp⟩
  clear hb
  have HG00 := Lib.hid HG0.out.drew
  go_wp2_with fail
  refine wp_region_held_drew (S := fun W => LeAt W w.heap.size l) (by kernel_rfl) (HG00.out.box) (fun hHeld => ?_)
  refine wpAnyH_take (i := 3) (oi := _) (v := ?_) rfl (by kernel_rfl) (by kernel_rfl) (by kernel_rfl) (fun _ _ _ h => h) (Or.inl ⟨by rfl, ?_⟩) (by assumption) ?_
  case refine_2 => intro w hSw; (try dsimp only at hSw); have hcs := LeAt.cells hSw; obtain ⟨y0, y1, y2, y3, y4, y5, y6, y7⟩ := hcs; clear hSw; go_simp; first | done | (with_reducible rfl)
  try simp only [Act.put, List.getElem_toArray, List.getElem_cons_zero, List.getElem_cons_succ, List.setIfInBounds_toArray, List.set_cons_zero, List.set_cons_succ]
  refine wpAnyH_take (i := 4) (oi := _) (v := ?_) rfl (by kernel_rfl) (by kernel_rfl) (by kernel_rfl) (fun _ _ _ h => h) (Or.inl ⟨by rfl, ?_⟩) (by assumption) ?_
  case refine_2 => intro w hSw; (try dsimp only at hSw); have hcs := LeAt.cells hSw; obtain ⟨y0, y1, y2, y3, y4, y5, y6, y7⟩ := hcs; clear hSw; go_simp; first | done | (with_reducible rfl)
  try simp only [Act.put, List.getElem_toArray, List.getElem_cons_zero, List.getElem_cons_succ, List.setIfInBounds_toArray, List.set_cons_zero, List.set_cons_succ]
  refine wpAnyH_take (i := 6) (oi := _) (v := ?_) rfl (by kernel_rfl) (by kernel_rfl) (by kernel_rfl) (fun _ _ _ h => h) (Or.inl ⟨by rfl, ?_⟩) (by assumption) ?_
  case refine_2 => intro w hSw; (try dsimp only at hSw); have hcs := LeAt.cells hSw; obtain ⟨y0, y1, y2, y3, y4, y5, y6, y7⟩ := hcs; clear hSw; go_simp; first | done | (with_reducible rfl)
  try simp only [Act.put, List.getElem_toArray, List.getElem_cons_zero, List.getElem_cons_succ, List.setIfInBounds_toArray, List.set_cons_zero, List.set_cons_succ]
  refine wpAnyH_take (i := 7) (oi := _) (v := ?_) rfl (by kernel_rfl) (by kernel_rfl) (by kernel_rfl) (fun _ _ _ h => h) (Or.inl ⟨by rfl, ?_⟩) (by assumption) ?_
  case refine_2 => intro w hSw; (try dsimp only at hSw); have hcs := LeAt.cells hSw; obtain ⟨y0, y1, y2, y3, y4, y5, y6, y7⟩ := hcs; clear hSw; go_simp; first | done | (with_reducible rfl)
  try simp only [Act.put, List.getElem_toArray, List.getElem_cons_zero, List.getElem_cons_succ, List.setIfInBounds_toArray, List.set_cons_zero, List.set_cons_succ]
  refine wpAnyH_take (i := 9) (oi := _) (v := ?_) rfl (by kernel_rfl) (by kernel_rfl) (by kernel_rfl) (fun _ _ _ h => h) (Or.inl ⟨by rfl, ?_⟩) (by assumption) ?_
  case refine_2 => intro w hSw; (try dsimp only at hSw); have hcs := LeAt.cells hSw; obtain ⟨y0, y1, y2, y3, y4, y5, y6, y7⟩ := hcs; clear hSw; go_simp; first | done | (with_reducible rfl)
  try simp only [Act.put, List.getElem_toArray, List.getElem_cons_zero, List.getElem_cons_succ, List.setIfInBounds_toArray, List.set_cons_zero, List.set_cons_succ]
  refine wpAnyH_take (i := 10) (oi := _) (v := ?_) rfl (by kernel_rfl) (by kernel_rfl) (by kernel_rfl) (fun _ _ _ h => h) (Or.inl ⟨by rfl, ?_⟩) (by assumption) ?_
  case refine_2 => intro w hSw; (try dsimp only at hSw); have hcs := LeAt.cells hSw; obtain ⟨y0, y1, y2, y3, y4, y5, y6, y7⟩ := hcs; clear hSw; go_simp; first | done | (with_reducible rfl)
  try simp only [Act.put, List.getElem_toArray, List.getElem_cons_zero, List.getElem_cons_succ, List.setIfInBounds_toArray, List.set_cons_zero, List.set_cons_succ]
  refine wpAnyH_take (i := 13) (oi := _) (v := ?_) rfl (by kernel_rfl) (by kernel_rfl) (by kernel_rfl) (fun _ _ _ h => h) (Or.inl ⟨by rfl, ?_⟩) (by assumption) ?_
  case refine_2 => intro w hSw; (try dsimp only at hSw); have hcs := LeAt.cells hSw; obtain ⟨y0, y1, y2, y3, y4, y5, y6, y7⟩ := hcs; clear hSw; go_simp; first | done | (with_reducible rfl)
  try simp only [Act.put, List.getElem_toArray, List.getElem_cons_zero, List.getElem_cons_succ, List.setIfInBounds_toArray, List.set_cons_zero, List.set_cons_succ]
  refine wpAnyH_ready (rs := [0]) (by kernel_rfl) (by simp) ?_
  refine AllReadyH.cons rfl (fun K hK => ?_) AllReadyH.nil
  go_simp
  go_at_call 24
  refine (HG00.out.number 1 2 (by decide) ⟨by decide, by decide⟩).mono ?_
  rintro e w2 ⟨p1, rfl, hg1⟩
  have HG1 := Lib.hid hg1
  clear hg1
  refine hK.out _ _ HG1.out.box (fun hHeld => ?_)
  clear hK K
  try simp only [Act.put, List.getElem_toArray, List.getElem_cons_zero, List.getElem_cons_succ, List.setIfInBounds_toArray, List.set_cons_zero, List.set_cons_succ]
  refine wpAnyH_ready (rs := [1]) (by kernel_rfl) (by simp) ?_
  refine AllReadyH.cons rfl (fun K hK => ?_) AllReadyH.nil
  go_simp
  go_at_call 24
  refine (HG1.out.number 1 129 (by decide) ⟨by decide, by decide⟩).mono ?_
  rintro e w3 ⟨p2, rfl, hg2⟩
  have HG2 := Lib.hid hg2
  clear hg2
  refine hK.out _ _ HG2.out.box (fun hHeld => ?_)
  clear hK K
  try simp only [Act.put, List.getElem_toArray, List.getElem_cons_zero, List.getElem_cons_succ, List.setIfInBounds_toArray, List.set_cons_zero, List.set_cons_succ]
  refine wpAnyH_ready (rs := [2]) (by kernel_rfl) (by simp) ?_
  refine AllReadyH.cons rfl (fun K hK => ?_) AllReadyH.nil
  go_simp
  go_at_call 24
  refine (HG2.out.number 1 0 (by decide) ⟨by decide, by decide⟩).mono ?_
  rintro e w4 ⟨p3, rfl, hg3⟩
  have HG3 := Lib.hid hg3
  clear hg3
  refine hK.out _ _ HG3.out.box (fun hHeld => ?_)
  clear hK K
  try simp only [Act.put, List.getElem_toArray, List.getElem_cons_zero, List.getElem_cons_succ, List.setIfInBounds_toArray, List.set_cons_zero, List.set_cons_succ]
  refine wpAnyH_ready (rs := [5]) (by kernel_rfl) (by simp) ?_
  refine AllReadyH.cons rfl (fun K hK => ?_) AllReadyH.nil
  go_simp
  go_at_call 24
  refine (HG3.out.number 1 l.res (by decide) HL.out.res).mono ?_
  rintro e w5 ⟨p4, rfl, hg4⟩
  have HG4 := Lib.hid hg4
  clear hg4
  refine hK.out _ _ HG4.out.box (fun hHeld => ?_)
  clear hK K
  try simp only [Act.put, List.getElem_toArray, List.getElem_cons_zero, List.getElem_cons_succ, List.setIfInBounds_toArray, List.set_cons_zero, List.set_cons_succ]
  refine wpAnyH_ready (rs := [8]) (by kernel_rfl) (by simp) ?_
  refine AllReadyH.cons rfl (fun K hK => ?_) AllReadyH.nil
  go_simp
  go_at_call 24
  refine (HG4.out.number 4 l.secs (by decide) HL.out.secs).mono ?_
  rintro e w6 ⟨p5, rfl, hg5⟩
  have HG5 := Lib.hid hg5
  clear hg5
  refine hK.out _ _ HG5.out.box (fun hHeld => ?_)
  clear hK K
  try simp only [Act.put, List.getElem_toArray, List.getElem_cons_zero, List.getElem_cons_succ, List.setIfInBounds_toArray, List.set_cons_zero, List.set_cons_succ]
  refine wpAnyH_ready (rs := [11]) (by kernel_rfl) (by simp) ?_
  refine AllReadyH.cons rfl (fun K hK => ?_) AllReadyH.nil
  go_simp
  go_at_call 24
  refine (HG5.out.number 4 l.epo (by decide) HL.out.epo).mono ?_
  rintro e w7 ⟨p6, rfl, hg6⟩
  have HG6 := Lib.hid hg6
  clear hg6
  refine hK.out _ _ HG6.out.box (fun hHeld => ?_)
  clear hK K
  try simp only [Act.put, List.getElem_toArray, List.getElem_cons_zero, List.getElem_cons_succ, List.setIfInBounds_toArray, List.set_cons_zero, List.set_cons_succ]
  refine wpAnyH_ready (rs := [12]) (by kernel_rfl) (by simp) ?_
  refine AllReadyH.cons rfl (fun K hK => ?_) AllReadyH.nil
  go_simp
  go_at_call 24
  refine (HG6.out.number 12 0 (by decide) ⟨by decide, by decide⟩).mono ?_
  rintro e w8 ⟨p7, rfl, hg7⟩
  have HG7 := Lib.hid hg7
  clear hg7
  refine hK.out _ _ HG7.out.box (fun hHeld => ?_)
  clear hK K
  try simp only [Act.put, List.getElem_toArray, List.getElem_cons_zero, List.getElem_cons_succ, List.setIfInBounds_toArray, List.set_cons_zero, List.set_cons_succ]
  refine wpAnyH_ready (rs := [14]) (by kernel_rfl) (by simp) ?_
  refine AllReadyH.cons rfl (fun K hK => ?_) AllReadyH.nil
  go_simp
  go_at_call 25
  refine (HG7.out.mapped l HL.out).mono ?_
  rintro e w9 ⟨p8, c8, rfl, hg8⟩
  have HG8 := Lib.hid hg8
  clear hg8
  refine hK.out _ _ HG8.out.box (fun hHeld => ?_)
  clear hK K
  try simp only [Act.put, List.getElem_toArray, List.getElem_cons_zero, List.getElem_cons_succ, List.setIfInBounds_toArray, List.set_cons_zero, List.set_cons_succ]
  refine wpAnyH_ready (rs := [15]) (by kernel_rfl) (by simp) ?_
  refine AllReadyH.cons rfl (fun K hK => ?_) AllReadyH.nil
  go_simp
  have HJ := Lib.hid (HG8.out.join #[.slice (some ⟨p1, 0, none⟩) 1 1, .slice (some ⟨p2, 0, none⟩) 1 1, .slice (some ⟨p3, 0, none⟩) 1 1, .slice (some ⟨p4, 0, none⟩) 1 1, .slice (some ⟨p5, 0, none⟩) 4 4, .slice (some ⟨p6, 0, none⟩) 4 4, .slice (some ⟨p7, 0, none⟩) 12 12, .slice (some ⟨p8, 0, none⟩) 36 c8] 38 (by simp [pv]) 8 (by simp) (by simp) (be 1 2 ++ (be 1 129 ++ (be 1 0 ++ (be 1 l.res ++ (be 4 l.secs ++ (be 4 l.epo ++ (be 12 0 ++ mapR l))))))) (by simp [flat]) (by simp [hostR_length, mapR_length]) (by simp [hostR_length, mapR_length]))
  refine hK.out _ _ (HG8.out.box.below ((Below.refl _ _).alloc (Nat.le_refl _) _) HG8.out.box.lt) (fun hHeld => ?_)
  clear hK K
  try simp only [Act.put, List.getElem_toArray, List.getElem_cons_zero, List.getElem_cons_succ, List.setIfInBounds_toArray, List.set_cons_zero, List.set_cons_succ]
  refine wpAnyH_ready (rs := [16]) (by kernel_rfl) (by simp) ?_
  refine AllReadyH.cons rfl (fun K hK => ?_) AllReadyH.nil
  go_simp
  go_at_call 23
  refine HJ.out.mono ?_
  rintro e w10 ⟨V, rfl, ho, hb, hbox⟩
  rw [hraw] at ho
  have HO := Lib.hid ho
  have HB9 := Lib.hid hb
  clear ho hb
  refine hK.out _ _ hbox (fun hHeld => ?_)
  clear hK K
  try simp only [Act.put, List.getElem_toArray, List.getElem_cons_zero, List.getElem_cons_succ, List.setIfInBounds_toArray, List.set_cons_zero, List.set_cons_succ]
  refine wpAnyH_take (i := 17) (oi := _) (v := ?_) rfl (by kernel_rfl) (by kernel_rfl) (by kernel_rfl) (fun _ _ _ h => h) (Or.inl ⟨by rfl, ?_⟩) (by assumption) ?_
  case refine_2 => intro w hSw; (try dsimp only at hSw); have hcs := LeAt.cells hSw; obtain ⟨y0, y1, y2, y3, y4, y5, y6, y7⟩ := hcs; clear hSw; go_simp; first | done | (with_reducible rfl)
  try simp only [Act.put, List.getElem_toArray, List.getElem_cons_zero, List.getElem_cons_succ, List.setIfInBounds_toArray, List.set_cons_zero, List.set_cons_succ]
  refine wpAnyH_done (by kernel_rfl) ?_ _
  go_wp2
  go_ret
  exact ⟨_, rfl, HO.out, HB9.out⟩

theorem pask_no (l : Le) (c : Int) (w : World) (hl : isL l) (hh : ¬ Pas l) : Calls Try.prog 43 #[leV l, .int .u32 c] w fun e w' => ∃ V, e = .returned V ∧ w'.ownsRow w.heap.size 5 1 V ([] : List Int).length (B []) ∧ Below w.heap.size w w' := by
  have HM := Lib.hid (fun W => pmayAsk_any l W hl)
  rw [show decide (Pas l) = false from decide_eq_false hh] at HM
  clear hh hl
  unfold leV leA at *
  go_enter Try.func43, Try.ntmps43
  go_wp2_with fail
  refine (HM.out _).mono ?_
  rintro e w1 ⟨rfl, hb⟩
  have HB9 : Hid (Below w.heap.size w w1) := Lib.hid (((Below.refl _ w).alloc (Nat.le_refl _) _).trans (hb.mono (by simp)))
  clear hb
  go_wp2
  go_ret
  exact ⟨_, rfl, World.ownsRow_nil _ _ _ _, HB9.out⟩

theorem pans_no (l : Le) (w : World) (hl : isL l) (hh : ¬ Pan l) : Calls Try.prog 9 #[leV l] w fun e w' => ∃ V, e = .returned V ∧ w'.ownsRow w.heap.size 5 1 V ([] : List Int).length (B []) ∧ Below w.heap.size w w' := by
  have HM := Lib.hid (fun W => pmayAnswer_any l W hl)
  rw [show decide (Pan l) = false from decide_eq_false hh] at HM
  clear hh hl
  unfold leV leA at *
  go_enter Try.func9, Try.ntmps9
  go_wp2_with fail
  refine (HM.out _).mono ?_
  rintro e w1 ⟨rfl, hb⟩
  have HB9 : Hid (Below w.heap.size w w1) := Lib.hid (((Below.refl _ w).alloc (Nat.le_refl _) _).trans (hb.mono (by simp)))
  clear hb
  go_wp2
  go_ret
  exact ⟨_, rfl, World.ownsRow_nil _ _ _ _, HB9.out⟩

/-- Ask -/
theorem pask_any (l : Le) (c : Int) (w : World) (hl : isL l) (hc : 0 ≤ c ∧ c < 4294967296) : Calls Try.prog 43 #[leV l, .int .u32 c] w fun e w' => ∃ V, e = .returned V ∧ w'.ownsRow w.heap.size 5 1 V (paskR l c).length (B (paskR l c)) ∧ Below w.heap.size w w' := by
  unfold paskR
  by_cases hh : Pas l
  · rw [if_pos hh]; exact pask_yes l c w hl hc hh
  · rw [if_neg hh]; exact pask_no l c w hl hh
/-- Answer -/
theorem panswer_any (l : Le) (w : World) (hl : isL l) : Calls Try.prog 9 #[leV l] w fun e w' => ∃ V, e = .returned V ∧ w'.ownsRow w.heap.size 5 1 V (pansR l).length (B (pansR l)) ∧ Below w.heap.size w w' := by
  unfold pansR
  by_cases hh : Pan l
  · rw [if_pos hh]; exact pans_yes l w hl hh
  · rw [if_neg hh]; exact pans_no l w hl hh
end Go.Proofs.Ytfaekiopmfnpkaa.Pp
