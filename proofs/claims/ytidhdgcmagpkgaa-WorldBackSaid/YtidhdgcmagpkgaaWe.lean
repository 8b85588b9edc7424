/-
  Contract of a world's stands: whether each stands where it may, and none next to it has its number. Conditions: as each lemma states.
-/
import Derived.Test.YtidhdgcmagpkgaaWg
import Derived.Test.YtidhdgcmagpkgaaWd
import Derived.Test.YtidhdgcmagpkgaaTip
namespace Go.Proofs.Ytidhdgcmagpkgaa
open Go.RowKit
attribute [local go_sem] Oper.semAt_some
set_option linter.unusedVariables false
set_option linter.unusedSimpArgs false

def okSite (S : List St) (i : Nat) (s : St) : Bool := decide (s.2 = -1) || (decide (s.2 < (i : Int)) && openB S s.2)
def okHost (n : Nat) (s : St) : Bool := !decide (s.1 = 0) && (decide (s.2 = -1) || inB s.2 n)
def standB (S H : List St) : Bool := (List.range S.length).all (fun i => okSite S i (getS S (i : Int))) && (H.all (okHost S.length) && (List.range (S ++ H).length).all (fun i => decide (idxS (S ++ H) (getS (S ++ H) (i : Int)) = (i : Int))))
theorem stand_f1 {S H : List St} {i : Nat} {s : St} (h : S[i]? = some s) (hb : okSite S i s = false) : standB S H = false := by
  unfold standB
  have : (List.range S.length).all (fun i => okSite S i (getS S (i : Int))) = false := by
    rw [List.all_eq_false]
    exact ⟨i, List.mem_range.2 (List.getElem?_eq_some_iff.1 h).1, by rw [getS_at h, hb]; simp⟩
  rw [this]; rfl
theorem stand_f2 {S H : List St} {s : St} (h : s ∈ H) (hb : okHost S.length s = false) : standB S H = false := by
  unfold standB
  have : H.all (okHost S.length) = false := by
    rw [List.all_eq_false]
    exact ⟨s, h, by rw [hb]; simp⟩
  rw [this]; simp
theorem stand_f3 {S H : List St} {i : Nat} {s : St} (h : (S ++ H)[i]? = some s) (hb : ¬ idxS (S ++ H) s = (i : Int)) : standB S H = false := by
  unfold standB
  have : (List.range (S ++ H).length).all (fun i => decide (idxS (S ++ H) (getS (S ++ H) (i : Int)) = (i : Int))) = false := by
    rw [List.all_eq_false]
    exact ⟨i, List.mem_range.2 (List.getElem?_eq_some_iff.1 h).1, by rw [getS_at h]; simpa using hb⟩
  rw [this]; simp
theorem stand_t {S H : List St} (h1 : ∀ (i : Nat) s, S[i]? = some s → okSite S i s = true) (h2 : ∀ s ∈ H, okHost S.length s = true) (h3 : ∀ (i : Nat) s, (S ++ H)[i]? = some s → idxS (S ++ H) s = (i : Int)) : standB S H = true := by
  unfold standB
  rw [Bool.and_eq_true, Bool.and_eq_true, List.all_eq_true, List.all_eq_true, List.all_eq_true]
  refine ⟨fun i hi => ?_, h2, fun i hi => ?_⟩
  · have hi := List.mem_range.1 hi
    rw [getS_at (List.getElem?_eq_getElem hi)]
    exact h1 i _ (List.getElem?_eq_getElem hi)
  · have hi := List.mem_range.1 hi
    rw [getS_at (List.getElem?_eq_getElem hi)]
    simpa using h3 i _ (List.getElem?_eq_getElem hi)
section
variable {w0 V V' : World} {wb : Nat} {bv sv hv : Value} {S H : List St} {bs : List Bp} {now now' : Int} {os : List (Nat × Obj)}
set_option maxRecDepth 100000 in
set_option maxHeartbeats 8000000 in
theorem stands_any (h : Wp w0 wb bv sv hv S H bs now os V) (hS : bs.length = S.length) (h16 : S.length ≤ 16) (hH16 : H.length ≤ 16) : Calls Try.prog 16 #[.pointer (some ⟨wb, 0, none⟩)] V fun e V' => e = .returned (.bool (standB S H)) ∧ Wp w0 wb bv sv hv S H bs now os V' := by
  obtain ⟨As, cs, rfl, hs1, hs2, hsat, hsn⟩ := h.sites.1
  obtain ⟨Ah, ch, rfl, hh1, hh2, hhat, hhn⟩ := h.sites.2
  have t1 := h.top.2.1
  have t2 := h.top.2.2.1
  have HW := Lib.hid h
  have HSA := Lib.hid hsat; have HHA := Lib.hid hhat
  have hwl := World.block_lt_of_cell? V _ t1
  have HSN := Lib.hid hsn; have HHN := Lib.hid hhn
  obtain ⟨n, hn⟩ : ∃ n, S.length = n := ⟨_, rfl⟩
  obtain ⟨m, hm⟩ : ∃ m, H.length = m := ⟨_, rfl⟩
  have HNM : Hid (S.length = n ∧ H.length = m) := Lib.hid ⟨hn, hm⟩
  unfold maxLen at hs2 hh2
  rw [hn] at hs1 h16 t1
  rw [hm] at hh1 hH16 t2
  have HC : Hid (∀ W, Below V.heap.size V W → W.cell? ⟨wb, 1, none⟩ = some (.slice As n cs) ∧ W.cell? ⟨wb, 2, none⟩ = some (.slice Ah m ch)) := Lib.hid (fun W hb => ⟨(hb.cell (p := ⟨wb, 1, none⟩) hwl).trans t1, (hb.cell (p := ⟨wb, 2, none⟩) hwl).trans t2⟩)
  clear h hsat hhat hsn hhn hn hm
  go_enter Try.func16, Try.ntmps16
  go_wp2
  go_loopg [15] n (fun gg s15 wr => ∃ k : Nat, k ≤ n ∧ n - k ≤ gg ∧ s15 = .int .i64 (k : Int) ∧ Hid (Below V.heap.size V wr) ∧ Hid (∀ (i : Nat) s, i < k → S[i]? = some s → okSite S i s = true))
  case atStart => exact ⟨0, by omega, by omega, rfl, Lib.hid (Below.refl _ _), Lib.hid (fun i s hi => by omega)⟩
  case round =>
    obtain ⟨k, hk, hkg, rfl, HB, HO⟩ := hrel
    have hwr := HB.out.size
    by_cases hkn : k < n
    · obtain ⟨⟨q1, q2⟩, hs⟩ : ∃ s, S[k]? = some s := ⟨_, List.getElem?_eq_getElem (by have := HNM.out.1; omega)⟩
      have hkz : (k : Int) < (n : Int) := by omega
      obtain ⟨sb, so, rfl, hsb, hsc⟩ := HSA.out (by have := HNM.out.1; omega)
      obtain ⟨u0, u1⟩ := hsc k _ hs
      have v0 := (HB.out.cell (p := ⟨sb, so + k * 2, none⟩) hsb).trans u0
      have v1 := (HB.out.cell (p := ⟨sb, so + k * 2 + 1, none⟩) hsb).trans u1
      dsimp only at v0 v1
      have hsw : sb < wr.heap.size := Nat.lt_of_lt_of_le hsb hwr
      have HBA : Hid (∀ o, Below V.heap.size V (wr.alloc o)) := Lib.hid (fun o => HB.out.alloc hwr o)
      have HF := Lib.hid (fun hb => stand_f1 (H := H) hs hb)
      have HNX : Hid (okSite S k (q1, q2) = true → ∀ (i : Nat) s, i < k + 1 → S[i]? = some s → okSite S i s = true) := Lib.hid (fun he i s hi hi2 => by
        rcases Nat.lt_or_ge i k with h' | h'
        · exact HO.out i s h' hi2
        · obtain rfl : i = k := by omega
          rw [hs] at hi2
          cases hi2
          exact he)
      have HOP := Lib.hid (fun o => open_any (HW.out.below (HBA.out o)) (by have := HNM.out.1; omega) hS q2)
      clear hsc hs u0 u1 t1 t2
      by_cases a1 : q2 = -1
      · subst a1
        have HE : Hid (okSite S k (q1, -1) = true) := Lib.hid (by unfold okSite; simp)
        go_wp2
        go_roundg (n - (k + 1))
        case measure => omega
        case rel => exact ⟨k + 1, by omega, by omega, by go_num, HBA.out _, HNX.out HE.out⟩
      · have a1b : (q2 != (-1 : Int)) = true := by simpa using a1
        by_cases a2 : (k : Int) ≤ q2
        · have HE : Hid (standB S H = false) := Lib.hid (HF.out (by unfold okSite; simp [a1]; omega))
          go_wp2
          go_ret
          exact ⟨by first | (rw [HE.out]; done) | (rw [HE.out]; rfl), HW.out.below (HBA.out _)⟩
        · have a2b : ¬ (k : Int) ≤ q2 := a2
          go_wp2_with fail
          refine (HOP.out _).mono ?_
          rintro e w1 ⟨rfl, rfl⟩
          cases ho : openB S q2 with
          | false =>
            have HE : Hid (standB S H = false) := Lib.hid (HF.out (by unfold okSite; simp [a1, ho]))
            clear ho
            go_wp2
            go_ret
            exact ⟨by first | (rw [HE.out]; done) | (rw [HE.out]; rfl), HW.out.below (HBA.out _)⟩
          | true =>
            have HE : Hid (okSite S k (q1, q2) = true) := Lib.hid (by unfold okSite; simp [a1, ho]; omega)
            clear ho
            go_wp2
            go_roundg (n - (k + 1))
            case measure => omega
            case rel => exact ⟨k + 1, by omega, by omega, by go_num, HBA.out _, HNX.out HE.out⟩
    · obtain rfl : k = n := by omega
      have HO1 : Hid (∀ (i : Nat) s, S[i]? = some s → okSite S i s = true) := Lib.hid (fun i s hi => HO.out i s (by have := (List.getElem?_eq_some_iff.1 hi).1; have := HNM.out.1; omega) hi)
      obtain ⟨d1, d2⟩ := HC.out _ HB.out
      clear t1 t2 HO
      go_wp2
      go_loopg [42] m (fun gg s42 wr => ∃ j : Nat, j ≤ m ∧ m - j ≤ gg ∧ s42 = .int .i64 (j : Int) ∧ Hid (Below V.heap.size V wr) ∧ Hid (∀ (i : Nat) s, i < j → H[i]? = some s → okHost S.length s = true))
      case atStart => exact ⟨0, by omega, by omega, rfl, HB, Lib.hid (fun i s hi => by omega)⟩
      case round =>
        obtain ⟨j, hj, hjg, rfl, HB2, HO⟩ := hrel
        have hwr2 := HB2.out.size
        clear d1 d2
        by_cases hjm : j < m
        · obtain ⟨⟨q1, q2⟩, hs⟩ : ∃ s, H[j]? = some s := ⟨_, List.getElem?_eq_getElem (by have := HNM.out.2; omega)⟩
          have hjz : (j : Int) < (m : Int) := by omega
          obtain ⟨sb, so, rfl, hsb, hsc⟩ := HHA.out (by have := HNM.out.2; omega)
          obtain ⟨u0, u1⟩ := hsc j _ hs
          have v0 := (HB2.out.cell (p := ⟨sb, so + j * 2, none⟩) hsb).trans u0
          have v1 := (HB2.out.cell (p := ⟨sb, so + j * 2 + 1, none⟩) hsb).trans u1
          dsimp only at v0 v1
          have hsw : sb < wr.heap.size := Nat.lt_of_lt_of_le hsb hwr2
          have HBA : Hid (∀ o, Below V.heap.size V (wr.alloc o)) := Lib.hid (fun o => HB2.out.alloc hwr2 o)
          have HF := Lib.hid (fun hb => stand_f2 (S := S) (List.mem_of_getElem? hs) hb)
          have HNX : Hid (okHost S.length (q1, q2) = true → ∀ (i : Nat) s, i < j + 1 → H[i]? = some s → okHost S.length s = true) := Lib.hid (fun he i s hi hi2 => by
            rcases Nat.lt_or_ge i j with h' | h'
            · exact HO.out i s h' hi2
            · obtain rfl : i = j := by omega
              rw [hs] at hi2
              cases hi2
              exact he)
          have HOP := Lib.hid (fun o => isBox_wp (HW.out.below (HBA.out o)) (by have := HNM.out.1; omega) q2)
          rw [hS] at HOP
          clear hsc hs u0 u1
          by_cases a0 : q1 = 0
          · subst a0
            have HE : Hid (standB S H = false) := Lib.hid (HF.out (by unfold okHost; simp))
            go_wp2
            go_ret
            exact ⟨by first | (rw [HE.out]; done) | (rw [HE.out]; rfl), HW.out.below (HBA.out _)⟩
          · have a0b : (q1 == (0 : Int)) = false := by simpa using a0
            by_cases a1 : q2 = -1
            · subst a1
              have HE : Hid (okHost S.length (q1, -1) = true) := Lib.hid (by unfold okHost; simp [a0])
              go_wp2
              go_roundg (m - (j + 1))
              case measure => omega
              case rel => exact ⟨j + 1, by omega, by omega, by go_num, HBA.out _, HNX.out HE.out⟩
            · have a1b : (q2 != (-1 : Int)) = true := by simpa using a1
              go_wp2_with fail
              refine (HOP.out _).mono ?_
              rintro e w1 ⟨rfl, rfl⟩
              cases ho : inB q2 S.length with
              | false =>
                have HE : Hid (standB S H = false) := Lib.hid (HF.out (by unfold okHost; simp [a0, a1, ho]))
                clear ho
                go_wp2
                go_ret
                exact ⟨by first | (rw [HE.out]; done) | (rw [HE.out]; rfl), HW.out.below (HBA.out _)⟩
              | true =>
                have HE : Hid (okHost S.length (q1, q2) = true) := Lib.hid (by unfold okHost; simp [a0, a1, ho])
                clear ho
                go_wp2
                go_roundg (m - (j + 1))
                case measure => omega
                case rel => exact ⟨j + 1, by omega, by omega, by go_num, HBA.out _, HNX.out HE.out⟩
        · obtain rfl : j = m := by omega
          have HO2 : Hid (∀ s ∈ H, okHost S.length s = true) := Lib.hid (fun s hs => by
            obtain ⟨i, hi⟩ := List.getElem?_of_mem hs
            exact HO.out i s (by have := (List.getElem?_eq_some_iff.1 hi).1; have := HNM.out.2; omega) hi)
          obtain ⟨d1, d2⟩ := HC.out _ (HB2.out.trans (below_drw (Below.refl _ _) 1))
          obtain ⟨d3, d4⟩ := HC.out _ (below_drw (HB2.out.alloc hwr2 (.cells #[.slice As k cs, .slice Ah j ch] 24)) 1)
          obtain ⟨hn1, hm1⟩ := HNM.out
          have HCON : Hid (∀ W p, Below V.heap.size V W → W.cell? ⟨p, 0, none⟩ = some (.slice As k cs) → W.cell? ⟨p, 1, none⟩ = some (.slice Ah j ch) → Calls Try.prog 28 #[.slice (some ⟨p, 0, none⟩) 2 2] W fun e w' => ∃ v, e = .returned v ∧ w'.ownsRow W.heap.size 42 2 v (S ++ H).length (cellsS (S ++ H)) ∧ Below W.heap.size W w') := Lib.hid (fun W p hb y0 y1 => by
            rw [← hn1] at y0; rw [← hm1] at y1
            exact concat_s p As Ah cs ch S H W y0 y1 (HSA.out.below hb) (HHA.out.below hb) HSN.out HHN.out (by omega) (by omega))
          clear hn1 hm1
          go_wp2_with fail
          refine wp_region_till (S := fun W => W.cell? ⟨wb, 1, none⟩ = some (.slice As k cs) ∧ W.cell? ⟨wb, 2, none⟩ = some (.slice Ah j ch)) (z := 9) (by kernel_rfl) ⟨d1, d2⟩ (fun hHeld => ?_)
          refine till_take (i := 0) (oi := _) (v := ?_) [8, 3, 2, 1] rfl (by kernel_rfl) (by kernel_rfl) (by decide) (by kernel_rfl) (by kernel_rfl) (by kernel_rfl) (fun _ _ _ h => h) (Or.inl ⟨by rfl, ?_⟩) (by assumption) ?_
          case refine_2 => intro w hSw; (try dsimp only at hSw); obtain ⟨z1, z2⟩ := hSw; go_simp; first | done | (with_reducible rfl)
          try simp only [Act.put, List.getElem_toArray, List.getElem_cons_zero, List.setIfInBounds_toArray, List.set_cons_zero, List.set_cons_succ]
          refine till_take (i := 1) (oi := _) (v := ?_) [8, 3, 2] rfl (by kernel_rfl) (by kernel_rfl) (by decide) (by kernel_rfl) (by kernel_rfl) (by kernel_rfl) (fun _ _ _ h => h) (Or.inl ⟨by rfl, ?_⟩) (by assumption) ?_
          case refine_2 => intro w hSw; (try dsimp only at hSw); obtain ⟨z1, z2⟩ := hSw; go_simp; first | done | (with_reducible rfl)
          try simp only [Act.put, List.getElem_toArray, List.getElem_cons_zero, List.getElem_cons_succ, List.setIfInBounds_toArray, List.set_cons_zero, List.set_cons_succ]
          refine till_take (i := 2) (oi := _) (v := ?_) [8, 3] rfl (by kernel_rfl) (by kernel_rfl) (by decide) (by kernel_rfl) (by kernel_rfl) (by kernel_rfl) (fun _ _ _ h => h) (Or.inl ⟨by rfl, ?_⟩) (by assumption) ?_
          case refine_2 => intro w hSw; (try dsimp only at hSw); obtain ⟨z1, z2⟩ := hSw; go_simp; first | done | (with_reducible rfl)
          try simp only [Act.put, List.getElem_toArray, List.getElem_cons_zero, List.getElem_cons_succ, List.setIfInBounds_toArray, List.set_cons_zero, List.set_cons_succ]
          refine till_take (i := 3) (oi := _) (v := ?_) [8] rfl (by kernel_rfl) (by kernel_rfl) (by decide) (by kernel_rfl) (by kernel_rfl) (by kernel_rfl) (fun _ _ _ h => h) (Or.inl ⟨by rfl, ?_⟩) (by assumption) ?_
          case refine_2 => intro w hSw; (try dsimp only at hSw); obtain ⟨z1, z2⟩ := hSw; go_simp; first | done | (with_reducible rfl)
          try simp only [Act.put, List.getElem_toArray, List.getElem_cons_zero, List.getElem_cons_succ, List.setIfInBounds_toArray, List.set_cons_zero, List.set_cons_succ]
          refine till_take (i := 4) (oi := _) (v := ?_) [8, 7, 6, 5] rfl (by kernel_rfl) (by kernel_rfl) (by decide) (by kernel_rfl) (by kernel_rfl) (by kernel_rfl) (fun _ _ _ h => h) (Or.inl ⟨by rfl, ?_⟩) (by assumption) ?_
          case refine_2 => intro w hSw; (try dsimp only at hSw); obtain ⟨z1, z2⟩ := hSw; go_simp; first | done | (with_reducible rfl)
          try simp only [Act.put, List.getElem_toArray, List.getElem_cons_zero, List.getElem_cons_succ, List.setIfInBounds_toArray, List.set_cons_zero, List.set_cons_succ]
          refine till_take (i := 5) (oi := _) (v := ?_) [8, 7, 6] rfl (by kernel_rfl) (by kernel_rfl) (by decide) (by kernel_rfl) (by kernel_rfl) (by kernel_rfl) (fun _ _ _ h => h) (Or.inl ⟨by rfl, ?_⟩) (by assumption) ?_
          case refine_2 => intro w hSw; (try dsimp only at hSw); obtain ⟨z1, z2⟩ := hSw; go_simp; first | done | (with_reducible rfl)
          try simp only [Act.put, List.getElem_toArray, List.getElem_cons_zero, List.getElem_cons_succ, List.setIfInBounds_toArray, List.set_cons_zero, List.set_cons_succ]
          refine till_take (i := 6) (oi := _) (v := ?_) [8, 7] rfl (by kernel_rfl) (by kernel_rfl) (by decide) (by kernel_rfl) (by kernel_rfl) (by kernel_rfl) (fun _ _ _ h => h) (Or.inl ⟨by rfl, ?_⟩) (by assumption) ?_
          case refine_2 => intro w hSw; (try dsimp only at hSw); obtain ⟨z1, z2⟩ := hSw; go_simp; first | done | (with_reducible rfl)
          try simp only [Act.put, List.getElem_toArray, List.getElem_cons_zero, List.getElem_cons_succ, List.setIfInBounds_toArray, List.set_cons_zero, List.set_cons_succ]
          refine till_take (i := 7) (oi := _) (v := ?_) [8] rfl (by kernel_rfl) (by kernel_rfl) (by decide) (by kernel_rfl) (by kernel_rfl) (by kernel_rfl) (fun _ _ _ h => h) (Or.inl ⟨by rfl, ?_⟩) (by assumption) ?_
          case refine_2 => intro w hSw; (try dsimp only at hSw); obtain ⟨z1, z2⟩ := hSw; go_simp; first | done | (with_reducible rfl)
          try simp only [Act.put, List.getElem_toArray, List.getElem_cons_zero, List.getElem_cons_succ, List.setIfInBounds_toArray, List.set_cons_zero, List.set_cons_succ]
          refine till_ready (rs := [8]) (by kernel_rfl) (by simp) ?_
          refine TillReady.cons rfl (fun K hK => ?_) TillReady.nil
          go_simp
          refine hK.out _ _ ⟨d3, d4⟩ (fun hHeld => ?_)
          clear hK K
          try simp only [Act.put, List.getElem_toArray, List.getElem_cons_zero, List.getElem_cons_succ, List.setIfInBounds_toArray, List.set_cons_zero, List.set_cons_succ]
          refine till_ready (rs := [9]) (by kernel_rfl) (by simp) ?_
          refine TillReady.past rfl (by kernel_rfl) (fun K hK => ?_) TillReady.nil
          go_simp
          go_at_call 28
          refine (HCON.out _ _ (below_drw (HB2.out.alloc hwr2 (.cells #[.slice As k cs, .slice Ah j ch] 24)) 1) (by exact (cells_of (World.alloc_heap_new wr _) 0).1) (by exact (cells_of (World.alloc_heap_new wr _) 1).1)).mono ?_
          rintro e W1 ⟨va, rfl, hown, hb1⟩
          have HOWN := Lib.hid hown; have HBC := Lib.hid hb1; clear hown hb1
          refine hK.out _ _ ?_
          clear hK K
          try simp only [Act.put, List.getElem_toArray, List.getElem_cons_zero, List.getElem_cons_succ, List.setIfInBounds_toArray, List.set_cons_zero, List.set_cons_succ]
          refine till_pure (i := 10) (oi := _) (v := ?_) rfl (by kernel_rfl) (by decide) (by kernel_rfl) (by kernel_rfl) (fun _ _ _ h => h) (Or.inl ⟨by rfl, ?_⟩) (fun h => absurd h (by decide)) ?_
          case refine_2 => intro w _; go_simp; first | done | (with_reducible rfl)
          try simp only [Act.put, List.getElem_toArray, List.getElem_cons_zero, List.getElem_cons_succ, List.setIfInBounds_toArray, List.set_cons_zero, List.set_cons_succ]
          refine till_done (by kernel_rfl) ?_ _
          obtain ⟨Aa, ca, rfl, ha1, ha2, hat, -⟩ := own_sat HOWN.out
          have HAT := Lib.hid hat
          have HB3 : Hid (Below V.heap.size V W1) := Lib.hid ((below_drw (HB2.out.alloc hwr2 (.cells #[.slice As k cs, .slice Ah j ch] 24)) 1).trans (HBC.out.mono (by have := hwr2; simp; omega)))
          have hL32 : (S ++ H).length ≤ 32 := by rw [List.length_append]; have := HNM.out; omega
          have HF := Lib.hid (fun (i : Nat) s (h1 : (S ++ H)[i]? = some s) hb => stand_f3 (S := S) (H := H) h1 hb)
          have HT := Lib.hid (fun h3 => stand_t (S := S) (H := H) HO1.out HO2.out h3)
          have HST : Hid (∃ r, standB S H = r) := Lib.hid ⟨_, rfl⟩
          obtain ⟨L, hL⟩ : ∃ L, S ++ H = L := ⟨_, rfl⟩
          rw [hL] at HAT HF HT ha1 hL32 ⊢
          have HIX := Lib.hid (fun (W : World) (hb : Below W1.heap.size W1 W) s => index_any Aa ca L s W (HAT.out.below hb) (by omega))
          obtain ⟨q, hq⟩ : ∃ q, L.length = q := ⟨_, rfl⟩
          rw [hq] at ha1 hL32 HIX ⊢
          have HQ := Lib.hid hq
          unfold maxLen at ha2
          clear d1 d2 d3 d4 hat hL hq HOWN HCON
          unfold site at HIX
          go_wp2
          go_loopg [74] q (fun gg s74 wr => ∃ i : Nat, i ≤ q ∧ q - i ≤ gg ∧ s74 = .int .i64 (i : Int) ∧ Hid (Below W1.heap.size W1 wr) ∧ Hid (∀ (j : Nat) s, j < i → L[j]? = some s → idxS L s = (j : Int)))
          case atStart => exact ⟨0, by omega, by omega, rfl, Lib.hid (Below.refl _ _), Lib.hid (fun i s hi => by omega)⟩
          case round =>
            obtain ⟨i, hi, hig, rfl, HB4, HO4⟩ := hrel
            have hwr4 := HB4.out.size
            by_cases hiq : i < q
            · obtain ⟨⟨q1, q2⟩, hs⟩ : ∃ s, L[i]? = some s := ⟨_, List.getElem?_eq_getElem (by have := HQ.out; omega)⟩
              have hiz : (i : Int) < (q : Int) := by omega
              obtain ⟨sb, so, rfl, hsb, hsc⟩ := HAT.out (by have := HQ.out; omega)
              obtain ⟨u0, u1⟩ := hsc i _ hs
              have v0 := (HB4.out.cell (p := ⟨sb, so + i * 2, none⟩) hsb).trans u0
              have v1 := (HB4.out.cell (p := ⟨sb, so + i * 2 + 1, none⟩) hsb).trans u1
              dsimp only at v0 v1
              have hsw : sb < wr.heap.size := Nat.lt_of_lt_of_le hsb hwr4
              have HBA : Hid (∀ o, Below W1.heap.size W1 (wr.alloc o)) := Lib.hid (fun o => HB4.out.alloc hwr4 o)
              have HNX : Hid (idxS L (q1, q2) = (i : Int) → ∀ (j : Nat) s, j < i + 1 → L[j]? = some s → idxS L s = (j : Int)) := Lib.hid (fun he j s hj hj2 => by
                rcases Nat.lt_or_ge j i with h' | h'
                · exact HO4.out j s h' hj2
                · obtain rfl : j = i := by omega
                  rw [hs] at hj2
                  cases hj2
                  exact he)
              have HFX := Lib.hid (HF.out i _ hs)
              clear hsc hs u0 u1
              obtain ⟨y, hy⟩ : ∃ y, idxS L (q1, q2) = y := ⟨_, rfl⟩
              go_wp2_with fail
              refine (HIX.out _ (HBA.out _) (q1, q2)).mono ?_
              rintro e w5 ⟨rfl, hb5⟩
              rw [hy]
              have HB5 := Lib.hid ((HBA.out _).trans (hb5.mono (HBA.out (.cells #[.int .u32 q1, .int .i64 q2] 42)).size))
              clear hb5
              by_cases hyi : y = (i : Int)
              · have hyb : (y != (i : Int)) = false := by simpa using hyi
                have HE := Lib.hid (HNX.out (hy.trans hyi))
                clear hy hyi
                go_wp2
                go_roundg (q - (i + 1))
                case measure => omega
                case rel => exact ⟨i + 1, by omega, by omega, by go_num, HB5, HE⟩
              · have hyb : (y != (i : Int)) = true := by simpa using hyi
                have HE := Lib.hid (HFX.out (by rw [hy]; exact hyi))
                clear hy hyi
                go_wp2
                go_ret
                exact ⟨by first | (rw [HE.out]; done) | (rw [HE.out]; rfl), (HW.out.below HB3.out).below HB5.out⟩
            · obtain rfl : i = q := by omega
              have HE := Lib.hid (HT.out (fun j s hj => HO4.out j s (by have := (List.getElem?_eq_some_iff.1 hj).1; have := HQ.out; omega) hj))
              go_wp2
              go_ret
              exact ⟨by first | (rw [HE.out]; done) | (rw [HE.out]; rfl), (HW.out.below HB3.out).below HB4.out⟩
end
end Go.Proofs.Ytidhdgcmagpkgaa
