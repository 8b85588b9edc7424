/-
  The statement NotaryRows holds: as many texts as are minted for one peer, all unlike, have the tags 1, 2, and so on, and each again has its own. Conditions: none beyond the row's own.
-/
import Derived.Test.YtcinjfmmmmaelaaAwake
import Derived.Test.YtcinjfmmmmaelaaRows
import Derived.WalkKit
import Derived.ProofKit
import Derived.OpenShut
import Derived.ShutString
import Derived.ChangeOld
import Derived.Below
namespace Go.Proofs.Ytcinjfmmmmaelaa.notaryRows
open Go.ChangeShapes Go.WideShapes Go.ChangeAt Go.RowKit
open Go.ChangeMaps (open_string shut_string)
set_option linter.unusedVariables false      -- a walk need not use every 'w<i>' (that an integer argument fits its kind)

theorem own : ownKnob Try.prog.godebug = none := by kernel_rfl

/-- the entries of one peer, the texts [0, 7], [1, 7], and so on -/
def rowsL (p : Int) (n : Nat) : List Item := (List.range n).map fun j : Nat => (p, [(j : Int), 7])
theorem rowsL_len (p : Int) (n : Nat) : (rowsL p n).length = n := by simp [rowsL]
theorem rowsL_at (p : Int) {n j : Nat} (h : j < n) : (rowsL p n)[j]? = some (p, [(j : Int), 7]) := by simp [rowsL, h]
theorem rowsL_mem {p : Int} {n i : Nat} : (p, [(i : Int), 7]) ∈ rowsL p n ↔ i < n := by
  unfold rowsL
  rw [List.mem_map]
  constructor
  · rintro ⟨j, hj, e⟩
    simp only [Prod.mk.injEq, List.cons.injEq] at e
    have := List.mem_range.1 hj
    omega
  · exact fun h => ⟨i, List.mem_range.2 h, rfl⟩
theorem rowsL_no {p : Int} {n i : Nat} : (p, [(i : Int)]) ∉ rowsL p n := by
  unfold rowsL
  rw [List.mem_map]
  rintro ⟨j, hj, e⟩
  simp at e
theorem rowsL_succ (p : Int) (n : Nat) : rowsL p (n + 1) = rowsL p n ++ [(p, [(n : Int), 7])] := by simp [rowsL, List.range_succ]
theorem rowsL_nodup (p : Int) : ∀ n, (rowsL p n).Nodup
  | 0 => by simp [rowsL]
  | n + 1 => by
    rw [rowsL_succ, List.nodup_append]
    refine ⟨rowsL_nodup p n, by simp, ?_⟩
    intro a ha b hb e
    simp only [List.mem_singleton] at hb
    subst hb; subst e
    exact absurd (rowsL_mem.1 ha) (by omega)
theorem rowsL_tag (p : Int) {n i : Nat} (h : i < n) : tagL (rowsL p n) (p, [(i : Int), 7]) = i + 1 := by
  unfold tagL
  have h1 := (rowsL_nodup p n).idxOf_getElem i (by rw [rowsL_len]; exact h)
  have h2 : (rowsL p n)[i]'(by rw [rowsL_len]; exact h) = (p, [(i : Int), 7]) := Option.some.inj ((List.getElem?_eq_getElem (by rw [rowsL_len]; exact h)).symm.trans (rowsL_at p h))
  rw [h2] at h1
  rw [h1]
theorem rowsL_new (p : Int) (n : Nat) : tagL (rowsL p n) (p, [(n : Int), 7]) = n + 1 ∧ mintL (rowsL p n) (p, [(n : Int), 7]) = rowsL p (n + 1) := by
  have h : (p, [(n : Int), 7]) ∉ rowsL p n := fun h => by have := rowsL_mem.1 h; omega
  exact ⟨by rw [tagL_new h, rowsL_len], by rw [mintL, if_neg h, rowsL_succ]⟩

/-- a row of two bytes that has just been laid -/
theorem lit2 (W : World) (x y : Int) (hx : 0 ≤ x ∧ x ≤ 255) (hy : 0 ≤ y ∧ y ≤ 255) : Bts (W.alloc (.cells #[.int .u8 x, .int .u8 y] 5)) (some ⟨W.heap.size, 0, none⟩) 2 [x, y] := by
  refine ⟨rfl, by simp; omega, fun _ => ⟨W.heap.size, 0, rfl, by simp, fun j hj => ?_⟩⟩
  rcases (show j = 0 ∨ j = 1 by omega) with rfl | rfl
  · go_simp
  · go_simp

theorem row_mint (Z nb : Nat) (p : Int) (L L' : List Item) (i : Nat) (w : World) (h : Nota w (Z ≤ ·) nb L) (hZ : Z ≤ w.heap.size) (hp : 1 ≤ p ∧ p ≤ 2147483647) (hi : i < 100) (hL : L.length ≤ 1000000) (ht : tagL L (p, [(i : Int), 7]) = i + 1) (hl : mintL L (p, [(i : Int), 7]) = L') :
    Calls Try.prog 12 #[.pointer (some ⟨nb, 0, none⟩), .int .i64 p, .slice (some ⟨w.heap.size, 0, none⟩) 2 2] (w.alloc (.cells #[.int .u8 (i : Int), .int .u8 7] 5)) fun e w' => e = .returned (.tuple #[.int .u64 ((i : Int) + 1), .int .i64 0]) ∧ Nota w' (Z ≤ ·) nb L' ∧ Below Z w w' :=
  (mint_b Z nb L p _ 2 2 _ _ (h.alloc _) (by simp; omega) hp (by omega) (by unfold maxLen; omega) (lit2 w (i : Int) 7 (by omega) (by omega)) hL (i + 1) L' ht hl).mono fun e w' h' => ⟨h'.1, h'.2.1, ((Below.refl Z w).alloc hZ _).trans h'.2.2⟩
theorem row_check (nb : Nat) (S : Nat → Prop) (L : List Item) (p : Int) (i : Nat) (w : World) (h : Nota w S nb L) (hL : L.length ≤ 1000000) (hi : i < 100) (hr : checkL L (p, [(i : Int), 7]) (i + 1) = 0) :
    Calls Try.prog 10 #[.pointer (some ⟨nb, 0, none⟩), .int .i64 p, .slice (some ⟨w.heap.size, 0, none⟩) 2 2, .int .u64 ((i : Int) + 1)] (w.alloc (.cells #[.int .u8 (i : Int), .int .u8 7] 5)) fun e w' => e = .returned (.int .i64 0) ∧ ∃ q, w' = (w.alloc (.cells #[.int .u8 (i : Int), .int .u8 7] 5)).drewN q :=
  check_b nb S L p _ 2 2 (i + 1) _ _ (h.alloc _) hL (lit2 w (i : Int) 7 (by omega) (by omega)) (by omega) 0 hr
theorem row_no (nb : Nat) (S : Nat → Prop) (L : List Item) (p : Int) (i : Nat) (w : World) (h : Nota w S nb L) (hL : L.length ≤ 1000000) (hi : i < 100) (hr : checkL L (p, [(i : Int)]) (i + 1) = 12) :
    Calls Try.prog 10 #[.pointer (some ⟨nb, 0, none⟩), .int .i64 p, .slice (some ⟨w.heap.size, 0, none⟩) 1 1, .int .u64 ((i : Int) + 1)] (w.alloc (.cells #[.int .u8 (i : Int)] 5)) fun e w' => e = .returned (.int .i64 12) ∧ ∃ q, w' = (w.alloc (.cells #[.int .u8 (i : Int)] 5)).drewN q :=
  check_b nb S L p _ 1 1 (i + 1) _ _ (h.alloc _) hL (lit1 w (i : Int) (by omega)) (by omega) 12 hr
theorem row_count (nb : Nat) (S : Nat → Prop) (L : List Item) (n : Nat) (w : World) (h : Nota w S nb L) (hn : L.length = n) (hL : n ≤ 1000000) : Calls Try.prog 14 #[.pointer (some ⟨nb, 0, none⟩)] w fun e w' => e = .returned (.int .i64 (n : Int)) ∧ w = w' := by
  subst hn
  exact count_any nb S L w h hL
theorem row_count1 (nb : Nat) (S : Nat → Prop) (L : List Item) (n : Nat) (w : World) (h : Nota w S nb L) (hn : L.length = n + 1) (hL : n + 1 ≤ 1000000) : Calls Try.prog 14 #[.pointer (some ⟨nb, 0, none⟩)] w fun e w' => e = .returned (.int .i64 ((n : Int) + 1)) ∧ w = w' :=
  row_count nb S L (n + 1) w h hn hL
theorem checkL_row (p : Int) {n i : Nat} (h : i < n) : checkL (rowsL p n) (p, [(i : Int), 7]) (i + 1) = 0 ∧ checkL (rowsL p n) (p, [(i : Int)]) (i + 1) = 12 := by
  unfold checkL
  rw [show i + 1 - 1 = i by omega, rowsL_at p h]
  simp

set_option maxRecDepth 100000 in
set_option maxHeartbeats 4000000 in
theorem walk (a0 : Int) (a1 : Int) (w0 : (Lit.int .i64 a0).wf = true) (w1 : (Lit.int .u8 a1).wf = true) (w : World) :
    Calls Try.prog 5 #[.int .i64 a0, .int .u8 a1] w fun e w' => e = .returned (.bool true) ∧ Below w.heap.size w w' := by
  have hb1 := wf_u8 w1
  by_cases hp : 1 ≤ a0 ∧ a0 ≤ 2147483647
  · obtain ⟨m, hm, hm2⟩ : ∃ m : Nat, a1 % 100 = (m : Int) ∧ m < 100 := ⟨(a1 % 100).toNat, by omega, by omega⟩
    have hm3 : a1.tmod 100 = (m : Int) := by rw [Int.tmod_eq_emod_of_nonneg (by omega)]; exact hm
    have HP := Lib.hid hp
    obtain ⟨hp1, hp2⟩ := hp
    go_enter Try.func5, Try.ntmps5
    go_wp2_with fail
    refine (awake_any _).mono ?_
    rintro e v1 ⟨rfl, hb2⟩
    have HB1 := Lib.hid hb2; clear hb2
    go_wp2_with fail
    refine (new_any _).mono ?_
    rintro e v2 ⟨nb, rfl, hN2, hb2⟩
    have HN2 : Hid (Nota v2 (w.heap.size ≤ ·) nb []) := Lib.hid (hN2.mono (fun k hk => Nat.le_trans HB1.out.size hk))
    have HB2 : Hid (Below w.heap.size w v2) := Lib.hid (HB1.out.trans (hb2.mono HB1.out.size)); clear hb2 hN2
    go_wp2
    go_loopw [7] (fun i wr => ∃ k : Nat, k ≤ m ∧ i = .int .i64 k ∧ Nota wr (w.heap.size ≤ ·) nb (rowsL a0 k) ∧ Below w.heap.size w wr) (fun i _ => m - (intOf i).toNat)
    case atStart => exact ⟨0, by omega, rfl, HN2.out, HB2.out⟩
    case round =>
      obtain ⟨k, hk, rfl, hN, hB⟩ := hrel
      have HN := Lib.hid hN; have HB := Lib.hid hB; clear hN hB
      by_cases hlt : k < m
      · have e1 : IntKind.u8.wrap (k : Int) = (k : Int) := IntWalk.u8_in _ (by omega)
        have HRN := Lib.hid (rowsL_new a0 k)
        go_wp2_with fail
        refine (row_mint w.heap.size nb a0 (rowsL a0 k) (rowsL a0 (k + 1)) k _ HN.out HB.out.size HP.out (by omega) (by rw [rowsL_len]; omega) HRN.out.1 HRN.out.2).mono ?_
        rintro e v3 ⟨rfl, hN3, hb3⟩
        have HN3 := Lib.hid hN3; have HB3 : Hid (Below w.heap.size w v3) := Lib.hid (HB.out.trans hb3); clear hN3 hb3
        go_wp2_with fail
        refine (row_count1 nb _ _ k _ HN3.out (by rw [rowsL_len]) (by omega)).mono ?_
        rintro e v4 ⟨rfl, rfl⟩
        go_wp2
        go_roundw
        case rel => exact ⟨k + 1, by omega, by go_num, HN3.out, HB3.out⟩
        case measure => simp [intOf]; omega
      · obtain rfl : k = m := by omega
        have HM := Lib.hid hm; have HM3 := Lib.hid hm3; clear hm hm3
        go_wp2
        go_loopw [10] (fun i wx => ∃ j : Nat, j ≤ k ∧ i = .int .i64 j ∧ Nota wx (w.heap.size ≤ ·) nb (rowsL a0 k) ∧ Below w.heap.size w wx) (fun i _ => k - (intOf i).toNat)
        case atStart => exact ⟨0, by omega, rfl, HN.out, HB.out⟩
        case round =>
          obtain ⟨j, hj, rfl, hN, hB⟩ := hrel
          have HN5 := Lib.hid hN; have HB5 := Lib.hid hB; clear hN hB
          by_cases hlt2 : j < k
          · have e1 : IntKind.u8.wrap (j : Int) = (j : Int) := IntWalk.u8_in _ (by omega)
            have HT := Lib.hid (rowsL_tag a0 hlt2)
            have HL : Hid (mintL (rowsL a0 k) (a0, [(j : Int), 7]) = rowsL a0 k) := Lib.hid (by rw [mintL, if_pos (rowsL_mem.2 hlt2)])
            have HC := Lib.hid (checkL_row a0 hlt2)
            go_wp2_with fail
            refine (row_mint w.heap.size nb a0 (rowsL a0 k) (rowsL a0 k) j _ HN5.out HB5.out.size HP.out (by omega) (by rw [rowsL_len]; omega) HT.out HL.out).mono ?_
            rintro e v3 ⟨rfl, hN3, hb3⟩
            have HN3 := Lib.hid hN3; have HB3 : Hid (Below w.heap.size w v3) := Lib.hid (HB5.out.trans hb3); clear hN3 hb3
            go_wp2_with fail
            refine (row_check nb _ _ a0 j _ HN3.out (by rw [rowsL_len]; omega) (by omega) HC.out.1).mono ?_
            rintro e v4 ⟨rfl, q4, rfl⟩
            have HN4 : Hid (Nota ((v3.alloc (.cells #[.int .u8 (j : Int), .int .u8 7] 5)).drewN q4) (w.heap.size ≤ ·) nb (rowsL a0 k)) := Lib.hid ((HN3.out.alloc _).drewN _)
            have HB4 : Hid (Below w.heap.size w ((v3.alloc (.cells #[.int .u8 (j : Int), .int .u8 7] 5)).drewN q4)) := Lib.hid (below_drewN' (HB3.out.alloc HB3.out.size _) _)
            generalize (v3.alloc (.cells #[.int .u8 (j : Int), .int .u8 7] 5)).drewN q4 = v4 at *
            go_wp2_with fail
            refine (row_no nb _ _ a0 j _ HN4.out (by rw [rowsL_len]; omega) (by omega) HC.out.2).mono ?_
            rintro e v5 ⟨rfl, q5, rfl⟩
            have HN6 : Hid (Nota ((v4.alloc (.cells #[.int .u8 (j : Int)] 5)).drewN q5) (w.heap.size ≤ ·) nb (rowsL a0 k)) := Lib.hid ((HN4.out.alloc _).drewN _)
            have HB6 : Hid (Below w.heap.size w ((v4.alloc (.cells #[.int .u8 (j : Int)] 5)).drewN q5)) := Lib.hid (below_drewN' (HB4.out.alloc HB4.out.size _) _)
            generalize (v4.alloc (.cells #[.int .u8 (j : Int)] 5)).drewN q5 = v5 at *
            go_wp2
            go_roundw
            case rel => exact ⟨j + 1, by omega, by go_num, HN6.out, HB6.out⟩
            case measure => simp [intOf]; omega
          · obtain rfl : j = k := by omega
            go_wp2_with fail
            refine (row_count nb _ _ j _ HN5.out (by rw [rowsL_len]) (by omega)).mono ?_
            rintro e v6 ⟨rfl, rfl⟩
            go_wp2
            go_ret
            exact ⟨rfl, HB5.out⟩
  · by_cases h1 : a0 < 1
    · go_enter Try.func5, Try.ntmps5
      go_wp2_with fail
      refine (awake_any _).mono ?_
      rintro e v1 ⟨rfl, hb2⟩
      have HB1 := Lib.hid hb2; clear hb2
      go_wp2
      go_ret
      exact ⟨rfl, HB1.out⟩
    · have h2 : 2147483647 < a0 := by omega
      clear hp
      go_enter Try.func5, Try.ntmps5
      go_wp2_with fail
      refine (awake_any _).mono ?_
      rintro e v1 ⟨rfl, hb2⟩
      have HB1 := Lib.hid hb2; clear hb2
      go_wp2
      go_ret
      exact ⟨rfl, HB1.out⟩

/-! ### THE ROW's STEP: WRITTEN OUT: LEAVE IT -/
set_option maxRecDepth 100000 in
theorem lifted (os : Os) (started : os.Started) (H : Type) (enc : TypeId × Value → H) :
    ReturnsInHanded {} Try.checked os 5 .any (Rows.notaryRowsSpec.pre6 enc Try.prog Try.f5 Rows.notaryRowsRow.domain false) (Rows.notaryRowsSpec.post enc Try.prog Try.f5 false true false false) := by
  refine returnsInHanded_of_change (C := Try.checked) own started (by kernel_rfl) Try.func5
    (ChangeSpec.witness6 (enc := enc) (C := Try.checked) false ⟨#[], #[.int .i64 0, .int .u8 0], []⟩ 8 (by kernel_rfl) (by kernel_rfl) (by kernel_rfl) (by kernel_rfl)) ?_
  intro W base args ds gs before hval0 hW hcnd _
  have hval : ∀ (j : Nat) t v, Try.f5.params[j]? = some t → args[j]? = some v → Value.okWide Try.prog W .any base t v := hval0
  have hW' := hW
  obtain ⟨p, q, hA0, hV, rfl, hfz, hnd⟩ := hW
  have hA : DataW.TrodAll enc Try.prog W 0 (fun _ => true) true Try.f5.params.toList args.toList ds p := hA0
  rw [Try.params5] at hA hval
  obtain ⟨v0, vs0, d0, ds0, p0, q0, hargs, rfl, rfl, h0, r0⟩ := trodAll_cons hA
  obtain ⟨v1, vs1, d1, ds1, p1, q1, rfl, rfl, rfl, h1, r1⟩ := trodAll_cons r0
  obtain ⟨rfl, rfl, rfl⟩ := trodAll_nil r1
  obtain rfl : args = #[v0, v1] := by cases args; simp_all
  obtain ⟨rfl, rfl⟩ := trodVars_none hV
  obtain ⟨a0, rfl, rfl, rfl, w0⟩ := open_int Try.underlying3 (hval 0 3 v0 rfl rfl) h0
  obtain ⟨a1, rfl, rfl, rfl, w1⟩ := open_int Try.underlying5 (hval 1 5 v1 rfl rfl) h1
  clear hA0 hval0
  refine (walk a0 a1 w0 w1 W).mono fun e W' ⟨he, bel⟩ => ?_
  subst he
  exact ⟨_, rfl, _, _, _, [], _, [], hW', trodAll_mk1 (shut_bool Try.underlying4 _), (trodAll_cons_mk (shut_int Try.underlying3 w0) (trodAll_cons_mk (shut_int Try.underlying5 w1) trodAll_mk0)), rfl, bel.frame _, fun h => by cases h⟩

theorem over : Rows.notaryRowsRow.holds Try.pinned (OpenSpec.ofChange Rows.notaryRowsSpec) :=
  OpenClaim.holds_of_wide 5 Try.f5 rfl rfl rfl rfl rfl rfl rfl ⟨rfl, rfl, rfl, rfl, rfl⟩ rfl rfl rfl rfl rfl (by kernel_rfl) Try.func5 (by kernel_rfl)
    (of_decide_eq_true (by kernel_rfl)) (by unfold Func.isWrapper; first | (rw [if_pos (by decide +kernel)]; kernel_rfl) | (rw [if_neg (by decide +kernel)]; exact ⟨rfl, rfl⟩))
    (fun os started H enc _ => lifted os started H enc)

/-- ████ THE STATEMENT ████ -/
theorem proved : Rows.NotaryRowsSaid :=
  over
#print axioms proved
end Go.Proofs.Ytcinjfmmmmaelaa.notaryRows
