/-
  Contracts of embrasure/fixed's Number and Join, with slices.Concat and slices.Grow. Conditions: as each lemma states.
-/
import Derived.Test.YtfaekiopmfnpkaaQBig
import Derived.Lib.AppendZeros
import Derived.Lib.SmallJoins
namespace Go.Proofs.Ytfaekiopmfnpkaa.Pp
open Go.RowKit
set_option linter.unusedVariables false
set_option linter.unusedSimpArgs false

theorem pow8 (j : Nat) (v : Int) : v / 2 ^ (8 * j) = v / 256 ^ j := by
  rw [Int.pow_mul]; rfl

/-- an int shifted right by whatever whole bytes: its last byte there -/
theorem shr_byte (k : Nat) (v : Int) (h : W64 v) : v.fdiv (2 ^ min (8 * (k : Int)).toNat IntKind.i64.bits) % 256 = v / 256 ^ k % 256 := by
  obtain ⟨h1, h2⟩ := h
  have e0 : IntKind.i64.bits = 64 := rfl
  have e1 : (8 * (k : Int)).toNat = 8 * k := by omega
  rw [e0, e1, Int.fdiv_eq_ediv_of_nonneg _ (Int.pow_nonneg (by decide))]
  rcases Nat.lt_or_ge k 8 with hk | hk
  · rw [Nat.min_eq_left (by omega), pow8]
  · rw [Nat.min_eq_right (by omega)]
    have e2 : (256 : Int) ^ k = 18446744073709551616 * 256 ^ (k - 8) := by
      conv => lhs; rw [show k = 8 + (k - 8) by omega, Int.pow_add]
      rfl
    have e3 : v / 256 ^ k = v / 18446744073709551616 / 256 ^ (k - 8) := by
      rw [e2, Int.ediv_ediv_of_nonneg (by decide)]
    have e4 : (2 : Int) ^ 64 = 18446744073709551616 := by decide
    rw [e3, e4]
    have hp : 0 < (256 : Int) ^ (k - 8) := Int.pow_pos (by decide)
    have hq : v / 18446744073709551616 = 0 ∨ v / 18446744073709551616 = -1 := by omega
    rcases hq with hq | hq
    · rw [hq]; simp
    · rw [hq]
      have : (-1 : Int) / 256 ^ (k - 8) = -1 := by
        rw [Int.ediv_eq_iff_of_pos hp]
        omega
      rw [this]

theorem shr_op (k : Nat) (v : Int) (h : W64 v) : ∃ s, Op.shift .shr .i64 v .i64 (8 * (k : Int)) = pure (.int .i64 s) ∧ s % 256 = v / 256 ^ k % 256 :=
  ⟨_, by simp [Op.shift, Int.not_lt.mpr (show (0 : Int) ≤ 8 * (k : Int) by omega)], shr_byte k v h⟩

set_option maxHeartbeats 1000000 in
/-- fixed.Number -/
theorem number_any (n : Nat) (v : Int) (w : World) (hn : n ≤ 16) (hv : W64 v) :
    Calls Try.prog 24 #[.int .i64 (n : Int), .int .i64 v] w fun e w' => e = .returned (.slice (some ⟨w.heap.size, 0, none⟩) n n) ∧ w'.ownsRow w.heap.size 5 1 (.slice (some ⟨w.heap.size, 0, none⟩) n n) n (B (be n v)) ∧ Below w.heap.size w w' := by
  obtain ⟨i0, hi0, hz0, hz1, hz2⟩ := info_parts u8_info
  obtain ⟨v1, v2⟩ := hv
  go_enter Try.func24, Try.ntmps24
  go_wp2_with (at_make; refine wpList_make_full _ rfl _ _ 38 rfl w.heap.size 5 i0 (.int .u8 0) 1 Try.underlying38 hi0 hz0 hz1 .i64 .i64 _ _ n rfl rfl rfl rfl (by rw [hz2]; omega) (by unfold maxLen; omega) (Nat.le_refl _) ?_; intro w1 hown1 hgrow1)
  go_loopw [11] (fun i wr => ∃ k : Nat, k ≤ n ∧ i = .int .i64 (k : Int) ∧ wr.ownsRow w.heap.size 5 1 (.slice (some ⟨w.heap.size, 0, none⟩) n n) n (B (bigRow n k v)) ∧ Below w.heap.size w wr)
    (fun i _ => n - (intOf i).toNat)
  case atStart =>
    refine ⟨0, by omega, rfl, ?_, (Below.refl _ _).grown hgrow1 (Nat.le_refl _) (by simp)⟩
    rw [← bigRow_zero n v]
    have e := toList_madeCells_one (.int .u8 0) n
    simpa [Value.cells, e] using hown1
  case round =>
    obtain ⟨k, hk, rfl, hown, hbel⟩ := hrel
    clear hown1 hgrow1
    have HB := Lib.hid hbel; clear hbel
    have HO := Lib.hid hown; clear hown
    by_cases hkn : k < n
    · obtain ⟨j, hj⟩ : ∃ j, n - 1 - k = j := ⟨_, rfl⟩
      have hj2 : (n : Int) - 1 - (k : Int) = (j : Int) := by omega
      have hjn : j < n := by omega
      have hcell := HO.out.cellAt j (by omega)
      have hfr := HO.out.frozenAt j
      rw [B_at _ j (by rw [bigRow_length _ (by omega)]; exact hjn)] at hcell
      obtain ⟨y, hy⟩ : ∃ y, (bigRow n k v).getD j 0 = y := ⟨_, rfl⟩
      rw [hy] at hcell
      clear hy
      have HJ := Lib.hid hj; clear hj
      rcases Nat.lt_or_ge k 8 with hk8 | hk8
      · have : 8 * (k : Int) < 64 := by omega
        go_wp2
        go_roundw
        case rel =>
          refine ⟨k + 1, by omega, by go_num, ?_, HB.out.setCell (p := ⟨w.heap.size, j, none⟩) (Nat.le_refl _) _⟩
          have hst := (HO.out.stored j (.int .u8 (v / 256 ^ k % 256))).1
          rw [set_B, ← HJ.out, bigRow_set _ hkn, HJ.out, ← pow8] at hst
          exact hst
        case measure => simp [intOf]; omega
      · obtain ⟨s, hs, hv⟩ := shr_op k v ⟨v1, v2⟩
        have HV := Lib.hid hv; clear hv
        go_wp2
        go_roundw
        case rel =>
          refine ⟨k + 1, by omega, by go_num, ?_, HB.out.setCell (p := ⟨w.heap.size, j, none⟩) (Nat.le_refl _) _⟩
          have hst := (HO.out.stored j (.int .u8 (v / 256 ^ k % 256))).1
          rw [set_B, ← HJ.out, bigRow_set _ hkn, HJ.out, ← HV.out] at hst
          exact hst
        case measure => simp [intOf]; omega
    · obtain rfl : k = n := by omega
      have e : bigRow k k v = be k v := by simp [bigRow]
      rw [e] at HO
      go_wp2
      go_ret
      exact ⟨rfl, HO.out, HB.out⟩


set_option maxRecDepth 100000 in
theorem grow_nil (n : Nat) (w : World) (h0 : 0 < n) (hn : n ≤ 1000) :
    Calls Try.prog 49 #[.slice none 0 0, .int .i64 (n : Int)] w fun e w' => ∃ p c, e = .returned (.slice (some ⟨p, 0, none⟩) 0 c) ∧ w'.ownsRow w.heap.size 5 1 (.slice (some ⟨p, 0, none⟩) 0 c) 0 (B []) ∧ Below w.heap.size w w' := by
  obtain ⟨i0, hi0, hz0, hz1, hz2⟩ := info_parts u8_info
  have hr := fun (W : World) (ty : TypeId) => Go.Lib.run_append_nil_zeros (P := Try.prog) W 38 3 ty 5 i0 (.int .u8 0) .i64 .i64 Try.underlying38 Try.underlying3 hi0 hz0 n h0 (by omega) (by omega) (by rw [hz2]; omega)
  have hc1 := fun W : World => grownCap_ge W n 0 5
  have hc2 := fun W : World => grownCap_le_maxLen W n 0 5 (by unfold maxLen; omega)
  have HR := Lib.hid hr; clear hr
  have HC1 := Lib.hid hc1; clear hc1
  have HC2 := Lib.hid hc2; clear hc2
  go_enter Try.func49, Try.ntmps49
  go_wp2_with (at_builtin; refine Lib.wpList_append_run _ rfl _ _ _ _ rfl _ _ rfl rfl _ _ (HR.out _ _) ?_)
  obtain ⟨c, hc⟩ : ∃ c, grownCap w n 0 5 = c := ⟨_, rfl⟩
  have hcA := HC1.out w
  have hcB := HC2.out w
  rw [hc] at hcA hcB ⊢
  unfold maxLen at hcB
  go_wp2
  go_ret
  refine ⟨_, _, rfl, ⟨by simp [B], .inr ⟨w.heap.size, c, Builtin.zeroCells (Value.int .u8 0).cells n ++ Builtin.zeroCells (Value.int .u8 0).cells (c - n), rfl, Nat.le_refl _, ?_, by omega, by unfold maxLen; omega, ?_, by simp [B]⟩⟩, ?_⟩
  · exact heap_alloc_new w.drew _
  · simp [Builtin.zeroCells, Value.cells]; omega
  · exact (below_drewN' (Below.refl _ w) 1).alloc (Nat.le_refl _) _

/-- a part: its block, length, capacity, bytes -/
abbrev Pt := Nat × Nat × Nat × List Int
abbrev Ps := List Pt
def pv (q : Pt) : Value := .slice (some ⟨q.1, 0, none⟩) q.2.1 q.2.2.1
def flat (ps : Ps) : List Int := ps.flatMap fun q => q.2.2.2
def PtAt (w : World) (q : Pt) : Prop := Bts w (some ⟨q.1, 0, none⟩) q.2.1 q.2.2.2 ∧ q.2.1 ≤ q.2.2.1 ∧ q.2.2.1 ≤ maxLen
structure Parts (w : World) (g : Nat) (ps : Ps) : Prop where
  lt : g < w.heap.size
  cell : ∀ k q, ps[k]? = some q → w.cell? ⟨g, k, none⟩ = some (pv q)
  held : ∀ q ∈ ps, PtAt w q
theorem PtAt.below {w w' : World} {q : Pt} (h : PtAt w q) (hb : Below w.heap.size w w') : PtAt w' q := ⟨h.1.below hb, h.2⟩
theorem Parts.below {w w' : World} {g : Nat} {ps : Ps} (h : Parts w g ps) (hb : Below w.heap.size w w') : Parts w' g ps :=
  ⟨Nat.lt_of_lt_of_le h.lt hb.size, fun k q hq => (hb.cell (p := ⟨g, k, none⟩) h.lt).trans (h.cell k q hq), fun q hq => (h.held q hq).below hb⟩
theorem flat_take (ps : Ps) (k : Nat) (q : Pt) (h : ps[k]? = some q) : flat (ps.take (k + 1)) = flat (ps.take k) ++ q.2.2.2 := by
  rw [List.take_add_one, h]; simp [flat]
theorem flat_le (ps : Ps) (k : Nat) : (flat (ps.take k)).length ≤ (flat ps).length := by
  have : flat ps = flat (ps.take k) ++ flat (ps.drop k) := by unfold flat; rw [← List.flatMap_append, List.take_append_drop]
  rw [this, List.length_append]; omega
theorem own_grown {w w' : World} {base k : Nat} {V : Value} {xs : List Value} {b : Nat} (hown : w.ownsRow base 5 1 V k xs) (hg : w.grownBy w' V.ownBlock) (hb : b ≤ base) (hs : b ≤ w.heap.size) : Below b w w' :=
  (Below.refl b w).grown hg hs (fun g h => Nat.le_trans hb (hown.lt g h).1)

set_option maxHeartbeats 2000000 in
/-- slices.Concat of parts that have bytes -/
theorem concat_any (g : Nat) (ps : Ps) (w : World) (h : Parts w g ps) (hn : ps.length ≤ 20) (ht : 0 < (flat ps).length) (ht2 : (flat ps).length ≤ 200) :
    Calls Try.prog 38 #[.slice (some ⟨g, 0, none⟩) ps.length ps.length] w fun e w' => ∃ V, e = .returned V ∧ w'.ownsRow w.heap.size 5 1 V (flat ps).length (B (flat ps)) ∧ Below w.heap.size w w' := by
  have HH := Lib.hid h; clear h
  obtain ⟨n, hl⟩ : ∃ n, ps.length = n := ⟨_, rfl⟩
  have HL := Lib.hid hl
  rw [hl] at hn ⊢
  clear hl
  obtain ⟨T, hT⟩ : ∃ T, (flat ps).length = T := ⟨_, rfl⟩
  have HT := Lib.hid hT
  rw [hT] at ht ht2
  have HLE : Hid (∀ k, (flat (ps.take k)).length ≤ T) := Lib.hid (fun k => by rw [← hT]; exact flat_le ps k)
  clear hT
  go_enter Try.func38, Try.ntmps38
  go_wp2
  go_loopw [11, 3] (fun i v wr => ∃ k m : Nat, k ≤ n ∧ i = .int .i64 (k : Int) ∧ v = .int .i64 (m : Int) ∧ (flat (ps.take k)).length = m ∧ w = wr)
    (fun i _ _ => n - (intOf i).toNat)
  case atStart => exact ⟨0, 0, by omega, rfl, rfl, by simp [flat], rfl⟩
  case round =>
    obtain ⟨k, m, hk, rfl, rfl, hm, rfl⟩ := hrel
    by_cases hkn : k < n
    · obtain ⟨q, hq⟩ : ∃ q, ps[k]? = some q := ⟨_, List.getElem?_eq_getElem (by have := HL.out; omega)⟩
      have hft := flat_take ps k q hq
      have hlen : (flat (ps.take (k + 1))).length = m + q.2.1 := by rw [hft, List.length_append, hm, (HH.out.held _ (List.mem_of_getElem? hq)).1.len]
      have hle := HLE.out (k + 1)
      rw [hlen] at hle
      have HM := Lib.hid hlen; clear hlen hft hm
      obtain ⟨p, s, c, zs⟩ := q
      have hc := HH.out.cell k _ hq
      unfold pv at hc
      dsimp only at hc hle HM
      clear hq
      go_wp2
      go_roundw
      case rel => exact ⟨k + 1, m + s, by omega, by go_num, by go_num, HM.out, trivial⟩
      case measure => simp [intOf]; omega
    · have e : ps.take k = ps := List.take_of_length_le (by have := HL.out; omega)
      rw [e, HT.out] at hm
      subst hm
      clear e
      go_wp2_with (go_at_call 49; refine (grow_nil T _ ht (by omega)).mono ?_; rintro e w1 ⟨p, c, rfl, ho, hb⟩; have HO1 := Lib.hid ho; have HB1 := Lib.hid hb; clear ho hb)
      go_loopw [27, 6] (fun i v wr => ∃ k : Nat, k ≤ n ∧ i = .int .i64 (k : Int) ∧ wr.ownsRow w.heap.size 5 1 v (flat (ps.take k)).length (B (flat (ps.take k))) ∧ Below w.heap.size w wr)
        (fun i _ _ => n - (intOf i).toNat)
      case atStart => exact ⟨0, by omega, rfl, by simpa [flat] using HO1.out, HB1.out⟩
      case round =>
        obtain ⟨k, hk, rfl, hown, hbel⟩ := hrel
        have HB := Lib.hid hbel; clear hbel
        have HO := Lib.hid hown; clear hown
        by_cases hkn : k < n
        · obtain ⟨q, hq⟩ : ∃ q, ps[k]? = some q := ⟨_, List.getElem?_eq_getElem (by have := HL.out; omega)⟩
          have HFT := Lib.hid (flat_take ps k q hq)
          have hle := HLE.out k
          have hle2 := HLE.out (k + 1)
          have hqa := (HH.out.below HB.out).held _ (List.mem_of_getElem? hq)
          have hlen : (flat (ps.take (k + 1))).length = (flat (ps.take k)).length + q.2.1 := by rw [HFT.out, List.length_append, hqa.1.len]
          have HM := Lib.hid hlen
          rw [hlen] at hle2
          clear hlen
          have hc := (HH.out.below HB.out).cell k _ hq
          clear hq
          obtain ⟨p, s, c, zs⟩ := q
          unfold pv at hc
          obtain ⟨hq1, hq2, hq3⟩ := hqa
          dsimp only at hc hq1 hq2 hq3 HM hle2 HFT
          have HQ := Lib.hid hq1; clear hq1
          have hsz := HB.out.size
          go_wp2_with (at_builtin; refine wpList_append_bts rfl _ _ rfl w.heap.size _ (flat (ps.take k)).length _ rfl HO.out _ s c zs rfl HQ.out (by intro hh; cases hh) (by omega) hsz ?_; intro v5 w5 ho5 hg5; have HO5 := Lib.hid ho5; have HG5 := Lib.hid (HB.out.trans (own_grown HO.out hg5 (Nat.le_refl _) hsz)); clear ho5 hg5)
          go_roundw
          case rel =>
            refine ⟨k + 1, by omega, by go_num, ?_, HG5.out⟩
            rw [HM.out, HFT.out]
            exact HO5.out
          case measure => simp [intOf]; omega
        · have e : ps.take k = ps := List.take_of_length_le (by have := HL.out; omega)
          rw [e] at HO
          go_wp2
          go_ret
          exact ⟨_, rfl, HO.out, HB.out⟩

/-- fixed.Join of parts that have bytes -/
theorem join_any (g : Nat) (ps : Ps) (w : World) (h : Parts w g ps) (hn : ps.length ≤ 20) (ht : 0 < (flat ps).length) (ht2 : (flat ps).length ≤ 200) :
    Calls Try.prog 23 #[.slice (some ⟨g, 0, none⟩) ps.length ps.length] w fun e w' => ∃ V, e = .returned V ∧ w'.ownsRow w.heap.size 5 1 V (flat ps).length (B (flat ps)) ∧ Below w.heap.size w w' := by
  have HC := Lib.hid (concat_any g ps w h hn ht ht2)
  clear h ht ht2 hn
  go_enter Try.func23, Try.ntmps23
  go_wp2_with (go_at_call 38; refine HC.out.mono ?_; rintro e w5 ⟨V5, rfl, ho5, hb5⟩; have HO5 := Lib.hid ho5; have HB5 := Lib.hid hb5; clear ho5 hb5)
  go_ret
  exact ⟨_, rfl, HO5.out, HB5.out⟩
end Go.Proofs.Ytfaekiopmfnpkaa.Pp
