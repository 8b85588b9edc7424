/-
  Contracts of math/bits.Len64 (walked in the library's own text) and of embrasure/uvar.Len: Len answers how many bytes a number has, and 0 from 2^63 on; memory is left alone. Conditions: the number is a uint64.
  The contract of embrasure/uvar.Put: it answers the number as bytes ('Uv.enc'), in a new row of its own; what was there is as it was. Conditions: the number is a uint64.
  Contracts of the document's own embrasureref01.Put and embrasureref01.Same: Put answers the number as bytes ('Uv.enc') in a row of its own; Same says whether two rows of bytes are the same. Conditions: the number is a uint64; the slices read as bytes.
  Words that the statements' proofs share: a slice of bytes that came in reads as bytes; both Gets at a known answer. Conditions: as each lemma states.
  Contracts of embrasure/notary: New, Count, Check and Mint, over a notary that stands for a list of entries. Conditions: as each states.
  The contract of embrasure/notary's Check, over a notary that stands for a list of entries. Conditions: as each states.
  Contracts of a notary's Mint and Check in one piece. Conditions: as each lemma states.
-/
import Derived.Test.YtdiilgedicfekaaDoorRows
import Derived.Test.YtdiilgedicfekaaDoorMh1
import Derived.Test.YtdiilgedicfekaaDoorMh2
import Derived.WalkKit
import Derived.WalkSpells
import Derived.WalkLawsBesides
import Derived.Lib.Walk
import Derived.Lib.BitFns
import Derived.Lib.Hide
import Derived.Laws.OwnMore
import Derived.Maps.AppendAt
import Derived.Deep.QuietTactic
import Derived.BigQuiet
import Derived.OpenShut
import Derived.Laws.AppendOwnNone
import Derived.Deep.RegionLaw
import Derived.Lib.SlBytesConst
namespace Go.Proofs.YtdiilgedicfekaaDoor
open Go.RowKit
set_option linter.unusedVariables false
set_option maxRecDepth 100000

theorem len64_any (x : Int) (w : World) (h0 : 0 ≤ x) (h1 : x ≤ 18446744073709551615) :
    Calls Tryd.prog 67 #[.int .u64 x] w fun e w' => e = .returned (.int .i64 (Lib.bitLen x.toNat)) ∧ w = w' :=
  (len64_lib x w h0 h1).mono fun _ _ h => ⟨h.1, h.2.symm⟩

theorem ret_int {k : IntKind} {a b : Int} (h : a = b) : Ending.returned (.int k a) = .returned (.int k b) := by rw [h]

/-- what uvar.Len answers -/
def lenOf (v : Nat) : Nat := if v < 9223372036854775808 then Uv.len v else 0

set_option maxHeartbeats 400000 in
theorem len_any (v : Nat) (w : World) (hv : v < 18446744073709551616) :
    Calls Tryd.prog 57 #[.int .u64 (v : Int)] w fun e w' => e = .returned (.int .i64 (lenOf v)) ∧ w = w' := by
  obtain ⟨X, hX⟩ : ∃ X, v ||| 1 = X := ⟨_, rfl⟩
  have e1 : bits .or .u64 (v : Int) 1 = (X : Int) := by
    rw [← hX]; exact u64_or_nat v 1 hv (by omega)
  have hX2 : X < 2 ^ 64 := by rw [← hX]; exact Uv.or_one_lt v (by omega)
  have hb := Uv.bitLen_len v hv
  rw [hX] at hb
  have HB := Lib.hid hb; clear hb
  have h64 := Lib.bitLen_le X 64 (by omega) hX2
  clear hX
  go_enter Tryd.func57, Tryd.ntmps57
  go_wp2_with (go_at_call 67; refine (len64_any _ _ (by omega) (by omega)).mono ?_; rintro e w' ⟨rfl, rfl⟩)
  · go_ret
    refine ⟨ret_int ?_, rfl⟩
    have hb := HB.out
    have h9 : 9 < Uv.len v := by omega
    unfold lenOf
    rw [if_neg]
    · rfl
    · intro h; have := Uv.len_small v h; omega
  · go_ret
    refine ⟨ret_int ?_, rfl⟩
    have hb := HB.out
    have h9 : Uv.len v ≤ 9 := by omega
    unfold lenOf
    rw [if_pos]
    · omega
    · rcases Nat.lt_or_ge v 9223372036854775808 with h | h
      · exact h
      · have := Uv.len_big v h hv; omega
theorem lenOf_enc (v : Nat) : lenOf v = (Uv.enc v).length := by
  unfold lenOf
  split
  · rename_i h; rw [Uv.enc_length v h]
  · rename_i h; rw [Uv.enc_big v h]; rfl

end Go.Proofs.YtdiilgedicfekaaDoor
namespace Go.Proofs.YtdiilgedicfekaaDoor
open Go.RowKit
set_option linter.unusedVariables false
set_option maxRecDepth 100000

theorem u8_info : (Tryd.prog.info? 5).map (fun i => (i.zero, i.size, i.bytes)) = some (some (.int .u8 0), 1, 1) := by kernel_rfl

/-- bytes as values -/
def B (zs : List Int) : List Value := zs.map (Value.int .u8)
theorem B_length (zs : List Int) : (B zs).length = zs.length := by simp [B]
theorem B_one (zs : List Int) : ∀ u ∈ B zs, u.oneCell' = true := by
  intro u hu
  obtain ⟨z, _, rfl⟩ := List.mem_map.1 hu
  rfl
theorem B_append (xs ys : List Int) : B (xs ++ ys) = B xs ++ B ys := by simp [B]
theorem B_at (zs : List Int) (j : Nat) (h : j < zs.length) : (B zs)[j]? = some (.int .u8 (zs.getD j 0)) := by simp [B, List.getD, h]

section
variable {w w' : World} {base : Nat} {v : Value} {n : Nat} {zs : List Int}
theorem own_below (h : w.ownsRow base 5 1 v n (B zs)) (hb : Below w.heap.size w w') : w'.ownsRow base 5 1 v n (B zs) := by
  refine ⟨h.1, ?_⟩
  rcases h.2 with hn | ⟨g, cap, cur, rfl, h1, hgg, rest⟩
  · exact .inl hn
  · exact .inr ⟨g, cap, cur, rfl, h1, (hb.block g (Array.getElem?_eq_some_iff.1 hgg).1).trans hgg, rest⟩
/-- the form of an owned row, and that it reads as its bytes -/
theorem own_form (h : w.ownsRow base 5 1 v n (B zs)) (hz : ∀ z ∈ zs, 0 ≤ z ∧ z ≤ 255) : ∃ A c, v = .slice A n c ∧ n ≤ c ∧ c ≤ maxLen ∧ Bts w A n zs := by
  have hl : zs.length = n := by have := h.1; rw [B_length] at this; omega
  rcases h.2 with ⟨rfl, rfl⟩ | ⟨g, cap, cur, rfl, h1, hgg, h2, h3, rest⟩
  · exact ⟨none, 0, rfl, Nat.le_refl _, Nat.zero_le _, hl, hz, fun h => by omega⟩
  · refine ⟨_, cap, rfl, h2, h3, hl, hz, fun _ => ⟨g, 0, rfl, (Array.getElem?_eq_some_iff.1 hgg).1, fun j hj => ?_⟩⟩
    have := h.cellAt j (by omega)
    rw [B_at zs j (by omega)] at this
    simpa using this
theorem Bts.below {A : Option Addr} (h : Bts w A n zs) (hb : Below w.heap.size w w') : Bts w' A n zs := by
  obtain ⟨h1, h2, h3⟩ := h
  refine ⟨h1, h2, fun hn => ?_⟩
  obtain ⟨b, off, rfl, hlt, hc⟩ := h3 hn
  exact ⟨b, off, rfl, Nat.lt_of_lt_of_le hlt hb.size, fun j hj => (hb.cell (p := ⟨b, off + j, none⟩) hlt).trans (hc j hj)⟩
end

/-! ### the row while it is filled -/
def row (v n k : Nat) : List Int := (List.range n).map fun i => if i < k then ((v / 128 ^ i % 128 + 128 : Nat) : Int) else 0
theorem row_length (v n k : Nat) : (row v n k).length = n := by simp [row]
theorem row_zero (v n : Nat) : (List.replicate n (Value.int .u8 0)) = B (row v n 0) := by
  unfold B row
  refine List.ext_getElem (by simp) fun i h1 h2 => ?_
  simp
theorem row_step (v n k : Nat) (hk : k < n) : (B (row v n k)).set k (.int .u8 ((v / 128 ^ k % 128 + 128 : Nat) : Int)) = B (row v n (k + 1)) := by
  unfold B row
  refine List.ext_getElem (by simp) fun i h1 h2 => ?_
  rw [List.getElem_set]
  split
  · rename_i h; subst h; simp
  · rename_i h
    simp only [List.getElem_map, List.getElem_range]
    by_cases h3 : i < k
    · rw [if_pos h3, if_pos (by omega)]
    · rw [if_neg h3, if_neg (by omega)]
theorem row_done (v : Nat) (hv : v < 9223372036854775808) : (B (row v (Uv.len v) (Uv.len v))).set (Uv.len v - 1) (.int .u8 ((v / 128 ^ (Uv.len v - 1) % 128 : Nat) : Int)) = B (Uv.enc v) := by
  have p := Uv.len_pos v
  unfold B row Uv.enc
  rw [if_pos hv]
  refine List.ext_getElem (by simp) fun i h1 h2 => ?_
  rw [List.getElem_set]
  split
  · rename_i h; subst h; simp [Uv.byte, show ¬ (Uv.len v - 1 + 1 < Uv.len v) by omega]
  · rename_i h
    simp at h1
    simp [Uv.byte, show i + 1 < Uv.len v by omega, h1]
theorem row_last (v : Nat) : (row v (Uv.len v) (Uv.len v)).getD (Uv.len v - 1) 0 = ((v / 128 ^ (Uv.len v - 1) % 128 + 128 : Nat) : Int) := by
  have p := Uv.len_pos v
  simp [row, List.getD, show Uv.len v - 1 < Uv.len v by omega]

set_option maxHeartbeats 1000000 in
theorem put_small (v : Nat) (w : World) (hv : v < 9223372036854775808) :
    Calls Tryd.prog 37 #[.int .u64 (v : Int)] w fun e w' => ∃ r, e = .returned r ∧ w'.ownsRow w.heap.size 5 1 r (Uv.enc v).length (B (Uv.enc v)) ∧ Below w.heap.size w w' := by
  obtain ⟨i0, hi0, hz0, hz1, hz2⟩ := info_parts u8_info
  have hn1 := Uv.len_pos v
  have hn9 := Uv.len_small v hv
  have hD := row_done v hv
  have hLS := row_last v
  have hle : lenOf v = Uv.len v := by unfold lenOf; rw [if_pos hv]
  have hll := Uv.enc_length v hv
  rw [hll]
  clear hll
  have hlen := len_any v w (by omega)
  rw [hle] at hlen
  clear hle
  generalize hn : Uv.len v = n at *
  have HD := Lib.hid hD; clear hD
  have HLS := Lib.hid hLS; clear hLS
  have HLEN := Lib.hid hlen; clear hlen
  have HN := Lib.hid hn; clear hn
  have hne : ((n : Int) == 0) = false := by simp; omega
  go_enter Tryd.func37, Tryd.ntmps37
  go_wp2_with (first
    | (go_at_call 57; refine (HLEN.out).mono ?_; rintro e w' ⟨rfl, rfl⟩)
    | (at_make; refine wpList_make_full _ rfl _ _ 42 rfl w.heap.size 5 i0 (.int .u8 0) 1 Tryd.underlying42 hi0 hz0 hz1 .i64 .i64 _ _ n rfl rfl rfl rfl (by rw [hz2]; omega) (by unfold maxLen; omega) (Nat.le_refl _) ?_; intro w1 hown1 hgrow1))
  go_loopw [14, 0] (fun i x wr => ∃ (k X : Nat), k ≤ n ∧ i = .int .i64 k ∧ x = .int .u64 (X : Int) ∧ X = v / 128 ^ k ∧ wr.ownsRow w.heap.size 5 1 (.slice (some ⟨w.heap.size, 0, none⟩) n n) n (B (row v n k)) ∧ Below w.heap.size w wr)
    (fun i _ _ => n - (intOf i).toNat)
  case atStart =>
    refine ⟨0, v, by omega, rfl, rfl, by simp, ?_, (Below.refl _ _).grown hgrow1 (Nat.le_refl _) (by simp)⟩
    rw [← row_zero v n]
    have e := toList_madeCells_one (.int .u8 0) n
    simpa [Value.cells, e] using hown1
  case round =>
    obtain ⟨k, X, hk, rfl, rfl, hX, hown, hbel⟩ := hrel
    clear hown1 hgrow1
    have HX := Lib.hid hX; clear hX
    have hXv : X ≤ v := by have := HX.out; rw [this]; exact Nat.div_le_self _ _
    have HB := Lib.hid hbel; clear hbel
    have HO := Lib.hid hown; clear hown
    by_cases hkn : k < n
    · have hcell := HO.out.cellAt k (by omega)
      have hfr := HO.out.frozenAt k
      rw [B_at _ k (by rw [row_length]; exact hkn)] at hcell
      obtain ⟨y, hy⟩ : ∃ y, (row v n k).getD k 0 = y := ⟨_, rfl⟩
      rw [hy] at hcell
      clear hy
      have e1 : bits .or .u8 ((X : Int) % 256) 128 = ((X % 128 + 128 : Nat) : Int) := by rw [Uv.or128 _ (by omega) (by omega)]; omega
      go_wp2
      go_roundw
      case rel =>
        refine ⟨k + 1, X / 128, by omega, by go_num, by go_num, by rw [Uv.div_pow', ← HX.out], ?_, HB.out.setCell (p := ⟨w.heap.size, k, none⟩) (Nat.le_refl _) _⟩
        have hst := HO.out.stored k (.int .u8 ((X % 128 + 128 : Nat) : Int))
        rw [HX.out, row_step v n k hkn, ← HX.out] at hst
        have e3 : ((X % 128 + 128 : Nat) : Int) = (X : Int) % 128 + 128 := by omega
        rw [e3] at hst
        exact hst.1
      case measure => simp [intOf]; omega
    · obtain rfl : k = n := by omega
      have hcell := HO.out.cellAt (k - 1) (by omega)
      have hfr := HO.out.frozenAt (k - 1)
      rw [B_at _ (k - 1) (by rw [row_length]; omega), HLS.out] at hcell
      have hst := (HO.out.stored (k - 1) (.int .u8 ((v / 128 ^ (k - 1) % 128 : Nat) : Int))).1
      rw [HD.out] at hst
      obtain ⟨m, hm⟩ : ∃ m, k - 1 = m := ⟨_, rfl⟩
      rw [hm] at hst hcell hfr
      obtain ⟨d, hd⟩ : ∃ d, v / 128 ^ m % 128 = d := ⟨_, rfl⟩
      have hd1 : d < 128 := by omega
      rw [hd] at hst hcell
      clear hd HLS HD HO HN HLEN
      have HST := Lib.hid hst; clear hst
      have e4 : ((d + 128 : Nat) : Int) = (d : Int) + 128 := by omega
      rw [e4] at hcell
      clear e4
      have e2 : bits .andNot .u8 ((d : Int) + 128) 128 = (d : Int) := by rw [Uv.andNot128 _ (by omega) (by omega)]; omega
      go_wp2
      go_ret
      exact ⟨_, rfl, HST.out, HB.out.setCell (p := ⟨w.heap.size, m, none⟩) (Nat.le_refl _) _⟩

set_option maxHeartbeats 400000 in
theorem put_big (v : Nat) (w : World) (hv : ¬ v < 9223372036854775808) (hv2 : v < 18446744073709551616) :
    Calls Tryd.prog 37 #[.int .u64 (v : Int)] w fun e w' => ∃ r, e = .returned r ∧ w'.ownsRow w.heap.size 5 1 r (Uv.enc v).length (B (Uv.enc v)) ∧ Below w.heap.size w w' := by
  have hlen := len_any v w hv2
  have hle : lenOf v = 0 := by unfold lenOf; rw [if_neg hv]
  rw [hle] at hlen
  have HLEN := Lib.hid hlen
  rw [Uv.enc_big v hv]
  clear hlen hle
  go_enter Tryd.func37, Tryd.ntmps37
  go_wp2_with (go_at_call 57; refine (HLEN.out).mono ?_; rintro e w' ⟨rfl, rfl⟩)
  go_ret
  exact ⟨_, rfl, World.ownsRow_nil _ _ _ _, Below.refl _ _⟩

/-- uvar.Put, whatever the number -/
theorem put_any (v : Nat) (w : World) (hv : v < 18446744073709551616) :
    Calls Tryd.prog 37 #[.int .u64 (v : Int)] w fun e w' => ∃ r, e = .returned r ∧ w'.ownsRow w.heap.size 5 1 r (Uv.enc v).length (B (Uv.enc v)) ∧ Below w.heap.size w w' := by
  by_cases h : v < 9223372036854775808
  · exact put_small v w h
  · exact put_big v w h hv

end Go.Proofs.YtdiilgedicfekaaDoor
namespace Go.Proofs.YtdiilgedicfekaaDoor
open Go.RowKit
set_option linter.unusedVariables false
set_option maxRecDepth 100000

def High (v k : Nat) : Prop := ∀ j, j < k → 128 ≤ v / 128 ^ j
theorem High.zero (v : Nat) : High v 0 := fun j h => by omega
theorem High.succ {v k X : Nat} (h : High v k) (hX : X = v / 128 ^ k) (h1 : 127 < X) : High v (k + 1) := fun j hj => by
  rcases Nat.lt_or_ge j k with h' | h'
  · exact h j h'
  · obtain rfl : j = k := by omega
    omega
theorem High.le {v k : Nat} (h : High v k) (hv : v < 9223372036854775808) : k ≤ 8 := by
  rcases Nat.lt_or_ge 8 k with h' | h'
  · have := h 8 h'; omega
  · exact h'
theorem High.len {v k X : Nat} (h : High v k) (hv : v < 9223372036854775808) (hX : X = v / 128 ^ k) (h1 : X ≤ 127) : Uv.len v = k + 1 :=
  Uv.len_unique v k (by omega) (by omega) h
theorem row_snoc (v k : Nat) : row v (k + 1) (k + 1) = row v k k ++ [((v / 128 ^ k % 128 + 128 : Nat) : Int)] := by
  unfold row
  rw [List.range_succ, List.map_append]
  congr 1
  · refine List.map_congr_left fun i hi => ?_
    have := List.mem_range.1 hi
    rw [if_pos (by omega), if_pos this]
  · simp
theorem enc_row {v k X : Nat} (h : High v k) (hv : v < 9223372036854775808) (hX : X = v / 128 ^ k) (h1 : X ≤ 127) : Uv.enc v = row v k k ++ [(X : Int)] := by
  have hl := h.len hv hX h1
  unfold Uv.enc row
  rw [if_pos hv, hl, List.range_succ, List.map_append]
  congr 1
  · refine List.map_congr_left fun i hi => ?_
    have := List.mem_range.1 hi
    simp [Uv.byte, this]
  · simp [Uv.byte, ← hX]; omega

theorem grow_below {w wr w1 : World} {u : Value} {k : Nat} {xs : List Value} {o : Obj} (hown : wr.ownsRow w.heap.size 5 1 u k xs) (hb : Below w.heap.size w wr) (hg : (wr.alloc o).grownBy w1 u.ownBlock) :
    Below w.heap.size w w1 := (hb.alloc hb.size o).grown hg (by have := hb.size; simp; omega) (fun g h => (hown.lt g h).1)

set_option maxHeartbeats 1000000 in
theorem ref_put_small (v : Nat) (w : World) (hv : v < 9223372036854775808) :
    Calls Tryd.prog 60 #[.int .u64 (v : Int)] w fun e w' => ∃ r, e = .returned r ∧ w'.ownsRow w.heap.size 5 1 r (Uv.enc v).length (B (Uv.enc v)) ∧ Below w.heap.size w w' := by
  obtain ⟨i0, hi0, hz0, hz1, hz2⟩ := info_parts u8_info
  have hv2 : decide ((9223372036854775807 : Int) < (v : Int)) = false := by simp; omega
  go_enter Tryd.func60, Tryd.ntmps60
  go_wp2
  go_loopw [0, 3] (fun x r wr => ∃ (k X : Nat), x = .int .u64 (X : Int) ∧ X = v / 128 ^ k ∧ High v k ∧ wr.ownsRow w.heap.size 5 1 r k (B (row v k k)) ∧ Below w.heap.size w wr)
    (fun x _ _ => (intOf x).toNat)
  case atStart => exact ⟨0, v, rfl, by simp, High.zero v, World.ownsRow_nil _ _ _ _, Below.refl _ _⟩
  case round =>
    rename_i r wr
    obtain ⟨k, X, rfl, hX, hH, hown, hbel⟩ := hrel
    have hXv : X ≤ v := by rw [hX]; exact Nat.div_le_self _ _
    have hk8 := hH.le hv
    have HX := Lib.hid hX; clear hX
    have HB := Lib.hid hbel; clear hbel
    have hsz := HB.out.size
    by_cases hx : 127 < X
    · go_wp2_with (at_builtin; refine wpList_append_own _ rfl _ _ 42 rfl w.heap.size 5 i0 (.int .u8 0) 1 1 Tryd.underlying42 hi0 hz0 hz1 hz2 rfl (by decide) _ k (B (row v k k)) rfl (hown.alloc _) ⟨wr.heap.size, 0, none⟩ 1 1 [.int .u8 _] rfl rfl (cell_one_new _ _ _) (by simp [Value.oneCell']) (by unfold maxLen; omega) (by omega) (by simp; omega) ?_; intro v' w1 hown' hgrow _; have HG := Lib.hid (grow_below hown HB.out hgrow); clear hgrow; have HO := Lib.hid hown'; clear hown')
      go_roundw
      case rel =>
        refine ⟨k + 1, X / 128, by go_num, by rw [Uv.div_pow', ← HX.out], hH.succ HX.out hx, ?_, HG.out⟩
        have e : B (row v (k + 1) (k + 1)) = B (row v k k) ++ [Value.int IntKind.u8 (128 + (X : Int) % 128)] := by
          rw [row_snoc, B_append, ← HX.out, show (128 + (X : Int) % 128) = ((X % 128 + 128 : Nat) : Int) by omega]; rfl
        rw [e]; exact HO.out
      case measure => simp [intOf]; omega
    · go_wp2_with (at_builtin; refine wpList_append_own _ rfl _ _ 42 rfl w.heap.size 5 i0 (.int .u8 0) 1 1 Tryd.underlying42 hi0 hz0 hz1 hz2 rfl (by decide) _ k (B (row v k k)) rfl (hown.alloc _) ⟨wr.heap.size, 0, none⟩ 1 1 [.int .u8 _] rfl rfl (cell_one_new _ _ _) (by simp [Value.oneCell']) (by unfold maxLen; omega) (by omega) (by simp; omega) ?_; intro v' w1 hown' hgrow _; have HG := Lib.hid (grow_below hown HB.out hgrow); clear hgrow; have HO := Lib.hid hown'; clear hown')
      go_ret
      have e : B (Uv.enc v) = B (row v k k) ++ [Value.int IntKind.u8 (X : Int)] := by
        rw [enc_row hH hv HX.out (by omega), B_append]; rfl
      have e2 : (Uv.enc v).length = k + 1 := by rw [enc_row hH hv HX.out (by omega)]; simp [row_length]
      rw [e, e2]
      exact ⟨_, rfl, HO.out, HG.out⟩

set_option maxHeartbeats 400000 in
theorem ref_put_big (v : Nat) (w : World) (hv : ¬ v < 9223372036854775808) :
    Calls Tryd.prog 60 #[.int .u64 (v : Int)] w fun e w' => ∃ r, e = .returned r ∧ w'.ownsRow w.heap.size 5 1 r (Uv.enc v).length (B (Uv.enc v)) ∧ Below w.heap.size w w' := by
  have hv2 : decide ((9223372036854775807 : Int) < (v : Int)) = true := by simp; omega
  rw [Uv.enc_big v hv]
  go_enter Tryd.func60, Tryd.ntmps60
  go_wp2
  go_ret
  exact ⟨_, rfl, World.ownsRow_nil _ _ _ _, Below.refl _ _⟩

/-- the document's own Put, whatever the number -/
theorem ref_put_any (v : Nat) (w : World) :
    Calls Tryd.prog 60 #[.int .u64 (v : Int)] w fun e w' => ∃ r, e = .returned r ∧ w'.ownsRow w.heap.size 5 1 r (Uv.enc v).length (B (Uv.enc v)) ∧ Below w.heap.size w w' := by
  by_cases h : v < 9223372036854775808
  · exact ref_put_small v w h
  · exact ref_put_big v w h

/-! ### Same -/
def Alike (xs ys : List Int) (k : Nat) : Prop := ∀ j, j < k → xs.getD j 0 = ys.getD j 0
theorem Alike.zero (xs ys : List Int) : Alike xs ys 0 := fun j h => by omega
theorem Alike.succ {xs ys : List Int} {k : Nat} (h : Alike xs ys k) {x y : Int} (hx : xs.getD k 0 = x) (hy : ys.getD k 0 = y) (e : x = y) : Alike xs ys (k + 1) := fun j hj => by
  rcases Nat.lt_or_ge j k with h' | h'
  · exact h j h'
  · obtain rfl : j = k := by omega
    omega
theorem Alike.eq {xs ys : List Int} {n : Nat} (h : Alike xs ys n) (hx : xs.length = n) (hy : ys.length = n) : xs = ys := by
  refine List.ext_getElem (by omega) fun i h1 h2 => ?_
  have := h i (by omega)
  simpa [List.getD, h1, h2] using this
theorem getD_ne {xs ys : List Int} {k : Nat} {x y : Int} (hx : xs.getD k 0 = x) (hy : ys.getD k 0 = y) (h : ¬ x = y) : ¬ xs = ys := fun e => h (by rw [← hx, ← hy, e])

theorem ret_bool {a b : Bool} (h : a = b) : Ending.returned (.bool a) = .returned (.bool b) := by rw [h]

set_option maxHeartbeats 1000000 in
theorem same_some (b1 o1 b2 o2 n c1 c2 : Nat) (xs ys : List Int) (w : World) (hn : 0 < n) (hc1 : n ≤ maxLen) (hx : xs.length = n) (hy : ys.length = n)
    (hcx : ∀ j, j < n → w.cell? ⟨b1, o1 + j, none⟩ = some (.int .u8 (xs.getD j 0))) (hcy : ∀ j, j < n → w.cell? ⟨b2, o2 + j, none⟩ = some (.int .u8 (ys.getD j 0))) :
    Calls Tryd.prog 26 #[.slice (some ⟨b1, o1, none⟩) n c1, .slice (some ⟨b2, o2, none⟩) n c2] w fun e w' => e = .returned (.bool (decide (xs = ys))) ∧ ∃ q, w' = w.drewN q := by
  unfold maxLen at hc1
  have HX := Lib.hid hx; clear hx
  have HY := Lib.hid hy; clear hy
  have HCX := Lib.hid hcx; clear hcx
  have HCY := Lib.hid hcy; clear hcy
  have hnn : ((n : Int) != (n : Int)) = false := by simp
  go_enter Tryd.func26, Tryd.ntmps26
  go_wp2
  go_loopw [5] (fun i wr => ∃ (k q : Nat), k ≤ n ∧ i = .int .i64 k ∧ wr = w.drewN q ∧ Alike xs ys k) (fun i _ => n - (intOf i).toNat)
  case atStart => exact ⟨0, 0, by omega, rfl, rfl, Alike.zero _ _⟩
  case round =>
    obtain ⟨k, q, hk, rfl, rfl, hA⟩ := hrel
    have HA := Lib.hid hA; clear hA
    by_cases hkn : k < n
    · have h1 := HCX.out k hkn
      have h2 := HCY.out k hkn
      obtain ⟨x, hxx⟩ : ∃ x, xs.getD k 0 = x := ⟨_, rfl⟩
      obtain ⟨y, hyy⟩ : ∃ y, ys.getD k 0 = y := ⟨_, rfl⟩
      rw [hxx] at h1
      rw [hyy] at h2
      have HXX := Lib.hid hxx; clear hxx
      have HYY := Lib.hid hyy; clear hyy
      by_cases hxy : x = y
      · have t1 : (x != y) = false := by simp [hxy]
        have HE := Lib.hid hxy; clear hxy
        go_wp2
        go_quiet (fail)
        go_wp2
        go_roundw
        case rel => exact ⟨k + 1, _, by omega, by go_num, rfl, HA.out.succ HXX.out HYY.out HE.out⟩
        case measure => simp [intOf]; omega
      · have t1 : (x != y) = true := by simp [hxy]
        have E := Lib.hid (getD_ne HXX.out HYY.out hxy)
        clear hxy
        go_wp2
        go_quiet (fail)
        go_wp2
        go_ret
        exact ⟨ret_bool (by simp [E.out]), q + nq, by rw [World.drewN_drewN]⟩
    · have E := Lib.hid (HA.out.eq (n := k) (by have := HX.out; omega) (by have := HY.out; omega))
      go_wp2
      go_ret
      exact ⟨ret_bool (by simp [E.out]), _, rfl⟩

set_option maxHeartbeats 400000 in
theorem same_none (A1 A2 : Option Addr) (c1 c2 : Nat) (w : World) :
    Calls Tryd.prog 26 #[.slice A1 0 c1, .slice A2 0 c2] w fun e w' => e = .returned (.bool true) ∧ ∃ q, w' = w.drewN q := by
  go_enter Tryd.func26, Tryd.ntmps26
  go_wp2
  refine wp_loop_rounds 1 ?_
  rw [rounds_succ]
  go_wp2
  go_ret
  exact ⟨rfl, 0, rfl⟩

set_option maxHeartbeats 400000 in
theorem same_len (A1 A2 : Option Addr) (n m c1 c2 : Nat) (w : World) (h : ¬ n = m) :
    Calls Tryd.prog 26 #[.slice A1 n c1, .slice A2 m c2] w fun e w' => e = .returned (.bool false) ∧ ∃ q, w' = w.drewN q := by
  have t : ((n : Int) != (m : Int)) = true := by rw [bne_iff_ne]; omega
  clear h
  go_enter Tryd.func26, Tryd.ntmps26
  go_wp2
  go_ret
  exact ⟨rfl, 0, rfl⟩

/-- the document's own Same -/
theorem same_any (A1 A2 : Option Addr) (n m c1 c2 : Nat) (xs ys : List Int) (w : World) (hn : n ≤ maxLen) (h1 : Bts w A1 n xs) (h2 : Bts w A2 m ys) :
    Calls Tryd.prog 26 #[.slice A1 n c1, .slice A2 m c2] w fun e w' => e = .returned (.bool (decide (xs = ys))) ∧ ∃ q, w' = w.drewN q := by
  obtain ⟨l1, _, k1⟩ := h1
  obtain ⟨l2, _, k2⟩ := h2
  by_cases hnm : n = m
  · subst hnm
    rcases Nat.eq_zero_or_pos n with h0 | h0
    · subst h0
      obtain rfl : xs = [] := List.eq_nil_of_length_eq_zero l1
      obtain rfl : ys = [] := List.eq_nil_of_length_eq_zero l2
      exact (same_none A1 A2 c1 c2 w).mono fun e w' h => ⟨h.1, h.2⟩
    · obtain ⟨b1, o1, rfl, _, hx⟩ := k1 h0
      obtain ⟨b2, o2, rfl, _, hy⟩ := k2 h0
      exact same_some b1 o1 b2 o2 n c1 c2 xs ys w h0 hn l1 l2 hx hy
  · have hne : ¬ xs = ys := fun e => hnm (by rw [← l1, ← l2, e])
    exact (same_len A1 A2 n m c1 c2 w hnm).mono fun e w' h => ⟨by rw [h.1]; simp [hne], h.2⟩

theorem below_drewN' {B : Nat} {a w : World} (h : Below B a w) (n : Nat) : Below B a (w.drewN n) := h.trans ⟨rfl, rfl, rfl, Nat.le_refl _, fun _ _ => rfl⟩

end Go.Proofs.YtdiilgedicfekaaDoor
namespace Go.Proofs.YtdiilgedicfekaaDoor
open Go.RowKit
set_option linter.unusedVariables false
set_option maxRecDepth 100000

/-- what the walk is told of a slice of integers that came in: it is nil; or it leads to a row of 'cap' cells, the numbers 'zs' -/
def IsRow (k : IntKind) (w : World) (a : Option Addr) (len cap : Nat) (zs : List Int) : Prop :=
  (a = none ∧ len = 0 ∧ cap = 0 ∧ zs = []) ∨
  ∃ x, a = some x ∧ len ≤ cap ∧ cap ≤ maxLen ∧ zs.length = cap ∧ (∀ i, i < zs.length → w.cell? (x.add i) = some (.int k (zs.getD i 0))) ∧ ∀ n ∈ zs, (Lit.int k n).wf = true

theorem lt_of_cell {w : World} {a : Addr} {v : Value} (h : w.cell? a = some v) : a.block < w.heap.size := by
  rcases Nat.lt_or_ge a.block w.heap.size with h' | h'
  · exact h'
  · unfold World.cell? at h
    rw [Array.getElem?_eq_none h'] at h
    simp at h
theorem wf_u8 {n : Int} (h : (Lit.int .u8 n).wf = true) : 0 ≤ n ∧ n ≤ 255 := by
  have := bounds_u8 h
  omega
theorem bts_of_row {w : World} {a : Option Addr} {len cap : Nat} {zs : List Int} (h : IsRow .u8 w a len cap zs) : Bts w a len (zs.take len) ∧ len ≤ cap ∧ cap ≤ maxLen := by
  rcases h with ⟨rfl, rfl, rfl, rfl⟩ | ⟨x, rfl, h1, h2, h3, h4, h5⟩
  · exact ⟨⟨rfl, by simp, fun h => by omega⟩, Nat.le_refl _, Nat.zero_le _⟩
  · refine ⟨⟨by simp; omega, fun z hz => wf_u8 (h5 z (List.mem_of_mem_take hz)), fun hn => ?_⟩, h1, h2⟩
    obtain ⟨b, off, rfl, hc⟩ := ints_at h4 (by omega)
    refine ⟨b, off, rfl, lt_of_cell (hc 0 (by omega)), fun j hj => ?_⟩
    rw [hc j (by omega)]
    simp [List.getD, hj]

theorem get_at (A : Option Addr) (n c : Nat) (zs : List Int) (w : World) (x m k : Int) (hg : Uv.got zs = (x, m, k)) (hnc : n ≤ c) (hc : c ≤ maxLen) (h : Bts w A n zs) :
    Calls Tryd.prog 68 #[.slice A n c] w fun e w' => e = .returned (.tuple #[.int .u64 x, .int .i64 m, .int .i64 k]) ∧ w = w' :=
  (get_any A n c zs w hnc hc h).mono fun e w' h => ⟨by rw [h.1, hg]; rfl, h.2⟩
theorem ref_get_at (A : Option Addr) (n c : Nat) (zs : List Int) (w : World) (x m k : Int) (hg : Uv.got zs = (x, m, k)) (hnc : n ≤ c) (hc : c ≤ maxLen) (h : Bts w A n zs) :
    Calls Tryd.prog 52 #[.slice A n c] w fun e w' => e = .returned (.tuple #[.int .u64 x, .int .i64 m, .int .i64 k]) ∧ w = w' :=
  (ref_get_any A n c zs w hnc hc h).mono fun e w' h => ⟨by rw [h.1, hg]; rfl, h.2⟩

theorem same_self (A1 A2 : Option Addr) (n c1 c2 : Nat) (xs : List Int) (w : World) (hn : n ≤ maxLen) (h1 : Bts w A1 n xs) (h2 : Bts w A2 n xs) :
    Calls Tryd.prog 26 #[.slice A1 n c1, .slice A2 n c2] w fun e w' => e = .returned (.bool true) ∧ ∃ q, w' = w.drewN q :=
  (same_any A1 A2 n n c1 c2 xs xs w hn h1 h2).mono fun e w' h => ⟨by rw [h.1]; simp, h.2⟩
theorem len_enc (v : Nat) (w : World) (hv : v < 18446744073709551616) :
    Calls Tryd.prog 57 #[.int .u64 (v : Int)] w fun e w' => e = .returned (.int .i64 ((Uv.enc v).length : Nat)) ∧ w = w' :=
  (len_any v w hv).mono fun e w' h => ⟨by rw [h.1, lenOf_enc], h.2⟩

/-- an address and cells of a row that reads as bytes, for a law on append -/
theorem Bts.news {w : World} {ad : Addr} {n : Nat} {zs : List Int} (h : Bts w (some ad) n zs) : ∀ j u, (B zs)[j]? = some u → w.cell? (ad.add j) = some u := by
  intro j u hu
  obtain ⟨h1, h2, h3⟩ := h
  have hj : j < zs.length := by
    have := (List.getElem?_eq_some_iff.1 hu).1
    rwa [B_length] at this
  obtain ⟨b, off, e, _, hc⟩ := h3 (by omega)
  injection e with e
  subst e
  rw [B_at zs j hj] at hu
  injection hu with hu
  subst hu
  have e2 : (⟨b, off, none⟩ : Addr).add j = ⟨b, off + j, none⟩ := by unfold Addr.add; split <;> simp_all
  rw [e2]
  exact hc j (by omega)
theorem Bts.bd {w : World} {A : Option Addr} {n : Nat} {zs : List Int} (h : Bts w A n zs) : ∀ z ∈ zs, 0 ≤ z ∧ z ≤ 255 := h.2.1
theorem Bts.len {w : World} {A : Option Addr} {n : Nat} {zs : List Int} (h : Bts w A n zs) : zs.length = n := h.1
theorem Bts.drewN {w : World} {A : Option Addr} {n : Nat} {zs : List Int} (h : Bts w A n zs) (q : Nat) : Bts (w.drewN q) A n zs := h
theorem Bts.alloc {w : World} {A : Option Addr} {n : Nat} {zs : List Int} (h : Bts w A n zs) (o : Obj) : Bts (w.alloc o) A n zs := h.below ((Below.refl _ _).alloc (Nat.le_refl _) o)
theorem Bts.some_of {w : World} {A : Option Addr} {n : Nat} {zs : List Int} (h : Bts w A n zs) (hn : 0 < n) : ∃ ad, A = some ad := by
  obtain ⟨b, off, rfl, _⟩ := h.2.2 hn
  exact ⟨_, rfl⟩
theorem mem_append_bd {xs ys : List Int} (h1 : ∀ z ∈ xs, 0 ≤ z ∧ z ≤ 255) (h2 : ∀ z ∈ ys, 0 ≤ z ∧ z ≤ 255) : ∀ z ∈ xs ++ ys, 0 ≤ z ∧ z ≤ 255 := by
  intro z hz
  rcases List.mem_append.1 hz with h | h
  · exact h1 z h
  · exact h2 z h

theorem nil_of_row {k : IntKind} {w : World} {a : Option Addr} {len cap : Nat} {zs : List Int} (h : IsRow k w a len cap zs) : a = none → len = 0 ∧ cap = 0 := by
  rcases h with ⟨rfl, rfl, rfl, rfl⟩ | ⟨x, rfl, _⟩
  · exact fun _ => ⟨rfl, rfl⟩
  · exact fun h => by cases h

/-- 'append(s, x...)' onto a row of the call's own, x whatever reads as bytes -/
theorem wpList_append_bts {w : World} {ops : Array Oper} {rest : List Oper} {o : Oper} {a : Act} {Q : Exit → Act → World → Prop} (hgd : o.guard = none) (s x : Operand)
    (ho : o.op = .call { callee := .builtin .append, args := #[s, x], argTypes := #[42, 42] }) (base : Nat) (v : Value) (n : Nat) (xs : List Int) (hs : a.eval s = v) (hown : w.ownsRow base 5 1 v n (B xs))
    (A : Option Addr) (m c : Nat) (zs : List Int) (hx : a.eval x = .slice A m c) (hb : Bts w A m zs) (hnil : A = none → m = 0 ∧ c = 0) (hsz : n + m ≤ 140737488355328) (hbase : base ≤ w.heap.size)
    (h : ∀ v' w', w'.ownsRow base 5 1 v' (n + m) (B (xs ++ zs)) → w.grownBy w' v.ownBlock → wpList Tryd.prog ops Q rest (a.put o.dst v') w') : wpList Tryd.prog ops Q (o :: rest) a w := by
  obtain ⟨i0, hi0, hz0, hz1, hz2⟩ := info_parts u8_info
  cases A with
  | none =>
    obtain ⟨rfl, rfl⟩ := hnil rfl
    have hz : zs = [] := List.eq_nil_of_length_eq_zero hb.len
    subst hz
    refine wpList_append_own_none hgd s x 42 ho base 5 i0 1 Tryd.underlying42 hi0 v n (B xs) hs hown hx ?_
    exact h v w (by simpa using hown) (World.grownBy.refl w _)
  | some ad =>
    refine wpList_append_own w hgd s x 42 ho base 5 i0 (.int .u8 0) 1 1 Tryd.underlying42 hi0 hz0 hz1 hz2 rfl (by decide) v n (B xs) hs hown ad m c (B zs) hx (by rw [B_length, hb.len]; omega) hb.news (B_one zs)
      (by unfold maxLen; omega) (by omega) hbase ?_
    intro v' w' h1 h2 _
    rw [← B_append] at h1
    exact h v' w' h1 h2
theorem lit_own (W : World) : (W.alloc (.cells #[] 5)).ownsRow W.heap.size 5 1 (.slice (some ⟨W.heap.size, 0, none⟩) 0 0) 0 (B []) := World.ownsRow_lit W #[] 0 (Nat.le_refl _) (Nat.zero_le _) rfl
theorem own_grown_below {W w w' : World} {v : Value} {n base : Nat} {xs : List Value} (hown : w.ownsRow base 5 1 v n xs) (hb : Below W.heap.size W w) (hW : W.heap.size ≤ base) (hg : w.grownBy w' v.ownBlock) : Below W.heap.size W w' :=
  hb.grown hg hb.size (fun g h => Nat.le_trans hW (hown.lt g h).1)
/-- what an append leaves of a row that lies elsewhere -/
theorem Bts.grown {w w' : World} {A : Option Addr} {n : Nat} {zs : List Int} {v : Value} {k base : Nat} {xs : List Value} (h : Bts w A n zs) (hown : w.ownsRow base 5 1 v k xs) (hA : ∀ ad, A = some ad → ad.block < base) (hg : w.grownBy w' v.ownBlock) : Bts w' A n zs := by
  obtain ⟨h1, h2, h3⟩ := h
  refine ⟨h1, h2, fun hn => ?_⟩
  obtain ⟨b, off, rfl, hlt, hc⟩ := h3 hn
  refine ⟨b, off, rfl, Nat.lt_of_lt_of_le hlt hg.size, fun j hj => ?_⟩
  have hb : b < base := hA _ rfl
  refine (World.cell?_of_block (w := w) (hg.block b hlt ?_)).trans (hc j hj)
  intro e
  have := (hown.lt b e.symm).1
  omega

theorem own_nil {w : World} {base n c : Nat} {A : Option Addr} {xs : List Value} (h : w.ownsRow base 5 1 (.slice A n c) n xs) : A = none → n = 0 ∧ c = 0 := by
  rintro rfl
  rcases h.2 with ⟨e, rfl⟩ | ⟨g, cap, cur, e, _⟩
  · simp only [Value.slice.injEq] at e
    exact ⟨rfl, e.2.2⟩
  · simp at e

theorem lit1 (W : World) (z : Int) (h : 0 ≤ z ∧ z ≤ 255) : Bts (W.alloc (.cells #[.int .u8 z] 5)) (some ⟨W.heap.size, 0, none⟩) 1 [z] := by
  refine ⟨rfl, by simpa using h, fun _ => ⟨W.heap.size, 0, rfl, by simp, fun j hj => ?_⟩⟩
  obtain rfl : j = 0 := by omega
  go_simp
theorem Bts.cut {w : World} {A : Option Addr} {n r : Nat} {zs : List Int} (h : Bts w A n zs) (hr : r ≤ n) : Bts w A r (zs.take r) := by
  obtain ⟨h1, h2, h3⟩ := h
  refine ⟨by simp; omega, fun z hz => h2 z (List.mem_of_mem_take hz), fun hn => ?_⟩
  obtain ⟨b, off, rfl, hb, hc⟩ := h3 (by omega)
  refine ⟨b, off, rfl, hb, fun j hj => ?_⟩
  rw [hc j (by omega)]
  simp [List.getD, hj]
theorem own_some {w : World} {base n : Nat} {v : Value} {xs : List Value} (h : w.ownsRow base 5 1 v n xs) (hn : 0 < n) : ∃ g c, v = .slice (some ⟨g, 0, none⟩) n c ∧ base ≤ g ∧ n ≤ c ∧ c ≤ maxLen := by
  rcases h.2 with ⟨e, rfl⟩ | ⟨g, cap, cur, rfl, h1, _, h2, h3, _⟩
  · omega
  · exact ⟨g, cap, rfl, h1, h2, h3⟩
theorem stored_own {w : World} {base n g c : Nat} {zs : List Int} (h : w.ownsRow base 5 1 (.slice (some ⟨g, 0, none⟩) n c) n (B zs)) (m : Nat) (z : Int) :
    (w.setCell ⟨g, m, none⟩ (.int .u8 z)).ownsRow base 5 1 (.slice (some ⟨g, 0, none⟩) n c) n (B (zs.set m z)) := by
  have := (h.stored m (.int .u8 z)).1
  rw [show (B zs).set m (.int .u8 z) = B (zs.set m z) by simp [B, List.map_set]] at this
  exact this

theorem lit1' (W : World) (z : Int) (h : 0 ≤ z ∧ z ≤ 255) (g : Nat) (hg : g = W.heap.size) : Bts (W.alloc (.cells #[.int .u8 z] 5)) (some ⟨g, 0, none⟩) 1 [z] := by
  subst hg
  exact lit1 W z h

end Go.Proofs.YtdiilgedicfekaaDoor
namespace Go.Proofs.YtdiilgedicfekaaDoor
open Go.RowKit Go.Maps
set_option linter.unusedVariables false
set_option maxRecDepth 100000

/-- of the old blocks only those of S may be other than they were -/
structure Keeps (S : Nat → Prop) (w w' : World) : Prop where
  os : w'.os = w.os
  tape : w'.tape = w.tape
  output : w'.output = w.output
  size : w.heap.size ≤ w'.heap.size
  block : ∀ k, k < w.heap.size → ¬ S k → w'.heap[k]? = w.heap[k]?
theorem Keeps.refl (S : Nat → Prop) (w : World) : Keeps S w w := ⟨rfl, rfl, rfl, Nat.le_refl _, fun _ _ _ => rfl⟩
theorem Keeps.trans {S : Nat → Prop} {a b c : World} (h : Keeps S a b) (k : Keeps S b c) : Keeps S a c :=
  ⟨k.os.trans h.os, k.tape.trans h.tape, k.output.trans h.output, Nat.le_trans h.size k.size, fun i hi hn => (k.block i (Nat.lt_of_lt_of_le hi h.size) hn).trans (h.block i hi hn)⟩
theorem Keeps.mono {S S' : Nat → Prop} {a b : World} (h : Keeps S a b) (hs : ∀ k, S k → S' k) : Keeps S' a b :=
  ⟨h.os, h.tape, h.output, h.size, fun i hi hn => h.block i hi (fun e => hn (hs i e))⟩
theorem Keeps.below {S : Nat → Prop} {a b : World} {n : Nat} (h : Keeps S a b) (hs : ∀ k, S k → n ≤ k) (hn : n ≤ a.heap.size) : Below n a b :=
  ⟨h.os, h.tape, h.output, h.size, fun k hk => h.block k (by omega) (fun e => by have := hs k e; omega)⟩
theorem Keeps.ofBelow {a b : World} {n : Nat} (h : Below n a b) : Keeps (n ≤ ·) a b := ⟨h.os, h.tape, h.output, h.size, fun k hk hn => h.block k (by omega)⟩
theorem Keeps.grown {S : Nat → Prop} {a b : World} {row : Option Nat} (h : a.grownBy b row) (hr : ∀ g, row = some g → S g) : Keeps S a b :=
  ⟨h.os, h.tape, h.output, h.size, fun k hk hn => h.block k hk (fun e => hn (hr k e.symm))⟩

/-- block nb of w is a notary that stands for the entries L; all that it is made of lies in blocks of S -/
def Nota (w : World) (S : Nat → Prop) (nb : Nat) (L : List Item) : Prop :=
  ∃ bm v D, S nb ∧ S bm ∧ (∀ g, v.ownBlock = some g → S g) ∧ w.heap[nb]? = some (.cells #[.map (some bm), v] 75 (0, 0)) ∧ w.ownsMap Tryd.prog 94 (plainElem (H := Unit) Tryd.prog 22) bm L.length D ∧
    w.ownsRow 0 94 2 v L.length (cellsL L) ∧ Tags D L

theorem Nota.mono {w : World} {S S' : Nat → Prop} {nb : Nat} {L : List Item} (h : Nota w S nb L) (hs : ∀ k, S k → S' k) : Nota w S' nb L := by
  obtain ⟨bm, v, D, h1, h2, h3, h⟩ := h
  exact ⟨bm, v, D, hs _ h1, hs _ h2, fun g hg => hs g (h3 g hg), h⟩
theorem row_kept {w w' : World} {v : Value} {n : Nat} {xs : List Value} (h : w.ownsRow 0 94 2 v n xs) (hb : ∀ g, v.ownBlock = some g → g < w.heap.size → w'.heap[g]? = w.heap[g]?) : w'.ownsRow 0 94 2 v n xs := by
  refine ⟨h.1, ?_⟩
  rcases h.2 with hn | ⟨g, cap, cur, rfl, h1, hgg, rest⟩
  · exact .inl hn
  · exact .inr ⟨g, cap, cur, rfl, h1, (hb g rfl (Array.getElem?_eq_some_iff.1 hgg).1).trans hgg, rest⟩
theorem map_kept {w w' : World} {b n : Nat} {D : DataW Unit} (h : w.ownsMap Tryd.prog 94 (plainElem Tryd.prog 22) b n D) (hb : w'.heap[b]? = w.heap[b]?) : w'.ownsMap Tryd.prog 94 (plainElem Tryd.prog 22) b n D := by
  obtain ⟨es, clock, h1, h2⟩ := h
  exact ⟨es, clock, hb.trans h1, h2⟩
/-- a notary stays what it is as long as its blocks do -/
theorem Nota.kept {w w' : World} {S : Nat → Prop} {nb : Nat} {L : List Item} (h : Nota w S nb L) (hb : ∀ k, k < w.heap.size → S k → w'.heap[k]? = w.heap[k]?) : Nota w' S nb L := by
  obtain ⟨bm, v, D, h1, h2, h3, h4, h5, h6, h7⟩ := h
  exact ⟨bm, v, D, h1, h2, h3, (hb nb (Array.getElem?_eq_some_iff.1 h4).1 h1).trans h4, map_kept h5 (hb bm h5.lt h2), row_kept h6 (fun g hg hl => hb g hl (h3 g hg)), h7⟩
theorem Nota.drewN {w : World} {S : Nat → Prop} {nb : Nat} {L : List Item} (h : Nota w S nb L) (q : Nat) : Nota (w.drewN q) S nb L := h.kept (fun _ _ _ => rfl)
theorem Nota.alloc {w : World} {S : Nat → Prop} {nb : Nat} {L : List Item} (h : Nota w S nb L) (o : Obj) : Nota (w.alloc o) S nb L := h.kept (fun k hk _ => Below.heap_alloc _ _ _ hk)
theorem Nota.size {w : World} {S : Nat → Prop} {nb : Nat} {L : List Item} (h : Nota w S nb L) : nb < w.heap.size := by
  obtain ⟨bm, v, D, h1, h2, h3, h4, _⟩ := h
  exact (Array.getElem?_eq_some_iff.1 h4).1
theorem Nota.trim {w : World} {S : Nat → Prop} {nb : Nat} {L : List Item} (h : Nota w S nb L) : Nota w (fun k => S k ∧ k < w.heap.size) nb L := by
  obtain ⟨bm, v, D, h1, h2, h3, h4, h5, h6, h7⟩ := h
  exact ⟨bm, v, D, ⟨h1, (Array.getElem?_eq_some_iff.1 h4).1⟩, ⟨h2, h5.lt⟩, fun g hg => ⟨h3 g hg, (h6.lt g hg).2⟩, h4, h5, h6, h7⟩

theorem ncells_of {w : World} {b : Nat} {C : Array Value} {t : TypeId} (h : w.heap[b]? = some (.cells C t (0, 0))) (j : Nat) : w.cell? ⟨b, j, none⟩ = C[j]? ∧ w.frozen? ⟨b, j, none⟩ = false := by
  constructor
  · simp [World.cell?, h]
  · simp [World.frozen?, h]

set_option maxHeartbeats 400000 in
theorem count_any (nb : Nat) (S : Nat → Prop) (L : List Item) (w : World) (h : Nota w S nb L) (hL : L.length ≤ 1000000) :
    Calls Tryd.prog 27 #[.pointer (some ⟨nb, 0, none⟩)] w fun e w' => e = .returned (.int .i64 (L.length : Nat)) ∧ w = w' := by
  obtain ⟨bm, v, D, h1, h2, h3, h4, h5, h6, h7⟩ := h
  have c1 := (ncells_of h4 1).1
  simp at c1
  obtain ⟨A, c, rfl⟩ : ∃ A c, v = .slice A L.length c := by
    rcases h6.2 with ⟨rfl, e⟩ | ⟨g, cap, cur, rfl, _⟩
    · exact ⟨none, 0, by rw [e]⟩
    · exact ⟨_, _, rfl⟩
  clear h1 h2 h3 h4 h5 h6 h7
  go_enter Tryd.func27, Tryd.ntmps27
  go_wp2
  go_ret
  exact ⟨rfl, rfl⟩

set_option maxHeartbeats 400000 in
theorem new_any (w : World) : Calls Tryd.prog 13 #[] w fun e w' => ∃ nb, e = .returned (.pointer (some ⟨nb, 0, none⟩)) ∧ Nota w' (w.heap.size ≤ ·) nb [] ∧ Below w.heap.size w w' := by
  have hmm := @run_makeMap Tryd.prog
  go_enter Tryd.func13, Tryd.ntmps13
  go_wp2
  go_ret
  refine ⟨_, rfl, ⟨w.heap.size, .slice none 0 0, .map [], by simp, by simp, by simp [Value.ownBlock], ?_, (World.ownsMap_made w Tryd.prog 94 _).alloc _, World.ownsRow_nil _ _ _ _, Tags.nil⟩, ((Below.refl _ _).alloc (Nat.le_refl _) _).alloc (by simp) _⟩
  have := (MapKept.heap_alloc (w.alloc (.map #[] 0)) (.cells #[.map (some w.heap.size), .slice none 0 0] 75)).1
  simpa using this

theorem conv_str {w : World} {A : Option Addr} {n c : Nat} {zs : List Int} (h : Bts w A n zs) : (convert 42 9 (.slice A n c)).run Tryd.prog w = .ok (.string (str zs)) w := by
  cases A with
  | none =>
    have hn : n = 0 := by
      rcases Nat.eq_zero_or_pos n with h0 | h0
      · exact h0
      · obtain ⟨b, off, e, _⟩ := h.2.2 h0; cases e
    subst hn
    have hz : zs = [] := List.eq_nil_of_length_eq_zero h.1
    subst hz
    rw [run_convert_bytes_string w 42 9 5 none 0 c Tryd.underlying42 Tryd.underlying5 Tryd.underlying9]
    simp [Conv.bytesToString, str]
    rfl
  | some ad =>
    have hl : (zs.map fun z => UInt8.ofNat z.toNat).length = n := by rw [List.length_map]; exact h.1
    have := run_convert_bytes_back w 42 9 5 ad c (zs.map fun z => UInt8.ofNat z.toNat) Tryd.underlying42 Tryd.underlying5 Tryd.underlying9 (fun j hj => by
      have hj' : j < zs.length := by simpa using hj
      have hc := h.news j (.int .u8 (zs.getD j 0)) (B_at zs j hj')
      rw [hc]
      have hb := h.bd zs[j] (List.getElem_mem hj')
      simp only [List.getElem_map, UInt8.toNat_ofNat', List.getD, List.getElem?_eq_getElem hj', Option.getD_some, Option.some.injEq, Value.int.injEq, true_and]
      omega)
    rw [hl] at this
    exact this

def NotMem (L : List Item) (x : Item) : Prop := x ∉ L

set_option maxHeartbeats 1000000 in
theorem mint_arg (nb : Nat) (p : Int) (A : Option Addr) (n c : Nat) (w : World) (hp : ¬ (1 ≤ p ∧ p ≤ 2147483647)) :
    Calls Tryd.prog 24 #[.pointer (some ⟨nb, 0, none⟩), .int .i64 p, .slice A n c] w fun e w' => e = .returned (.tuple #[.int .u64 0, .int .i64 1]) ∧ w = w' := by
  by_cases h1 : p < 1
  · go_enter Tryd.func24, Tryd.ntmps24
    go_wp2
    go_ret2
    exact ⟨rfl, rfl⟩
  · have h2 : 2147483647 < p := by omega
    clear hp
    go_enter Tryd.func24, Tryd.ntmps24
    go_wp2
    go_ret2
    exact ⟨rfl, rfl⟩

set_option maxHeartbeats 1000000 in
theorem mint_old (nb : Nat) (S : Nat → Prop) (L : List Item) (p : Int) (A : Option Addr) (n c : Nat) (zs : List Int) (w : World) (h : Nota w S nb L) (hp : 1 ≤ p ∧ p ≤ 2147483647) (hnc : n ≤ c) (hc : c ≤ maxLen) (hb : Bts w A n zs) (hx : (p, zs) ∈ L) :
    Calls Tryd.prog 24 #[.pointer (some ⟨nb, 0, none⟩), .int .i64 p, .slice A n c] w fun e w' => e = .returned (.tuple #[.int .u64 (tagL L (p, zs) : Nat), .int .i64 0]) ∧ Below w.heap.size w w' := by
  obtain ⟨bm, v, D, h1, h2, h3, h4, h5, h6, h7⟩ := h
  have hcv := conv_str (c := c) hb
  have c0 := (ncells_of h4 0).1
  simp at c0
  have hok := h7.good _ hx
  have hz : (zeroValue 22).run Tryd.prog w = .ok (.int .u64 0) w := by kernel_rfl
  have hnb := (Array.getElem?_eq_some_iff.1 h4).1
  have hlk : ∀ (o : Obj) (q : Nat), (Instr.lookup 72 (.map (some bm)) (.agg #[.int .i64 p, .string (str zs)]) true).run Tryd.prog ((w.alloc o).drewN q) = .ok (.tuple #[.int .u64 (tagL L (p, zs) : Nat), .bool true]) ((w.alloc o).drewN q) := by
    intro o q
    have hW : ((w.alloc o).drewN q).heap[bm]? = w.heap[bm]? := Below.heap_alloc w o _ h5.lt
    obtain ⟨v1, ps, hr, hv⟩ := (map_kept h5 hW).look_ok law Tryd.underlying72 (z := .int .u64 0) (by kernel_rfl) (zd := .lit (.int .u64 0)) (zp := []) (plainElem_int Tryd.underlying22 (by decide)) (keyx_mk hok)
    rw [h7.has _ hok] at hr
    rw [h7.tag _ hx] at hv
    obtain ⟨c, rfl, hc, _⟩ := plainElem_int_inv Tryd.underlying22 hv
    have hc' : (tagL L (p, zs) : Nat) = c := by
      have := congrArg Prod.fst hc
      simpa [tagL] using this
    unfold ent at hr
    rw [hr, ← hc']
    simp [hx]
  go_enter Tryd.func24, Tryd.ntmps24
  go_wp2
  go_quiet (fail)
  go_wp2
  go_ret2
  exact ⟨rfl, below_drewN' ((Below.refl _ _).alloc (Nat.le_refl _) _) _⟩

theorem ent_info : (Tryd.prog.info? 94).map (fun i => (i.zero, i.size, i.bytes)) = some (some (.agg #[.int .i64 0, .string ByteArray.empty]), 2, 24) := by kernel_rfl
/-- 'append(l, e)' onto a notary's own row, as one step of a region that draws its order -/
theorem step_ent {w : World} {ops : Array Oper} {o : Oper} {a : Act} {K : Act → World → Prop} {Q : Exit → Act → World → Prop} {E : Prop} (hf : o.guard = none) (s x : Operand)
    (ho : o.op = .call { callee := .builtin .append, args := #[s, x], argTypes := #[73, 73] }) {k g : Nat} {v : Value} {p : Int} {t : ByteArray} {xs : List Value} (hs : a.eval s = v) (hown : w.ownsRow 0 94 2 v k xs) (hx : a.eval x = .slice (some ⟨g, 0, none⟩) 1 1)
    (h0 : w.cell? ⟨g, 0, none⟩ = some (.int .i64 p)) (h1 : w.cell? ⟨g, 1, none⟩ = some (.string t)) (hk : k ≤ 1000000)
    (h : ∀ v' w', w'.ownsRow 0 94 2 v' (k + 1) (xs ++ [.int .i64 p, .string t]) → w.grownBy w' v.ownBlock → (v'.ownBlock = v.ownBlock ∨ v'.ownBlock = some w.heap.size) → K (a.put o.dst v') w') :
    if Region.wanted o (yielded ops a.tmps) = true then Oper.wp Tryd.prog o a w K Q else E := by
  obtain ⟨i0, hi0, hz0, hz1, hz2⟩ := info_parts ent_info
  obtain ⟨v', w', hrun, r1, r2, _, r3⟩ := run_append_own_at (P := Tryd.prog) (w := w) 0 73 o.type 94 i0 (.agg #[.int .i64 0, .string ByteArray.empty]) 2 24 Tryd.underlying73 hi0 hz0 hz1 hz2 rfl (by decide) v k xs hown ⟨g, 0, none⟩ 1 1 [.int .i64 p, .string t] rfl
    (fun j y hy => by
      match j, hy with
      | 0, hy => simp at hy; subst hy; exact h0
      | 1, hy => simp at hy; subst hy; exact h1) (by simp [Value.oneCell']) (by unfold maxLen; omega) (by omega) (Nat.zero_le _)
  rw [if_pos (by simp [Region.wanted, hf])]
  unfold Oper.wp execOp
  simp only [ho, resolve, invoke, builtin, Sem.run_bind, Sem.run_pure, Result.andThen_ok, List.map_toArray, List.map_cons, List.map_nil, hs, hx, hrun]
  exact h _ _ r1 r2 r3

/-- a notary's row of entries isn't the notary's own block -/
theorem own_ne {w : World} {v : Value} {n nb : Nat} {xs : List Value} {C : Array Value} (h : w.ownsRow 0 94 2 v n xs) (hb : w.heap[nb]? = some (.cells C 75 (0, 0))) : v.ownBlock ≠ some nb := by
  intro e
  rcases h.2 with ⟨rfl, _⟩ | ⟨g, cap, cur, rfl, _, hg, _⟩
  · cases e
  · simp only [Value.ownBlock, Option.some.injEq] at e
    subst e
    rw [hb] at hg
    simp at hg

theorem own_some2 {w : World} {v : Value} {n : Nat} {xs : List Value} (h : w.ownsRow 0 94 2 v (n + 1) xs) : ∃ g c, v = .slice (some ⟨g, 0, none⟩) (n + 1) c := by
  rcases h.2 with ⟨_, e⟩ | ⟨g, cap, cur, rfl, _⟩
  · omega
  · exact ⟨_, _, rfl⟩

theorem heap_set1 {w : World} {b : Nat} {a c u : Value} {t : TypeId} (h : w.heap[b]? = some (.cells #[a, c] t (0, 0))) : (w.setCell ⟨b, 1, none⟩ u).heap[b]? = some (.cells #[a, u] t (0, 0)) := by
  simp [World.setCell, Array.getElem?_modify, h]
theorem map_ne {w : World} {b nb n : Nat} {D : DataW Unit} {C : Array Value} {t : TypeId} {m : Nat × Nat} (h : w.ownsMap Tryd.prog 94 (plainElem Tryd.prog 22) b n D) (hb : w.heap[nb]? = some (.cells C t m)) : b ≠ nb := by
  rintro rfl
  obtain ⟨es, clock, h1, _⟩ := h
  rw [hb] at h1
  cases h1
theorem map_ne_row {w : World} {b n k : Nat} {D : DataW Unit} {v : Value} {xs : List Value} (h : w.ownsMap Tryd.prog 94 (plainElem Tryd.prog 22) b n D) (hr : w.ownsRow 0 94 2 v k xs) : v.ownBlock ≠ some b := by
  intro e
  rcases hr.2 with ⟨rfl, _⟩ | ⟨g, cap, cur, rfl, _, hg, _⟩
  · cases e
  · simp only [Value.ownBlock, Option.some.injEq] at e
    exact map_ne h hg e.symm
/-- what a notary is made of when the new entry has been appended, but isn't in the map yet -/
structure Mid (w w3 : World) (S : Nat → Prop) (nb bm : Nat) (v2 : Value) (D : DataW Unit) (L : List Item) (x : Item) : Prop where
  own : w3.heap[nb]? = some (.cells #[.map (some bm), v2] 75 (0, 0))
  row : w3.ownsRow 0 94 2 v2 (L.length + 1) (cellsL (L ++ [x]))
  map : w3.ownsMap Tryd.prog 94 (plainElem Tryd.prog 22) bm L.length D
  keeps : Keeps S w w3
  at_ : ∀ g, v2.ownBlock = some g → S g ∨ w.heap.size ≤ g
  box : w3.heap[w.heap.size]? = some (.cells #[.int .i64 x.1, .string (str x.2)] 94 (0, 0))
theorem mint_mid {w w2 : World} {S : Nat → Prop} {nb bm q : Nat} {v v2 : Value} {D : DataW Unit} {L : List Item} {x : Item} {o' : Obj} (h1 : S nb) (h3 : ∀ g, v.ownBlock = some g → S g) (h4 : w.heap[nb]? = some (.cells #[.map (some bm), v] 75 (0, 0)))
    (h5 : w.ownsMap Tryd.prog 94 (plainElem Tryd.prog 22) bm L.length D) (h6 : w.ownsRow 0 94 2 v L.length (cellsL L)) (ho : w2.ownsRow 0 94 2 v2 (L.length + 1) (cellsL L ++ [.int .i64 x.1, .string (str x.2)]))
    (hg : (((w.alloc (.cells #[.int .i64 x.1, .string (str x.2)] 94)).drewN q).alloc o').grownBy w2 v.ownBlock) (hl : v2.ownBlock = v.ownBlock ∨ v2.ownBlock = some (((w.alloc (.cells #[.int .i64 x.1, .string (str x.2)] 94)).drewN q).alloc o').heap.size) :
    Mid w (w2.setCell ⟨nb, 1, none⟩ v2) S nb bm v2 D L x := by
  have hnb := (Array.getElem?_eq_some_iff.1 h4).1
  have old : ∀ k, k < w.heap.size → some k ≠ v.ownBlock → w2.heap[k]? = w.heap[k]? := fun k hk hn =>
    (hg.block k (by simp; omega) hn).trans ((Below.heap_alloc _ _ _ (by simp; omega)).trans (Below.heap_alloc w _ k hk))
  have hn2 : w2.heap[nb]? = some (.cells #[.map (some bm), v] 75 (0, 0)) := (old nb hnb (fun e => own_ne h6 h4 e.symm)).trans h4
  have hv2 := own_ne ho hn2
  refine ⟨heap_set1 hn2, ?_, ?_, ?_, ?_, ?_⟩
  · rw [cellsL_snoc]
    exact row_kept ho (fun g hgg hlt => Below.heap_setCell _ _ _ _ (fun e => hv2 (by rw [hgg]; exact congrArg some e)))
  · refine map_kept h5 ((Below.heap_setCell _ _ _ _ (fun e => map_ne h5 h4 e)).trans (old bm h5.lt (fun e => map_ne_row h5 h6 e.symm)))
  · refine ⟨hg.os, hg.tape, hg.output, ?_, fun k hk hn => ?_⟩
    · have := hg.size
      simp [World.setCell] at this ⊢
      omega
    · exact (Below.heap_setCell _ _ _ _ (fun e => hn (by rw [show k = nb from e]; exact h1))).trans (old k hk (fun e => hn (h3 k e.symm)))
  · intro g hg2
    rcases hl with e | e
    · exact .inl (h3 g (e ▸ hg2))
    · rw [e] at hg2
      simp only [Option.some.injEq] at hg2
      subst hg2
      exact .inr (by simp; omega)
  · refine (Below.heap_setCell _ _ _ _ (fun e => by have e2 : w.heap.size = nb := e; omega)).trans ((hg.block _ (by simp; omega) (fun e => by
      have := (h6.lt _ e.symm).2; omega)).trans ((Below.heap_alloc _ _ _ (by simp)).trans (MapKept.heap_alloc w _).1))
theorem Mid.end_ {w w3 w4 : World} {S : Nat → Prop} {nb bm q : Nat} {v2 : Value} {D : DataW Unit} {L : List Item} {x : Item} (h : Mid w w3 S nb bm v2 D L x) (h1 : S nb) (h2 : S bm) (hT : Tags D L) (hx : Ok x) (hn : x ∉ L)
    (hm : w4.ownsMap Tryd.prog 94 (plainElem Tryd.prog 22) bm (L.length + 1) (D.put (keyx x) (.lit (.int .u64 (L.length + 1 : Nat))))) (hg : (w3.drewN q).grownBy w4 (some bm)) :
    Nota w4 (fun k => S k ∨ w.heap.size ≤ k) nb (L ++ [x]) ∧ Keeps S w w4 := by
  have hbl : ∀ k, k < w3.heap.size → k ≠ bm → w4.heap[k]? = w3.heap[k]? := fun k hk hne => hg.block k hk (fun e => hne (Option.some.inj e))
  refine ⟨⟨bm, v2, _, .inl h1, .inl h2, h.at_, (hbl nb (Array.getElem?_eq_some_iff.1 h.own).1 (fun e => map_ne h.map h.own e.symm)).trans h.own, by simpa using hm,
    by simpa using row_kept h.row (fun g hg hl => hbl g hl (fun e => map_ne_row h.map h.row (by rw [hg, e]))), hT.snoc hx hn⟩, h.keeps.trans (Keeps.grown (⟨hg.os, hg.tape, hg.output, hg.size, hg.block⟩ : w3.grownBy w4 (some bm)) (fun g e => by cases e; exact h2))⟩

theorem wf_tag (n : Nat) (h : n ≤ 1000000) : (Lit.int .u64 (n + 1 : Nat)).wf = true := by
  simp [Lit.wf, IntKind.min, IntKind.max, IntKind.signed, IntKind.bits]
  omega

set_option maxHeartbeats 1000000 in
theorem mint_new (nb : Nat) (S : Nat → Prop) (L : List Item) (p : Int) (A : Option Addr) (n c : Nat) (zs : List Int) (w : World) (h : Nota w S nb L) (hp : 1 ≤ p ∧ p ≤ 2147483647) (hnc : n ≤ c) (hc : c ≤ maxLen) (hb : Bts w A n zs) (hx : (p, zs) ∉ L) (hL : L.length ≤ 1000000) :
    Calls Tryd.prog 24 #[.pointer (some ⟨nb, 0, none⟩), .int .i64 p, .slice A n c] w fun e w' => e = .returned (.tuple #[.int .u64 (L.length + 1 : Nat), .int .i64 0]) ∧ Nota w' (fun k => S k ∨ w.heap.size ≤ k) nb (L ++ [(p, zs)]) ∧ Keeps S w w' := by
  obtain ⟨bm, v, D, h1, h2, h3, h4, h5, h6, h7⟩ := h
  have hcv := conv_str (c := c) hb
  have c0 := (ncells_of h4 0).1
  have c1 := (ncells_of h4 1).1
  simp at c0 c1
  have hok : Ok (p, zs) := ⟨WalkArith.wf_i64 (by omega), hb.2.1, by have := hb.1; show zs.length ≤ _; omega⟩
  have hz : (zeroValue 22).run Tryd.prog w = .ok (.int .u64 0) w := by kernel_rfl
  have hnb := (Array.getElem?_eq_some_iff.1 h4).1
  have hlk : ∀ (o : Obj) (q : Nat), (Instr.lookup 72 (.map (some bm)) (.agg #[.int .i64 p, .string (str zs)]) true).run Tryd.prog ((w.alloc o).drewN q) = .ok (.tuple #[.int .u64 0, .bool false]) ((w.alloc o).drewN q) := by
    intro o q
    have hW : ((w.alloc o).drewN q).heap[bm]? = w.heap[bm]? := Below.heap_alloc w o _ h5.lt
    obtain ⟨v1, ps, hr, hv⟩ := (map_kept h5 hW).look_ok law Tryd.underlying72 (z := .int .u64 0) (by kernel_rfl) (zd := .lit (.int .u64 0)) (zp := []) (plainElem_int Tryd.underlying22 (by decide)) (keyx_mk hok)
    have hno : Maps.has D (keyx (p, zs)) = false := by rw [h7.has _ hok]; simp [hx]
    rw [hno] at hr
    rw [atKey_of_not_has hno] at hv
    obtain ⟨c, rfl, hc, _⟩ := plainElem_int_inv Tryd.underlying22 hv
    have hc' : (0 : Int) = c := by
      have := congrArg Prod.fst hc
      simpa using this
    unfold ent at hr
    rw [hr, ← hc']
  have H3 := Lib.hid h3; have H4 := Lib.hid h4; have H5 := Lib.hid h5; have H6 := Lib.hid h6; have H7 := Lib.hid h7; have HX := Lib.hid hx; have HOK := Lib.hid hok; have H1 := Lib.hid h1; have H2 := Lib.hid h2
  clear h1 h2 h3 h4 h5 h6 h7 hx hok
  go_enter Tryd.func24, Tryd.ntmps24
  go_wp2
  go_quiet (fail)
  clear hlk
  go_wp2
  have HOW : Hid (∀ (o o' : Obj) (q : Nat), (((w.alloc o).drewN q).alloc o').ownsRow 0 94 2 v L.length (cellsL L)) := Lib.hid (fun o o' q =>
    row_kept H6.out (fun g hg hl => ((Below.heap_alloc _ _ _ (by simp; omega)).trans (Below.heap_alloc w o g hl))))
  have HNE : Hid (v.ownBlock ≠ some nb) := Lib.hid (own_ne H6.out H4.out)
  have HNB : Hid (∀ (o o' : Obj) (q : Nat) (w' : World), (((w.alloc o).drewN q).alloc o').grownBy w' v.ownBlock → w'.heap[nb]? = some (.cells #[.map (some bm), v] 75 (0, 0))) := Lib.hid (fun o o' q w' hg =>
    (hg.block nb (by simp; omega) (fun e => HNE.out e.symm)).trans ((Below.heap_alloc _ _ _ (by simp; omega)).trans ((Below.heap_alloc w o nb hnb).trans H4.out)))
  go_region_law (refine step_ent rfl (.tmp 37) (.tmp 39) rfl (k := L.length) (xs := cellsL L) (g := w.heap.size + 1) (p := p) (t := str zs) (v := v) rfl (HOW.out _ _ _) rfl (by go_simp) (by go_simp) hL ?_; intro v2 w2 ho2 hg2 hl2; obtain ⟨g2, d2, rfl⟩ := own_some2 ho2; have hc2 := (ncells_of (HNB.out _ _ _ _ hg2) 1).1; have hf2 := (ncells_of (HNB.out _ _ _ _ hg2) 1).2; simp at hc2; have HN2 := Lib.hid (HNB.out _ _ _ _ hg2); have HO2 := Lib.hid ho2; have HG2 := Lib.hid hg2; have HL2 := Lib.hid hl2; clear ho2 hg2 hl2)
  all_goals
    have HMID := Lib.hid (mint_mid (x := (p, zs)) H1.out H3.out H4.out H5.out H6.out HO2.out HG2.out HL2.out)
    clear hc2 hf2 HN2 HO2 HG2 HL2
    obtain ⟨w3, hw3⟩ : ∃ w3, w2.setCell ⟨nb, 1, none⟩ (.slice (some ⟨g2, 0, none⟩) (L.length + 1) d2) = w3 := ⟨_, rfl⟩
    rw [hw3] at HMID ⊢
    clear hw3
    have d0 := (ncells_of HMID.out.own 0).1
    have d1 := (ncells_of HMID.out.own 1).1
    have x0 := (ncells_of HMID.out.box 0).1
    have x1 := (ncells_of HMID.out.box 1).1
    simp at d0 d1 x0 x1
    clear c0 c1
    go_wp2
    obtain ⟨w4, hup, hm4, hg4⟩ : ∃ w4, (Instr.mapUpdate 72 (.map (some bm)) (.agg #[.int .i64 p, .string (str zs)]) (.int .u64 ((L.length : Int) + 1))).run Tryd.prog w3.drew = .ok () w4 ∧ w4.ownsMap Tryd.prog 94 (plainElem Tryd.prog 22) bm (L.length + 1) (D.put (keyx (p, zs)) (.lit (.int .u64 (L.length + 1 : Nat)))) ∧ w3.drew.grownBy w4 (some bm) :=
      (show w3.drew.ownsMap Tryd.prog 94 (plainElem Tryd.prog 22) bm L.length D from HMID.out.map).update law Tryd.underlying72 (by unfold maxLen; omega) (keyx_mk HOK.out) (plainElem_int Tryd.underlying22 (wf_tag L.length hL))
    have HM4 := Lib.hid hm4
    have HG4 : Hid ((w3.drewN 1).grownBy w4 (some bm)) := Lib.hid hg4
    clear hm4 hg4
    go_region
    go_wp2
    go_ret2
    exact ⟨rfl, HMID.out.end_ H1.out H2.out H7.out HOK.out HX.out HM4.out HG4.out⟩

end Go.Proofs.YtdiilgedicfekaaDoor
namespace Go.Proofs.YtdiilgedicfekaaDoor
open Go.RowKit Go.Maps
set_option linter.unusedVariables false
set_option maxRecDepth 100000

theorem Nota.form {w : World} {S : Nat → Prop} {nb : Nat} {L : List Item} (h : Nota w S nb L) : ∃ A c, w.cell? ⟨nb, 1, none⟩ = some (.slice A L.length c) ∧
    ∀ k x, L[k]? = some x → ∃ g, A = some ⟨g, 0, none⟩ ∧ g < w.heap.size ∧ w.cell? ⟨g, k * 2, none⟩ = some (.int .i64 x.1) ∧ w.cell? ⟨g, k * 2 + 1, none⟩ = some (.string (str x.2)) := by
  obtain ⟨bm, v, D, h1, h2, h3, h4, h5, h6, h7⟩ := h
  have c1 := (ncells_of h4 1).1
  simp at c1
  rcases h6.2 with ⟨rfl, e⟩ | ⟨g, cap, cur, rfl, _, hg, hle, hm, hsz, hcur⟩
  · exact ⟨none, 0, by rw [c1, e], fun k x hk => by have := (List.getElem?_eq_some_iff.1 hk).1; omega⟩
  · refine ⟨_, cap, c1, fun k x hk => ⟨g, rfl, (Array.getElem?_eq_some_iff.1 hg).1, ?_⟩⟩
    obtain ⟨e1, e2⟩ := cellsL_at L k x hk
    have hkl := (List.getElem?_eq_some_iff.1 hk).1
    rw [(ncells_of hg (k * 2)).1, (ncells_of hg (k * 2 + 1)).1]
    rw [← hcur] at e1 e2
    rw [List.getElem?_take_of_lt (by omega)] at e1 e2
    exact ⟨by simpa using e1, by simpa using e2⟩

theorem u64_in {a : Int} (h0 : 0 ≤ a) (h1 : a < 18446744073709551616) : IntKind.u64.wrap a = a := by
  simp [IntKind.wrap, IntKind.bits, IntKind.signed]
  omega

theorem noGuard48 : Tryd.prog.eqGuardType Tryd.prog.depth 94 = false := by kernel_rfl
theorem str_toList {xs ys : List Int} (hx : Bd xs) (hy : Bd ys) (h : (str xs).toList = (str ys).toList) : xs = ys := by
  rw [ByteArray.toList_eq, ByteArray.toList_eq] at h
  exact str_inj hx hy (by
    have : (str xs).data = (str ys).data := Array.toList_inj.1 h
    cases hs : str xs; cases ht : str ys
    rw [hs, ht] at this
    simpa using this)
/-- what Check answers -/
def checkL (L : List Item) (x : Item) (T : Nat) : Int := if 1 ≤ T ∧ L[T - 1]? = some x then 0 else 12

set_option maxHeartbeats 1000000 in
theorem check_zero (nb : Nat) (p : Int) (A : Option Addr) (n c : Nat) (w : World) :
    Calls Tryd.prog 41 #[.pointer (some ⟨nb, 0, none⟩), .int .i64 p, .slice A n c, .int .u64 0] w fun e w' => e = .returned (.int .i64 12) ∧ ∃ q, w' = w.drewN q := by
  go_enter Tryd.func41, Tryd.ntmps41
  go_wp2
  go_quiet (fail)
  go_wp2
  go_ret
  exact ⟨rfl, _, rfl⟩

set_option maxHeartbeats 1000000 in
theorem check_over (nb : Nat) (S : Nat → Prop) (L : List Item) (p : Int) (A : Option Addr) (n c T : Nat) (w : World) (h : Nota w S nb L) (hL : L.length ≤ 1000000) (hT : L.length < T) (hT2 : T < 18446744073709551616) :
    Calls Tryd.prog 41 #[.pointer (some ⟨nb, 0, none⟩), .int .i64 p, .slice A n c, .int .u64 (T : Int)] w fun e w' => e = .returned (.int .i64 12) ∧ ∃ q, w' = w.drewN q := by
  obtain ⟨Ae, ce, c1, _⟩ := h.form
  have hnb := h.size
  have t1 : decide ((T : Int) < 1) = false := by simp; omega
  have t2 : decide ((L.length : Int) < (T : Int)) = true := by simp; omega
  clear h
  go_enter Tryd.func41, Tryd.ntmps41
  go_wp2
  go_quiet (fail)
  go_wp2
  go_ret
  exact ⟨rfl, _, rfl⟩

def chk (y x : Item) : Int := if y = x then 0 else 12
set_option maxHeartbeats 1000000 in
theorem check_in (nb g m ce : Nat) (p q : Int) (A : Option Addr) (n c k : Nat) (zs ys : List Int) (w : World) (hnb : nb < w.heap.size) (c1 : w.cell? ⟨nb, 1, none⟩ = some (.slice (some ⟨g, 0, none⟩) m ce)) (hm2 : m ≤ 1000000) (hk : k < m) (hg : g < w.heap.size)
    (d0 : w.cell? ⟨g, k * 2, none⟩ = some (.int .i64 q)) (d1 : w.cell? ⟨g, k * 2 + 1, none⟩ = some (.string (str ys))) (hb : Bts w A n zs) (hy : Bd ys) :
    Calls Tryd.prog 41 #[.pointer (some ⟨nb, 0, none⟩), .int .i64 p, .slice A n c, .int .u64 ((k : Int) + 1)] w fun e w' => e = .returned (.int .i64 (chk (q, ys) (p, zs))) ∧ ∃ q, w' = w.drewN q := by
  have t1 : decide (((k : Int) + 1) < 1) = false := by simp; omega
  have t2 : decide ((m : Int) < ((k : Int) + 1)) = false := by simp; omega
  have hcv : ∀ q, (convert 42 9 (.slice A n c)).run Tryd.prog (w.drewN q) = .ok (.string (str zs)) (w.drewN q) := fun q => conv_str (hb.drewN q)
  have e1 : IntKind.u64.wrap (m : Int) = (m : Int) := u64_in (by omega) (by omega)
  have e2 : IntKind.u64.wrap (k : Int) = (k : Int) := u64_in (by omega) (by omega)
  have hm := noGuard48
  have e3 : (k : Int) < (m : Int) := by omega
  by_cases h1 : q = p
  · subst h1
    by_cases h2 : ys = zs
    · subst h2
      clear hb hy
      go_enter Tryd.func41, Tryd.ntmps41
      go_wp2
      go_quiet (fail)
      go_wp2
      go_ret
      exact ⟨ret_int (by simp [chk]), _, rfl⟩
    · have h3 : ¬ (str ys).toList = (str zs).toList := fun e => h2 (str_toList hy hb.bd e)
      have H2 := Lib.hid h2
      clear hb hy h2
      go_enter Tryd.func41, Tryd.ntmps41
      go_wp2
      go_quiet (fail)
      go_wp2
      go_ret
      exact ⟨ret_int (by simp [chk, H2.out]), _, rfl⟩
  · clear hb hy
    go_enter Tryd.func41, Tryd.ntmps41
    go_wp2
    go_quiet (fail)
    go_wp2
    go_ret
    exact ⟨ret_int (by simp [chk, h1]), _, rfl⟩

theorem check_any (nb : Nat) (S : Nat → Prop) (L : List Item) (p : Int) (A : Option Addr) (n c T : Nat) (zs : List Int) (w : World) (h : Nota w S nb L) (hL : L.length ≤ 1000000) (hb : Bts w A n zs) (hT : T < 18446744073709551616) :
    Calls Tryd.prog 41 #[.pointer (some ⟨nb, 0, none⟩), .int .i64 p, .slice A n c, .int .u64 (T : Int)] w fun e w' => e = .returned (.int .i64 (checkL L (p, zs) T)) ∧ ∃ q, w' = w.drewN q := by
  rcases Nat.eq_zero_or_pos T with h0 | h0
  · subst h0
    exact (check_zero nb p A n c w).mono fun e w' h => ⟨by rw [h.1]; rfl, h.2⟩
  · obtain ⟨k, rfl⟩ : ∃ k, T = k + 1 := ⟨T - 1, by omega⟩
    by_cases hk : k < L.length
    · have hy : L[k]? = some L[k] := List.getElem?_eq_getElem hk
      have hg : Bd (L[k]).2 := by
        obtain ⟨bm, v, D, _, _, _, _, _, _, h7⟩ := h
        exact (h7.good _ (List.getElem_mem hk)).2.1
      obtain ⟨Ae, ce, c1, hc⟩ := h.form
      obtain ⟨g, rfl, hgl, d0, d1⟩ := hc k _ hy
      refine (check_in nb g L.length ce p (L[k]).1 A n c k zs (L[k]).2 w h.size c1 hL hk hgl d0 d1 hb hg).mono fun e w' h => ⟨?_, h.2⟩
      rw [h.1]
      unfold checkL chk
      rw [show k + 1 - 1 = k by omega, hy]
      by_cases e : L[k] = (p, zs)
      · simp [e]
      · simp [e]
    · refine (check_over nb S L p A n c (k + 1) w h hL (by omega) hT).mono fun e w' h => ⟨?_, h.2⟩
      rw [h.1]
      unfold checkL
      rw [show k + 1 - 1 = k by omega, List.getElem?_eq_none (by omega)]
      simp

end Go.Proofs.YtdiilgedicfekaaDoor
namespace Go.Proofs.YtdiilgedicfekaaDoor
open Go.RowKit Go.Maps
set_option linter.unusedVariables false
set_option maxRecDepth 100000

theorem mint_any (nb : Nat) (S : Nat → Prop) (L : List Item) (p : Int) (A : Option Addr) (n c : Nat) (zs : List Int) (w : World) (h : Nota w S nb L) (hp : 1 ≤ p ∧ p ≤ 2147483647) (hnc : n ≤ c) (hc : c ≤ maxLen) (hb : Bts w A n zs) (hL : L.length ≤ 1000000) :
    Calls Tryd.prog 24 #[.pointer (some ⟨nb, 0, none⟩), .int .i64 p, .slice A n c] w fun e w' => e = .returned (.tuple #[.int .u64 (tagL L (p, zs) : Nat), .int .i64 0]) ∧ Nota w' (fun k => S k ∨ w.heap.size ≤ k) nb (mintL L (p, zs)) ∧ Keeps S w w' := by
  by_cases hx : (p, zs) ∈ L
  · refine (mint_old nb S L p A n c zs w h hp hnc hc hb hx).mono fun e w' h' => ⟨h'.1, ?_, ?_⟩
    · rw [mintL, if_pos hx]
      exact (h.kept (fun k hk _ => h'.2.block k hk)).mono (fun k hk => .inl hk)
    · have b := h'.2
      exact ⟨b.os, b.tape, b.output, b.size, fun k hk _ => b.block k hk⟩
  · refine (mint_new nb S L p A n c zs w h hp hnc hc hb hx hL).mono fun e w' h' => ⟨?_, ?_, h'.2.2⟩
    · rw [tagL_new hx]; exact h'.1
    · rw [mintL, if_neg hx]; exact h'.2.1

/-- .. all that the notary is made of lies from block Z on -/
theorem mint_b (Z nb : Nat) (L : List Item) (p : Int) (A : Option Addr) (n c : Nat) (zs : List Int) (w : World) (h : Nota w (Z ≤ ·) nb L) (hZ : Z ≤ w.heap.size) (hp : 1 ≤ p ∧ p ≤ 2147483647) (hnc : n ≤ c) (hc : c ≤ maxLen) (hb : Bts w A n zs) (hL : L.length ≤ 1000000)
    (t : Nat) (L' : List Item) (ht : tagL L (p, zs) = t) (hl : mintL L (p, zs) = L') :
    Calls Tryd.prog 24 #[.pointer (some ⟨nb, 0, none⟩), .int .i64 p, .slice A n c] w fun e w' => e = .returned (.tuple #[.int .u64 (t : Nat), .int .i64 0]) ∧ Nota w' (Z ≤ ·) nb L' ∧ Below Z w w' := by
  subst ht; subst hl
  refine (mint_any nb _ L p A n c zs w h hp hnc hc hb hL).mono fun e w' h' => ⟨h'.1, h'.2.1.mono (fun k hk => ?_), h'.2.2.below (fun _ h => h) hZ⟩
  rcases hk with hk | hk <;> omega
theorem check_b (nb : Nat) (S : Nat → Prop) (L : List Item) (p : Int) (A : Option Addr) (n c T : Nat) (zs : List Int) (w : World) (h : Nota w S nb L) (hL : L.length ≤ 1000000) (hb : Bts w A n zs) (hT : T < 18446744073709551616) (r : Int) (hr : checkL L (p, zs) T = r) :
    Calls Tryd.prog 41 #[.pointer (some ⟨nb, 0, none⟩), .int .i64 p, .slice A n c, .int .u64 (T : Int)] w fun e w' => e = .returned (.int .i64 r) ∧ ∃ q, w' = w.drewN q := by
  subst hr
  exact check_any nb S L p A n c T zs w h hL hb hT

end Go.Proofs.YtdiilgedicfekaaDoor
