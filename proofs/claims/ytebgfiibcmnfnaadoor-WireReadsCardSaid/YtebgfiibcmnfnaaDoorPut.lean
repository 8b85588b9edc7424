/-
  The contract of embrasure/uvar.Put: it answers the number as bytes ('Uv.enc'), in a new row of its own; what was there is as it was. Conditions: the number is a uint64.
-/
import Derived.Test.YtebgfiibcmnfnaaDoorGet
import Derived.Test.YtebgfiibcmnfnaaDoorLen
import Derived.Laws.OwnMore
namespace Go.Proofs.YtebgfiibcmnfnaaDoor
open Go.RowKit
set_option linter.unusedVariables false

theorem u8_info : (Tryd.prog.info? 5).map (fun i => (i.zero, i.size, i.bytes)) = some (some (.int .u8 0), 1, 1) := by kernel_rfl

/-- bytes as values -/
def B (zs : List Int) : List Value := zs.map (Value.int .u8)
theorem B_length (zs : List Int) : (B zs).length = zs.length := by simp [B]
theorem B_one (zs : List Int) : ∀ u ∈ B zs, u.oneCell' = true := by
  intro u hu
  obtain ⟨z, _, rfl⟩ := List.mem_map.1 hu
  rfl
theorem B_append (xs ys : List Int) : B (xs ++ ys) = B xs ++ B ys := by simp [B]
theorem B_at (zs : List Int) (j : Nat) (h : j < zs.length) : (B zs)[j]? = some (.int .u8 (zs.getD j 0)) := by simp [B, List.getD, h]

section
variable {w w' : World} {base : Nat} {v : Value} {n : Nat} {zs : List Int}
theorem own_below (h : w.ownsRow base 5 1 v n (B zs)) (hb : Below w.heap.size w w') : w'.ownsRow base 5 1 v n (B zs) := by
  refine ⟨h.1, ?_⟩
  rcases h.2 with hn | ⟨g, cap, cur, rfl, h1, hgg, rest⟩
  · exact .inl hn
  · exact .inr ⟨g, cap, cur, rfl, h1, (hb.block g (Array.getElem?_eq_some_iff.1 hgg).1).trans hgg, rest⟩
/-- the form of an owned row, and that it reads as its bytes -/
theorem own_form (h : w.ownsRow base 5 1 v n (B zs)) (hz : ∀ z ∈ zs, 0 ≤ z ∧ z ≤ 255) : ∃ A c, v = .slice A n c ∧ n ≤ c ∧ c ≤ maxLen ∧ Bts w A n zs := by
  have hl : zs.length = n := by have := h.1; rw [B_length] at this; omega
  rcases h.2 with ⟨rfl, rfl⟩ | ⟨g, cap, cur, rfl, h1, hgg, h2, h3, rest⟩
  · exact ⟨none, 0, rfl, Nat.le_refl _, Nat.zero_le _, hl, hz, fun h => by omega⟩
  · refine ⟨_, cap, rfl, h2, h3, hl, hz, fun _ => ⟨g, 0, rfl, (Array.getElem?_eq_some_iff.1 hgg).1, fun j hj => ?_⟩⟩
    have := h.cellAt j (by omega)
    rw [B_at zs j (by omega)] at this
    simpa using this
theorem Bts.below {A : Option Addr} (h : Bts w A n zs) (hb : Below w.heap.size w w') : Bts w' A n zs := by
  obtain ⟨h1, h2, h3⟩ := h
  refine ⟨h1, h2, fun hn => ?_⟩
  obtain ⟨b, off, rfl, hlt, hc⟩ := h3 hn
  exact ⟨b, off, rfl, Nat.lt_of_lt_of_le hlt hb.size, fun j hj => (hb.cell (p := ⟨b, off + j, none⟩) hlt).trans (hc j hj)⟩
end

/-! ### the row while it is filled -/
def row (v n k : Nat) : List Int := (List.range n).map fun i => if i < k then ((v / 128 ^ i % 128 + 128 : Nat) : Int) else 0
theorem row_length (v n k : Nat) : (row v n k).length = n := by simp [row]
theorem row_zero (v n : Nat) : (List.replicate n (Value.int .u8 0)) = B (row v n 0) := by
  unfold B row
  refine List.ext_getElem (by simp) fun i h1 h2 => ?_
  simp
theorem row_step (v n k : Nat) (hk : k < n) : (B (row v n k)).set k (.int .u8 ((v / 128 ^ k % 128 + 128 : Nat) : Int)) = B (row v n (k + 1)) := by
  unfold B row
  refine List.ext_getElem (by simp) fun i h1 h2 => ?_
  rw [List.getElem_set]
  split
  · rename_i h; subst h; simp
  · rename_i h
    simp only [List.getElem_map, List.getElem_range]
    by_cases h3 : i < k
    · rw [if_pos h3, if_pos (by omega)]
    · rw [if_neg h3, if_neg (by omega)]
theorem row_done (v : Nat) (hv : v < 9223372036854775808) : (B (row v (Uv.len v) (Uv.len v))).set (Uv.len v - 1) (.int .u8 ((v / 128 ^ (Uv.len v - 1) % 128 : Nat) : Int)) = B (Uv.enc v) := by
  have p := Uv.len_pos v
  unfold B row Uv.enc
  rw [if_pos hv]
  refine List.ext_getElem (by simp) fun i h1 h2 => ?_
  rw [List.getElem_set]
  split
  · rename_i h; subst h; simp [Uv.byte, show ¬ (Uv.len v - 1 + 1 < Uv.len v) by omega]
  · rename_i h
    simp at h1
    simp [Uv.byte, show i + 1 < Uv.len v by omega, h1]
theorem row_last (v : Nat) : (row v (Uv.len v) (Uv.len v)).getD (Uv.len v - 1) 0 = ((v / 128 ^ (Uv.len v - 1) % 128 + 128 : Nat) : Int) := by
  have p := Uv.len_pos v
  simp [row, List.getD, show Uv.len v - 1 < Uv.len v by omega]

set_option maxHeartbeats 1000000 in
theorem put_small (v : Nat) (w : World) (hv : v < 9223372036854775808) :
    Calls Tryd.prog 21 #[.int .u64 (v : Int)] w fun e w' => ∃ r, e = .returned r ∧ w'.ownsRow w.heap.size 5 1 r (Uv.enc v).length (B (Uv.enc v)) ∧ Below w.heap.size w w' := by
  obtain ⟨i0, hi0, hz0, hz1, hz2⟩ := info_parts u8_info
  have hn1 := Uv.len_pos v
  have hn9 := Uv.len_small v hv
  have hD := row_done v hv
  have hLS := row_last v
  have hle : lenOf v = Uv.len v := by unfold lenOf; rw [if_pos hv]
  have hll := Uv.enc_length v hv
  rw [hll]
  clear hll
  have hlen := len_any v w (by omega)
  rw [hle] at hlen
  clear hle
  generalize hn : Uv.len v = n at *
  have HD := Lib.hid hD; clear hD
  have HLS := Lib.hid hLS; clear hLS
  have HLEN := Lib.hid hlen; clear hlen
  have HN := Lib.hid hn; clear hn
  have hne : ((n : Int) == 0) = false := by simp; omega
  go_enter Tryd.func21, Tryd.ntmps21
  go_wp2_with (first
    | (go_at_call 24; refine (HLEN.out).mono ?_; rintro e w' ⟨rfl, rfl⟩)
    | (at_make; refine wpList_make_full _ rfl _ _ 24 rfl w.heap.size 5 i0 (.int .u8 0) 1 Tryd.underlying24 hi0 hz0 hz1 .i64 .i64 _ _ n rfl rfl rfl rfl (by rw [hz2]; omega) (by unfold maxLen; omega) (Nat.le_refl _) ?_; intro w1 hown1 hgrow1))
  go_loopw [14, 0] (fun i x wr => ∃ (k X : Nat), k ≤ n ∧ i = .int .i64 k ∧ x = .int .u64 (X : Int) ∧ X = v / 128 ^ k ∧ wr.ownsRow w.heap.size 5 1 (.slice (some ⟨w.heap.size, 0, none⟩) n n) n (B (row v n k)) ∧ Below w.heap.size w wr)
    (fun i _ _ => n - (intOf i).toNat)
  case atStart =>
    refine ⟨0, v, by omega, rfl, rfl, by simp, ?_, (Below.refl _ _).grown hgrow1 (Nat.le_refl _) (by simp)⟩
    rw [← row_zero v n]
    have e := toList_madeCells_one (.int .u8 0) n
    simpa [Value.cells, e] using hown1
  case round =>
    obtain ⟨k, X, hk, rfl, rfl, hX, hown, hbel⟩ := hrel
    clear hown1 hgrow1
    have HX := Lib.hid hX; clear hX
    have hXv : X ≤ v := by have := HX.out; rw [this]; exact Nat.div_le_self _ _
    have HB := Lib.hid hbel; clear hbel
    have HO := Lib.hid hown; clear hown
    by_cases hkn : k < n
    · have hcell := HO.out.cellAt k (by omega)
      have hfr := HO.out.frozenAt k
      rw [B_at _ k (by rw [row_length]; exact hkn)] at hcell
      obtain ⟨y, hy⟩ : ∃ y, (row v n k).getD k 0 = y := ⟨_, rfl⟩
      rw [hy] at hcell
      clear hy
      have e1 : bits .or .u8 ((X : Int) % 256) 128 = ((X % 128 + 128 : Nat) : Int) := by rw [Uv.or128 _ (by omega) (by omega)]; omega
      go_wp2
      go_roundw
      case rel =>
        refine ⟨k + 1, X / 128, by omega, by go_num, by go_num, by rw [Uv.div_pow', ← HX.out], ?_, HB.out.setCell (p := ⟨w.heap.size, k, none⟩) (Nat.le_refl _) _⟩
        have hst := HO.out.stored k (.int .u8 ((X % 128 + 128 : Nat) : Int))
        rw [HX.out, row_step v n k hkn, ← HX.out] at hst
        have e3 : ((X % 128 + 128 : Nat) : Int) = (X : Int) % 128 + 128 := by omega
        rw [e3] at hst
        exact hst.1
      case measure => simp [intOf]; omega
    · obtain rfl : k = n := by omega
      have hcell := HO.out.cellAt (k - 1) (by omega)
      have hfr := HO.out.frozenAt (k - 1)
      rw [B_at _ (k - 1) (by rw [row_length]; omega), HLS.out] at hcell
      have hst := (HO.out.stored (k - 1) (.int .u8 ((v / 128 ^ (k - 1) % 128 : Nat) : Int))).1
      rw [HD.out] at hst
      obtain ⟨m, hm⟩ : ∃ m, k - 1 = m := ⟨_, rfl⟩
      rw [hm] at hst hcell hfr
      obtain ⟨d, hd⟩ : ∃ d, v / 128 ^ m % 128 = d := ⟨_, rfl⟩
      have hd1 : d < 128 := by omega
      rw [hd] at hst hcell
      clear hd HLS HD HO HN HLEN
      have HST := Lib.hid hst; clear hst
      have e4 : ((d + 128 : Nat) : Int) = (d : Int) + 128 := by omega
      rw [e4] at hcell
      clear e4
      have e2 : bits .andNot .u8 ((d : Int) + 128) 128 = (d : Int) := by rw [Uv.andNot128 _ (by omega) (by omega)]; omega
      go_wp2
      go_ret
      exact ⟨_, rfl, HST.out, HB.out.setCell (p := ⟨w.heap.size, m, none⟩) (Nat.le_refl _) _⟩

set_option maxHeartbeats 400000 in
theorem put_big (v : Nat) (w : World) (hv : ¬ v < 9223372036854775808) (hv2 : v < 18446744073709551616) :
    Calls Tryd.prog 21 #[.int .u64 (v : Int)] w fun e w' => ∃ r, e = .returned r ∧ w'.ownsRow w.heap.size 5 1 r (Uv.enc v).length (B (Uv.enc v)) ∧ Below w.heap.size w w' := by
  have hlen := len_any v w hv2
  have hle : lenOf v = 0 := by unfold lenOf; rw [if_neg hv]
  rw [hle] at hlen
  have HLEN := Lib.hid hlen
  rw [Uv.enc_big v hv]
  clear hlen hle
  go_enter Tryd.func21, Tryd.ntmps21
  go_wp2_with (go_at_call 24; refine (HLEN.out).mono ?_; rintro e w' ⟨rfl, rfl⟩)
  go_ret
  exact ⟨_, rfl, World.ownsRow_nil _ _ _ _, Below.refl _ _⟩

/-- uvar.Put, whatever the number -/
theorem put_any (v : Nat) (w : World) (hv : v < 18446744073709551616) :
    Calls Tryd.prog 21 #[.int .u64 (v : Int)] w fun e w' => ∃ r, e = .returned r ∧ w'.ownsRow w.heap.size 5 1 r (Uv.enc v).length (B (Uv.enc v)) ∧ Below w.heap.size w w' := by
  by_cases h : v < 9223372036854775808
  · exact put_small v w h
  · exact put_big v w h hv

end Go.Proofs.YtebgfiibcmnfnaaDoor
