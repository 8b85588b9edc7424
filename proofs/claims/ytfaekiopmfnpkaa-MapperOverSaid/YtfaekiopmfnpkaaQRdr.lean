/-
  Embrasure/pmp's reader: a block that holds what is left of the bytes; numbers and what it hands back; bytes.Equal. Conditions: as each states.
-/
import Derived.Test.YtfaekiopmfnpkaaQBig
import Derived.Laws.BitsAllLaws
namespace Go.Proofs.Ytfaekiopmfnpkaa.Pp
open Go.RowKit
attribute [local go_sem] Oper.semAt_some
set_option linter.unusedVariables false
set_option linter.unusedSimpArgs false

theorem cells_of {w : World} {b : Nat} {C : Array Value} {t : TypeId} (h : w.heap[b]? = some (.cells C t (0, 0))) (j : Nat) : w.cell? ⟨b, j, none⟩ = C[j]? ∧ w.frozen? ⟨b, j, none⟩ = false := by
  constructor
  · simp [World.cell?, h]
  · simp [World.frozen?, h]
theorem add_block (ad : Addr) (k : Nat) : (ad.add k).block = ad.block := by unfold Addr.add; split <;> rfl
theorem Bts.from {w : World} {A : Option Addr} {n c k : Nat} {zs : List Int} (h : Bts w A n zs) (hk : k ≤ n) (hc : n ≤ c) : Bts w (if c = k then A else A.map (·.add k)) (n - k) (zs.drop k) := by
  obtain ⟨h1, h2, h3⟩ := h
  refine ⟨by simp; omega, fun z hz => h2 z (List.mem_of_mem_drop hz), fun hn => ?_⟩
  obtain ⟨b, off, rfl, hb, hcell⟩ := h3 (by omega)
  rw [if_neg (by omega)]
  refine ⟨b, off + k, ?_, hb, fun j hj => ?_⟩
  · simp only [Option.map_some]
    unfold Addr.add
    split <;> simp_all
  · rw [Nat.add_assoc, hcell (k + j) (by omega)]
    simp [List.getD]
/-- the block R holds a slice of these bytes, which lie in block b -/
def Rd (w : World) (R b : Nat) (zs : List Int) : Prop := ∃ A n c, w.heap[R]? = some (.cells #[.slice A n c] 38 (0, 0)) ∧ Bts w A n zs ∧ n ≤ c ∧ c ≤ maxLen ∧ (A = none → n = 0 ∧ c = 0) ∧ (0 < n → ∃ ad, A = some ad ∧ ad.block = b ∧ b ≠ R)
theorem Bts.same {w w' : World} {A : Option Addr} {n b : Nat} {zs : List Int} (h : Bts w A n zs) (hs : w.heap.size ≤ w'.heap.size) (hA : 0 < n → ∃ ad, A = some ad ∧ ad.block = b) (hb : 0 < n → w'.heap[b]? = w.heap[b]?) : Bts w' A n zs := by
  obtain ⟨h1, h2, h3⟩ := h
  refine ⟨h1, h2, fun hn => ?_⟩
  obtain ⟨b', off, rfl, hlt, hc⟩ := h3 hn
  obtain ⟨ad, e, e2⟩ := hA hn
  cases e
  refine ⟨b', off, rfl, Nat.lt_of_lt_of_le hlt hs, fun j hj => ?_⟩
  have := hb hn
  rw [← e2] at this
  exact (World.cell?_of_block (w := w) (a := ⟨b', off + j, none⟩) this).trans (hc j hj)
theorem Rd.kept {w w' : World} {R b : Nat} {zs : List Int} (h : Rd w R b zs) (hs : w.heap.size ≤ w'.heap.size) (h1 : w'.heap[R]? = w.heap[R]?) (h2 : zs ≠ [] → w'.heap[b]? = w.heap[b]?) : Rd w' R b zs := by
  obtain ⟨A, n, c, e, hb, r1, r2, r3, r4⟩ := h
  refine ⟨A, n, c, h1.trans e, hb.same hs (fun hn => ?_) (fun hn => h2 ?_), r1, r2, r3, r4⟩
  · obtain ⟨ad, e1, e2, _⟩ := r4 hn; exact ⟨ad, e1, e2⟩
  · intro hz; have := hb.len; rw [hz] at this; simp at this; omega
theorem Rd.below {w w' : World} {R b : Nat} {zs : List Int} (h : Rd w R b zs) (hb : Below w.heap.size w w') : Rd w' R b zs := by
  obtain ⟨A, n, c, e, hbt, r⟩ := h
  exact ⟨A, n, c, (hb.block R (Array.getElem?_eq_some_iff.1 e).1).trans e, hbt.below hb, r⟩
theorem Rd.lt {w : World} {R b : Nat} {zs : List Int} (h : Rd w R b zs) : R < w.heap.size := by
  obtain ⟨A, n, c, e, _⟩ := h
  exact (Array.getElem?_eq_some_iff.1 e).1
theorem Rd.blk {w : World} {R b : Nat} {zs : List Int} (h : Rd w R b zs) (hz : zs ≠ []) : b < w.heap.size := by
  obtain ⟨A, n, c, e, hb, r1, r2, r3, r4⟩ := h
  have hn : 0 < n := by
    rcases Nat.eq_zero_or_pos n with h | h
    · have := hb.len; exact absurd (List.eq_nil_of_length_eq_zero (by omega)) hz
    · exact h
  obtain ⟨ad, e1, e2, _⟩ := r4 hn
  obtain ⟨b', off, e3, hlt, _⟩ := hb.2.2 hn
  rw [e3] at e1
  cases e1
  simp at e2
  omega
theorem heap_mod {w : World} {g k : Nat} {C : Array Value} {t : TypeId} (h : w.heap[g]? = some (.cells C t (0, 0))) (hk : k < C.size) (u : Value) : (w.setCell ⟨g, k, none⟩ u).heap[g]? = some (.cells (C.setIfInBounds k u) t (0, 0)) := by
  simp [World.setCell, Array.getElem?_modify, h]
theorem grown_set (w : World) (g k : Nat) (u : Value) : w.grownBy (w.setCell ⟨g, k, none⟩ u) (some g) :=
  ⟨rfl, rfl, rfl, by simp [World.setCell], fun i _ hi => Below.heap_setCell _ _ _ _ (fun e => hi (by rw [e]))⟩
theorem grown_drew {w w' : World} {g : Option Nat} {q : Nat} (h : (w.drewN q).grownBy w' g) : w.grownBy w' g := ⟨h.os, h.tape, h.output, h.size, h.block⟩
theorem Rd.next {w : World} {R b k n c : Nat} {A : Option Addr} {zs : List Int} (e : w.heap[R]? = some (.cells #[.slice A n c] 38 (0, 0))) (hb : Bts w A n zs) (r1 : n ≤ c) (r2 : c ≤ maxLen) (r3 : A = none → n = 0 ∧ c = 0) (r4 : 0 < n → ∃ ad, A = some ad ∧ ad.block = b ∧ b ≠ R) (hk : k ≤ n) :
    Rd (w.setCell ⟨R, 0, none⟩ (.slice (if c = k then A else A.map (·.add k)) (n - k) (c - k))) R b (zs.drop k) := by
  have hb2 := hb.from (c := c) hk r1
  refine ⟨_, n - k, c - k, by rw [heap_mod e (by simp)]; rfl, hb2.same (b := b) (by simp [World.setCell]) (fun hn => ?_) (fun hn => ?_), by omega, by omega, fun h => ?_, fun hn => ?_⟩
  · obtain ⟨ad, rfl, h2, h3⟩ := r4 (by omega)
    split
    · exact ⟨ad, rfl, h2⟩
    · exact ⟨_, rfl, by rw [add_block, h2]⟩
  · obtain ⟨ad, rfl, h2, h3⟩ := r4 (by omega)
    exact Below.heap_setCell _ _ _ _ h3
  · have : A = none := by
      split at h
      · exact h
      · simpa using h
    have := r3 this
    omega
  · obtain ⟨ad, rfl, h2, h3⟩ := r4 (by omega)
    split
    · exact ⟨ad, rfl, h2, h3⟩
    · exact ⟨_, rfl, by rw [add_block, h2], h3⟩

theorem nat_join8 (x z : BitVec 64) (hz : z.toNat < 256) (hx : x.toNat % 256 = 0) : x ||| z = x + z := by
  apply BitVec.eq_of_toNat_eq
  rw [BitVec.toNat_or, BitVec.toNat_add]
  have h : x.toNat ||| z.toNat = x.toNat + z.toNat := by
    have := Nat.two_pow_add_eq_or_of_lt (i := 8) (b := z.toNat) (by omega) (x.toNat / 256)
    have e : 2 ^ 8 * (x.toNat / 256) = x.toNat := by omega
    rw [e] at this
    exact this.symm
  rw [h]
  have := x.isLt
  omega
/-- v<<8 | c, in 64 bits -/
theorem or256 (v : Int) (z : Nat) (hz : z < 256) : bits .or .i64 (wrap64 (IntKind.i64.wrap v * 256)) (z : Int) = IntKind.i64.wrap (v * 256 + z) := by
  rw [show wrap64 (IntKind.i64.wrap v * 256) = IntKind.i64.wrap (IntKind.i64.wrap v * 256) by simp only [IntKind.wrap_i64, wrap64]]
  show IntKind.i64.wrap ((BitVec.ofInt 64 (IntKind.i64.wrap (IntKind.i64.wrap v * 256)) ||| BitVec.ofInt 64 (z : Int)).toNat : Int) = _
  have h1 : (BitVec.ofInt 64 (z : Int)).toNat = z := by rw [BitVec.toNat_ofInt]; omega
  have h2 : ((BitVec.ofInt 64 (IntKind.i64.wrap (IntKind.i64.wrap v * 256))).toNat : Int) = (v * 256) % 18446744073709551616 := by
    rw [BitVec.toNat_ofInt]
    simp only [IntKind.wrap_i64]
    omega
  rw [nat_join8 _ _ (by omega) (by omega), BitVec.toNat_add, h1]
  generalize (BitVec.ofInt 64 (IntKind.i64.wrap (IntKind.i64.wrap v * 256))).toNat = E at *
  simp only [IntKind.wrap_i64]
  omega

/-- numbers hands back a closure over a box of the slice -/
theorem numbers_sl (A : Option Addr) (n c : Nat) (w : World) :
    Calls Try.prog 44 #[.slice A n c] w fun e w' => e = .returned (.func (.func 52) #[] #[.pointer (some ⟨w.heap.size, 0, none⟩)]) ∧ w' = w.alloc (.cells #[.slice A n c] 38) := by
  go_enter Try.func44, Try.ntmps44
  go_wp2
  go_ret
  exact ⟨rfl, rfl⟩


set_option maxHeartbeats 2000000 in
theorem next_big (R b size : Nat) (zs : List Int) (w : World) (h : Rd w R b zs) (hs : size ≤ 16) :
    Calls Try.prog 52 #[.int .i64 (size : Int), .pointer (some ⟨R, 0, none⟩)] w fun e w' => e = .returned (.int .i64 (IntKind.i64.wrap (nu (zs.take size)))) ∧ Rd w' R b (zs.drop size) ∧ w.grownBy w' (some R) := by
  obtain ⟨A, n, c, e, hb, r1, r2, r3, r4⟩ := h
  have hl := hb.len
  obtain ⟨m, hm⟩ : ∃ m, min size n = m := ⟨_, rfl⟩
  have hmi : min (size : Int) (n : Int) = (m : Int) := by omega
  have hmn : m ≤ n := by omega
  have hm4 : m ≤ 16 := by omega
  have HX := Lib.hid (fun q => Rd.next (w := w.drewN q) (k := m) e hb r1 r2 r3 r4 hmn)
  have ez : zs.take size = zs.take m := by
    rcases Nat.lt_or_ge n size with h' | h'
    · rw [List.take_of_length_le (by omega), List.take_of_length_le (by omega)]
    · congr 1; omega
  have ed : zs.drop size = zs.drop m := by
    rcases Nat.lt_or_ge n size with h' | h'
    · rw [List.drop_eq_nil_of_le (by omega), List.drop_eq_nil_of_le (by omega)]
    · congr 1; omega
  rw [ez, ed]
  have HT := Lib.hid (hb.cut hmn)
  generalize zs.take m = ts at *
  generalize zs.drop m = ds at *
  obtain ⟨c0, f0⟩ := cells_of e 0
  have hR : R < w.heap.size := (Array.getElem?_eq_some_iff.1 e).1
  unfold maxLen at r2
  clear ez ed hb e r3 r4 hm
  simp at c0
  have hms : m = n ∧ n < size ∨ m = size ∧ ¬ n < size := by omega
  clear hmi
  rcases hms with ⟨e, hns⟩ | ⟨e, hns⟩
  all_goals
    subst e
    go_enter Try.func52, Try.ntmps52
    go_wp2
    go_quiet (fail)
    go_wp2
    have HTL := Lib.hid HT.out.len
    go_loopw [16, 4] (fun i x wr => ∃ (k : Nat) (Y : Int), k ≤ m ∧ i = .int .i64 (k : Int) ∧ x = .int .i64 Y ∧ Y = IntKind.i64.wrap (nu (ts.take k)) ∧ wr = w.drewN nq) (fun i _ _ => m - (intOf i).toNat)
    case atStart => exact ⟨0, 0, by omega, rfl, rfl, by simp [nu, IntKind.wrap_i64], rfl⟩
    case round =>
      obtain ⟨k, Y, hk, rfl, rfl, hY, rfl⟩ := hrel
      have HY := Lib.hid hY; clear hY
      by_cases hkn : k < m
      · obtain ⟨b', off, rfl, _, hc⟩ := HT.out.2.2 (by omega)
        have hcell := hc k hkn
        clear hc
        have hz := getD_bd HT.out.bd k
        obtain ⟨z, hzz⟩ : ∃ z : Nat, ts.getD k 0 = (z : Int) := ⟨(ts.getD k 0).toNat, by omega⟩
        rw [hzz] at hcell hz
        have HZ := Lib.hid hzz; clear hzz
        have hor := or256 (nu (ts.take k)) z (by omega)
        rw [← HY.out] at hor
        go_wp2
        go_roundw
        case rel =>
          refine ⟨k + 1, _, by omega, by go_num, rfl, ?_, trivial⟩
          rw [nu_take (by have := HTL.out; omega), HZ.out]; simp only [IntKind.wrap_i64, wrap64]
        case measure => simp [intOf]; omega
      · obtain rfl : k = m := by omega
        have e : ts.take k = ts := List.take_of_length_le (by have := HTL.out; omega)
        rw [e] at HY
        have HX2 := Lib.hid (HX.out nq)
        go_wp2
        · have HX3 := HX2.out
          rw [if_pos (by omega), show c - k = 0 by omega] at HX3
          go_ret
          (try simp only [Nat.sub_self] at HX3)
          exact ⟨ret_int HY.out, HX3, grown_drew (grown_set _ _ _ _)⟩
        · have HX3 := HX2.out
          rw [if_neg (by omega)] at HX3
          go_ret
          (try simp only [Nat.sub_self] at HX3)
          exact ⟨ret_int HY.out, HX3, grown_drew (grown_set _ _ _ _)⟩
theorem nu_w64 {zs : List Int} (h : ∀ z ∈ zs, 0 ≤ z ∧ z ≤ 255) (hl : zs.length ≤ 7) : IntKind.i64.wrap (nu zs) = nu zs := by
  have h1 := nu_bd h
  have h2 : (256 : Int) ^ zs.length ≤ 72057594037927936 := by
    match zs.length, hl with
    | 0, _ => decide
    | 1, _ => decide
    | 2, _ => decide
    | 3, _ => decide
    | 4, _ => decide
    | 5, _ => decide
    | 6, _ => decide
    | 7, _ => decide
  rw [IntKind.wrap_i64]
  omega
theorem Rd.bd {w : World} {R b : Nat} {zs : List Int} (h : Rd w R b zs) : ∀ z ∈ zs, 0 ≤ z ∧ z ≤ 255 := by
  obtain ⟨A, n, c, e, hb, _⟩ := h
  exact hb.bd
theorem next_any (R b size : Nat) (zs : List Int) (w : World) (h : Rd w R b zs) (hs : size ≤ 4) :
    Calls Try.prog 52 #[.int .i64 (size : Int), .pointer (some ⟨R, 0, none⟩)] w fun e w' => e = .returned (.int .i64 (nu (zs.take size))) ∧ Rd w' R b (zs.drop size) ∧ w.grownBy w' (some R) := by
  have e := nu_w64 (bd_take h.bd size) (by rw [List.length_take]; omega)
  rw [← e]
  exact next_big R b size zs w h (by omega)
end Go.Proofs.Ytfaekiopmfnpkaa.Pp
