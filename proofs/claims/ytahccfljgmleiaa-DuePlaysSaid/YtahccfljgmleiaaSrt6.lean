/-
  The walks of slices.nextPowerOfTwo, xorshift.Next and breakPatternsCmpFunc at names: some places are exchanged among themselves; which ones is left open. Conditions: as each states.
-/
import Derived.Test.YtahccfljgmleiaaSrt4
import Derived.Test.YtahccfljgmleiaaShelf
import Derived.Lib.BitFns
import Derived.Laws.Bits64b
import Derived.Laws.Closers25b
namespace Go.Proofs.Ytahccfljgmleiaa
open Go.RowKit Go.Sort
set_option linter.unusedVariables false

/-- block c holds a number of 64 bits, and is not the row's -/
structure Rnd (w0 : World) (b c : Nat) (dk : Array Ky) (W : World) : Prop where
  sort : SW nam w0 b 0 dk W
  new : w0.heap.size ≤ c
  lt : c < W.heap.size
  cell : ∃ s : Int, W.cell? ⟨c, 0, none⟩ = some (.int .u64 s) ∧ 0 ≤ s ∧ s ≤ 18446744073709551615
  free : W.frozen? ⟨c, 0, none⟩ = false
theorem Rnd.set {w0 W : World} {b c : Nat} {dk : Array Ky} (h : Rnd w0 b c dk W) (t : Int) (h0 : 0 ≤ t) (h1 : t ≤ 18446744073709551615) : Rnd w0 b c dk (W.setCell ⟨c, 0, none⟩ (.int .u64 t)).drew := by
  obtain ⟨s, hc, _, _⟩ := h.cell
  exact ⟨(h.sort.setCell_new c 0 _ h.new).drew, h.new, by show c < (W.setCell _ _).heap.size; simpa using h.lt, ⟨t, World.cell?_setCell_same' _ _ _ (by rw [hc]; rfl), h0, h1⟩, by show (W.setCell _ _).frozen? _ = _; rw [World.frozen?_setCell]; exact h.free⟩
theorem Rnd.swap {p : Value} {cf : Ky → Ky → Int} {w0 W : World} {b n c : Nat} {dk : Array Ky} (E : Env p cf w0 b n) (h : Rnd w0 b c dk W) (hs : dk.size = n) {i j : Nat} (hi : i < n) (hj : j < n) :
    Rnd w0 b c (swp dk i j) ((W.setCell ⟨b, i, none⟩ (.string (str dk[j]!))).setCell ⟨b, j, none⟩ (.string (str dk[i]!))).drew := by
  obtain ⟨s, hc, h0, h1⟩ := h.cell
  have hb := E.old
  have hn := h.new
  have o1 : ∀ (k : Nat) (u : Value) (V : World), (V.setCell ⟨b, k, none⟩ u).cell? ⟨c, 0, none⟩ = V.cell? ⟨c, 0, none⟩ := fun k u V => World.cell?_setCell_other _ _ _ _ (by intro e; simp only [Addr.mk.injEq] at e; omega)
  refine ⟨E.swap h.sort hs hi hj, h.new, ?_, ⟨s, ?_, h0, h1⟩, ?_⟩
  · show c < ((W.setCell _ _).setCell _ _).heap.size
    simpa using h.lt
  · show ((W.setCell _ _).setCell _ _).cell? _ = _
    rw [o1, o1]; exact hc
  · show ((W.setCell _ _).setCell _ _).frozen? _ = _
    rw [World.frozen?_setCell, World.frozen?_setCell]; exact h.free

def Rolls (w0 : World) (b c : Nat) (dk : Array Ky) : Ending → World → Prop := fun e w' => ∃ s : Int, e = .returned (.int .u64 s) ∧ 0 ≤ s ∧ s ≤ 18446744073709551615 ∧ Rnd w0 b c dk w'

set_option maxHeartbeats 1000000 in
theorem next_any {w0 : World} {b c : Nat} (dk : Array Ky) (W : World) (S : Rnd w0 b c dk W) : Calls Try.prog 52 #[.pointer (some ⟨c, 0, none⟩)] W (Rolls w0 b c dk) := by
  have mixed := follows
  obtain ⟨s, hc, h0, h1⟩ := S.cell
  have hf := S.free
  have HS := Lib.hid S
  clear S
  go_enter Try.func52, Try.ntmps52
  go_wp2
  go_region
  have HB : ∀ v : Int, 0 ≤ bits BinOp.xor IntKind.u64 s v ∧ bits BinOp.xor IntKind.u64 s v ≤ 18446744073709551615 := fun v => ⟨bits_lo_u64 _ _ _, bits_hi_u64 _ _ _⟩
  have H1 := fun v => Lib.hid (HS.out.set (bits BinOp.xor IntKind.u64 s v) (HB v).1 (HB v).2)
  have H1 := H1 (IntKind.u64.wrap (s * 8192))
  clear HB hc h0 h1 hf HS
  generalize (W.setCell ⟨c, 0, none⟩ (Value.int IntKind.u64 (bits BinOp.xor IntKind.u64 s (IntKind.u64.wrap (s * 8192))))).drew = W1 at H1 ⊢
  obtain ⟨s1, hc, h0, h1⟩ := H1.out.cell
  have hf := H1.out.free
  go_wp2
  go_region
  have HB : ∀ v : Int, 0 ≤ bits BinOp.xor IntKind.u64 s1 v ∧ bits BinOp.xor IntKind.u64 s1 v ≤ 18446744073709551615 := fun v => ⟨bits_lo_u64 _ _ _, bits_hi_u64 _ _ _⟩
  have H2 := fun v => Lib.hid (H1.out.set (bits BinOp.xor IntKind.u64 s1 v) (HB v).1 (HB v).2)
  have H2 := H2 (s1 / 128)
  clear HB hc h0 h1 hf H1
  generalize (W1.setCell ⟨c, 0, none⟩ (Value.int IntKind.u64 (bits BinOp.xor IntKind.u64 s1 (s1 / 128)))).drew = W2 at H2 ⊢
  obtain ⟨s2, hc, h0, h1⟩ := H2.out.cell
  have hf := H2.out.free
  go_wp2
  go_region
  have HB : ∀ v : Int, 0 ≤ bits BinOp.xor IntKind.u64 s2 v ∧ bits BinOp.xor IntKind.u64 s2 v ≤ 18446744073709551615 := fun v => ⟨bits_lo_u64 _ _ _, bits_hi_u64 _ _ _⟩
  have H3 := fun v => Lib.hid (H2.out.set (bits BinOp.xor IntKind.u64 s2 v) (HB v).1 (HB v).2)
  have H3 := H3 (IntKind.u64.wrap (s2 * 131072))
  clear HB hc h0 h1 hf H2
  generalize (W2.setCell ⟨c, 0, none⟩ (Value.int IntKind.u64 (bits BinOp.xor IntKind.u64 s2 (IntKind.u64.wrap (s2 * 131072))))).drew = W3 at H3 ⊢
  obtain ⟨s3, hc, h0, h1⟩ := H3.out.cell
  go_wp2
  go_ret
  exact ⟨s3, rfl, h0, h1, H3.out⟩

/-- how many numbers have no more bits: a power of two -/
def Pows (l : Nat) (w : World) : Ending → World → Prop := fun e w' => ∃ m : Nat, e = .returned (.int .u64 m) ∧ 1 ≤ m ∧ m ≤ 2 * l ∧ w = w'
theorem pow_len : ∀ (f l : Nat), 1 ≤ l → l < 2 ^ f → f ≤ 64 → 1 ≤ 2 ^ (Lib.bitLen l) ∧ 2 ^ (Lib.bitLen l) ≤ 2 * l
  | 0, l, h1, h2, _ => by simp at h2; omega
  | f + 1, l, h1, h2, h3 => by
    have hl : l < 2 ^ 64 := Nat.lt_of_lt_of_le h2 (Nat.pow_le_pow_right (by omega) h3)
    rw [Lib.bitLen_half l (by omega) hl]
    by_cases h : l = 1
    · subst h; decide
    · have ih := pow_len f (l / 2) (by omega) (by rw [Nat.pow_succ] at h2; omega) (by omega)
      rw [Nat.pow_add, Nat.pow_one]
      omega

set_option maxHeartbeats 1000000 in
theorem power_any (l : Nat) (w : World) (h1 : 1 ≤ l) (h2 : l ≤ 1000000) : Calls Try.prog 51 #[.int .i64 l] w (Pows l w) := by
  have hk := pow_len 20 l h1 (by omega) (by omega)
  have hb : Lib.bitLen l ≤ 20 := by
    refine Nat.le_of_not_lt fun h => ?_
    have := Nat.pow_le_pow_right (show 0 < 2 by omega) h
    omega
  obtain ⟨k, hkk⟩ : ∃ k, k = Lib.bitLen l := ⟨_, rfl⟩
  rw [← hkk] at hk hb
  have HK := Lib.hid hkk
  clear hkk
  have hw : IntKind.u64.wrap (l : Int) = l := by simp [IntKind.wrap, IntKind.bits, IntKind.signed]; omega
  have HW := Lib.hid hw
  clear hw
  go_enter Try.func51, Try.ntmps51
  go_wp2_with fail
  refine (Try.bits_Len (l : Int) w (by omega) (by omega)).mono ?_
  rintro e w' ⟨rfl, rfl⟩
  rw [Int.toNat_natCast, ← HK.out]
  have hk0 : 0 ≤ (k : Int) := by omega
  go_wp2_with fail
  go_ret
  have hp : 2 ^ k ≤ 2 ^ 20 := Nat.pow_le_pow_right (by omega) hb
  have hw2 : IntKind.u64.wrap ((2 : Int) ^ k) = ((2 ^ k : Nat) : Int) := by
    rw [show ((2 : Int) ^ k) = ((2 ^ k : Nat) : Int) by simp]
    generalize 2 ^ k = t at hp
    simp [IntKind.wrap, IntKind.bits, IntKind.signed]; omega
  show Pows l _ (.returned (.int .u64 (IntKind.u64.wrap (2 ^ k)))) _
  rw [hw2]
  exact ⟨2 ^ k, rfl, hk.1, hk.2, rfl⟩

/-- what is left of a number by a mask -/
theorem mask_le (s : Int) (m : Nat) (h0 : 0 ≤ s) (h1 : s ≤ 18446744073709551615) (hm : 1 ≤ m) (hm2 : m ≤ 2000000) : 0 ≤ bits BinOp.and IntKind.u64 s ((m : Int) - 1) ∧ bits BinOp.and IntKind.u64 s ((m : Int) - 1) < m := by
  obtain ⟨t, rfl⟩ : ∃ t : Nat, s = t := ⟨s.toNat, by omega⟩
  rw [show (m : Int) - 1 = ((m - 1 : Nat) : Int) by omega, bits_and_u64_nat t (m - 1) (by omega) (by omega)]
  have := Nat.and_le_right (n := t) (m := m - 1)
  omega

set_option maxHeartbeats 8000000 in
set_option maxRecDepth 100000 in
theorem break_any {p : Value} {cf : Ky → Ky → Int} {w0 : World} {b n : Nat} (E : Env p cf w0 b n) (cap a z : Nat) (d : Array Ky) (w : World) (hs : d.size = n) (S : SW nam w0 b 0 d w) (haz : a + 12 < z) (hz : z ≤ n) :
    Calls Try.prog 42 #[.slice (some ⟨b, 0, none⟩) n cap, .int .i64 a, .int .i64 z, ofTab p] w (Mixes w0 b a z d) := by
  have mixed := follows
  have few := E.few
  have E := Lib.hid E
  have HS := Lib.hid hs
  obtain ⟨l, hl⟩ : ∃ l : Nat, l = z - a := ⟨_, rfl⟩
  have HL : Hid ((z : Int) - (a : Int) = (l : Int)) := Lib.hid (by omega)
  have hla : a + l = z := by omega
  have hzz : Hid (a + l = z) := Lib.hid hla
  have hl12 : 12 < l := by omega
  have hln : l ≤ 1000000 := by omega
  have HC0 : Hid (Rnd w0 b w.heap.size d (w.alloc (.cells #[.int .u64 l] 91))) := Lib.hid ⟨S.alloc _, S.le, by simp, ⟨l, by simp, by omega, by omega⟩, by simp⟩
  clear S hs hl
  go_enter Try.func42, Try.ntmps42
  go_wp2_with fail
  rw [HL.out]
  refine (power_any l _ (by omega) hln).mono ?_
  rintro e w' ⟨m, rfl, hm1, hm2, rfl⟩
  have hm3 : (m : Int) ≤ 2000000 := by omega
  go_wp2_with fail
  obtain ⟨q, hq⟩ : ∃ q : Nat, q = l / 4 := ⟨_, rfl⟩
  have HQ : Hid ((l : Int) / 4 = (q : Int)) := Lib.hid (by omega)
  have hql : 3 ≤ q ∧ 4 * q ≤ l ∧ l < 4 * q + 4 := by omega
  clear hq
  go_loopw [11] (fun vx wr => ∃ (x : Int) (dk : Array Ky), vx = .int .i64 x ∧ (a : Int) + q * 2 - 1 ≤ x ∧ x ≤ (a : Int) + q * 2 + 2 ∧ Hid (PermIn a z d dk) ∧ Hid (Rnd w0 b w.heap.size dk wr)) (fun vx _ => (a + q * 2 + 3 - intOf vx).toNat)
  case atStart => exact ⟨_, d, rfl, by omega, by omega, Lib.hid (permIn_refl _ _ _), HC0⟩
  case round =>
    clear HC0
    obtain ⟨x, dk, rfl, hx0, hx1, HP, S1⟩ := hrel
    have hsk : Hid (dk.size = n) := Lib.hid (HP.out.1.trans HS.out)
    by_cases hlt : x ≤ (a : Int) + q * 2 + 1
    · go_wp2_with fail
      refine (next_any dk wr S1.out).mono ?_
      rintro e w2 ⟨r, rfl, hr0, hr1, hS⟩
      have S2 := Lib.hid hS
      clear hS S1
      obtain ⟨o0, ho0⟩ : ∃ o, o = bits BinOp.and IntKind.u64 r ((m : Int) - 1) := ⟨_, rfl⟩
      have hom := mask_le r m hr0 hr1 hm1 (by omega)
      rw [← ho0] at hom
      obtain ⟨ho1, ho2⟩ := hom
      have hbe : bits BinOp.and IntKind.u64 r ((m : Int) - 1) = o0 := ho0.symm
      clear ho0
      have hom3 : o0 < 2000000 := by omega
      go_wp2_with fail
      · -- above: less the length
        have hob : (l : Int) ≤ o0 := by assumption
        clear hbe
        obtain ⟨o, ho⟩ : ∃ o, o = o0 - (l : Int) := ⟨_, rfl⟩
        rw [← ho]
        have hoo : 0 ≤ o ∧ o < (l : Int) := by omega
        clear ho hob
        obtain ⟨I1, hI1⟩ : ∃ q, q = x.toNat := ⟨_, rfl⟩
        obtain ⟨J1, hJ1⟩ : ∃ q, q = (a + o.toNat) := ⟨_, rfl⟩
        have u1 : (x : Int).toNat = I1 ∧ 0 ≤ (x : Int) ∧ (x : Int) < n ∧ IntKind.i64.wrap (x : Int) = x := ⟨by omega, by omega, by omega, by rw [IntKind.wrap_i64]; omega⟩
        have v1 : ((a : Int) + o : Int).toNat = J1 ∧ 0 ≤ ((a : Int) + o : Int) ∧ ((a : Int) + o : Int) < n ∧ IntKind.i64.wrap ((a : Int) + o : Int) = (a : Int) + o := ⟨by omega, by omega, by omega, by rw [IntKind.wrap_i64]; omega⟩
        obtain ⟨u1a, u1b, u1c, u1d⟩ := u1
        obtain ⟨v1a, v1b, v1c, v1d⟩ := v1

        obtain ⟨x1, hx1⟩ : ∃ q, q = dk[x.toNat]! := ⟨_, rfl⟩
        obtain ⟨y1, hy1⟩ : ∃ q, q = dk[(a + o.toNat)]! := ⟨_, rfl⟩
        have S4 : Hid (SW nam w0 b 0 (swp dk (x.toNat) ((a + o.toNat))) ((w2.setCell ⟨b, I1, none⟩ (.string (str y1))).setCell ⟨b, J1, none⟩ (.string (str x1))).drew) := Lib.hid (by rw [hI1, hJ1, hx1, hy1]; exact E.out.swap S2.out.sort hsk.out (i := x.toNat) (j := (a + o.toNat)) (by omega) (by omega))
        have R3 : Hid (Rnd w0 b w.heap.size (swp dk x.toNat (a + o.toNat)) ((w2.setCell ⟨b, I1, none⟩ (.string (str y1))).setCell ⟨b, J1, none⟩ (.string (str x1))).drew) := Lib.hid (by rw [hI1, hJ1, hx1, hy1]; exact S2.out.swap E.out hsk.out (i := x.toNat) (j := a + o.toNat) (by omega) (by omega))
        obtain ⟨c1, f1⟩ : w2.cell? ⟨b, I1, none⟩ = some (.string (str x1)) ∧ w2.frozen? ⟨b, I1, none⟩ = false := by rw [hI1, hx1]; exact E.out.cell S2.out.sort hsk.out (i := x.toNat) (by omega)
        obtain ⟨d1, g1⟩ : w2.cell? ⟨b, J1, none⟩ = some (.string (str y1)) ∧ w2.frozen? ⟨b, J1, none⟩ = false := by rw [hJ1, hy1]; exact E.out.cell S2.out.sort hsk.out (i := (a + o.toNat)) (by omega)
        obtain ⟨o1, e1⟩ : ∃ u, (w2.setCell ⟨b, I1, none⟩ (.string (str y1))).cell? ⟨b, J1, none⟩ = some u := by rw [hI1, hJ1]; exact E.out.mid S2.out.sort hsk.out (i := x.toNat) (j := (a + o.toNat)) (by omega) (by omega) _
        clear hx1 hy1 hI1 hJ1 S2
        go_wp2_with fail
        go_big_region_o
        clear c1 d1 e1 f1 g1 u1a v1a
        generalize ((w2.setCell ⟨b, I1, none⟩ (.string (str y1))).setCell ⟨b, J1, none⟩ (.string (str x1))).drew = w3 at S4 R3 ⊢
        go_wp2
        go_roundw
        case rel => exact ⟨_, swp dk x.toNat (a + o.toNat), rfl, by omega, by omega, Lib.hid (perm_swap HP.out (by rw [HS.out]; exact hz) (by omega) (by omega) (by omega) (by omega)), R3⟩
        case measure => simp [intOf]; omega
      · have hob : o0 < (l : Int) := by assumption
        clear hbe
        obtain ⟨o, ho⟩ : ∃ o, o = o0 := ⟨_, rfl⟩
        rw [← ho]
        have hoo : 0 ≤ o ∧ o < (l : Int) := by omega
        clear ho hob
        obtain ⟨I1, hI1⟩ : ∃ q, q = x.toNat := ⟨_, rfl⟩
        obtain ⟨J1, hJ1⟩ : ∃ q, q = (a + o.toNat) := ⟨_, rfl⟩
        have u1 : (x : Int).toNat = I1 ∧ 0 ≤ (x : Int) ∧ (x : Int) < n ∧ IntKind.i64.wrap (x : Int) = x := ⟨by omega, by omega, by omega, by rw [IntKind.wrap_i64]; omega⟩
        have v1 : ((a : Int) + o : Int).toNat = J1 ∧ 0 ≤ ((a : Int) + o : Int) ∧ ((a : Int) + o : Int) < n ∧ IntKind.i64.wrap ((a : Int) + o : Int) = (a : Int) + o := ⟨by omega, by omega, by omega, by rw [IntKind.wrap_i64]; omega⟩
        obtain ⟨u1a, u1b, u1c, u1d⟩ := u1
        obtain ⟨v1a, v1b, v1c, v1d⟩ := v1

        obtain ⟨x1, hx1⟩ : ∃ q, q = dk[x.toNat]! := ⟨_, rfl⟩
        obtain ⟨y1, hy1⟩ : ∃ q, q = dk[(a + o.toNat)]! := ⟨_, rfl⟩
        have S4 : Hid (SW nam w0 b 0 (swp dk (x.toNat) ((a + o.toNat))) ((w2.setCell ⟨b, I1, none⟩ (.string (str y1))).setCell ⟨b, J1, none⟩ (.string (str x1))).drew) := Lib.hid (by rw [hI1, hJ1, hx1, hy1]; exact E.out.swap S2.out.sort hsk.out (i := x.toNat) (j := (a + o.toNat)) (by omega) (by omega))
        have R3 : Hid (Rnd w0 b w.heap.size (swp dk x.toNat (a + o.toNat)) ((w2.setCell ⟨b, I1, none⟩ (.string (str y1))).setCell ⟨b, J1, none⟩ (.string (str x1))).drew) := Lib.hid (by rw [hI1, hJ1, hx1, hy1]; exact S2.out.swap E.out hsk.out (i := x.toNat) (j := a + o.toNat) (by omega) (by omega))
        obtain ⟨c1, f1⟩ : w2.cell? ⟨b, I1, none⟩ = some (.string (str x1)) ∧ w2.frozen? ⟨b, I1, none⟩ = false := by rw [hI1, hx1]; exact E.out.cell S2.out.sort hsk.out (i := x.toNat) (by omega)
        obtain ⟨d1, g1⟩ : w2.cell? ⟨b, J1, none⟩ = some (.string (str y1)) ∧ w2.frozen? ⟨b, J1, none⟩ = false := by rw [hJ1, hy1]; exact E.out.cell S2.out.sort hsk.out (i := (a + o.toNat)) (by omega)
        obtain ⟨o1, e1⟩ : ∃ u, (w2.setCell ⟨b, I1, none⟩ (.string (str y1))).cell? ⟨b, J1, none⟩ = some u := by rw [hI1, hJ1]; exact E.out.mid S2.out.sort hsk.out (i := x.toNat) (j := (a + o.toNat)) (by omega) (by omega) _
        clear hx1 hy1 hI1 hJ1 S2
        go_wp2_with fail
        go_big_region_o
        clear c1 d1 e1 f1 g1 u1a v1a
        generalize ((w2.setCell ⟨b, I1, none⟩ (.string (str y1))).setCell ⟨b, J1, none⟩ (.string (str x1))).drew = w3 at S4 R3 ⊢
        go_wp2
        go_roundw
        case rel => exact ⟨_, swp dk x.toNat (a + o.toNat), rfl, by omega, by omega, Lib.hid (perm_swap HP.out (by rw [HS.out]; exact hz) (by omega) (by omega) (by omega) (by omega)), R3⟩
        case measure => simp [intOf]; omega
    · go_wp2
      go_end0
      exact ⟨rfl, dk, HP.out, S1.out.sort⟩

end Go.Proofs.Ytahccfljgmleiaa
