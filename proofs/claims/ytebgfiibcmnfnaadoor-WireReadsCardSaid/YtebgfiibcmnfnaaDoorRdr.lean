/-
  Embrasure/wire's reader: a cell that holds what is left and whether something wasn't as it must be; what pass, number and body make of it. Conditions: as each states.
-/
import Derived.Test.YtebgfiibcmnfnaaDoorMay
import Derived.StillTailTactics
namespace Go.Proofs.YtebgfiibcmnfnaaDoor
open Go.RowKit
set_option linter.unusedVariables false

/-- the block R holds a reader of these bytes, which lie in block b -/
def Rd (w : World) (R b : Nat) (zs : List Int) (bd : Bool) : Prop := ∃ A n c, w.heap[R]? = some (.cells #[.slice A n c, .bool bd] 53 (0, 0)) ∧ Bts w A n zs ∧ n ≤ c ∧ c ≤ maxLen ∧ (A = none → n = 0 ∧ c = 0) ∧ (0 < n → ∃ ad, A = some ad ∧ ad.block = b ∧ b ≠ R)
theorem Bts.same {w w' : World} {A : Option Addr} {n b : Nat} {zs : List Int} (h : Bts w A n zs) (hs : w.heap.size ≤ w'.heap.size) (hA : 0 < n → ∃ ad, A = some ad ∧ ad.block = b) (hb : 0 < n → w'.heap[b]? = w.heap[b]?) : Bts w' A n zs := by
  obtain ⟨h1, h2, h3⟩ := h
  refine ⟨h1, h2, fun hn => ?_⟩
  obtain ⟨b', off, rfl, hlt, hc⟩ := h3 hn
  obtain ⟨ad, e, e2⟩ := hA hn
  cases e
  refine ⟨b', off, rfl, Nat.lt_of_lt_of_le hlt hs, fun j hj => ?_⟩
  have := hb hn
  rw [← e2] at this
  exact (World.cell?_of_block (w := w) (a := ⟨b', off + j, none⟩) this).trans (hc j hj)
theorem Rd.kept {w w' : World} {R b : Nat} {zs : List Int} {bd : Bool} (h : Rd w R b zs bd) (hs : w.heap.size ≤ w'.heap.size) (h1 : w'.heap[R]? = w.heap[R]?) (h2 : zs ≠ [] → w'.heap[b]? = w.heap[b]?) : Rd w' R b zs bd := by
  obtain ⟨A, n, c, e, hb, r1, r2, r3, r4⟩ := h
  refine ⟨A, n, c, h1.trans e, hb.same hs (fun hn => ?_) (fun hn => h2 ?_), r1, r2, r3, r4⟩
  · obtain ⟨ad, e1, e2, _⟩ := r4 hn; exact ⟨ad, e1, e2⟩
  · intro hz; have := hb.len; rw [hz] at this; simp at this; omega
theorem Rd.below {w w' : World} {R b : Nat} {zs : List Int} {bd : Bool} (h : Rd w R b zs bd) (hb : Below w.heap.size w w') : Rd w' R b zs bd := by
  obtain ⟨A, n, c, e, hbt, r⟩ := h
  exact ⟨A, n, c, (hb.block R (Array.getElem?_eq_some_iff.1 e).1).trans e, hbt.below hb, r⟩
theorem Rd.lt {w : World} {R b : Nat} {zs : List Int} {bd : Bool} (h : Rd w R b zs bd) : R < w.heap.size := by
  obtain ⟨A, n, c, e, _⟩ := h
  exact (Array.getElem?_eq_some_iff.1 e).1
theorem Rd.bd {w : World} {R b : Nat} {zs : List Int} {bd : Bool} (h : Rd w R b zs bd) : ∀ z ∈ zs, 0 ≤ z ∧ z ≤ 255 := by
  obtain ⟨A, n, c, e, hb, _⟩ := h
  exact hb.bd
theorem heap_mod {w : World} {g k : Nat} {C : Array Value} {t : TypeId} (h : w.heap[g]? = some (.cells C t (0, 0))) (hk : k < C.size) (u : Value) : (w.setCell ⟨g, k, none⟩ u).heap[g]? = some (.cells (C.setIfInBounds k u) t (0, 0)) := by
  simp [World.setCell, Array.getElem?_modify, h]
theorem grown_set (w : World) (g k : Nat) (u : Value) : w.grownBy (w.setCell ⟨g, k, none⟩ u) (some g) :=
  ⟨rfl, rfl, rfl, by simp [World.setCell], fun i _ hi => Below.heap_setCell _ _ _ _ (fun e => hi (by rw [e]))⟩
theorem Rd.next {w : World} {R b k n c : Nat} {A : Option Addr} {zs : List Int} {bd : Bool} (e : w.heap[R]? = some (.cells #[.slice A n c, .bool bd] 53 (0, 0))) (hb : Bts w A n zs) (r1 : n ≤ c) (r2 : c ≤ maxLen) (r3 : A = none → n = 0 ∧ c = 0) (r4 : 0 < n → ∃ ad, A = some ad ∧ ad.block = b ∧ b ≠ R) (hk : k ≤ n) :
    Rd (w.setCell ⟨R, 0, none⟩ (.slice (if c = k then A else A.map (·.add k)) (n - k) (c - k))) R b (zs.drop k) bd := by
  have hb2 := hb.from (c := c) hk r1
  refine ⟨_, n - k, c - k, by rw [heap_mod e (by simp)]; rfl, hb2.same (b := b) (by simp [World.setCell]) (fun hn => ?_) (fun hn => ?_), by omega, by omega, fun h => ?_, fun hn => ?_⟩
  · obtain ⟨ad, rfl, h2, h3⟩ := r4 (by omega)
    split
    · exact ⟨ad, rfl, h2⟩
    · exact ⟨_, rfl, by rw [add_block, h2]⟩
  · obtain ⟨ad, rfl, h2, h3⟩ := r4 (by omega)
    exact Below.heap_setCell _ _ _ _ h3
  · have : A = none := by
      split at h
      · exact h
      · simpa using h
    have := r3 this
    omega
  · obtain ⟨ad, rfl, h2, h3⟩ := r4 (by omega)
    split
    · exact ⟨ad, rfl, h2, h3⟩
    · exact ⟨_, rfl, by rw [add_block, h2], h3⟩
theorem Rd.spoilt {w : World} {R b : Nat} {zs : List Int} {bd : Bool} (h : Rd w R b zs bd) : Rd (w.setCell ⟨R, 1, none⟩ (.bool true)) R b zs true := by
  obtain ⟨A, n, c, e, hb, r1, r2, r3, r4⟩ := h
  refine ⟨A, n, c, by rw [heap_mod e (by simp)]; rfl, hb.same (b := b) (by simp [World.setCell]) (fun hn => ?_) (fun hn => ?_), r1, r2, r3, r4⟩
  · obtain ⟨ad, rfl, h2, h3⟩ := r4 hn; exact ⟨ad, rfl, h2⟩
  · obtain ⟨ad, rfl, h2, h3⟩ := r4 hn; exact Below.heap_setCell _ _ _ _ h3
theorem Rd.cells {w : World} {R : Nat} {v u : Value} {t : TypeId} (e : w.heap[R]? = some (.cells #[v, u] t (0, 0))) : R < w.heap.size ∧ w.cell? ⟨R, 0, none⟩ = some v ∧ w.cell? ⟨R, 1, none⟩ = some u ∧ w.frozen? ⟨R, 0, none⟩ = false ∧ w.frozen? ⟨R, 1, none⟩ = false :=
  ⟨(Array.getElem?_eq_some_iff.1 e).1, by rw [(cells_of e 0).1]; rfl, by rw [(cells_of e 1).1]; rfl, (cells_of e 0).2, (cells_of e 1).2⟩

set_option maxHeartbeats 1000000 in
theorem pass_bad (R b : Nat) (n k : Int) (zs : List Int) (bd : Bool) (w : World) (h : Rd w R b zs bd) (hk : k ≠ 0) :
    Calls Tryd.prog 39 #[.pointer (some ⟨R, 0, none⟩), .int .i64 n, .int .i64 k] w fun e w' => (∃ r, e = .returned r) ∧ w.grownBy w' (some R) ∧ Rd w' R b zs true := by
  have H := Lib.hid h
  obtain ⟨A, n, c, e, _⟩ := h
  obtain ⟨l0, c0, c1, f0, f1⟩ := Rd.cells e
  have t1 : (k != 0) = true := by rw [bne_iff_ne]; exact hk
  clear e hk
  go_enter Tryd.func39, Tryd.ntmps39
  go_wp2
  refine ⟨rfl, .tuple #[], by simp [results, Tryd.f39], ⟨_, rfl⟩, grown_set _ _ _ _, H.out.spoilt⟩
set_option maxHeartbeats 1000000 in
theorem pass_ok (R b k : Nat) (zs : List Int) (bd : Bool) (w : World) (h : Rd w R b zs bd) (hk : k ≤ zs.length) :
    Calls Tryd.prog 39 #[.pointer (some ⟨R, 0, none⟩), .int .i64 (k : Int), .int .i64 0] w fun e w' => (∃ r, e = .returned r) ∧ w.grownBy w' (some R) ∧ Rd w' R b (zs.drop k) bd := by
  obtain ⟨A, n, c, e, hb, r1, r2, r3, r4⟩ := h
  obtain ⟨l0, c0, c1, f0, f1⟩ := Rd.cells e
  have hkn : k ≤ n := by have := hb.len; omega
  have HX := Lib.hid (Rd.next e hb r1 r2 r3 r4 hkn)
  unfold maxLen at r2
  clear e hb r3 r4 hk
  go_enter Tryd.func39, Tryd.ntmps39
  go_wp2
  · have HX2 := HX.out
    have hcc : c - k = 0 := by omega
    rw [if_pos (by omega), hcc] at HX2
    exact ⟨rfl, .tuple #[], by simp [results, Tryd.f39], ⟨_, rfl⟩, grown_set _ _ _ _, HX2⟩
  · have HX2 := HX.out
    rw [if_neg (by omega)] at HX2
    exact ⟨rfl, .tuple #[], by simp [results, Tryd.f39], ⟨_, rfl⟩, grown_set _ _ _ _, HX2⟩

/-- what is left behind a number -/
def nrest (zs : List Int) : List Int := if Uv.code zs = 0 then zs.drop (Uv.size zs) else zs
def spoils (bd : Bool) (k : Int) : Bool := if k = 0 then bd else true
theorem pass_num (R b : Nat) (zs : List Int) (bd : Bool) (w : World) (h : Rd w R b zs bd) :
    Calls Tryd.prog 39 #[.pointer (some ⟨R, 0, none⟩), .int .i64 (Uv.size zs : Int), .int .i64 (Uv.code zs)] w fun e w' => (∃ r, e = .returned r) ∧ w.grownBy w' (some R) ∧ Rd w' R b (nrest zs) (spoils bd (Uv.code zs)) := by
  unfold nrest spoils
  by_cases hc : Uv.code zs = 0
  · rw [if_pos hc, if_pos hc, hc]
    rcases Uv.got_cases zs with h1 | h1
    · exact pass_ok R b _ zs bd w h h1.2.2.1
    · omega
  · rw [if_neg hc, if_neg hc]
    exact pass_bad R b _ _ zs bd w h hc
set_option maxHeartbeats 1000000 in
theorem number_any (R b : Nat) (zs : List Int) (bd : Bool) (w : World) (h : Rd w R b zs bd) :
    Calls Tryd.prog 35 #[.pointer (some ⟨R, 0, none⟩)] w fun e w' => e = .returned (.int .u64 (Uv.val zs)) ∧ w.grownBy w' (some R) ∧ Rd w' R b (nrest zs) (spoils bd (Uv.code zs)) := by
  have H := Lib.hid h
  have CP := Lib.hid (pass_num R b zs bd w h)
  obtain ⟨A, n, c, e, hb, r1, r2, _⟩ := h
  obtain ⟨l0, c0, c1, f0, f1⟩ := Rd.cells e
  have CG : Hid (Calls Tryd.prog 38 #[.slice A n c] w fun e w' => e = .returned (.tuple #[.int .u64 (Uv.val zs), .int .i64 (Uv.size zs : Int), .int .i64 (Uv.code zs)]) ∧ w = w') := Lib.hid (by
    refine (get_any A n c zs w r1 r2 hb).mono ?_
    rintro e w' ⟨rfl, rfl⟩
    refine ⟨?_, rfl⟩
    unfold tup Uv.val Uv.size Uv.code
    have h0 : 0 ≤ (Uv.got zs).2.1 := by
      unfold Uv.got
      split
      · simp
      · split
        · simp
        · split <;> simp <;> omega
    rw [Int.toNat_of_nonneg h0])
  generalize Uv.val zs = v at *
  generalize Uv.size zs = s at *
  generalize Uv.code zs = k at *
  clear e hb r1 r2
  go_enter Tryd.func35, Tryd.ntmps35
  go_wp2_with (first
    | (go_at_call 38; refine CG.out.mono ?_; rintro e w' ⟨rfl, rfl⟩)
    | (go_at_call 39; refine CP.out.mono ?_; rintro e w2 ⟨⟨r, rfl⟩, hg, hr⟩; have HG := Lib.hid hg; have HR := Lib.hid hr; clear hg hr))
  go_ret
  exact ⟨rfl, HG.out, HR.out⟩

theorem grown_after {w w1 w2 : World} {R : Nat} (h : Below w.heap.size w w1) (hg : w1.grownBy w2 (some R)) : w.grownBy w2 (some R) :=
  ⟨hg.os.trans h.os, hg.tape.trans h.tape, hg.output.trans h.output, Nat.le_trans h.size hg.size, fun k hk hn => (hg.block k (Nat.lt_of_lt_of_le hk h.size) hn).trans (h.block k hk)⟩
theorem grown_trans {w w1 w2 : World} {R : Nat} (h : w.grownBy w1 (some R)) (hg : w1.grownBy w2 (some R)) : w.grownBy w2 (some R) :=
  ⟨hg.os.trans h.os, hg.tape.trans h.tape, hg.output.trans h.output, Nat.le_trans h.size hg.size, fun k hk hn => (hg.block k (Nat.lt_of_lt_of_le hk h.size) hn).trans (h.block k hk hn)⟩
theorem grown_below {w w1 : World} (h : Below w.heap.size w w1) (R : Nat) : w.grownBy w1 (some R) := ⟨h.os, h.tape, h.output, h.size, fun k hk _ => h.block k hk⟩
/-- what is left behind a frame -/
def frest (zs : List Int) : List Int := if Fr.code zs = 0 then zs.drop (Fr.size zs) else zs
theorem pass_row (R b : Nat) (zs : List Int) (bd : Bool) (w : World) (h : Rd w R b zs bd) :
    Calls Tryd.prog 39 #[.pointer (some ⟨R, 0, none⟩), .int .i64 (Fr.size zs : Int), .int .i64 (Fr.code zs)] w fun e w' => (∃ r, e = .returned r) ∧ w.grownBy w' (some R) ∧ Rd w' R b (frest zs) (spoils bd (Fr.code zs)) := by
  unfold frest spoils
  by_cases hc : Fr.code zs = 0
  · rw [if_pos hc, if_pos hc]
    have := pass_ok R b (Fr.size zs) zs bd w h (by have := (Fr.size_ok hc); omega)
    rw [hc]
    exact this
  · rw [if_neg hc, if_neg hc]
    exact pass_bad R b _ _ zs bd w h hc
set_option maxHeartbeats 1000000 in
theorem body_any (R b : Nat) (zs : List Int) (bd : Bool) (w : World) (h : Rd w R b zs bd) :
    Calls Tryd.prog 37 #[.pointer (some ⟨R, 0, none⟩)] w fun e w' => ∃ v, e = .returned v ∧ w'.ownsRow w.heap.size 5 1 v (Fr.row zs).length (B (Fr.row zs)) ∧ w.grownBy w' (some R) ∧ Rd w' R b (frest zs) (spoils bd (Fr.code zs)) := by
  have CP := Lib.hid (fun W hb => pass_row R b zs bd W (h.below hb))
  obtain ⟨A, n, c, e, hb, r1, r2, _⟩ := h
  obtain ⟨l0, c0, c1, f0, f1⟩ := Rd.cells e
  have CG : Hid (Calls Tryd.prog 42 #[.slice A n c] w fun e w' => ∃ v, e = .returned (.tuple #[v, .int .i64 (Fr.size zs : Int), .int .i64 (Fr.code zs)]) ∧ w'.ownsRow w.heap.size 5 1 v (Fr.row zs).length (B (Fr.row zs)) ∧ Below w.heap.size w w') := Lib.hid (fget_any A n c zs w hb r1 r2)
  generalize Fr.size zs = s at *
  generalize Fr.code zs = k at *
  generalize Fr.row zs = rs at *
  have L0 := Lib.hid l0
  clear e hb r1 r2
  go_enter Tryd.func37, Tryd.ntmps37
  go_wp2_with (first
    | (go_at_call 42; refine CG.out.mono ?_; rintro e w1 ⟨v, rfl, ho, hb1⟩; have HO := Lib.hid ho; have HB1 := Lib.hid hb1; clear ho hb1)
    | (go_at_call 39; refine (CP.out _ HB1.out).mono ?_; rintro e w2 ⟨⟨r, rfl⟩, hg, hr⟩; have HG := Lib.hid hg; have HR := Lib.hid hr; clear hg hr))
  go_ret
  refine ⟨_, rfl, HO.out.kept HG.out (.inr ?_), grown_after HB1.out HG.out, HR.out⟩
  intro e
  have := (HO.out.lt R e).1
  have := L0.out
  omega

/-- the next address, or what is said where it is none -/
def ahost (zs : List Int) : Int := if 6 ≤ zs.length ∧ mayA (Wi.host6 zs) (Wi.port6 zs) = true then Wi.host6 zs else 0
def aport (zs : List Int) : Int := if 6 ≤ zs.length ∧ mayA (Wi.host6 zs) (Wi.port6 zs) = true then Wi.port6 zs else 0
def acode (zs : List Int) : Int := if 6 ≤ zs.length ∧ mayA (Wi.host6 zs) (Wi.port6 zs) = true then 0 else 3
def arest (zs : List Int) : List Int := if acode zs = 0 then zs.drop 6 else zs
theorem from_at (A : Option Addr) (n c m : Nat) (zs : List Int) (w : World) (hb : Bts w A n zs) (r1 : n ≤ c) (r2 : c ≤ maxLen) (hm : m = min 6 n) :
    Calls Tryd.prog 43 #[.slice A m c] w fun e w' => e = .returned (.tuple #[.agg #[.int .u32 (ahost zs), .int .i64 (aport zs)], .int .i64 (acode zs)]) ∧ Below w.heap.size w w' := by
  have hl := hb.len
  by_cases h6 : 6 ≤ n
  · obtain rfl : m = 6 := by omega
    obtain ⟨h1, h2, h3⟩ := hb
    obtain ⟨b, off, rfl, hlt, hc⟩ := h3 (by omega)
    have hg := getD_bd h2
    refine (from_six b off c zs w (by omega) r2 hg hlt (fun j hj => hc j (by omega))).mono ?_
    rintro e w' ⟨rfl, hbe⟩
    refine ⟨?_, hbe⟩
    rw [hostUp4 hg, portUp2]
    show Ending.returned (gaveOr (Wi.host6 zs) (Wi.port6 zs)) = _
    unfold gaveOr ahost aport acode refusedA adr
    by_cases hm : mayA (Wi.host6 zs) (Wi.port6 zs) = true
    · have : 6 ≤ zs.length ∧ mayA (Wi.host6 zs) (Wi.port6 zs) = true := ⟨by omega, hm⟩
      rw [if_pos this, if_pos this, if_pos this, if_pos hm]
      rfl
    · have : ¬ (6 ≤ zs.length ∧ mayA (Wi.host6 zs) (Wi.port6 zs) = true) := fun h => hm h.2
      rw [if_neg this, if_neg this, if_neg this, if_neg hm]
  · obtain rfl : m = n := by omega
    refine (from_short A m c w (by omega) (by omega)).mono ?_
    rintro e w' ⟨rfl, hbe⟩
    refine ⟨?_, hbe⟩
    have : ¬ (6 ≤ zs.length ∧ mayA (Wi.host6 zs) (Wi.port6 zs) = true) := fun h => by omega
    unfold ahost aport acode refusedA adr
    simp only [if_neg this]
theorem pass_adr (R b : Nat) (zs : List Int) (bd : Bool) (w : World) (h : Rd w R b zs bd) :
    Calls Tryd.prog 39 #[.pointer (some ⟨R, 0, none⟩), .int .i64 6, .int .i64 (acode zs)] w fun e w' => (∃ r, e = .returned r) ∧ w.grownBy w' (some R) ∧ Rd w' R b (arest zs) (spoils bd (acode zs)) := by
  unfold arest spoils
  by_cases hc : acode zs = 0
  · rw [if_pos hc, if_pos hc, hc]
    have h6 : 6 ≤ zs.length := by
      unfold acode at hc
      split at hc
      · rename_i h; exact h.1
      · cases hc
    exact pass_ok R b 6 zs bd w h h6
  · rw [if_neg hc, if_neg hc]
    exact pass_bad R b _ _ zs bd w h hc
end Go.Proofs.YtebgfiibcmnfnaaDoor
