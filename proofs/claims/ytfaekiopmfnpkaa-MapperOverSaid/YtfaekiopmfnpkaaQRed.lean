/-
  Contracts of embrasure/pmp.ReadAsk and ReadAnswer: what they read of bytes. Conditions: the slice reads as bytes.
-/
import Derived.Test.YtfaekiopmfnpkaaQHld
import Derived.Test.YtfaekiopmfnpkaaQRdr
namespace Go.Proofs.Ytfaekiopmfnpkaa.Pp
open Go.RowKit
attribute [local go_sem] Oper.semAt_some
set_option linter.unusedVariables false
set_option linter.unusedSimpArgs false

def ncut (zs : List Int) (k n : Nat) : Int := nu ((zs.drop k).take n)
/-- what ReadAsk reads -/
def askL (zs : List Int) : Le := if ncut zs 1 1 = 0 then ⟨ncut zs 0 1, 0, 0, 0, 0, 0, 0, 0⟩ else ⟨ncut zs 0 1, ncut zs 4 2, ncut zs 6 2, ncut zs 8 4, 0, 0, 0, 0⟩
def askH (zs : List Int) : Bool := ncut zs 1 1 == 0
def ansL (zs : List Int) : Le := if ncut zs 1 1 = 128 then ⟨ncut zs 0 1, 0, 0, 0, 0, ncut zs 2 2, ncut zs 4 4, ncut zs 8 4⟩ else ⟨ncut zs 0 1, ncut zs 8 2, ncut zs 10 2, ncut zs 12 4, 0, ncut zs 2 2, ncut zs 4 4, 0⟩
def ansH (zs : List Int) : Bool := ncut zs 1 1 == 128
theorem ncut_bd {zs : List Int} (h : Bd zs) (k n : Nat) (hn : n ≤ 4) : 0 ≤ ncut zs k n ∧ ncut zs k n < 4294967296 := by
  refine nu_le4 (fun z hz => h z (List.mem_of_mem_drop (List.mem_of_mem_take hz))) ?_
  simp; omega
theorem askL_is {zs : List Int} (h : Bd zs) : isL (askL zs) := by
  have a0 := ncut_bd h 0 1 (by decide)
  have a1 := ncut_bd h 4 2 (by decide)
  have a2 := ncut_bd h 6 2 (by decide)
  have a3 := ncut_bd h 8 4 (by decide)
  unfold askL
  split <;> constructor <;> simp only [W64] <;> omega
theorem ansL_is {zs : List Int} (h : Bd zs) : isL (ansL zs) := by
  have a0 := ncut_bd h 0 1 (by decide)
  have a1 := ncut_bd h 8 2 (by decide)
  have a2 := ncut_bd h 10 2 (by decide)
  have a3 := ncut_bd h 12 4 (by decide)
  have a4 := ncut_bd h 2 2 (by decide)
  have a5 := ncut_bd h 4 4 (by decide)
  have a6 := ncut_bd h 8 4 (by decide)
  unfold ansL
  split <;> constructor <;> simp only [W64] <;> omega

/-- while it is read: the answer's cell, the lease's cell, and the reader -/
structure Rs (w W : World) (b : Nat) (l : Le) (zs : List Int) : Prop where
  low : Below w.heap.size w W
  res : LeAt W w.heap.size zeroL
  box : LeAt W (w.heap.size + 1) l
  rd : Rd W (w.heap.size + 2) b zs
  old : zs ≠ [] → b < w.heap.size
section
variable {w W : World} {b : Nat} {l : Le} {zs : List Int}
theorem Rs.drew (h : Rs w W b l zs) : Rs w W.drew b l zs := ⟨below_drewN' h.low 1, h.res, h.box, h.rd, h.old⟩
theorem Rs.start (A : Option Addr) (n c : Nat) (hb : Bts w A n zs) (h1 : n ≤ c) (h2 : c ≤ maxLen) (h3 : A = none → n = 0 ∧ c = 0) :
    ∃ b, Rs w (((w.alloc (.cells (leA zeroL) 36)).alloc (.cells (leA zeroL) 36)).alloc (.cells #[.slice A n c] 38)) b zeroL zs := by
  have a1 : Below w.heap.size w (w.alloc (.cells (leA zeroL) 36)) := (Below.refl _ w).alloc (Nat.le_refl _) _
  have a2 : Below w.heap.size w ((w.alloc (.cells (leA zeroL) 36)).alloc (.cells (leA zeroL) 36)) := a1.alloc (by simp) _
  have a3 : Below w.heap.size w (((w.alloc (.cells (leA zeroL) 36)).alloc (.cells (leA zeroL) 36)).alloc (.cells #[.slice A n c] 38)) := a2.alloc (by simp; omega) _
  have b3 : Below (w.heap.size + 2) ((w.alloc (.cells (leA zeroL) 36)).alloc (.cells (leA zeroL) 36)) (((w.alloc (.cells (leA zeroL) 36)).alloc (.cells (leA zeroL) 36)).alloc (.cells #[.slice A n c] 38)) := (Below.refl _ _).alloc (by simp) _
  have b2 : Below (w.heap.size + 1) (w.alloc (.cells (leA zeroL) 36)) ((w.alloc (.cells (leA zeroL) 36)).alloc (.cells (leA zeroL) 36)) := (Below.refl _ _).alloc (by simp) _
  have n1 := LeAt.new w zeroL
  have n2 := LeAt.new (w.alloc (.cells (leA zeroL) 36)) zeroL
  rw [World.size_alloc] at n2
  have n3 : (((w.alloc (.cells (leA zeroL) 36)).alloc (.cells (leA zeroL) 36)).alloc (.cells #[.slice A n c] 38)).heap[w.heap.size + 2]? = some (.cells #[.slice A n c] 38 (0, 0)) := by
    have n4 : ∀ (V : World) (C : Array Value) (t : TypeId), (V.alloc (.cells C t)).heap[V.heap.size]? = some (.cells C t (0, 0)) := by
      intro V C t
      show (V.heap.push _)[V.heap.size]? = _
      simp
    have e : ((w.alloc (.cells (leA zeroL) 36)).alloc (.cells (leA zeroL) 36)).heap.size = w.heap.size + 2 := by simp
    have n5 := n4 ((w.alloc (.cells (leA zeroL) 36)).alloc (.cells (leA zeroL) 36)) #[.slice A n c] 38
    rw [e] at n5
    exact n5
  have hd : ∃ b, (zs ≠ [] → b < w.heap.size) ∧ (0 < n → ∃ ad, A = some ad ∧ ad.block = b ∧ b ≠ w.heap.size + 2) := by
    rcases Nat.eq_zero_or_pos n with h0 | h0
    · refine ⟨0, fun hz => absurd (List.eq_nil_of_length_eq_zero (by have := hb.len; omega)) hz, fun h => by omega⟩
    · obtain ⟨b, off, rfl, hlt, _⟩ := hb.2.2 h0
      exact ⟨b, fun _ => hlt, fun _ => ⟨_, rfl, rfl, by omega⟩⟩
  obtain ⟨b, hb1, hb2⟩ := hd
  exact ⟨b, a3, (n1.below b2 (by omega)).below b3 (by omega), n2.below b3 (by omega), ⟨A, n, c, n3, hb.below a3, h1, h2, h3, hb2⟩, hb1⟩
theorem Rs.next (h : Rs w W b l zs) (n : Nat) (hn : n ≤ 4) :
    Calls Try.prog 52 #[.int .i64 (n : Int), .pointer (some ⟨w.heap.size + 2, 0, none⟩)] W fun e W' => e = .returned (.int .i64 (nu (zs.take n))) ∧ Rs w W' b l (zs.drop n) := by
  refine (next_any _ b n zs W h.rd hn).mono ?_
  rintro e W' ⟨rfl, h1, h2⟩
  have hs := h.low.size
  refine ⟨rfl, h.low.grown h2 hs (fun g hg => by cases hg; omega), (h2.block _ h.res.lt (fun e => by injection e; omega)).trans h.res, (h2.block _ h.box.lt (fun e => by injection e; omega)).trans h.box, h1, fun hz => h.old (fun e => hz (by rw [e]; simp))⟩
theorem Rs.set (h : Rs w W b l zs) (k : Nat) (v : Value) (l' : Le) (hl : (leA l).setIfInBounds k v = leA l') (hk : k < 8) : Rs w (W.setCell ⟨w.heap.size + 1, k, none⟩ v) b l' zs := by
  refine ⟨h.low.setCell (p := ⟨w.heap.size + 1, k, none⟩) (by show w.heap.size ≤ w.heap.size + 1; omega) _, (Below.heap_setCell _ _ _ _ (by show w.heap.size ≠ w.heap.size + 1; omega)).trans h.res, ?_, h.rd.kept (by simp [World.setCell]) (Below.heap_setCell _ _ _ _ (by show w.heap.size + 2 ≠ w.heap.size + 1; omega)) (fun hz => Below.heap_setCell _ _ _ _ (by have := h.old hz; show b ≠ w.heap.size + 1; omega)), h.old⟩
  have := heap_mod h.box (k := k) (by exact hk) v
  rw [hl] at this
  exact this
theorem Rs.cells (h : Rs w W b l zs) : w.heap.size + 1 < W.heap.size ∧ ∀ k, W.frozen? ⟨w.heap.size + 1, k, none⟩ = false ∧ W.frozen? ⟨w.heap.size, k, none⟩ = false := ⟨h.box.lt, fun k => ⟨(cells_of h.box k).2, (cells_of h.res k).2⟩⟩
end


section
variable {w W : World} {b : Nat} {l : Le} {zs : List Int}
theorem Rs.next' {k : Nat} (h : Rs w W b l (zs.drop k)) (n m : Nat) (hn : n ≤ 4) (hm : k + n = m) :
    Calls Try.prog 52 #[.int .i64 (n : Int), .pointer (some ⟨w.heap.size + 2, 0, none⟩)] W fun e W' => e = .returned (.int .i64 (ncut zs k n)) ∧ Rs w W' b l (zs.drop m) := by
  refine (h.next n hn).mono ?_
  rintro e W' ⟨rfl, h2⟩
  rw [List.drop_drop, hm] at h2
  exact ⟨rfl, h2⟩
end
/-- a lease is stored over another one -/
def put8 (W : World) (g : Nat) (l : Le) : World := (((((((W.setCell ⟨g, 0, none⟩ (.int .i64 l.ver)).setCell ⟨g, 1, none⟩ (.int .i64 l.ins)).setCell ⟨g, 2, none⟩ (.int .i64 l.prt)).setCell ⟨g, 3, none⟩ (.int .i64 l.secs)).setCell ⟨g, 4, none⟩ (.int .u64 l.non)).setCell ⟨g, 5, none⟩ (.int .i64 l.res)).setCell ⟨g, 6, none⟩ (.int .i64 l.epo)).setCell ⟨g, 7, none⟩ (.int .u32 l.hst)
theorem put8_other {W : World} {g k : Nat} {l : Le} (h : k ≠ g) : (put8 W g l).heap[k]? = W.heap[k]? := by
  unfold put8
  have e : ∀ (V : World) (j : Nat) (u : Value), (V.setCell ⟨g, j, none⟩ u).heap[k]? = V.heap[k]? := fun V j u => Below.heap_setCell _ _ _ _ (fun e => h e)
  rw [e, e, e, e, e, e, e, e]
theorem put8_res {W : World} {g : Nat} {l0 l : Le} (h : LeAt W g l0) : LeAt (put8 W g l) g l := by
  unfold put8
  have h1 := heap_mod h (k := 0) (by simp [leA]) (.int .i64 l.ver)
  have h2 := heap_mod h1 (k := 1) (by simp [leA]) (.int .i64 l.ins)
  have h3 := heap_mod h2 (k := 2) (by simp [leA]) (.int .i64 l.prt)
  have h4 := heap_mod h3 (k := 3) (by simp [leA]) (.int .i64 l.secs)
  have h5 := heap_mod h4 (k := 4) (by simp [leA]) (.int .u64 l.non)
  have h6 := heap_mod h5 (k := 5) (by simp [leA]) (.int .i64 l.res)
  have h7 := heap_mod h6 (k := 6) (by simp [leA]) (.int .i64 l.epo)
  have h8 := heap_mod h7 (k := 7) (by simp [leA]) (.int .u32 l.hst)
  refine h8.trans ?_
  simp [leA]
theorem put8_below {b : Nat} {w W : World} {g : Nat} {l : Le} (h : Below b w W) (hg : b ≤ g) : Below b w (put8 W g l) := by
  unfold put8
  exact (((((((h.setCell (p := ⟨g, 0, none⟩) hg _).setCell (p := ⟨g, 1, none⟩) hg _).setCell (p := ⟨g, 2, none⟩) hg _).setCell (p := ⟨g, 3, none⟩) hg _).setCell (p := ⟨g, 4, none⟩) hg _).setCell (p := ⟨g, 5, none⟩) hg _).setCell (p := ⟨g, 6, none⟩) hg _).setCell (p := ⟨g, 7, none⟩) hg _
theorem cons_bd {x : Int} {xs : List Int} (hx : 0 ≤ x ∧ x ≤ 255) (h : ∀ z ∈ xs, 0 ≤ z ∧ z ≤ 255) : ∀ z ∈ x :: xs, 0 ≤ z ∧ z ≤ 255 := by
  intro z hz
  rcases List.mem_cons.1 hz with rfl | hz
  · exact hx
  · exact h z hz
theorem askR_bd (l : Le) (h : Bool) : ∀ z ∈ askR l h, 0 ≤ z ∧ z ≤ 255 := by
  unfold askR
  split
  · split
    · intro z hz; simp at hz; omega
    · exact mem_append_bd (by intro z hz; simp at hz; omega) (mem_append_bd (be_bd _ _) (mem_append_bd (be_bd _ _) (be_bd _ _)))
  · intro z hz; cases hz
theorem ansR_bd (l : Le) (h : Bool) : ∀ z ∈ ansR l h, 0 ≤ z ∧ z ≤ 255 := by
  unfold ansR
  split
  · split
    · exact mem_append_bd (by intro z hz; simp at hz; omega) (mem_append_bd (be_bd _ _) (mem_append_bd (be_bd _ _) (be_bd _ _)))
    · exact mem_append_bd (by intro z hz; simp at hz; omega) (mem_append_bd (be_bd _ _) (mem_append_bd (be_bd _ _) (mem_append_bd (be_bd _ _) (mem_append_bd (be_bd _ _) (be_bd _ _)))))
  · intro z hz; cases hz
theorem ask_sl (l : Le) (h : Bool) (w : World) (hl : isL l) : Calls Try.prog 29 #[leV l, .bool h] w fun e w' => ∃ A m c, e = .returned (.slice A m c) ∧ Bts w' A m (askR l h) ∧ Below w.heap.size w w' := by
  refine (ask_any l h w hl).mono ?_
  rintro e w' ⟨V, rfl, ho, hb⟩
  obtain ⟨A, c, rfl, _, _, hbt⟩ := own_form ho (askR_bd l h)
  exact ⟨A, _, c, rfl, hbt, hb⟩
theorem ans_sl (l : Le) (h : Bool) (w : World) (hl : isL l) : Calls Try.prog 46 #[leV l, .bool h] w fun e w' => ∃ A m c, e = .returned (.slice A m c) ∧ Bts w' A m (ansR l h) ∧ Below w.heap.size w w' := by
  refine (answer_any l h w hl).mono ?_
  rintro e w' ⟨V, rfl, ho, hb⟩
  obtain ⟨A, c, rfl, _, _, hbt⟩ := own_form ho (ansR_bd l h)
  exact ⟨A, _, c, rfl, hbt, hb⟩

set_option maxRecDepth 100000 in
set_option maxHeartbeats 8000000 in
theorem readAns_any (A : Option Addr) (n c : Nat) (zs : List Int) (w : World) (hb : Bts w A n zs) (h1 : n ≤ c) (h2 : c ≤ maxLen) (h3 : A = none → n = 0 ∧ c = 0) :
    Calls Try.prog 33 #[.slice A n c] w fun e w' => e = .returned (hldT (decide (zs = ansR (ansL zs) (ansH zs))) (ansL zs) (ansH zs)) ∧ Below w.heap.size w w' := by
  have HZ := Lib.hid hb
  have HIS := Lib.hid (ansL_is hb.bd)
  obtain ⟨b, hs⟩ := Rs.start A n c hb h1 h2 h3
  have HS0 : Hid (Rs w _ b zeroL (zs.drop 0)) := Lib.hid hs
  clear hs h1 h2 h3 hb
  generalize hla : ansL zs = la at *
  generalize hha : ansH zs = ha at *
  unfold ansL at hla
  unfold ansH at hha
  have HLA := Lib.hid hla
  have HHA := Lib.hid hha
  clear hla hha
  unfold zeroL leA at HS0
  dsimp only at HS0
  go_enter Try.func33, Try.ntmps33
  go_wp2_with fail
  refine (numbers_sl A n c _).mono ?_
  rintro e w0 ⟨rfl, rfl⟩
  go_wp2_with fail
  refine (HS0.out.next' 1 1 (by decide) rfl).mono ?_
  rintro e w1 ⟨rfl, h1⟩
  have HS1 := Lib.hid h1
  clear h1
  obtain ⟨a0, ea0⟩ : ∃ a, ncut zs 0 1 = a := ⟨_, rfl⟩
  rw [ea0]
  rw [ea0] at HLA
  clear ea0
  have hcc1 := HS1.out.cells
  obtain ⟨hl1, hf1⟩ := hcc1
  obtain ⟨x0, x1, x2, x3, x4, x5, x6, x7⟩ := HS1.out.box.cells
  dsimp only at x0 x1 x2 x3 x4 x5 x6 x7
  have f0 := (hf1 0).1
  have HS1b := Lib.hid (HS1.out.set 0 (.int .i64 a0) ⟨a0, 0, 0, 0, 0, 0, 0, 0⟩ rfl (by decide))
  go_wp2_with fail
  refine (HS1b.out.next' 1 2 (by decide) rfl).mono ?_
  rintro e w2 ⟨rfl, h2⟩
  have HS2 := Lib.hid h2
  clear h2
  obtain ⟨k1, ek1⟩ : ∃ a, ncut zs 1 1 = a := ⟨_, rfl⟩
  rw [ek1]
  rw [ek1] at HLA HHA
  clear ek1
  clear x0 x1 x2 x3 x4 x5 x6 x7 f0
  by_cases hk : k1 = 128
  · rw [if_pos hk] at HLA
    have t1 : (k1 == 128) = true := by simp [hk]
    go_wp2_with fail
    refine (HS2.out.next' 2 4 (by decide) rfl).mono ?_
    rintro e w3 ⟨rfl, h3⟩
    have HS3 := Lib.hid h3
    clear h3
    obtain ⟨a5, ea5⟩ : ∃ a, ncut zs 2 2 = a := ⟨_, rfl⟩
    rw [ea5]
    rw [ea5] at HLA
    clear ea5
    go_wp2_with fail
    refine (HS3.out.next' 4 8 (by decide) rfl).mono ?_
    rintro e w4 ⟨rfl, h4⟩
    have HS4 := Lib.hid h4
    clear h4
    obtain ⟨a6, ea6⟩ : ∃ a, ncut zs 4 4 = a := ⟨_, rfl⟩
    rw [ea6]
    rw [ea6] at HLA
    clear ea6
    have hcc4 := HS4.out.cells
    obtain ⟨hl4, hf4⟩ := hcc4
    obtain ⟨x0, x1, x2, x3, x4, x5, x6, x7⟩ := HS4.out.box.cells
    dsimp only at x0 x1 x2 x3 x4 x5 x6 x7
    have f5 := (hf4 5).1
    have f6 := (hf4 6).1
    have HS4b := Lib.hid ((HS4.out.set 5 (.int .i64 a5) ⟨a0, 0, 0, 0, 0, a5, 0, 0⟩ rfl (by decide)).set 6 (.int .i64 a6) ⟨a0, 0, 0, 0, 0, a5, a6, 0⟩ rfl (by decide))
    go_wp2_with fail
    refine (HS4b.out.next' 4 12 (by decide) rfl).mono ?_
    rintro e w5 ⟨rfl, h5⟩
    have HS5 := Lib.hid h5
    clear h5
    have ba := ncut_bd HZ.out.bd 8 4 (by decide)
    obtain ⟨a7, ea7⟩ : ∃ a, ncut zs 8 4 = a := ⟨_, rfl⟩
    rw [ea7]
    rw [ea7] at HLA ba
    clear ea7
    clear x0 x1 x2 x3 x4 x5 x6 x7 f5 f6
    have hmod : a7 % 4294967296 = a7 := by omega
    clear ba
    have hcc5 := HS5.out.cells
    obtain ⟨hl5, hf5⟩ := hcc5
    obtain ⟨x0, x1, x2, x3, x4, x5, x6, x7⟩ := HS5.out.box.cells
    dsimp only at x0 x1 x2 x3 x4 x5 x6 x7
    have f7 := (hf5 7).1
    have HS5b := Lib.hid (HS5.out.set 7 (.int .u32 a7) ⟨a0, 0, 0, 0, 0, a5, a6, a7⟩ rfl (by decide))
    have e1 := HLA.out
    subst e1
    have e2 := HHA.out
    rw [t1] at e2
    subst e2
    clear HLA HHA hk
    have HD := Lib.hid HS5b.out.drew
    have HB0 := Lib.hid (HZ.out.below HD.out.low)
    have CA := Lib.hid (fun W => ans_sl ⟨a0, 0, 0, 0, 0, a5, a6, a7⟩ true W HIS.out)
    unfold leV leA at CA
    dsimp only at CA
    cases hok : decide (zs = ansR ⟨a0, 0, 0, 0, 0, a5, a6, a7⟩ true)
    case false =>
      have CH := Lib.hid (fun W A2 m c2 (hA : Bts W A n zs) (h2 : Bts W A2 m (ansR ⟨a0, 0, 0, 0, 0, a5, a6, a7⟩ true)) => held_any A A2 n m c c2 zs (ansR ⟨a0, 0, 0, 0, 0, a5, a6, a7⟩ true) ⟨a0, 0, 0, 0, 0, a5, a6, a7⟩ true W hA h2)
      rw [hok] at CH
      have HOK := Lib.hid hok
      clear hok
      unfold hldT zeroL leV leA at CH
      simp only [if_true, if_false, Bool.false_eq_true] at CH
      go_wp2_with fail
      clear x0 x1 x2 x3 x4 x5 x6 x7
      refine wp_region_held_drew (S := fun W => LeAt W (w.heap.size + 1) ⟨a0, 0, 0, 0, 0, a5, a6, a7⟩) (by kernel_rfl) HD.out.box (fun hHeld => ?_)
      refine wpAnyH_take (i := 0) (oi := _) (v := ?_) rfl (by kernel_rfl) (by kernel_rfl) (by kernel_rfl) (fun _ _ _ h => h) (Or.inl ⟨by rfl, ?_⟩) (by assumption) ?_
      case refine_2 => intro w hSw; (try dsimp only at hSw); have hcs := LeAt.cells hSw; obtain ⟨y0, y1, y2, y3, y4, y5, y6, y7⟩ := hcs; clear hSw; go_simp; first | done | (with_reducible rfl)
      try simp only [Act.put, List.getElem_toArray, List.getElem_cons_zero, List.setIfInBounds_toArray, List.set_cons_zero, List.set_cons_succ]
      refine wpAnyH_take (i := 1) (oi := _) (v := ?_) rfl (by kernel_rfl) (by kernel_rfl) (by kernel_rfl) (fun _ _ _ h => h) (Or.inl ⟨by rfl, ?_⟩) (by assumption) ?_
      case refine_2 => intro w hSw; (try dsimp only at hSw); have hcs := LeAt.cells hSw; obtain ⟨y0, y1, y2, y3, y4, y5, y6, y7⟩ := hcs; clear hSw; go_simp; first | done | (with_reducible rfl)
      try simp only [Act.put, List.getElem_toArray, List.getElem_cons_zero, List.getElem_cons_succ, List.setIfInBounds_toArray, List.set_cons_zero, List.set_cons_succ]
      refine wpAnyH_take (i := 2) (oi := _) (v := ?_) rfl (by kernel_rfl) (by kernel_rfl) (by kernel_rfl) (fun _ _ _ h => h) (Or.inl ⟨by rfl, ?_⟩) (by assumption) ?_
      case refine_2 => intro w hSw; (try dsimp only at hSw); have hcs := LeAt.cells hSw; obtain ⟨y0, y1, y2, y3, y4, y5, y6, y7⟩ := hcs; clear hSw; go_simp; first | done | (with_reducible rfl)
      try simp only [Act.put, List.getElem_toArray, List.getElem_cons_zero, List.getElem_cons_succ, List.setIfInBounds_toArray, List.set_cons_zero, List.set_cons_succ]
      refine wpAnyH_take (i := 4) (oi := _) (v := ?_) rfl (by kernel_rfl) (by kernel_rfl) (by kernel_rfl) (fun _ _ _ h => h) (Or.inl ⟨by rfl, ?_⟩) (by assumption) ?_
      case refine_2 => intro w hSw; (try dsimp only at hSw); have hcs := LeAt.cells hSw; obtain ⟨y0, y1, y2, y3, y4, y5, y6, y7⟩ := hcs; clear hSw; go_simp; first | done | (with_reducible rfl)
      try simp only [Act.put, List.getElem_toArray, List.getElem_cons_zero, List.getElem_cons_succ, List.setIfInBounds_toArray, List.set_cons_zero, List.set_cons_succ]
      refine wpAnyH_take (i := 5) (oi := _) (v := ?_) rfl (by kernel_rfl) (by kernel_rfl) (by kernel_rfl) (fun _ _ _ h => h) (Or.inl ⟨by rfl, ?_⟩) (by assumption) ?_
      case refine_2 => intro w hSw; (try dsimp only at hSw); have hcs := LeAt.cells hSw; obtain ⟨y0, y1, y2, y3, y4, y5, y6, y7⟩ := hcs; clear hSw; go_simp; first | done | (with_reducible rfl)
      try simp only [Act.put, List.getElem_toArray, List.getElem_cons_zero, List.getElem_cons_succ, List.setIfInBounds_toArray, List.set_cons_zero, List.set_cons_succ]
      refine wpAnyH_ready (rs := [3]) (by kernel_rfl) (by simp) ?_
      refine AllReadyH.cons rfl (fun K hK => ?_) AllReadyH.nil
      go_simp
      go_at_call 46
      refine (CA.out _).mono ?_
      rintro e w7 ⟨A2, m2, c2, rfl, hbt, hb⟩
      have HBT := Lib.hid hbt
      have HB7 := Lib.hid (HB0.out.below hb)
      have HBL := Lib.hid (HD.out.low.trans (hb.mono HD.out.low.size))
      have hS3 := HD.out.box.below hb HD.out.box.lt
      have hS3r := HD.out.res.below hb HD.out.res.lt
      clear hbt hb
      refine hK.out _ _ hS3 (fun hHeld => ?_)
      clear hK K
      try simp only [Act.put, List.getElem_toArray, List.getElem_cons_zero, List.getElem_cons_succ, List.setIfInBounds_toArray, List.set_cons_zero, List.set_cons_succ]
      refine wpAnyH_ready (rs := [6]) (by kernel_rfl) (by simp) ?_
      refine AllReadyH.cons rfl (fun K hK => ?_) AllReadyH.nil
      go_simp
      go_at_call 45
      refine (CH.out _ _ _ _ HB7.out HBT.out).mono ?_
      rintro e w8 ⟨rfl, hb⟩
      have HBL8 := Lib.hid (HBL.out.trans (hb.mono HBL.out.size))
      have hS6 := hS3.below hb hS3.lt
      have hS6r := hS3r.below hb hS3r.lt
      clear hb
      refine hK.out _ _ hS6 (fun hHeld => ?_)
      clear hK K
      try simp only [Act.put, List.getElem_toArray, List.getElem_cons_zero, List.getElem_cons_succ, List.setIfInBounds_toArray, List.set_cons_zero, List.set_cons_succ]
      refine wpAnyH_take (i := 7) (oi := _) (v := ?_) rfl (by kernel_rfl) (by kernel_rfl) (by kernel_rfl) (fun _ _ _ h => h) (Or.inl ⟨by rfl, ?_⟩) (by assumption) ?_
      case refine_2 => intro w hSw; (try dsimp only at hSw); have hcs := LeAt.cells hSw; obtain ⟨y0, y1, y2, y3, y4, y5, y6, y7⟩ := hcs; clear hSw; go_simp; first | done | (with_reducible rfl)
      try simp only [Act.put, List.getElem_toArray, List.getElem_cons_zero, List.getElem_cons_succ, List.setIfInBounds_toArray, List.set_cons_zero, List.set_cons_succ]
      refine wpAnyH_take (i := 8) (oi := _) (v := ?_) rfl (by kernel_rfl) (by kernel_rfl) (by kernel_rfl) (fun _ _ _ h => h) (Or.inl ⟨by rfl, ?_⟩) (by assumption) ?_
      case refine_2 => intro w hSw; (try dsimp only at hSw); have hcs := LeAt.cells hSw; obtain ⟨y0, y1, y2, y3, y4, y5, y6, y7⟩ := hcs; clear hSw; go_simp; first | done | (with_reducible rfl)
      try simp only [Act.put, List.getElem_toArray, List.getElem_cons_zero, List.getElem_cons_succ, List.setIfInBounds_toArray, List.set_cons_zero, List.set_cons_succ]
      refine wpAnyH_take (i := 9) (oi := _) (v := ?_) rfl (by kernel_rfl) (by kernel_rfl) (by kernel_rfl) (fun _ _ _ h => h) (Or.inl ⟨by rfl, ?_⟩) (by assumption) ?_
      case refine_2 => intro w hSw; (try dsimp only at hSw); have hcs := LeAt.cells hSw; obtain ⟨y0, y1, y2, y3, y4, y5, y6, y7⟩ := hcs; clear hSw; go_simp; first | done | (with_reducible rfl)
      try simp only [Act.put, List.getElem_toArray, List.getElem_cons_zero, List.getElem_cons_succ, List.setIfInBounds_toArray, List.set_cons_zero, List.set_cons_succ]
      refine wpAnyH_ready (rs := [10]) (by kernel_rfl) (by simp) ?_
      refine AllReadyH.cons rfl (fun K hK => ?_) AllReadyH.nil
      obtain ⟨r0, r1, r2, r3, r4, r5, r6, r7⟩ := hS6r.cells
      have g0 := fun k => (cells_of hS6r k).2
      have hl6 := hS6r.lt
      go_simp
      obtain ⟨w9, hw9⟩ : ∃ w9, put8 w8 w.heap.size zeroL = w9 := ⟨_, rfl⟩
      have hS10 : LeAt w9 (w.heap.size + 1) ⟨a0, 0, 0, 0, 0, a5, a6, a7⟩ := by rw [← hw9]; exact (put8_other (by omega)).trans hS6
      have hR10 : LeAt w9 w.heap.size zeroL := by rw [← hw9]; exact put8_res hS6r
      have hB10 : Below w.heap.size w w9 := by rw [← hw9]; exact put8_below HBL8.out (Nat.le_refl _)
      unfold put8 at hw9
      try unfold zeroL at hw9
      dsimp only at hw9
      rw [hw9]
      refine hK.out _ _ hS10 (fun hHeld => ?_)
      clear hK K
      try simp only [Act.put, List.getElem_toArray, List.getElem_cons_zero, List.getElem_cons_succ, List.setIfInBounds_toArray, List.set_cons_zero, List.set_cons_succ]
      refine wpAnyH_take (i := 11) (oi := _) (v := ?_) rfl (by kernel_rfl) (by kernel_rfl) (by kernel_rfl) (fun _ _ _ h => h) (Or.inl ⟨by rfl, ?_⟩) (by assumption) ?_
      case refine_2 => intro w hSw; (try dsimp only at hSw); have hcs := LeAt.cells hSw; obtain ⟨y0, y1, y2, y3, y4, y5, y6, y7⟩ := hcs; clear hSw; go_simp; first | done | (with_reducible rfl)
      try simp only [Act.put, List.getElem_toArray, List.getElem_cons_zero, List.getElem_cons_succ, List.setIfInBounds_toArray, List.set_cons_zero, List.set_cons_succ]
      refine wpAnyH_take (i := 12) (oi := _) (v := ?_) rfl (by kernel_rfl) (by kernel_rfl) (by kernel_rfl) (fun _ _ _ h => h) (Or.inl ⟨by rfl, ?_⟩) (by assumption) ?_
      case refine_2 => intro w hSw; (try dsimp only at hSw); have hcs := LeAt.cells hSw; obtain ⟨y0, y1, y2, y3, y4, y5, y6, y7⟩ := hcs; clear hSw; go_simp; first | done | (with_reducible rfl)
      try simp only [Act.put, List.getElem_toArray, List.getElem_cons_zero, List.getElem_cons_succ, List.setIfInBounds_toArray, List.set_cons_zero, List.set_cons_succ]
      refine wpAnyH_done (by kernel_rfl) ?_ _
      obtain ⟨z0, z1, z2, z3, z4, z5, z6, z7⟩ := hR10.cells
      try unfold zeroL at z0 z1 z2 z3 z4 z5 z6 z7
      dsimp only at z0 z1 z2 z3 z4 z5 z6 z7
      go_wp2
      exact ⟨rfl, .tuple #[leV zeroL, .bool false, .int .i64 3], by simp [results, Try.results33, go_sem, z0, z1, z2, z3, z4, z5, z6, z7, leV, leA, zeroL], by rw [HOK.out]; rfl, hB10⟩
    case true =>
      have CH := Lib.hid (fun W A2 m c2 (hA : Bts W A n zs) (h2 : Bts W A2 m (ansR ⟨a0, 0, 0, 0, 0, a5, a6, a7⟩ true)) => held_any A A2 n m c c2 zs (ansR ⟨a0, 0, 0, 0, 0, a5, a6, a7⟩ true) ⟨a0, 0, 0, 0, 0, a5, a6, a7⟩ true W hA h2)
      rw [hok] at CH
      have HOK := Lib.hid hok
      clear hok
      unfold hldT zeroL leV leA at CH
      simp only [if_true, if_false, Bool.false_eq_true] at CH
      go_wp2_with fail
      clear x0 x1 x2 x3 x4 x5 x6 x7
      refine wp_region_held_drew (S := fun W => LeAt W (w.heap.size + 1) ⟨a0, 0, 0, 0, 0, a5, a6, a7⟩) (by kernel_rfl) HD.out.box (fun hHeld => ?_)
      refine wpAnyH_take (i := 0) (oi := _) (v := ?_) rfl (by kernel_rfl) (by kernel_rfl) (by kernel_rfl) (fun _ _ _ h => h) (Or.inl ⟨by rfl, ?_⟩) (by assumption) ?_
      case refine_2 => intro w hSw; (try dsimp only at hSw); have hcs := LeAt.cells hSw; obtain ⟨y0, y1, y2, y3, y4, y5, y6, y7⟩ := hcs; clear hSw; go_simp; first | done | (with_reducible rfl)
      try simp only [Act.put, List.getElem_toArray, List.getElem_cons_zero, List.setIfInBounds_toArray, List.set_cons_zero, List.set_cons_succ]
      refine wpAnyH_take (i := 1) (oi := _) (v := ?_) rfl (by kernel_rfl) (by kernel_rfl) (by kernel_rfl) (fun _ _ _ h => h) (Or.inl ⟨by rfl, ?_⟩) (by assumption) ?_
      case refine_2 => intro w hSw; (try dsimp only at hSw); have hcs := LeAt.cells hSw; obtain ⟨y0, y1, y2, y3, y4, y5, y6, y7⟩ := hcs; clear hSw; go_simp; first | done | (with_reducible rfl)
      try simp only [Act.put, List.getElem_toArray, List.getElem_cons_zero, List.getElem_cons_succ, List.setIfInBounds_toArray, List.set_cons_zero, List.set_cons_succ]
      refine wpAnyH_take (i := 2) (oi := _) (v := ?_) rfl (by kernel_rfl) (by kernel_rfl) (by kernel_rfl) (fun _ _ _ h => h) (Or.inl ⟨by rfl, ?_⟩) (by assumption) ?_
      case refine_2 => intro w hSw; (try dsimp only at hSw); have hcs := LeAt.cells hSw; obtain ⟨y0, y1, y2, y3, y4, y5, y6, y7⟩ := hcs; clear hSw; go_simp; first | done | (with_reducible rfl)
      try simp only [Act.put, List.getElem_toArray, List.getElem_cons_zero, List.getElem_cons_succ, List.setIfInBounds_toArray, List.set_cons_zero, List.set_cons_succ]
      refine wpAnyH_take (i := 4) (oi := _) (v := ?_) rfl (by kernel_rfl) (by kernel_rfl) (by kernel_rfl) (fun _ _ _ h => h) (Or.inl ⟨by rfl, ?_⟩) (by assumption) ?_
      case refine_2 => intro w hSw; (try dsimp only at hSw); have hcs := LeAt.cells hSw; obtain ⟨y0, y1, y2, y3, y4, y5, y6, y7⟩ := hcs; clear hSw; go_simp; first | done | (with_reducible rfl)
      try simp only [Act.put, List.getElem_toArray, List.getElem_cons_zero, List.getElem_cons_succ, List.setIfInBounds_toArray, List.set_cons_zero, List.set_cons_succ]
      refine wpAnyH_take (i := 5) (oi := _) (v := ?_) rfl (by kernel_rfl) (by kernel_rfl) (by kernel_rfl) (fun _ _ _ h => h) (Or.inl ⟨by rfl, ?_⟩) (by assumption) ?_
      case refine_2 => intro w hSw; (try dsimp only at hSw); have hcs := LeAt.cells hSw; obtain ⟨y0, y1, y2, y3, y4, y5, y6, y7⟩ := hcs; clear hSw; go_simp; first | done | (with_reducible rfl)
      try simp only [Act.put, List.getElem_toArray, List.getElem_cons_zero, List.getElem_cons_succ, List.setIfInBounds_toArray, List.set_cons_zero, List.set_cons_succ]
      refine wpAnyH_ready (rs := [3]) (by kernel_rfl) (by simp) ?_
      refine AllReadyH.cons rfl (fun K hK => ?_) AllReadyH.nil
      go_simp
      go_at_call 46
      refine (CA.out _).mono ?_
      rintro e w7 ⟨A2, m2, c2, rfl, hbt, hb⟩
      have HBT := Lib.hid hbt
      have HB7 := Lib.hid (HB0.out.below hb)
      have HBL := Lib.hid (HD.out.low.trans (hb.mono HD.out.low.size))
      have hS3 := HD.out.box.below hb HD.out.box.lt
      have hS3r := HD.out.res.below hb HD.out.res.lt
      clear hbt hb
      refine hK.out _ _ hS3 (fun hHeld => ?_)
      clear hK K
      try simp only [Act.put, List.getElem_toArray, List.getElem_cons_zero, List.getElem_cons_succ, List.setIfInBounds_toArray, List.set_cons_zero, List.set_cons_succ]
      refine wpAnyH_ready (rs := [6]) (by kernel_rfl) (by simp) ?_
      refine AllReadyH.cons rfl (fun K hK => ?_) AllReadyH.nil
      go_simp
      go_at_call 45
      refine (CH.out _ _ _ _ HB7.out HBT.out).mono ?_
      rintro e w8 ⟨rfl, hb⟩
      have HBL8 := Lib.hid (HBL.out.trans (hb.mono HBL.out.size))
      have hS6 := hS3.below hb hS3.lt
      have hS6r := hS3r.below hb hS3r.lt
      clear hb
      refine hK.out _ _ hS6 (fun hHeld => ?_)
      clear hK K
      try simp only [Act.put, List.getElem_toArray, List.getElem_cons_zero, List.getElem_cons_succ, List.setIfInBounds_toArray, List.set_cons_zero, List.set_cons_succ]
      refine wpAnyH_take (i := 7) (oi := _) (v := ?_) rfl (by kernel_rfl) (by kernel_rfl) (by kernel_rfl) (fun _ _ _ h => h) (Or.inl ⟨by rfl, ?_⟩) (by assumption) ?_
      case refine_2 => intro w hSw; (try dsimp only at hSw); have hcs := LeAt.cells hSw; obtain ⟨y0, y1, y2, y3, y4, y5, y6, y7⟩ := hcs; clear hSw; go_simp; first | done | (with_reducible rfl)
      try simp only [Act.put, List.getElem_toArray, List.getElem_cons_zero, List.getElem_cons_succ, List.setIfInBounds_toArray, List.set_cons_zero, List.set_cons_succ]
      refine wpAnyH_take (i := 8) (oi := _) (v := ?_) rfl (by kernel_rfl) (by kernel_rfl) (by kernel_rfl) (fun _ _ _ h => h) (Or.inl ⟨by rfl, ?_⟩) (by assumption) ?_
      case refine_2 => intro w hSw; (try dsimp only at hSw); have hcs := LeAt.cells hSw; obtain ⟨y0, y1, y2, y3, y4, y5, y6, y7⟩ := hcs; clear hSw; go_simp; first | done | (with_reducible rfl)
      try simp only [Act.put, List.getElem_toArray, List.getElem_cons_zero, List.getElem_cons_succ, List.setIfInBounds_toArray, List.set_cons_zero, List.set_cons_succ]
      refine wpAnyH_take (i := 9) (oi := _) (v := ?_) rfl (by kernel_rfl) (by kernel_rfl) (by kernel_rfl) (fun _ _ _ h => h) (Or.inl ⟨by rfl, ?_⟩) (by assumption) ?_
      case refine_2 => intro w hSw; (try dsimp only at hSw); have hcs := LeAt.cells hSw; obtain ⟨y0, y1, y2, y3, y4, y5, y6, y7⟩ := hcs; clear hSw; go_simp; first | done | (with_reducible rfl)
      try simp only [Act.put, List.getElem_toArray, List.getElem_cons_zero, List.getElem_cons_succ, List.setIfInBounds_toArray, List.set_cons_zero, List.set_cons_succ]
      refine wpAnyH_ready (rs := [10]) (by kernel_rfl) (by simp) ?_
      refine AllReadyH.cons rfl (fun K hK => ?_) AllReadyH.nil
      obtain ⟨r0, r1, r2, r3, r4, r5, r6, r7⟩ := hS6r.cells
      have g0 := fun k => (cells_of hS6r k).2
      have hl6 := hS6r.lt
      go_simp
      obtain ⟨w9, hw9⟩ : ∃ w9, put8 w8 w.heap.size ⟨a0, 0, 0, 0, 0, a5, a6, a7⟩ = w9 := ⟨_, rfl⟩
      have hS10 : LeAt w9 (w.heap.size + 1) ⟨a0, 0, 0, 0, 0, a5, a6, a7⟩ := by rw [← hw9]; exact (put8_other (by omega)).trans hS6
      have hR10 : LeAt w9 w.heap.size ⟨a0, 0, 0, 0, 0, a5, a6, a7⟩ := by rw [← hw9]; exact put8_res hS6r
      have hB10 : Below w.heap.size w w9 := by rw [← hw9]; exact put8_below HBL8.out (Nat.le_refl _)
      unfold put8 at hw9
      try unfold zeroL at hw9
      dsimp only at hw9
      rw [hw9]
      refine hK.out _ _ hS10 (fun hHeld => ?_)
      clear hK K
      try simp only [Act.put, List.getElem_toArray, List.getElem_cons_zero, List.getElem_cons_succ, List.setIfInBounds_toArray, List.set_cons_zero, List.set_cons_succ]
      refine wpAnyH_take (i := 11) (oi := _) (v := ?_) rfl (by kernel_rfl) (by kernel_rfl) (by kernel_rfl) (fun _ _ _ h => h) (Or.inl ⟨by rfl, ?_⟩) (by assumption) ?_
      case refine_2 => intro w hSw; (try dsimp only at hSw); have hcs := LeAt.cells hSw; obtain ⟨y0, y1, y2, y3, y4, y5, y6, y7⟩ := hcs; clear hSw; go_simp; first | done | (with_reducible rfl)
      try simp only [Act.put, List.getElem_toArray, List.getElem_cons_zero, List.getElem_cons_succ, List.setIfInBounds_toArray, List.set_cons_zero, List.set_cons_succ]
      refine wpAnyH_take (i := 12) (oi := _) (v := ?_) rfl (by kernel_rfl) (by kernel_rfl) (by kernel_rfl) (fun _ _ _ h => h) (Or.inl ⟨by rfl, ?_⟩) (by assumption) ?_
      case refine_2 => intro w hSw; (try dsimp only at hSw); have hcs := LeAt.cells hSw; obtain ⟨y0, y1, y2, y3, y4, y5, y6, y7⟩ := hcs; clear hSw; go_simp; first | done | (with_reducible rfl)
      try simp only [Act.put, List.getElem_toArray, List.getElem_cons_zero, List.getElem_cons_succ, List.setIfInBounds_toArray, List.set_cons_zero, List.set_cons_succ]
      refine wpAnyH_done (by kernel_rfl) ?_ _
      obtain ⟨z0, z1, z2, z3, z4, z5, z6, z7⟩ := hR10.cells
      try unfold zeroL at z0 z1 z2 z3 z4 z5 z6 z7
      dsimp only at z0 z1 z2 z3 z4 z5 z6 z7
      go_wp2
      exact ⟨rfl, .tuple #[leV ⟨a0, 0, 0, 0, 0, a5, a6, a7⟩, .bool true, .int .i64 0], by simp [results, Try.results33, go_sem, z0, z1, z2, z3, z4, z5, z6, z7, leV, leA, zeroL], by rw [HOK.out]; rfl, hB10⟩
  · rw [if_neg hk] at HLA
    have t1 : (k1 == 128) = false := by simp [hk]
    go_wp2_with fail
    refine (HS2.out.next' 2 4 (by decide) rfl).mono ?_
    rintro e w3 ⟨rfl, h3⟩
    have HS3 := Lib.hid h3
    clear h3
    obtain ⟨a5, ea5⟩ : ∃ a, ncut zs 2 2 = a := ⟨_, rfl⟩
    rw [ea5]
    rw [ea5] at HLA
    clear ea5
    go_wp2_with fail
    refine (HS3.out.next' 4 8 (by decide) rfl).mono ?_
    rintro e w4 ⟨rfl, h4⟩
    have HS4 := Lib.hid h4
    clear h4
    obtain ⟨a6, ea6⟩ : ∃ a, ncut zs 4 4 = a := ⟨_, rfl⟩
    rw [ea6]
    rw [ea6] at HLA
    clear ea6
    have hcc4 := HS4.out.cells
    obtain ⟨hl4, hf4⟩ := hcc4
    obtain ⟨x0, x1, x2, x3, x4, x5, x6, x7⟩ := HS4.out.box.cells
    dsimp only at x0 x1 x2 x3 x4 x5 x6 x7
    have f5 := (hf4 5).1
    have f6 := (hf4 6).1
    have HS4b := Lib.hid ((HS4.out.set 5 (.int .i64 a5) ⟨a0, 0, 0, 0, 0, a5, 0, 0⟩ rfl (by decide)).set 6 (.int .i64 a6) ⟨a0, 0, 0, 0, 0, a5, a6, 0⟩ rfl (by decide))
    go_wp2_with fail
    refine (HS4b.out.next' 2 10 (by decide) rfl).mono ?_
    rintro e w5 ⟨rfl, h5⟩
    have HS5 := Lib.hid h5
    clear h5
    obtain ⟨a1, ea1⟩ : ∃ a, ncut zs 8 2 = a := ⟨_, rfl⟩
    rw [ea1]
    rw [ea1] at HLA
    clear ea1
    clear x0 x1 x2 x3 x4 x5 x6 x7 f5 f6
    go_wp2_with fail
    refine (HS5.out.next' 2 12 (by decide) rfl).mono ?_
    rintro e w6 ⟨rfl, h6⟩
    have HS6 := Lib.hid h6
    clear h6
    obtain ⟨a2, ea2⟩ : ∃ a, ncut zs 10 2 = a := ⟨_, rfl⟩
    rw [ea2]
    rw [ea2] at HLA
    clear ea2
    go_wp2_with fail
    refine (HS6.out.next' 4 16 (by decide) rfl).mono ?_
    rintro e w7 ⟨rfl, h7⟩
    have HS7 := Lib.hid h7
    clear h7
    obtain ⟨a3, ea3⟩ : ∃ a, ncut zs 12 4 = a := ⟨_, rfl⟩
    rw [ea3]
    rw [ea3] at HLA
    clear ea3
    have hcc7 := HS7.out.cells
    obtain ⟨hl7, hf7⟩ := hcc7
    obtain ⟨x0, x1, x2, x3, x4, x5, x6, x7⟩ := HS7.out.box.cells
    dsimp only at x0 x1 x2 x3 x4 x5 x6 x7
    have f1 := (hf7 1).1
    have f2 := (hf7 2).1
    have f3 := (hf7 3).1
    have HS7b := Lib.hid (((HS7.out.set 1 (.int .i64 a1) ⟨a0, a1, 0, 0, 0, a5, a6, 0⟩ rfl (by decide)).set 2 (.int .i64 a2) ⟨a0, a1, a2, 0, 0, a5, a6, 0⟩ rfl (by decide)).set 3 (.int .i64 a3) ⟨a0, a1, a2, a3, 0, a5, a6, 0⟩ rfl (by decide))
    have e1 := HLA.out
    subst e1
    have e2 := HHA.out
    rw [t1] at e2
    subst e2
    clear HLA HHA hk
    have HD := Lib.hid HS7b.out.drew
    have HB0 := Lib.hid (HZ.out.below HD.out.low)
    have CA := Lib.hid (fun W => ans_sl ⟨a0, a1, a2, a3, 0, a5, a6, 0⟩ false W HIS.out)
    unfold leV leA at CA
    dsimp only at CA
    cases hok : decide (zs = ansR ⟨a0, a1, a2, a3, 0, a5, a6, 0⟩ false)
    case false =>
      have CH := Lib.hid (fun W A2 m c2 (hA : Bts W A n zs) (h2 : Bts W A2 m (ansR ⟨a0, a1, a2, a3, 0, a5, a6, 0⟩ false)) => held_any A A2 n m c c2 zs (ansR ⟨a0, a1, a2, a3, 0, a5, a6, 0⟩ false) ⟨a0, a1, a2, a3, 0, a5, a6, 0⟩ false W hA h2)
      rw [hok] at CH
      have HOK := Lib.hid hok
      clear hok
      unfold hldT zeroL leV leA at CH
      simp only [if_true, if_false, Bool.false_eq_true] at CH
      go_wp2_with fail
      clear x0 x1 x2 x3 x4 x5 x6 x7
      refine wp_region_held_drew (S := fun W => LeAt W (w.heap.size + 1) ⟨a0, a1, a2, a3, 0, a5, a6, 0⟩) (by kernel_rfl) HD.out.box (fun hHeld => ?_)
      refine wpAnyH_take (i := 0) (oi := _) (v := ?_) rfl (by kernel_rfl) (by kernel_rfl) (by kernel_rfl) (fun _ _ _ h => h) (Or.inl ⟨by rfl, ?_⟩) (by assumption) ?_
      case refine_2 => intro w hSw; (try dsimp only at hSw); have hcs := LeAt.cells hSw; obtain ⟨y0, y1, y2, y3, y4, y5, y6, y7⟩ := hcs; clear hSw; go_simp; first | done | (with_reducible rfl)
      try simp only [Act.put, List.getElem_toArray, List.getElem_cons_zero, List.setIfInBounds_toArray, List.set_cons_zero, List.set_cons_succ]
      refine wpAnyH_take (i := 1) (oi := _) (v := ?_) rfl (by kernel_rfl) (by kernel_rfl) (by kernel_rfl) (fun _ _ _ h => h) (Or.inl ⟨by rfl, ?_⟩) (by assumption) ?_
      case refine_2 => intro w hSw; (try dsimp only at hSw); have hcs := LeAt.cells hSw; obtain ⟨y0, y1, y2, y3, y4, y5, y6, y7⟩ := hcs; clear hSw; go_simp; first | done | (with_reducible rfl)
      try simp only [Act.put, List.getElem_toArray, List.getElem_cons_zero, List.getElem_cons_succ, List.setIfInBounds_toArray, List.set_cons_zero, List.set_cons_succ]
      refine wpAnyH_take (i := 2) (oi := _) (v := ?_) rfl (by kernel_rfl) (by kernel_rfl) (by kernel_rfl) (fun _ _ _ h => h) (Or.inl ⟨by rfl, ?_⟩) (by assumption) ?_
      case refine_2 => intro w hSw; (try dsimp only at hSw); have hcs := LeAt.cells hSw; obtain ⟨y0, y1, y2, y3, y4, y5, y6, y7⟩ := hcs; clear hSw; go_simp; first | done | (with_reducible rfl)
      try simp only [Act.put, List.getElem_toArray, List.getElem_cons_zero, List.getElem_cons_succ, List.setIfInBounds_toArray, List.set_cons_zero, List.set_cons_succ]
      refine wpAnyH_take (i := 4) (oi := _) (v := ?_) rfl (by kernel_rfl) (by kernel_rfl) (by kernel_rfl) (fun _ _ _ h => h) (Or.inl ⟨by rfl, ?_⟩) (by assumption) ?_
      case refine_2 => intro w hSw; (try dsimp only at hSw); have hcs := LeAt.cells hSw; obtain ⟨y0, y1, y2, y3, y4, y5, y6, y7⟩ := hcs; clear hSw; go_simp; first | done | (with_reducible rfl)
      try simp only [Act.put, List.getElem_toArray, List.getElem_cons_zero, List.getElem_cons_succ, List.setIfInBounds_toArray, List.set_cons_zero, List.set_cons_succ]
      refine wpAnyH_take (i := 5) (oi := _) (v := ?_) rfl (by kernel_rfl) (by kernel_rfl) (by kernel_rfl) (fun _ _ _ h => h) (Or.inl ⟨by rfl, ?_⟩) (by assumption) ?_
      case refine_2 => intro w hSw; (try dsimp only at hSw); have hcs := LeAt.cells hSw; obtain ⟨y0, y1, y2, y3, y4, y5, y6, y7⟩ := hcs; clear hSw; go_simp; first | done | (with_reducible rfl)
      try simp only [Act.put, List.getElem_toArray, List.getElem_cons_zero, List.getElem_cons_succ, List.setIfInBounds_toArray, List.set_cons_zero, List.set_cons_succ]
      refine wpAnyH_ready (rs := [3]) (by kernel_rfl) (by simp) ?_
      refine AllReadyH.cons rfl (fun K hK => ?_) AllReadyH.nil
      go_simp
      go_at_call 46
      refine (CA.out _).mono ?_
      rintro e w7 ⟨A2, m2, c2, rfl, hbt, hb⟩
      have HBT := Lib.hid hbt
      have HB7 := Lib.hid (HB0.out.below hb)
      have HBL := Lib.hid (HD.out.low.trans (hb.mono HD.out.low.size))
      have hS3 := HD.out.box.below hb HD.out.box.lt
      have hS3r := HD.out.res.below hb HD.out.res.lt
      clear hbt hb
      refine hK.out _ _ hS3 (fun hHeld => ?_)
      clear hK K
      try simp only [Act.put, List.getElem_toArray, List.getElem_cons_zero, List.getElem_cons_succ, List.setIfInBounds_toArray, List.set_cons_zero, List.set_cons_succ]
      refine wpAnyH_ready (rs := [6]) (by kernel_rfl) (by simp) ?_
      refine AllReadyH.cons rfl (fun K hK => ?_) AllReadyH.nil
      go_simp
      go_at_call 45
      refine (CH.out _ _ _ _ HB7.out HBT.out).mono ?_
      rintro e w8 ⟨rfl, hb⟩
      have HBL8 := Lib.hid (HBL.out.trans (hb.mono HBL.out.size))
      have hS6 := hS3.below hb hS3.lt
      have hS6r := hS3r.below hb hS3r.lt
      clear hb
      refine hK.out _ _ hS6 (fun hHeld => ?_)
      clear hK K
      try simp only [Act.put, List.getElem_toArray, List.getElem_cons_zero, List.getElem_cons_succ, List.setIfInBounds_toArray, List.set_cons_zero, List.set_cons_succ]
      refine wpAnyH_take (i := 7) (oi := _) (v := ?_) rfl (by kernel_rfl) (by kernel_rfl) (by kernel_rfl) (fun _ _ _ h => h) (Or.inl ⟨by rfl, ?_⟩) (by assumption) ?_
      case refine_2 => intro w hSw; (try dsimp only at hSw); have hcs := LeAt.cells hSw; obtain ⟨y0, y1, y2, y3, y4, y5, y6, y7⟩ := hcs; clear hSw; go_simp; first | done | (with_reducible rfl)
      try simp only [Act.put, List.getElem_toArray, List.getElem_cons_zero, List.getElem_cons_succ, List.setIfInBounds_toArray, List.set_cons_zero, List.set_cons_succ]
      refine wpAnyH_take (i := 8) (oi := _) (v := ?_) rfl (by kernel_rfl) (by kernel_rfl) (by kernel_rfl) (fun _ _ _ h => h) (Or.inl ⟨by rfl, ?_⟩) (by assumption) ?_
      case refine_2 => intro w hSw; (try dsimp only at hSw); have hcs := LeAt.cells hSw; obtain ⟨y0, y1, y2, y3, y4, y5, y6, y7⟩ := hcs; clear hSw; go_simp; first | done | (with_reducible rfl)
      try simp only [Act.put, List.getElem_toArray, List.getElem_cons_zero, List.getElem_cons_succ, List.setIfInBounds_toArray, List.set_cons_zero, List.set_cons_succ]
      refine wpAnyH_take (i := 9) (oi := _) (v := ?_) rfl (by kernel_rfl) (by kernel_rfl) (by kernel_rfl) (fun _ _ _ h => h) (Or.inl ⟨by rfl, ?_⟩) (by assumption) ?_
      case refine_2 => intro w hSw; (try dsimp only at hSw); have hcs := LeAt.cells hSw; obtain ⟨y0, y1, y2, y3, y4, y5, y6, y7⟩ := hcs; clear hSw; go_simp; first | done | (with_reducible rfl)
      try simp only [Act.put, List.getElem_toArray, List.getElem_cons_zero, List.getElem_cons_succ, List.setIfInBounds_toArray, List.set_cons_zero, List.set_cons_succ]
      refine wpAnyH_ready (rs := [10]) (by kernel_rfl) (by simp) ?_
      refine AllReadyH.cons rfl (fun K hK => ?_) AllReadyH.nil
      obtain ⟨r0, r1, r2, r3, r4, r5, r6, r7⟩ := hS6r.cells
      have g0 := fun k => (cells_of hS6r k).2
      have hl6 := hS6r.lt
      go_simp
      obtain ⟨w9, hw9⟩ : ∃ w9, put8 w8 w.heap.size zeroL = w9 := ⟨_, rfl⟩
      have hS10 : LeAt w9 (w.heap.size + 1) ⟨a0, a1, a2, a3, 0, a5, a6, 0⟩ := by rw [← hw9]; exact (put8_other (by omega)).trans hS6
      have hR10 : LeAt w9 w.heap.size zeroL := by rw [← hw9]; exact put8_res hS6r
      have hB10 : Below w.heap.size w w9 := by rw [← hw9]; exact put8_below HBL8.out (Nat.le_refl _)
      unfold put8 at hw9
      try unfold zeroL at hw9
      dsimp only at hw9
      rw [hw9]
      refine hK.out _ _ hS10 (fun hHeld => ?_)
      clear hK K
      try simp only [Act.put, List.getElem_toArray, List.getElem_cons_zero, List.getElem_cons_succ, List.setIfInBounds_toArray, List.set_cons_zero, List.set_cons_succ]
      refine wpAnyH_take (i := 11) (oi := _) (v := ?_) rfl (by kernel_rfl) (by kernel_rfl) (by kernel_rfl) (fun _ _ _ h => h) (Or.inl ⟨by rfl, ?_⟩) (by assumption) ?_
      case refine_2 => intro w hSw; (try dsimp only at hSw); have hcs := LeAt.cells hSw; obtain ⟨y0, y1, y2, y3, y4, y5, y6, y7⟩ := hcs; clear hSw; go_simp; first | done | (with_reducible rfl)
      try simp only [Act.put, List.getElem_toArray, List.getElem_cons_zero, List.getElem_cons_succ, List.setIfInBounds_toArray, List.set_cons_zero, List.set_cons_succ]
      refine wpAnyH_take (i := 12) (oi := _) (v := ?_) rfl (by kernel_rfl) (by kernel_rfl) (by kernel_rfl) (fun _ _ _ h => h) (Or.inl ⟨by rfl, ?_⟩) (by assumption) ?_
      case refine_2 => intro w hSw; (try dsimp only at hSw); have hcs := LeAt.cells hSw; obtain ⟨y0, y1, y2, y3, y4, y5, y6, y7⟩ := hcs; clear hSw; go_simp; first | done | (with_reducible rfl)
      try simp only [Act.put, List.getElem_toArray, List.getElem_cons_zero, List.getElem_cons_succ, List.setIfInBounds_toArray, List.set_cons_zero, List.set_cons_succ]
      refine wpAnyH_done (by kernel_rfl) ?_ _
      obtain ⟨z0, z1, z2, z3, z4, z5, z6, z7⟩ := hR10.cells
      try unfold zeroL at z0 z1 z2 z3 z4 z5 z6 z7
      dsimp only at z0 z1 z2 z3 z4 z5 z6 z7
      go_wp2
      exact ⟨rfl, .tuple #[leV zeroL, .bool false, .int .i64 3], by simp [results, Try.results33, go_sem, z0, z1, z2, z3, z4, z5, z6, z7, leV, leA, zeroL], by rw [HOK.out]; rfl, hB10⟩
    case true =>
      have CH := Lib.hid (fun W A2 m c2 (hA : Bts W A n zs) (h2 : Bts W A2 m (ansR ⟨a0, a1, a2, a3, 0, a5, a6, 0⟩ false)) => held_any A A2 n m c c2 zs (ansR ⟨a0, a1, a2, a3, 0, a5, a6, 0⟩ false) ⟨a0, a1, a2, a3, 0, a5, a6, 0⟩ false W hA h2)
      rw [hok] at CH
      have HOK := Lib.hid hok
      clear hok
      unfold hldT zeroL leV leA at CH
      simp only [if_true, if_false, Bool.false_eq_true] at CH
      go_wp2_with fail
      clear x0 x1 x2 x3 x4 x5 x6 x7
      refine wp_region_held_drew (S := fun W => LeAt W (w.heap.size + 1) ⟨a0, a1, a2, a3, 0, a5, a6, 0⟩) (by kernel_rfl) HD.out.box (fun hHeld => ?_)
      refine wpAnyH_take (i := 0) (oi := _) (v := ?_) rfl (by kernel_rfl) (by kernel_rfl) (by kernel_rfl) (fun _ _ _ h => h) (Or.inl ⟨by rfl, ?_⟩) (by assumption) ?_
      case refine_2 => intro w hSw; (try dsimp only at hSw); have hcs := LeAt.cells hSw; obtain ⟨y0, y1, y2, y3, y4, y5, y6, y7⟩ := hcs; clear hSw; go_simp; first | done | (with_reducible rfl)
      try simp only [Act.put, List.getElem_toArray, List.getElem_cons_zero, List.setIfInBounds_toArray, List.set_cons_zero, List.set_cons_succ]
      refine wpAnyH_take (i := 1) (oi := _) (v := ?_) rfl (by kernel_rfl) (by kernel_rfl) (by kernel_rfl) (fun _ _ _ h => h) (Or.inl ⟨by rfl, ?_⟩) (by assumption) ?_
      case refine_2 => intro w hSw; (try dsimp only at hSw); have hcs := LeAt.cells hSw; obtain ⟨y0, y1, y2, y3, y4, y5, y6, y7⟩ := hcs; clear hSw; go_simp; first | done | (with_reducible rfl)
      try simp only [Act.put, List.getElem_toArray, List.getElem_cons_zero, List.getElem_cons_succ, List.setIfInBounds_toArray, List.set_cons_zero, List.set_cons_succ]
      refine wpAnyH_take (i := 2) (oi := _) (v := ?_) rfl (by kernel_rfl) (by kernel_rfl) (by kernel_rfl) (fun _ _ _ h => h) (Or.inl ⟨by rfl, ?_⟩) (by assumption) ?_
      case refine_2 => intro w hSw; (try dsimp only at hSw); have hcs := LeAt.cells hSw; obtain ⟨y0, y1, y2, y3, y4, y5, y6, y7⟩ := hcs; clear hSw; go_simp; first | done | (with_reducible rfl)
      try simp only [Act.put, List.getElem_toArray, List.getElem_cons_zero, List.getElem_cons_succ, List.setIfInBounds_toArray, List.set_cons_zero, List.set_cons_succ]
      refine wpAnyH_take (i := 4) (oi := _) (v := ?_) rfl (by kernel_rfl) (by kernel_rfl) (by kernel_rfl) (fun _ _ _ h => h) (Or.inl ⟨by rfl, ?_⟩) (by assumption) ?_
      case refine_2 => intro w hSw; (try dsimp only at hSw); have hcs := LeAt.cells hSw; obtain ⟨y0, y1, y2, y3, y4, y5, y6, y7⟩ := hcs; clear hSw; go_simp; first | done | (with_reducible rfl)
      try simp only [Act.put, List.getElem_toArray, List.getElem_cons_zero, List.getElem_cons_succ, List.setIfInBounds_toArray, List.set_cons_zero, List.set_cons_succ]
      refine wpAnyH_take (i := 5) (oi := _) (v := ?_) rfl (by kernel_rfl) (by kernel_rfl) (by kernel_rfl) (fun _ _ _ h => h) (Or.inl ⟨by rfl, ?_⟩) (by assumption) ?_
      case refine_2 => intro w hSw; (try dsimp only at hSw); have hcs := LeAt.cells hSw; obtain ⟨y0, y1, y2, y3, y4, y5, y6, y7⟩ := hcs; clear hSw; go_simp; first | done | (with_reducible rfl)
      try simp only [Act.put, List.getElem_toArray, List.getElem_cons_zero, List.getElem_cons_succ, List.setIfInBounds_toArray, List.set_cons_zero, List.set_cons_succ]
      refine wpAnyH_ready (rs := [3]) (by kernel_rfl) (by simp) ?_
      refine AllReadyH.cons rfl (fun K hK => ?_) AllReadyH.nil
      go_simp
      go_at_call 46
      refine (CA.out _).mono ?_
      rintro e w7 ⟨A2, m2, c2, rfl, hbt, hb⟩
      have HBT := Lib.hid hbt
      have HB7 := Lib.hid (HB0.out.below hb)
      have HBL := Lib.hid (HD.out.low.trans (hb.mono HD.out.low.size))
      have hS3 := HD.out.box.below hb HD.out.box.lt
      have hS3r := HD.out.res.below hb HD.out.res.lt
      clear hbt hb
      refine hK.out _ _ hS3 (fun hHeld => ?_)
      clear hK K
      try simp only [Act.put, List.getElem_toArray, List.getElem_cons_zero, List.getElem_cons_succ, List.setIfInBounds_toArray, List.set_cons_zero, List.set_cons_succ]
      refine wpAnyH_ready (rs := [6]) (by kernel_rfl) (by simp) ?_
      refine AllReadyH.cons rfl (fun K hK => ?_) AllReadyH.nil
      go_simp
      go_at_call 45
      refine (CH.out _ _ _ _ HB7.out HBT.out).mono ?_
      rintro e w8 ⟨rfl, hb⟩
      have HBL8 := Lib.hid (HBL.out.trans (hb.mono HBL.out.size))
      have hS6 := hS3.below hb hS3.lt
      have hS6r := hS3r.below hb hS3r.lt
      clear hb
      refine hK.out _ _ hS6 (fun hHeld => ?_)
      clear hK K
      try simp only [Act.put, List.getElem_toArray, List.getElem_cons_zero, List.getElem_cons_succ, List.setIfInBounds_toArray, List.set_cons_zero, List.set_cons_succ]
      refine wpAnyH_take (i := 7) (oi := _) (v := ?_) rfl (by kernel_rfl) (by kernel_rfl) (by kernel_rfl) (fun _ _ _ h => h) (Or.inl ⟨by rfl, ?_⟩) (by assumption) ?_
      case refine_2 => intro w hSw; (try dsimp only at hSw); have hcs := LeAt.cells hSw; obtain ⟨y0, y1, y2, y3, y4, y5, y6, y7⟩ := hcs; clear hSw; go_simp; first | done | (with_reducible rfl)
      try simp only [Act.put, List.getElem_toArray, List.getElem_cons_zero, List.getElem_cons_succ, List.setIfInBounds_toArray, List.set_cons_zero, List.set_cons_succ]
      refine wpAnyH_take (i := 8) (oi := _) (v := ?_) rfl (by kernel_rfl) (by kernel_rfl) (by kernel_rfl) (fun _ _ _ h => h) (Or.inl ⟨by rfl, ?_⟩) (by assumption) ?_
      case refine_2 => intro w hSw; (try dsimp only at hSw); have hcs := LeAt.cells hSw; obtain ⟨y0, y1, y2, y3, y4, y5, y6, y7⟩ := hcs; clear hSw; go_simp; first | done | (with_reducible rfl)
      try simp only [Act.put, List.getElem_toArray, List.getElem_cons_zero, List.getElem_cons_succ, List.setIfInBounds_toArray, List.set_cons_zero, List.set_cons_succ]
      refine wpAnyH_take (i := 9) (oi := _) (v := ?_) rfl (by kernel_rfl) (by kernel_rfl) (by kernel_rfl) (fun _ _ _ h => h) (Or.inl ⟨by rfl, ?_⟩) (by assumption) ?_
      case refine_2 => intro w hSw; (try dsimp only at hSw); have hcs := LeAt.cells hSw; obtain ⟨y0, y1, y2, y3, y4, y5, y6, y7⟩ := hcs; clear hSw; go_simp; first | done | (with_reducible rfl)
      try simp only [Act.put, List.getElem_toArray, List.getElem_cons_zero, List.getElem_cons_succ, List.setIfInBounds_toArray, List.set_cons_zero, List.set_cons_succ]
      refine wpAnyH_ready (rs := [10]) (by kernel_rfl) (by simp) ?_
      refine AllReadyH.cons rfl (fun K hK => ?_) AllReadyH.nil
      obtain ⟨r0, r1, r2, r3, r4, r5, r6, r7⟩ := hS6r.cells
      have g0 := fun k => (cells_of hS6r k).2
      have hl6 := hS6r.lt
      go_simp
      obtain ⟨w9, hw9⟩ : ∃ w9, put8 w8 w.heap.size ⟨a0, a1, a2, a3, 0, a5, a6, 0⟩ = w9 := ⟨_, rfl⟩
      have hS10 : LeAt w9 (w.heap.size + 1) ⟨a0, a1, a2, a3, 0, a5, a6, 0⟩ := by rw [← hw9]; exact (put8_other (by omega)).trans hS6
      have hR10 : LeAt w9 w.heap.size ⟨a0, a1, a2, a3, 0, a5, a6, 0⟩ := by rw [← hw9]; exact put8_res hS6r
      have hB10 : Below w.heap.size w w9 := by rw [← hw9]; exact put8_below HBL8.out (Nat.le_refl _)
      unfold put8 at hw9
      try unfold zeroL at hw9
      dsimp only at hw9
      rw [hw9]
      refine hK.out _ _ hS10 (fun hHeld => ?_)
      clear hK K
      try simp only [Act.put, List.getElem_toArray, List.getElem_cons_zero, List.getElem_cons_succ, List.setIfInBounds_toArray, List.set_cons_zero, List.set_cons_succ]
      refine wpAnyH_take (i := 11) (oi := _) (v := ?_) rfl (by kernel_rfl) (by kernel_rfl) (by kernel_rfl) (fun _ _ _ h => h) (Or.inl ⟨by rfl, ?_⟩) (by assumption) ?_
      case refine_2 => intro w hSw; (try dsimp only at hSw); have hcs := LeAt.cells hSw; obtain ⟨y0, y1, y2, y3, y4, y5, y6, y7⟩ := hcs; clear hSw; go_simp; first | done | (with_reducible rfl)
      try simp only [Act.put, List.getElem_toArray, List.getElem_cons_zero, List.getElem_cons_succ, List.setIfInBounds_toArray, List.set_cons_zero, List.set_cons_succ]
      refine wpAnyH_take (i := 12) (oi := _) (v := ?_) rfl (by kernel_rfl) (by kernel_rfl) (by kernel_rfl) (fun _ _ _ h => h) (Or.inl ⟨by rfl, ?_⟩) (by assumption) ?_
      case refine_2 => intro w hSw; (try dsimp only at hSw); have hcs := LeAt.cells hSw; obtain ⟨y0, y1, y2, y3, y4, y5, y6, y7⟩ := hcs; clear hSw; go_simp; first | done | (with_reducible rfl)
      try simp only [Act.put, List.getElem_toArray, List.getElem_cons_zero, List.getElem_cons_succ, List.setIfInBounds_toArray, List.set_cons_zero, List.set_cons_succ]
      refine wpAnyH_done (by kernel_rfl) ?_ _
      obtain ⟨z0, z1, z2, z3, z4, z5, z6, z7⟩ := hR10.cells
      try unfold zeroL at z0 z1 z2 z3 z4 z5 z6 z7
      dsimp only at z0 z1 z2 z3 z4 z5 z6 z7
      go_wp2
      exact ⟨rfl, .tuple #[leV ⟨a0, a1, a2, a3, 0, a5, a6, 0⟩, .bool false, .int .i64 0], by simp [results, Try.results33, go_sem, z0, z1, z2, z3, z4, z5, z6, z7, leV, leA, zeroL], by rw [HOK.out]; rfl, hB10⟩
end Go.Proofs.Ytfaekiopmfnpkaa.Pp
