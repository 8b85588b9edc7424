/-
  The program's notary and the document's own one side by side; a script whose texts' nil slices are empty. Conditions: as each lemma states.
-/
import Derived.Test.YtcinjfmmmmaelaaDo
import Derived.Test.YtcinjfmmmmaelaaRefn
namespace Go.Proofs.Ytcinjfmmmmaelaa
open Go.RowKit Go.Maps
set_option linter.unusedVariables false

/-- block nb is a notary for L1, block rb the document's notary for L2; they share nothing, and lie from block Z on -/
def Pair (w : World) (Z nb rb : Nat) (L1 L2 : List Item) : Prop :=
  ∃ S1 S2 : Nat → Prop, (∀ b, S1 b → Z ≤ b ∧ b < w.heap.size) ∧ (∀ b, S2 b → Z ≤ b ∧ b < w.heap.size) ∧ (∀ b, S1 b → ¬ S2 b) ∧ Nota w S1 nb L1 ∧ RefN w S2 rb L2
theorem Pair.kept {w w' : World} {Z nb rb : Nat} {L1 L2 : List Item} (h : Pair w Z nb rb L1 L2) (hb : Below w.heap.size w w') : Pair w' Z nb rb L1 L2 := by
  obtain ⟨S1, S2, h1, h2, h3, h4, h5⟩ := h
  have := hb.size
  exact ⟨S1, S2, fun b hs => ⟨(h1 b hs).1, by have := (h1 b hs).2; omega⟩, fun b hs => ⟨(h2 b hs).1, by have := (h2 b hs).2; omega⟩, h3, h4.kept (fun k hk _ => hb.block k hk), h5.kept (fun k hk _ => hb.block k hk)⟩
theorem Pair.drewN {w : World} {Z nb rb : Nat} {L1 L2 : List Item} (h : Pair w Z nb rb L1 L2) (q : Nat) : Pair (w.drewN q) Z nb rb L1 L2 := h.kept (below_drewN' (Below.refl _ _) _)
theorem Pair.alloc {w : World} {Z nb rb : Nat} {L1 L2 : List Item} (h : Pair w Z nb rb L1 L2) (o : Obj) : Pair (w.alloc o) Z nb rb L1 L2 := h.kept ((Below.refl _ _).alloc (Nat.le_refl _) _)
/-- .. and block X is none of theirs -/
def PairX (w : World) (Z X nb rb : Nat) (L1 L2 : List Item) : Prop :=
  ∃ S1 S2 : Nat → Prop, (∀ b, S1 b → Z ≤ b ∧ b < w.heap.size) ∧ (∀ b, S2 b → Z ≤ b ∧ b < w.heap.size) ∧ (∀ b, S1 b → ¬ S2 b) ∧ (¬ S1 X ∧ ¬ S2 X ∧ X < w.heap.size) ∧ Nota w S1 nb L1 ∧ RefN w S2 rb L2
theorem PairX.pair {w : World} {Z X nb rb : Nat} {L1 L2 : List Item} (h : PairX w Z X nb rb L1 L2) : Pair w Z nb rb L1 L2 := by
  obtain ⟨S1, S2, h1, h2, h3, _, h4, h5⟩ := h
  exact ⟨S1, S2, h1, h2, h3, h4, h5⟩
theorem Pair.box {w : World} {Z nb rb : Nat} {L1 L2 : List Item} (h : Pair w Z nb rb L1 L2) (o : Obj) : PairX (w.alloc o) Z w.heap.size nb rb L1 L2 := by
  obtain ⟨S1, S2, h1, h2, h3, h4, h5⟩ := h
  exact ⟨S1, S2, fun b hs => ⟨(h1 b hs).1, by have := (h1 b hs).2; simp; omega⟩, fun b hs => ⟨(h2 b hs).1, by have := (h2 b hs).2; simp; omega⟩, h3, ⟨fun hs => by have := (h1 _ hs).2; omega, fun hs => by have := (h2 _ hs).2; omega, by simp⟩, h4.alloc o, h5.alloc o⟩

/-- what a Mint answers and leaves: the tag, the code, the entries -/
def mres (L : List Item) (x : Item) : Nat × Int × List Item := if 1 ≤ x.1 ∧ x.1 ≤ 2147483647 then (tagL L x, 0, mintL L x) else (0, 1, L)
theorem mres_len (L : List Item) (x : Item) : (mres L x).2.2.length ≤ L.length + 1 := by
  unfold mres
  split
  · exact mintL_len L x
  · exact Nat.le_succ _
theorem pair_mint (Z X nb rb : Nat) (L1 L2 : List Item) (p : Int) (A : Option Addr) (n c : Nat) (zs : List Int) (w : World) (h : PairX w Z X nb rb L1 L2) (hZ : Z ≤ w.heap.size) (hnc : n ≤ c) (hc : c ≤ maxLen) (hb : Bts w A n zs) (hL : L1.length ≤ 1000000) (t : Nat) (r : Int) (L' : List Item) (hm : mres L1 (p, zs) = (t, r, L')) :
    Calls Try.prog 12 #[.pointer (some ⟨nb, 0, none⟩), .int .i64 p, .slice A n c] w fun e w' => e = .returned (.tuple #[.int .u64 (t : Int), .int .i64 r]) ∧ PairX w' Z X nb rb L' L2 ∧ Below Z w w' ∧ w'.heap[X]? = w.heap[X]? := by
  unfold mres at hm
  obtain ⟨S1, S2, h1, h2, h3, hX, h4, h5⟩ := h
  by_cases hp : 1 ≤ p ∧ p ≤ 2147483647
  · rw [if_pos hp] at hm
    simp only [Prod.mk.injEq] at hm
    obtain ⟨rfl, rfl, rfl⟩ := hm
    have hcl := mint_any nb S1 L1 p A n c zs w h4 hp hnc hc hb hL
    refine hcl.mono fun e w' h' => ⟨h'.1, ?_⟩
    have hsz := h'.2.2.size
    refine ⟨⟨fun k => (S1 k ∨ w.heap.size ≤ k) ∧ k < w'.heap.size, S2, fun b hb => ⟨?_, hb.2⟩, fun b hb => ⟨(h2 b hb).1, by have := (h2 b hb).2; omega⟩, ?_, ⟨fun hs => ?_, hX.2.1, by omega⟩, h'.2.1.trim, h5.kept (fun k hk hs2 => h'.2.2.block k hk (fun hs1 => h3 k hs1 hs2))⟩, h'.2.2.below (fun k hk => (h1 k hk).1) hZ, h'.2.2.block X hX.2.2 hX.1⟩
    · rcases hb.1 with h | h
      · exact (h1 b h).1
      · omega
    · rintro b ⟨hb, _⟩ hb2
      rcases hb with h | h
      · exact h3 b h hb2
      · have := (h2 b hb2).2; omega
    · rcases hs.1 with h | h
      · exact hX.1 h
      · have := hX.2.2; omega
  · rw [if_neg hp] at hm
    simp only [Prod.mk.injEq] at hm
    obtain ⟨rfl, rfl, rfl⟩ := hm
    exact (mint_arg nb p A n c w hp).mono fun e w' h' => ⟨h'.1, h'.2 ▸ ⟨S1, S2, h1, h2, h3, hX, h4, h5⟩, h'.2 ▸ Below.refl _ _, h'.2 ▸ rfl⟩
theorem pair_rmint (Z X nb rb : Nat) (L1 L2 : List Item) (p : Int) (A : Option Addr) (n c : Nat) (zs : List Int) (w : World) (h : PairX w Z X nb rb L1 L2) (hZ : Z ≤ w.heap.size) (hnc : n ≤ c) (hc : c ≤ maxLen) (hb : Bts w A n zs) (hnil : A = none → n = 0 ∧ c = 0) (hn : n ≤ 1000000) (hL : L2.length ≤ 1000000) (t : Nat) (r : Int) (L' : List Item) (hm : mres L2 (p, zs) = (t, r, L')) :
    Calls Try.prog 13 #[.pointer (some ⟨rb, 0, none⟩), .int .i64 p, .slice A n c] w fun e w' => e = .returned (.tuple #[.int .u64 (t : Int), .int .i64 r]) ∧ PairX w' Z X nb rb L1 L' ∧ Below Z w w' ∧ w'.heap[X]? = w.heap[X]? := by
  unfold mres at hm
  by_cases hp : 1 ≤ p ∧ p ≤ 2147483647
  · rw [if_pos hp] at hm
    simp only [Prod.mk.injEq] at hm
    obtain ⟨rfl, rfl, rfl⟩ := hm
    obtain ⟨S1, S2, h1, h2, h3, hX, h4, h5⟩ := h
    refine (rmint_ok rb S2 L2 p A n c zs w h5 hp hL hnc hc hb hnil hn).mono fun e w' h' => ⟨h'.1, ?_⟩
    have hsz := h'.2.2.size
    refine ⟨⟨S1, fun k => (S2 k ∨ w.heap.size ≤ k) ∧ k < w'.heap.size, fun b hb => ⟨(h1 b hb).1, by have := (h1 b hb).2; omega⟩, fun b hb => ⟨?_, hb.2⟩, ?_, ⟨hX.1, fun hs => ?_, by omega⟩, h4.kept (fun k hk hs1 => h'.2.2.block k hk (fun hs2 => h3 k hs1 hs2)), h'.2.1.trim⟩, h'.2.2.below (fun k hk => (h2 k hk).1) hZ, h'.2.2.block X hX.2.2 hX.2.1⟩
    · rcases hb.1 with h | h
      · exact (h2 b h).1
      · omega
    · rintro b hb1 ⟨hb, _⟩
      rcases hb with h | h
      · exact h3 b hb1 h
      · have := (h1 b hb1).2; omega
    · rcases hs.1 with h | h
      · exact hX.2.1 h
      · have := hX.2.2; omega
  · rw [if_neg hp] at hm
    simp only [Prod.mk.injEq] at hm
    obtain ⟨rfl, rfl, rfl⟩ := hm
    exact (rmint_arg rb p A n c w hp).mono fun e w' h' => ⟨h'.1, h'.2 ▸ h, h'.2 ▸ Below.refl _ _, h'.2 ▸ rfl⟩
theorem pair_check (Z nb rb : Nat) (L1 L2 : List Item) (p : Int) (A : Option Addr) (n c T : Nat) (zs : List Int) (r : Int) (w : World) (h : Pair w Z nb rb L1 L2) (hL : L1.length ≤ 1000000) (hb : Bts w A n zs) (hT : T < 18446744073709551616) (hr : checkL L1 (p, zs) T = r) :
    Calls Try.prog 10 #[.pointer (some ⟨nb, 0, none⟩), .int .i64 p, .slice A n c, .int .u64 (T : Int)] w fun e w' => e = .returned (.int .i64 r) ∧ ∃ q, w' = w.drewN q := by
  subst hr
  obtain ⟨S1, S2, h1, h2, h3, h4, h5⟩ := h
  exact check_any nb S1 L1 p A n c T zs w h4 hL hb hT
theorem pair_rcheck (Z nb rb : Nat) (L1 L2 : List Item) (p : Int) (A : Option Addr) (n c T : Nat) (zs : List Int) (r : Int) (w : World) (h : Pair w Z nb rb L1 L2) (hL : L2.length ≤ 1000000) (hb : Bts w A n zs) (hT : T < 18446744073709551616) (hr : checkL L2 (p, zs) T = r) :
    Calls Try.prog 11 #[.pointer (some ⟨rb, 0, none⟩), .int .i64 p, .slice A n c, .int .u64 (T : Int)] w fun e w' => e = .returned (.int .i64 r) ∧ ∃ q, w' = w.drewN q := by
  subst hr
  obtain ⟨S1, S2, h1, h2, h3, h4, h5⟩ := h
  exact rcheck_any rb S2 L2 p A n c T zs w h5 hL hb hT
theorem pair_count (Z nb rb : Nat) (L1 L2 : List Item) (w : World) (h : Pair w Z nb rb L1 L2) (hL : L1.length ≤ 1000000) : Calls Try.prog 14 #[.pointer (some ⟨nb, 0, none⟩)] w fun e w' => e = .returned (.int .i64 (L1.length : Nat)) ∧ w' = w := by
  obtain ⟨S1, S2, h1, h2, h3, h4, h5⟩ := h
  exact (count_any nb S1 L1 w h4 hL).mono fun e w' h' => ⟨h'.1, h'.2.symm⟩
theorem Pair.form {w : World} {Z nb rb : Nat} {L1 L2 : List Item} (h : Pair w Z nb rb L1 L2) : rb < w.heap.size ∧ ∃ A c, w.cell? ⟨rb, 0, none⟩ = some (.slice A L2.length c) := by
  obtain ⟨S1, S2, h1, h2, h3, h4, h5⟩ := h
  obtain ⟨A, c, hc, _⟩ := h5.form
  exact ⟨h5.size, A, c, hc⟩
theorem Pair.start {w : World} {Z nb : Nat} (h : Nota w (Z ≤ ·) nb []) (hZ : Z ≤ w.heap.size) : Pair (w.alloc (.cells #[.slice none 0 0] 30)) Z nb w.heap.size [] [] := by
  have ht := h.trim
  refine ⟨fun k => Z ≤ k ∧ k < w.heap.size, fun k => k = w.heap.size, fun b hb => ⟨hb.1, by simp; omega⟩, fun b hb => ⟨by omega, by simp; omega⟩, fun b hb e => by omega, ht.alloc _, ⟨.slice none 0 0, [], rfl, by simp [Value.ownBlock], (MapKept.heap_alloc w _).1, World.ownsRow_nil _ _ _ _, by simp⟩⟩

/-- of the texts in a slice of steps those that are nil are empty -/
def NilOk (w : World) (v : Value) : Prop := ∀ b off len cap, v = .slice (some ⟨b, off, none⟩) len cap → ∀ j, j < len → ∀ n c, w.cell? ⟨b, off + j * 4 + 2, none⟩ = some (.slice none n c) → n = 0 ∧ c = 0
def IsNdos (w : World) (v : Value) (ds : List Step) : Prop := IsDos w v ds ∧ NilOk w v
theorem open_ndos {H : Type} {enc : TypeId × Value → H} {W : World} {r : Reach} {b0 : Nat} {v : Value} {d : DataW H} {p : List MemPlace} (hv : Value.okWide Try.prog W r b0 22 v) (h : DataW.Trod enc Try.prog W 0 (fun _ => true) true 22 v d p) : ∃ ds, IsNdos W v ds := by
  obtain ⟨ds, hd⟩ := open_dos hv h
  refine ⟨ds, hd, ?_⟩
  intro b off len cap he j hj n c hc
  subst he
  obtain ⟨fuel, hf⟩ := h
  rcases Deep.open_slice Try.underlying22 hf with ⟨hcs, _⟩ | ⟨a, l, cp, m, n', D, Pl, hcs, _, hl, hm, hmm, _, hi⟩
  · simp [Value.cells] at hcs
  · simp [Value.cells] at hcs
    obtain ⟨rfl, rfl, rfl⟩ := hcs
    have hmc : m = cap := by simpa using hmm
    subst hmc
    obtain ⟨cs, hc', ht⟩ := hi j (by omega)
    obtain ⟨_, hlen, hat⟩ := World.cells?_some hc'
    have h4 : Try.prog.cellsOf 34 = 4 := by kernel_rfl
    rw [h4] at hlen hat
    obtain ⟨y0, y1, y2, y3, n2, _, _, h0, h1, h2, h3⟩ := Joins.trod_struct4 Try.underlying34 ht
    have c31 : Try.prog.cellsOf 31 = 1 := by kernel_rfl
    match cs, hlen with
    | [x0, x1, x2, x3], _ =>
      simp only [c31, List.drop_succ_cons, List.drop_zero, List.take_succ_cons, List.take_zero] at h2
      have e := hat 2 (by omega)
      rw [add_spot, add_spot, hc] at e
      have e2 : x2 = .slice none n c := by simpa using e.symm
      subst e2
      rcases Go.ChangeShapes.open_ints Try.underlying31 Try.underlying5 (by kernel_rfl) h2 with ⟨hcs, _⟩ | ⟨x, l, c', zs, hcs, _⟩
      · simpa using hcs
      · simp at hcs
theorem NilOk.at_ {w w' : World} {b off len cap j n c : Nat} (h : NilOk w (.slice (some ⟨b, off, none⟩) len cap)) (hb : b < w.heap.size) (hw : Below w.heap.size w w') (hj : j < len) {A : Option Addr} (hc : w'.cell? ⟨b, off + j * 4 + 2, none⟩ = some (.slice A n c)) : A = none → n = 0 ∧ c = 0 := by
  rintro rfl
  exact h b off len cap rfl j hj n c ((hw.cell (p := ⟨b, off + j * 4 + 2, none⟩) hb).symm.trans hc)

end Go.Proofs.Ytcinjfmmmmaelaa
