/-
  A range over a function whose iterator hands over what it has just made: the iterator's word ('Tells') says, at each yield, what is handed there, in the world there ('Ok'); the body is walked with that word. Conditions: as each lemma states.
-/
import Derived.RangeFuncNested
import Derived.RangeFuncBound
import Derived.RangeFuncCalls
import Derived.RangeFuncLeaves
namespace Go.Proofs.Ytadbidgikgffhaa
open Go.RowKit
set_option linter.unusedVariables false

/-- these blocks are as they were; so is, of what was laid from B on, whatever is no cells, and where t says so all -/
structure Kept (gs : List Nat) (t : Bool) (B : Nat) (W W' : World) : Prop where
  size : W.heap.size ≤ W'.heap.size
  same : ∀ g ∈ gs, W'.heap[g]? = W.heap[g]?
  new : ∀ k o, B ≤ k → W.heap[k]? = some o → (t = true ∨ o.isCells = false) → W'.heap[k]? = some o
theorem Kept.refl (gs : List Nat) (t : Bool) (B : Nat) (W : World) : Kept gs t B W W := ⟨Nat.le_refl _, fun _ _ => rfl, fun _ _ _ h _ => h⟩
theorem Kept.trans {gs : List Nat} {t : Bool} {B : Nat} {X Y Z : World} (h : Kept gs t B X Y) (k : Kept gs t B Y Z) : Kept gs t B X Z :=
  ⟨Nat.le_trans h.size k.size, fun g hg => (k.same g hg).trans (h.same g hg), fun i o h1 h2 h3 => k.new i o h1 (h.new i o h1 h2 h3) h3⟩
theorem Kept.mono {gs : List Nat} {t : Bool} {B B' : Nat} {X Y : World} (h : Kept gs t B X Y) (hB : B ≤ B') : Kept gs t B' X Y := ⟨h.size, h.same, fun k o h1 h2 h3 => h.new k o (Nat.le_trans hB h1) h2 h3⟩
theorem Kept.weak {gs gs' : List Nat} {t : Bool} {B : Nat} {X Y : World} (h : Kept gs t B X Y) (hg : ∀ g ∈ gs', g ∈ gs) : Kept gs' false B X Y := ⟨h.size, fun g hm => h.same g (hg g hm), fun k o h1 h2 h3 => h.new k o h1 h2 (.inr (h3.resolve_left (by simp)))⟩
theorem Kept.from {gs : List Nat} {t : Bool} {B : Nat} {X Y : World} (h : Kept gs t B X Y) : KeepsFrom B X Y := ⟨h.size, fun k o hB hk ho => h.new k o hB hk (.inr ho)⟩
/-- .. where one block at most was turned -/
theorem Kept.grown {gs : List Nat} {t : Bool} {B : Nat} {X Y : World} {row : Option Nat} (h : X.grownBy Y row) (hgs : ∀ g ∈ gs, g < X.heap.size) (hr : ∀ r, row = some r → r ∉ gs ∧ (r < B ∨ (t = false ∧ ∃ o, X.heap[r]? = some o ∧ o.isCells = true))) : Kept gs t B X Y :=
  ⟨h.size, fun g hg => h.block g (hgs g hg) (fun e => (hr g e.symm).1 hg), fun k o h1 h2 h3 => (h.block k (Array.getElem?_eq_some_iff.1 h2).1 (fun e => by
    rcases (hr k e.symm).2 with h | ⟨h4, o', h5, h6⟩
    · omega
    · rw [h2] at h5; cases h5
      rcases h3 with h3 | h3
      · rw [h4] at h3; cases h3
      · rw [h6] at h3; cases h3)).trans h2⟩

/-- what an iterator that hands over what 'Ok' says, at each yield, has promised -/
def Tells {α : Type} (F : Fence) (n : Nat) (P : Program) (g : Nat) (lb : Array Value) (encs : α → Array Value) (Ok : List α → α → World → Prop) (gs : List Nat) (t : Bool) (S Sp : List α → Prop) (w : World) : Prop :=
  ∀ (l : Nat) (J Jx : List α → World → Prop) (W : World), Below w.heap.size w W → OwnFrom W.heap.size J → OwnFrom W.heap.size Jx →
    (∀ pre x W1, J pre W1 → Ok pre x W1 → YieldAt F (n - 1) P l (encs x) W1 fun e W' => Kept gs t W.heap.size W1 W' ∧
      ((e = .returned (.bool true) ∧ J (pre ++ [x]) W') ∨ (e = .returned (.bool false) ∧ Jx (pre ++ [x]) W'))) →
    J [] W →
    CallsIn F n P g (#[.func (.yield l) #[] #[]] ++ lb) W fun e W' => (∃ v, e = .returned v) ∧ ((∃ xs, S xs ∧ J xs W') ∨ (∃ pre, Sp pre ∧ Jx pre W'))

/-- how a body of such a loop may be left -/
def Left {α : Type} (B : Nat) (gs : List Nat) (t : Bool) (I : List α → World → Prop) (Ix : Code → List α → World → Prop) (xs : List α) (W : World) : Exit → Act → World → Prop
  | .normal, _, W' => Kept gs t B W W' ∧ I xs W'
  | .ret, _, W' => Kept gs t B W W' ∧ Ix .ret xs W'
  | .exit id, _, W' => Kept gs t B W W' ∧ Ix (.exit id) xs W'
  | .goto b, _, W' => Kept gs t B W W' ∧ Ix (.goto b) xs W'
  | .panic _, _, _ => False
  | .outgrown, _, _ => False

variable {F : Fence} {n : Nat} {P : Program}

/-- the record that the loop's two blocks of book-keeping hold: what is said of them is kept by whatever leaves them -/
theorem range_told {α : Type} {g : Operand} {ps : Array Tmp} {assign body : Code} {Q : Exit → Act → World → Prop} {a : Act} {w : World}
    (hro : F.round = none) (h1 : 1 ≤ n) {gf : Nat} {lb : Array Value} (hg : a.eval g = .func (.func gf) #[] lb) (hFg : F.fn gf) (eg : ∀ args w, (callFunc gf args).run P w = .ok (.enter gf args) w)
    {encs : α → Array Value} {Ok : List α → α → World → Prop} {gs : List Nat} {t : Bool} {S Sp : List α → Prop} {w0 : World} (hseq : Tells F (n - 1) P gf lb encs Ok gs t S Sp w0)
    (hb0 : Below w0.heap.size w0 w) (hgs : ∀ g ∈ gs, g < w.heap.size) (hps : ∀ x, (encs x).size = ps.size)
    (I : List α → World → Prop) (Ix : Code → List α → World → Prop) (hI : OwnFrom w.heap.size I) (hIx : ∀ c, OwnFrom w.heap.size (Ix c)) (hOk : ∀ pre x, OwnFrom w.heap.size (fun (_ : Unit) W => Ok pre x W)) (h0 : I [] w) (a₁ : α → Act)
    (hassign : ∀ (l : Nat) (x : α) (W : World) (K : Act → World → Prop), K (a₁ x) W →
      assign.wpIn (F.inRound l) (n - 1 - 1) P (Exit.then K (fun _ _ _ => False)) { tmps := (ps.zip (encs x)).foldl (fun t (p, v) => t.setIfInBounds p v) a.tmps, defers := [] } W)
    (hbody : ∀ (l : Nat) (pre : List α) (x : α) (W : World), w.heap.size < W.heap.size → I pre W → Ok pre x W → body.wpIn (F.inRound l) (n - 1 - 1) P (Left w.heap.size gs t I Ix (pre ++ [x]) W) (a₁ x) W)
    (hdone : ∀ (D : Nat) (xs : List α) (W : World), w.heap.size ≤ D → S xs → I xs W → W.heap[D]? = some (.deferred (some [])) → Q .normal { a with defers := { target := .collected D, args := #[] } :: a.defers } W)
    (hstop : ∀ (D : Nat) (c : Code) (pre : List α) (W : World), w.heap.size ≤ D → Sp pre → Ix c pre W → W.heap[D]? = some (.deferred (some [])) → c.wpIn F n P Q { a with defers := { target := .collected D, args := #[] } :: a.defers } W) :
    (Code.rangeFunc g ps assign body).wpIn F n P Q a w := by
  refine wpIn_rangeFunc fun fn hfn => ?_
  rw [hro]
  let R : LoopState → Option Code → Loop := fun st pe => { state := st, pending := pe, fn, tmps := a.tmps, params := ps, assign, body, defers := w.heap.size }
  -- the two blocks, and what is said of them
  let D := w.heap.size
  let two (st : LoopState) (pe : Option Code) (W : World) : Prop := W.heap[D + 1]? = some (.loop (R st pe)) ∧ W.heap[D]? = some (.deferred (some []))
  let W1 := (w.alloc (.deferred (some []))).alloc (.loop (R .ready none))
  have sz1 : W1.heap.size = D + 2 := by simp [W1, D]
  have two1 : two .ready none W1 := by
    refine ⟨?_, (Below.heap_alloc _ _ _ (by simp [D])).trans (World.alloc_heap_new w _)⟩
    have := World.alloc_heap_new (w.alloc (.deferred (some []))) (.loop (R .ready none))
    rwa [World.size_alloc] at this
  have keepTwo : ∀ {st pe W W' row}, two st pe W → W.grownBy W' row → (∀ r, row = some r → D + 2 ≤ r) → two st pe W' := fun {st pe W W' row} h hg hr =>
    ⟨(hg.block _ (Array.getElem?_eq_some_iff.1 h.1).1 (fun e => by have := hr _ e.symm; omega)).trans h.1, (hg.block _ (Array.getElem?_eq_some_iff.1 h.2).1 (fun e => by have := hr _ e.symm; omega)).trans h.2⟩
  -- a turn of the record
  have turn : ∀ {st pe W} (st' pe'), two st pe W → two st' pe' (W.putObj (D + 1) (.loop (R st' pe'))) := fun {st pe W} st' pe' h =>
    ⟨World.putObj_heap_same (Array.getElem?_eq_some_iff.1 h.1).1, (World.putObj_heap_other (by omega)).trans h.2⟩
  have keptTurn : ∀ (W : World) (o : Obj), Kept gs t (D + 2) W (W.putObj (D + 1) o) := fun W o =>
    ⟨(grownBy_putObj' W (D + 1) o).size, fun g hg => World.putObj_heap_other (by have := hgs g hg; simp only [D]; omega), fun k o' h1 h2 _ => (World.putObj_heap_other (by omega)).trans h2⟩
  refine ⟨D + 1, [{ target := .collected D, args := #[] }], W1, { target := .fn (.func gf) lb, args := #[.func (.yield (D + 1)) #[] #[]] }, W1, gf,
    #[.func (.yield (D + 1)) #[] #[]] ++ lb, W1, run_enterLoop_outer _ _ _ _ _, by simp only [resolve, hg]; simp [go_sem], ?_, by simp [invoke, go_sem, eg], fun _ => h1, ?_⟩
  · intro f' hf'; simp [Target.leads] at hf'; subst hf'; exact hFg
  refine (hseq (D + 1) (fun pre W => I pre W ∧ two .ready none W) (fun pre W => ∃ c, Ix c pre W ∧ two .done (some c) W) W1 ?_ ?_ ?_ ?_ ?_).mono ?_
  · exact hb0.trans ((((Below.refl _ w).alloc (Nat.le_refl _) _).alloc (by simp) _).mono hb0.size)
  · exact fun s A B row hs hgr hr => ⟨hI s A B row hs.1 hgr (fun r e => ⟨by have := (hr r e).1; simp only [D] at *; omega, (hr r e).2⟩), keepTwo hs.2 hgr (fun r e => by have := (hr r e).1; omega)⟩
  · rintro s A B row ⟨c, hc, h2⟩ hgr hr
    exact ⟨c, hIx c s A B row hc hgr (fun r e => ⟨by have := (hr r e).1; simp only [D] at *; omega, (hr r e).2⟩), keepTwo h2 hgr (fun r e => by have := (hr r e).1; omega)⟩
  · -- one round
    rintro pre x W ⟨hi, h2⟩ hok
    refine ⟨fn, _, assign, body, run_yield (P := P) (args := encs x) h2.1 (hps x), roundIn_of_wpIn hfn (hassign _ x W _ ⟨_, run_beginRound h2.1 rfl, ?_⟩)⟩
    have hb2 := turn .busy none h2
    have hput : ∀ {W : World} {st pe} (_ : two st pe W), ∃ o, W.heap[D + 1]? = some o ∧ o.isCells = false := fun h => ⟨_, h.1, rfl⟩
    have hlt : w.heap.size < W.heap.size := by have := (Array.getElem?_eq_some_iff.1 h2.1).1; simp only [D] at this; omega
    refine wpIn_mono (hbody _ pre x _ (Nat.lt_of_lt_of_le hlt (grownBy_putObj' W (D + 1) _).size) (hI.putObj _ hi (Nat.le_succ _) h2.1 rfl) ((hOk pre x).putObj (s := ()) _ hok (Nat.le_succ _) h2.1 rfl)) ?_
    have after : ∀ {W3 : World}, Kept gs t w.heap.size (W.putObj (D + 1) (.loop (R .busy none))) W3 → two .busy none W3 := fun {W3} hk =>
      ⟨hk.new _ _ (Nat.le_succ _) hb2.1 (.inr rfl), hk.new _ _ (Nat.le_refl _) hb2.2 (.inr rfl)⟩
    have all : ∀ {W3 : World} (o : Obj), Kept gs t w.heap.size (W.putObj (D + 1) (.loop (R .busy none))) W3 → Kept gs t W1.heap.size W (W3.putObj (D + 1) o) := fun {W3} o hk => by
      rw [sz1]
      exact (keptTurn W _).trans ((hk.mono (by simp only [D]; omega)).trans (keptTurn W3 o))
    rintro e a3 W3 hp
    cases e with
    | normal =>
      have h3 := after hp.1
      exact ⟨_, _, run_endRound (P := P) none h3.1, all _ hp.1, .inl ⟨rfl, hI.putObj _ hp.2 (Nat.le_succ _) h3.1 rfl, turn .ready none h3⟩⟩
    | ret =>
      have h3 := after hp.1
      exact ⟨_, _, run_endRound (P := P) (some .ret) h3.1, all _ hp.1, .inr ⟨rfl, .ret, (hIx _).putObj _ hp.2 (Nat.le_succ _) h3.1 rfl, turn .done _ h3⟩⟩
    | exit id =>
      have h3 := after hp.1
      exact ⟨_, _, run_endRound (P := P) (some (.exit id)) h3.1, all _ hp.1, .inr ⟨rfl, .exit id, (hIx _).putObj _ hp.2 (Nat.le_succ _) h3.1 rfl, turn .done _ h3⟩⟩
    | goto b =>
      have h3 := after hp.1
      exact ⟨_, _, run_endRound (P := P) (some (.goto b)) h3.1, all _ hp.1, .inr ⟨rfl, .goto b, (hIx _).putObj _ hp.2 (Nat.le_succ _) h3.1 rfl, turn .done _ h3⟩⟩
    | panic ch => exact hp.elim
    | outgrown => exact hp.elim
  · exact ⟨hI.alloc _ (hI.alloc _ h0), two1⟩
  · rintro e W2 ⟨⟨v, rfl⟩, (⟨xs, hS, hi, h2⟩ | ⟨pre, hSp, c, hi, h2⟩)⟩
    · exact ⟨none, _, run_endLoop (P := P) h2.1 (by simp [R]), hdone _ xs _ (Nat.le_refl _) hS (hI.putObj _ hi (Nat.le_succ _) h2.1 rfl) ((World.putObj_heap_other (by omega)).trans h2.2)⟩
    · exact ⟨some c, _, run_endLoop (P := P) h2.1 (by simp [R]), hstop _ c pre _ (Nat.le_refl _) hSp ((hIx c).putObj _ hi (Nat.le_succ _) h2.1 rfl) ((World.putObj_heap_other (by omega)).trans h2.2)⟩

end Go.Proofs.Ytadbidgikgffhaa
