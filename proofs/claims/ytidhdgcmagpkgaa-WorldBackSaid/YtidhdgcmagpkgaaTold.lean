/-
  A range over a function whose iterator hands over what it has just made: the iterator's word ('Tells') says, at each yield, what is handed there, in the world there ('Ok'); the body is walked with that word. Conditions: as each lemma states.
-/
import Derived.RangeFuncNested
import Derived.RangeFuncBound
import Derived.RangeFuncCalls
import Derived.RangeFuncLeaves
namespace Go.Proofs.Ytidhdgcmagpkgaa
open Go.RowKit
set_option linter.unusedVariables false

/-- these blocks are as they were; so is, of what was laid from B on, whatever is no cells, and where t says so all -/
structure Kept (gs : List Nat) (t : Bool) (B : Nat) (W W' : World) : Prop where
  size : W.heap.size ≤ W'.heap.size
  same : ∀ g ∈ gs, W'.heap[g]? = W.heap[g]?
  new : ∀ k o, B ≤ k → W.heap[k]? = some o → (t = true ∨ o.isCells = false) → W'.heap[k]? = some o
theorem Kept.refl (gs : List Nat) (t : Bool) (B : Nat) (W : World) : Kept gs t B W W := ⟨Nat.le_refl _, fun _ _ => rfl, fun _ _ _ h _ => h⟩
theorem Kept.trans {gs : List Nat} {t : Bool} {B : Nat} {X Y Z : World} (h : Kept gs t B X Y) (k : Kept gs t B Y Z) : Kept gs t B X Z :=
  ⟨Nat.le_trans h.size k.size, fun g hg => (k.same g hg).trans (h.same g hg), fun i o h1 h2 h3 => k.new i o h1 (h.new i o h1 h2 h3) h3⟩
theorem Kept.mono {gs : List Nat} {t : Bool} {B B' : Nat} {X Y : World} (h : Kept gs t B X Y) (hB : B ≤ B') : Kept gs t B' X Y := ⟨h.size, h.same, fun k o h1 h2 h3 => h.new k o (Nat.le_trans hB h1) h2 h3⟩
theorem Kept.weak {gs gs' : List Nat} {t : Bool} {B : Nat} {X Y : World} (h : Kept gs t B X Y) (hg : ∀ g ∈ gs', g ∈ gs) : Kept gs' false B X Y := ⟨h.size, fun g hm => h.same g (hg g hm), fun k o h1 h2 h3 => h.new k o h1 h2 (.inr (h3.resolve_left (by simp)))⟩
theorem Kept.from {gs : List Nat} {t : Bool} {B : Nat} {X Y : World} (h : Kept gs t B X Y) : KeepsFrom B X Y := ⟨h.size, fun k o hB hk ho => h.new k o hB hk (.inr ho)⟩
/-- .. where one block at most was turned -/
theorem Kept.grown {gs : List Nat} {t : Bool} {B : Nat} {X Y : World} {row : Option Nat} (h : X.grownBy Y row) (hgs : ∀ g ∈ gs, g < X.heap.size) (hr : ∀ r, row = some r → r ∉ gs ∧ (r < B ∨ (t = false ∧ ∃ o, X.heap[r]? = some o ∧ o.isCells = true))) : Kept gs t B X Y :=
  ⟨h.size, fun g hg => h.block g (hgs g hg) (fun e => (hr g e.symm).1 hg), fun k o h1 h2 h3 => (h.block k (Array.getElem?_eq_some_iff.1 h2).1 (fun e => by
    rcases (hr k e.symm).2 with h | ⟨h4, o', h5, h6⟩
    · omega
    · rw [h2] at h5; cases h5
      rcases h3 with h3 | h3
      · rw [h4] at h3; cases h3
      · rw [h6] at h3; cases h3)).trans h2⟩

/-- what is said of what has come so far, and of the world -/
abbrev Tale (α : Type) := List α → World → Prop
/-- what a round leaves behind the items zs: it goes on, or has said 'no more' -/
def Said {α : Type} (gs : List Nat) (t : Bool) (B : Nat) (V : World) (J Jx : Tale α) (zs : List α) : Ending → World → Prop := fun e V' =>
  Kept gs t B V V' ∧ ((e = .returned (.bool true) ∧ J zs V') ∨ (e = .returned (.bool false) ∧ Jx zs V'))
/-- what the iterator leaves: all have come, or some, and then no more was asked for -/
def Came {α : Type} (S Sp : List α → Prop) (J Jx : Tale α) : Ending → World → Prop := fun e V =>
  (∃ r, e = .returned r) ∧ ((∃ zs, S zs ∧ J zs V) ∨ (∃ zs, Sp zs ∧ Jx zs V))
/-- what an iterator that hands over what 'Ok' says, at each yield, has promised -/
def Tells {α : Type} (F : Fence) (n : Nat) (P : Program) (f : Nat) (own : Array Value) (enc : α → Array Value) (Ok : List α → α → World → Prop) (gs : List Nat) (t : Bool) (S Sp : List α → Prop) (V0 : World) : Prop :=
  ∀ (l : Nat) (J Jx : Tale α) (V : World), Below V0.heap.size V0 V → OwnFrom V.heap.size J ∧ OwnFrom V.heap.size Jx → J [] V →
    (∀ zs z V1, J zs V1 → Ok zs z V1 → YieldAt F (n - 1) P l (enc z) V1 (Said gs t V.heap.size V1 J Jx (zs ++ [z]))) →
    CallsIn F n P f (#[.func (.yield l) #[] #[]] ++ own) V (Came S Sp J Jx)
/-- an iterator at hand: a function of the program, entered as any, that tells -/
structure Told {α : Type} (F : Fence) (n : Nat) (P : Program) (f : Nat) (own : Array Value) (enc : α → Array Value) (Ok : List α → α → World → Prop) (gs : List Nat) (t : Bool) (S Sp : List α → Prop) (V0 : World) : Prop where
  free : F.round = none
  room : 1 ≤ n
  inside : F.fn f
  enters : ∀ vs V, (callFunc f vs).run P V = .ok (.enter f vs) V
  tells : Tells F (n - 1) P f own enc Ok gs t S Sp V0

/-- how a body of such a loop may be left -/
def Left {α : Type} (B : Nat) (gs : List Nat) (t : Bool) (I : Tale α) (Ix : Code → Tale α) (zs : List α) (V : World) (e : Exit) (_ : Act) (V' : World) : Prop :=
  Kept gs t B V V' ∧ match e with
    | .normal => I zs V'
    | .ret => Ix .ret zs V'
    | .exit id => Ix (.exit id) zs V'
    | .goto b => Ix (.goto b) zs V'
    | _ => False
/-- what is said is kept by turns of what is no cells and was laid since -/
structure Lasts {α : Type} (B : Nat) (I : Tale α) (Ix : Code → Tale α) (Ok : List α → α → World → Prop) : Prop where
  on : OwnFrom B I
  off : ∀ c, OwnFrom B (Ix c)
  ok : ∀ zs z, OwnFrom B (fun (_ : Unit) V => Ok zs z V)
/-- the assignment at a round's head -/
def Lays {α : Type} (F : Fence) (n : Nat) (P : Program) (ps : Array Tmp) (assign : Code) (enc : α → Array Value) (a : Act) (a₁ : α → Act) : Prop :=
  ∀ l z V K, K (a₁ z) V → assign.wpIn (F.inRound l) n P (Exit.then K fun _ _ _ => False) { tmps := (ps.zip (enc z)).foldl (fun t (p, v) => t.setIfInBounds p v) a.tmps, defers := [] } V
/-- a round's body -/
def Goes {α : Type} (F : Fence) (n : Nat) (P : Program) (body : Code) (B : Nat) (gs : List Nat) (t : Bool) (I : Tale α) (Ix : Code → Tale α) (Ok : List α → α → World → Prop) (a₁ : α → Act) : Prop :=
  ∀ l zs z V, B < V.heap.size → I zs V → Ok zs z V → body.wpIn (F.inRound l) n P (Left B gs t I Ix (zs ++ [z]) V) (a₁ z) V
/-- behind the loop, block D holds what was put off in its rounds: nothing -/
def Ends {α : Type} (B : Nat) (a : Act) (S : List α → Prop) (I : Tale α) (go : Act → World → Prop) : Prop :=
  ∀ D zs V, B ≤ D → S zs → I zs V → V.heap[D]? = some (.deferred (some [])) → go { a with defers := { target := .collected D, args := #[] } :: a.defers } V
def Stops {α : Type} (B : Nat) (a : Act) (Sp : List α → Prop) (Ix : Code → Tale α) (go : Code → Act → World → Prop) : Prop :=
  ∀ D c zs V, B ≤ D → Sp zs → Ix c zs V → V.heap[D]? = some (.deferred (some [])) → go c { a with defers := { target := .collected D, args := #[] } :: a.defers } V

variable {F : Fence} {n : Nat} {P : Program}

/-- a range over an iterator that tells (the steps of the machine by the library's own equations, as its laws for such a loop take them) -/
theorem range_told {α : Type} {f : Nat} {own : Array Value} {enc : α → Array Value} {Ok : List α → α → World → Prop} {gs : List Nat} {t : Bool} {S Sp : List α → Prop} {V0 : World} (it : Told F n P f own enc Ok gs t S Sp V0)
    {g : Operand} {ps : Array Tmp} {assign body : Code} {Q : Exit → Act → World → Prop} {a : Act} {w : World} (hg : a.eval g = .func (.func f) #[] own) (hb0 : Below V0.heap.size V0 w) (hgs : ∀ g ∈ gs, g < w.heap.size) (hps : ∀ z, (enc z).size = ps.size)
    (I : Tale α) (Ix : Code → Tale α) (hl : Lasts w.heap.size I Ix Ok) (h0 : I [] w) (a₁ : α → Act) (hassign : Lays F (n - 1 - 1) P ps assign enc a a₁) (hbody : Goes F (n - 1 - 1) P body w.heap.size gs t I Ix Ok a₁)
    (hdone : Ends w.heap.size a S I fun b V => Q .normal b V) (hstop : Stops w.heap.size a Sp Ix fun c b V => c.wpIn F n P Q b V) :
    (Code.rangeFunc g ps assign body).wpIn F n P Q a w := by
  obtain ⟨hro, h1, hFg, eg, hseq⟩ := it
  obtain ⟨hI, hIx, hOk⟩ := hl
  refine wpIn_rangeFunc fun fn hfn => ?_
  rw [hro]
  let R : LoopState → Option Code → Loop := fun st pe => { state := st, pending := pe, fn, tmps := a.tmps, params := ps, assign, body, defers := w.heap.size }
  -- the two blocks, and what is said of them
  let D := w.heap.size
  let two (st : LoopState) (pe : Option Code) (W : World) : Prop := W.heap[D + 1]? = some (.loop (R st pe)) ∧ W.heap[D]? = some (.deferred (some []))
  let W1 := (w.alloc (.deferred (some []))).alloc (.loop (R .ready none))
  have sz1 : W1.heap.size = D + 2 := by simp [W1, D]
  have two1 : two .ready none W1 := by
    refine ⟨?_, (Below.heap_alloc _ _ _ (by simp [D])).trans (World.alloc_heap_new w _)⟩
    have := World.alloc_heap_new (w.alloc (.deferred (some []))) (.loop (R .ready none))
    rwa [World.size_alloc] at this
  have keepTwo : ∀ {st pe W W' row}, two st pe W → W.grownBy W' row → (∀ r, row = some r → D + 2 ≤ r) → two st pe W' := fun {st pe W W' row} h hg hr =>
    ⟨(hg.block _ (Array.getElem?_eq_some_iff.1 h.1).1 (fun e => by have := hr _ e.symm; omega)).trans h.1, (hg.block _ (Array.getElem?_eq_some_iff.1 h.2).1 (fun e => by have := hr _ e.symm; omega)).trans h.2⟩
  -- a turn of the record
  have turn : ∀ {st pe W} (st' pe'), two st pe W → two st' pe' (W.putObj (D + 1) (.loop (R st' pe'))) := fun {st pe W} st' pe' h =>
    ⟨World.putObj_heap_same (Array.getElem?_eq_some_iff.1 h.1).1, (World.putObj_heap_other (by omega)).trans h.2⟩
  have keptTurn : ∀ (W : World) (o : Obj), Kept gs t (D + 2) W (W.putObj (D + 1) o) := fun W o =>
    ⟨(grownBy_putObj' W (D + 1) o).size, fun g hg => World.putObj_heap_other (by have := hgs g hg; simp only [D]; omega), fun k o' h1 h2 _ => (World.putObj_heap_other (by omega)).trans h2⟩
  refine ⟨D + 1, [{ target := .collected D, args := #[] }], W1, { target := .fn (.func f) own, args := #[.func (.yield (D + 1)) #[] #[]] }, W1, f,
    #[.func (.yield (D + 1)) #[] #[]] ++ own, W1, run_enterLoop_outer _ _ _ _ _, by simp only [resolve, hg]; simp [go_sem], ?_, by simp [invoke, go_sem, eg], fun _ => h1, ?_⟩
  · intro f' hf'; simp [Target.leads] at hf'; subst hf'; exact hFg
  refine (hseq (D + 1) (fun pre W => I pre W ∧ two .ready none W) (fun pre W => ∃ c, Ix c pre W ∧ two .done (some c) W) W1 ?_ ⟨?_, ?_⟩ ?_ ?_).mono ?_
  · exact hb0.trans ((((Below.refl _ w).alloc (Nat.le_refl _) _).alloc (by simp) _).mono hb0.size)
  · exact fun s A B row hs hgr hr => ⟨hI s A B row hs.1 hgr (fun r e => ⟨by have := (hr r e).1; simp only [D] at *; omega, (hr r e).2⟩), keepTwo hs.2 hgr (fun r e => by have := (hr r e).1; omega)⟩
  · rintro s A B row ⟨c, hc, h2⟩ hgr hr
    exact ⟨c, hIx c s A B row hc hgr (fun r e => ⟨by have := (hr r e).1; simp only [D] at *; omega, (hr r e).2⟩), keepTwo h2 hgr (fun r e => by have := (hr r e).1; omega)⟩
  · exact ⟨hI.alloc _ (hI.alloc _ h0), two1⟩
  · -- one round
    rintro pre x W ⟨hi, h2⟩ hok
    refine ⟨fn, _, assign, body, run_yield (P := P) (args := enc x) h2.1 (hps x), roundIn_of_wpIn hfn (hassign _ x W _ ⟨_, run_beginRound h2.1 rfl, ?_⟩)⟩
    have hb2 := turn .busy none h2
    have hput : ∀ {W : World} {st pe} (_ : two st pe W), ∃ o, W.heap[D + 1]? = some o ∧ o.isCells = false := fun h => ⟨_, h.1, rfl⟩
    have hlt : w.heap.size < W.heap.size := by have := (Array.getElem?_eq_some_iff.1 h2.1).1; simp only [D] at this; omega
    refine wpIn_mono (hbody _ pre x _ (Nat.lt_of_lt_of_le hlt (grownBy_putObj' W (D + 1) _).size) (hI.putObj _ hi (Nat.le_succ _) h2.1 rfl) ((hOk pre x).putObj (s := ()) _ hok (Nat.le_succ _) h2.1 rfl)) ?_
    have after : ∀ {W3 : World}, Kept gs t w.heap.size (W.putObj (D + 1) (.loop (R .busy none))) W3 → two .busy none W3 := fun {W3} hk =>
      ⟨hk.new _ _ (Nat.le_succ _) hb2.1 (.inr rfl), hk.new _ _ (Nat.le_refl _) hb2.2 (.inr rfl)⟩
    have all : ∀ {W3 : World} (o : Obj), Kept gs t w.heap.size (W.putObj (D + 1) (.loop (R .busy none))) W3 → Kept gs t W1.heap.size W (W3.putObj (D + 1) o) := fun {W3} o hk => by
      rw [sz1]
      exact (keptTurn W _).trans ((hk.mono (by simp only [D]; omega)).trans (keptTurn W3 o))
    rintro e a3 W3 hp
    cases e with
    | normal =>
      have h3 := after hp.1
      exact ⟨_, _, run_endRound (P := P) none h3.1, all _ hp.1, .inl ⟨rfl, hI.putObj _ hp.2 (Nat.le_succ _) h3.1 rfl, turn .ready none h3⟩⟩
    | ret =>
      have h3 := after hp.1
      exact ⟨_, _, run_endRound (P := P) (some .ret) h3.1, all _ hp.1, .inr ⟨rfl, .ret, (hIx _).putObj _ hp.2 (Nat.le_succ _) h3.1 rfl, turn .done _ h3⟩⟩
    | exit id =>
      have h3 := after hp.1
      exact ⟨_, _, run_endRound (P := P) (some (.exit id)) h3.1, all _ hp.1, .inr ⟨rfl, .exit id, (hIx _).putObj _ hp.2 (Nat.le_succ _) h3.1 rfl, turn .done _ h3⟩⟩
    | goto b =>
      have h3 := after hp.1
      exact ⟨_, _, run_endRound (P := P) (some (.goto b)) h3.1, all _ hp.1, .inr ⟨rfl, .goto b, (hIx _).putObj _ hp.2 (Nat.le_succ _) h3.1 rfl, turn .done _ h3⟩⟩
    | panic ch => exact hp.2.elim
    | outgrown => exact hp.2.elim
  · rintro e W2 ⟨⟨v, rfl⟩, (⟨xs, hS, hi, h2⟩ | ⟨pre, hSp, c, hi, h2⟩)⟩
    · exact ⟨none, _, run_endLoop (P := P) h2.1 (by simp [R]), hdone _ xs _ (Nat.le_refl _) hS (hI.putObj _ hi (Nat.le_succ _) h2.1 rfl) ((World.putObj_heap_other (by omega)).trans h2.2)⟩
    · exact ⟨some c, _, run_endLoop (P := P) h2.1 (by simp [R]), hstop _ c pre _ (Nat.le_refl _) hSp ((hIx c).putObj _ hi (Nat.le_succ _) h2.1 rfl) ((World.putObj_heap_other (by omega)).trans h2.2)⟩

end Go.Proofs.Ytidhdgcmagpkgaa
