/-
  A range over a function whose iterator goes by a state that its rounds may turn (a table of timers): the iterator's word ('Goes') asks of the rounds that they bring the state on, by a measure that falls; the body is walked with what stands at each yield. Conditions: as each lemma states.
-/
import Derived.RangeFuncNested
import Derived.RangeFuncBound
import Derived.RangeFuncCalls
import Derived.RangeFuncLeaves
namespace Go.Proofs.Ytahccfljgmleiaa
open Go.RowKit
set_option linter.unusedVariables false

/-- these blocks are as they were; so is, of what was laid from B on, whatever is no cells, and where t says so all -/
structure Kept (gs : List Nat) (t : Bool) (B : Nat) (W W' : World) : Prop where
  size : W.heap.size ≤ W'.heap.size
  same : ∀ g ∈ gs, W'.heap[g]? = W.heap[g]?
  new : ∀ k o, B ≤ k → W.heap[k]? = some o → (t = true ∨ o.isCells = false) → W'.heap[k]? = some o
theorem Kept.refl (gs : List Nat) (t : Bool) (B : Nat) (W : World) : Kept gs t B W W := ⟨Nat.le_refl _, fun _ _ => rfl, fun _ _ _ h _ => h⟩
theorem Kept.trans {gs : List Nat} {t : Bool} {B : Nat} {X Y Z : World} (h : Kept gs t B X Y) (k : Kept gs t B Y Z) : Kept gs t B X Z :=
  ⟨Nat.le_trans h.size k.size, fun g hg => (k.same g hg).trans (h.same g hg), fun i o h1 h2 h3 => k.new i o h1 (h.new i o h1 h2 h3) h3⟩
theorem Kept.mono {gs : List Nat} {t : Bool} {B B' : Nat} {X Y : World} (h : Kept gs t B X Y) (hB : B ≤ B') : Kept gs t B' X Y := ⟨h.size, h.same, fun k o h1 h2 h3 => h.new k o (Nat.le_trans hB h1) h2 h3⟩
theorem Kept.weak {gs gs' : List Nat} {t : Bool} {B : Nat} {X Y : World} (h : Kept gs t B X Y) (hg : ∀ g ∈ gs', g ∈ gs) : Kept gs' false B X Y := ⟨h.size, fun g hm => h.same g (hg g hm), fun k o h1 h2 h3 => h.new k o h1 h2 (.inr (h3.resolve_left (by simp)))⟩
theorem Kept.from {gs : List Nat} {t : Bool} {B : Nat} {X Y : World} (h : Kept gs t B X Y) : KeepsFrom B X Y := ⟨h.size, fun k o hB hk ho => h.new k o hB hk (.inr ho)⟩
/-- .. where one block at most was turned -/
theorem Kept.grown {gs : List Nat} {t : Bool} {B : Nat} {X Y : World} {row : Option Nat} (h : X.grownBy Y row) (hgs : ∀ g ∈ gs, g < X.heap.size) (hr : ∀ r, row = some r → r ∉ gs ∧ (r < B ∨ (t = false ∧ ∃ o, X.heap[r]? = some o ∧ o.isCells = true))) : Kept gs t B X Y :=
  ⟨h.size, fun g hg => h.block g (hgs g hg) (fun e => (hr g e.symm).1 hg), fun k o h1 h2 h3 => (h.block k (Array.getElem?_eq_some_iff.1 h2).1 (fun e => by
    rcases (hr k e.symm).2 with h | ⟨h4, o', h5, h6⟩
    · omega
    · rw [h2] at h5; cases h5
      rcases h3 with h3 | h3
      · rw [h4] at h3; cases h3
      · rw [h6] at h3; cases h3)).trans h2⟩

/-- what stands between two rounds: how many more there may be, and the world -/
abbrev Stand := Nat → World → Prop
/-- what a round leaves: it goes on, with fewer to come, or has said 'no more' -/
def SaidN (gs : List Nat) (B : Nat) (V : World) (J : Stand) (Jx : World → Prop) (k : Nat) : Ending → World → Prop := fun e V' =>
  Kept gs true B V V' ∧ ((e = .returned (.bool true) ∧ ∃ k', k' < k ∧ J k' V') ∨ (e = .returned (.bool false) ∧ Jx V'))
/-- what the iterator leaves -/
def CameN (E : World → Prop) (J : Stand) (Jx : World → Prop) : Ending → World → Prop := fun e V =>
  (∃ r, e = .returned r) ∧ ((∃ k, J k V ∧ E V) ∨ Jx V)
/-- what an iterator promises to whoever stands by J between the rounds, and by M at each yield, if A binds the two -/
def TellsN {α : Type} (F : Fence) (n : Nat) (P : Program) (f : Nat) (own : Array Value) (enc : α → Array Value) (A : Nat → Stand → (Nat → α → World → Prop) → Prop) (E : World → Prop) (gs : List Nat) (V0 : World) : Prop :=
  ∀ (l : Nat) (J : Stand) (M : Nat → α → World → Prop) (Jx : World → Prop) (V : World) (k : Nat), Below V0.heap.size V0 V → OwnFrom V.heap.size J → OwnFrom V.heap.size (fun (_ : Unit) V => Jx V) → A V.heap.size J M → J k V →
    (∀ k z V1, M k z V1 → YieldAt F (n - 1) P l (enc z) V1 (SaidN gs V.heap.size V1 J Jx k)) →
    CallsIn F n P f (#[.func (.yield l) #[] #[]] ++ own) V (CameN E J Jx)
structure ToldN {α : Type} (F : Fence) (n : Nat) (P : Program) (f : Nat) (own : Array Value) (enc : α → Array Value) (A : Nat → Stand → (Nat → α → World → Prop) → Prop) (E : World → Prop) (gs : List Nat) (V0 : World) : Prop where
  free : F.round = none
  room : 1 ≤ n
  inside : F.fn f
  enters : ∀ vs V, (callFunc f vs).run P V = .ok (.enter f vs) V
  tells : TellsN F (n - 1) P f own enc A E gs V0

/-- how a body of such a loop may be left -/
def LeftN (B : Nat) (gs : List Nat) (I : Stand) (Ix : Code → World → Prop) (k : Nat) (V : World) (e : Exit) (_ : Act) (V' : World) : Prop :=
  Kept gs true B V V' ∧ match e with
    | .normal => ∃ k', k' < k ∧ I k' V'
    | .ret => Ix .ret V'
    | .exit id => Ix (.exit id) V'
    | .goto b => Ix (.goto b) V'
    | _ => False
/-- what stays as long as the two blocks at B do -/
def Firm (B : Nat) (T : World → Prop) : Prop := ∀ V V', T V → (∀ k o, B ≤ k → k < B + 2 → V.heap[k]? = some o → V'.heap[k]? = some o) → T V'
def LaysN {α : Type} (F : Fence) (n : Nat) (P : Program) (ps : Array Tmp) (assign : Code) (enc : α → Array Value) (a : Act) (a₁ : α → Act) : Prop :=
  ∀ l z V K, K (a₁ z) V → assign.wpIn (F.inRound l) n P (Exit.then K fun _ _ _ => False) { tmps := (ps.zip (enc z)).foldl (fun t (p, v) => t.setIfInBounds p v) a.tmps, defers := [] } V
def GoesN {α : Type} (F : Fence) (n : Nat) (P : Program) (body : Code) (B : Nat) (gs : List Nat) (I : Stand) (Ix : Code → World → Prop) (M : Nat → α → World → Prop) (a₁ : α → Act) : Prop :=
  ∀ l k z V, B < V.heap.size → M k z V → body.wpIn (F.inRound l) n P (LeftN B gs I Ix k V) (a₁ z) V
def EndsN (B : Nat) (a : Act) (E : World → Prop) (I : Stand) (go : Act → World → Prop) : Prop :=
  ∀ D k V, B ≤ D → I k V → E V → V.heap[D]? = some (.deferred (some [])) → go { a with defers := { target := .collected D, args := #[] } :: a.defers } V
def StopsN (B : Nat) (a : Act) (Ix : Code → World → Prop) (go : Code → Act → World → Prop) : Prop :=
  ∀ D c V, B ≤ D → Ix c V → V.heap[D]? = some (.deferred (some [])) → go c { a with defers := { target := .collected D, args := #[] } :: a.defers } V

variable {F : Fence} {n : Nat} {P : Program}

/-- a range over an iterator that goes by a state (the steps of the machine by the library's own equations, as its laws for such a loop take them) -/
theorem range_stand {α : Type} {f : Nat} {own : Array Value} {enc : α → Array Value} {A : Nat → Stand → (Nat → α → World → Prop) → Prop} {E : World → Prop} {gs : List Nat} {V0 : World} (it : ToldN F n P f own enc A E gs V0)
    {g : Operand} {ps : Array Tmp} {assign body : Code} {Q : Exit → Act → World → Prop} {a : Act} {w : World} {k0 : Nat} (hg : a.eval g = .func (.func f) #[] own) (hb0 : Below V0.heap.size V0 w) (hgs : ∀ g ∈ gs, g < w.heap.size) (hps : ∀ z, (enc z).size = ps.size)
    (I : Stand) (M : Nat → α → World → Prop) (Ix : Code → World → Prop) (hA : ∀ T : World → Prop, Firm w.heap.size T → A (w.heap.size + 2) (fun k V => I k V ∧ T V) (fun k z V => M k z V ∧ T V)) (hI : OwnFrom w.heap.size I) (hM : ∀ k z, OwnFrom w.heap.size (fun (_ : Unit) V => M k z V)) (hIx : ∀ c, OwnFrom w.heap.size (fun (_ : Unit) V => Ix c V)) (hE : OwnFrom w.heap.size (fun (_ : Unit) V => E V))
    (h0 : I k0 w) (a₁ : α → Act) (hassign : LaysN F (n - 1 - 1) P ps assign enc a a₁) (hbody : GoesN F (n - 1 - 1) P body w.heap.size gs I Ix M a₁)
    (hdone : EndsN w.heap.size a E I fun b V => Q .normal b V) (hstop : StopsN w.heap.size a Ix fun c b V => c.wpIn F n P Q b V) :
    (Code.rangeFunc g ps assign body).wpIn F n P Q a w := by
  obtain ⟨hro, h1, hFg, eg, hseq⟩ := it
  refine wpIn_rangeFunc fun fn hfn => ?_
  rw [hro]
  let R : LoopState → Option Code → Loop := fun st pe => { state := st, pending := pe, fn, tmps := a.tmps, params := ps, assign, body, defers := w.heap.size }
  -- the two blocks, and what is said of them
  let D := w.heap.size
  let two (st : LoopState) (pe : Option Code) (W : World) : Prop := W.heap[D + 1]? = some (.loop (R st pe)) ∧ W.heap[D]? = some (.deferred (some []))
  let W1 := (w.alloc (.deferred (some []))).alloc (.loop (R .ready none))
  have sz1 : W1.heap.size = D + 2 := by simp [W1, D]
  have two1 : two .ready none W1 := by
    refine ⟨?_, (Below.heap_alloc _ _ _ (by simp [D])).trans (World.alloc_heap_new w _)⟩
    have := World.alloc_heap_new (w.alloc (.deferred (some []))) (.loop (R .ready none))
    rwa [World.size_alloc] at this
  have firm : ∀ st pe, Firm w.heap.size (two st pe) := fun st pe V V' h hk => ⟨hk _ _ (Nat.le_succ _) (by omega) h.1, hk _ _ (Nat.le_refl _) (by omega) h.2⟩
  have keepTwo : ∀ {st pe W W' row}, two st pe W → W.grownBy W' row → (∀ r, row = some r → D + 2 ≤ r) → two st pe W' := fun {st pe W W' row} h hg hr =>
    ⟨(hg.block _ (Array.getElem?_eq_some_iff.1 h.1).1 (fun e => by have := hr _ e.symm; omega)).trans h.1, (hg.block _ (Array.getElem?_eq_some_iff.1 h.2).1 (fun e => by have := hr _ e.symm; omega)).trans h.2⟩
  -- a turn of the record
  have turn : ∀ {st pe W} (st' pe'), two st pe W → two st' pe' (W.putObj (D + 1) (.loop (R st' pe'))) := fun {st pe W} st' pe' h =>
    ⟨World.putObj_heap_same (Array.getElem?_eq_some_iff.1 h.1).1, (World.putObj_heap_other (by omega)).trans h.2⟩
  have keptTurn : ∀ (W : World) (o : Obj), Kept gs true (D + 2) W (W.putObj (D + 1) o) := fun W o =>
    ⟨(grownBy_putObj' W (D + 1) o).size, fun g hg => World.putObj_heap_other (by have := hgs g hg; simp only [D]; omega), fun k o' h1 h2 _ => (World.putObj_heap_other (by omega)).trans h2⟩
  refine ⟨D + 1, [{ target := .collected D, args := #[] }], W1, { target := .fn (.func f) own, args := #[.func (.yield (D + 1)) #[] #[]] }, W1, f,
    #[.func (.yield (D + 1)) #[] #[]] ++ own, W1, run_enterLoop_outer _ _ _ _ _, by simp only [resolve, hg]; simp [go_sem], ?_, by simp [invoke, go_sem, eg], fun _ => h1, ?_⟩
  · intro f' hf'; simp [Target.leads] at hf'; subst hf'; exact hFg
  refine (hseq (D + 1) (fun k W => I k W ∧ two .ready none W) (fun k z W => M k z W ∧ two .ready none W) (fun W => ∃ c, Ix c W ∧ two .done (some c) W) W1 k0 ?_ ?_ ?_ (by rw [sz1]; exact hA _ (firm _ _)) ?_ ?_).mono ?_
  · exact hb0.trans ((((Below.refl _ w).alloc (Nat.le_refl _) _).alloc (by simp) _).mono hb0.size)
  · exact fun s X Y row hs hgr hr => ⟨hI s X Y row hs.1 hgr (fun r e => ⟨by have := (hr r e).1; simp only [D] at *; omega, (hr r e).2⟩), keepTwo hs.2 hgr (fun r e => by have := (hr r e).1; omega)⟩
  · rintro s X Y row ⟨c, hc, h2⟩ hgr hr
    exact ⟨c, hIx c s X Y row hc hgr (fun r e => ⟨by have := (hr r e).1; simp only [D] at *; omega, (hr r e).2⟩), keepTwo h2 hgr (fun r e => by have := (hr r e).1; omega)⟩
  · exact ⟨hI.alloc _ (hI.alloc _ h0), two1⟩
  · -- one round
    rintro k x W ⟨hm, h2⟩
    refine ⟨fn, _, assign, body, run_yield (P := P) (args := enc x) h2.1 (hps x), roundIn_of_wpIn hfn (hassign _ x W _ ⟨_, run_beginRound h2.1 rfl, ?_⟩)⟩
    have hb2 := turn .busy none h2
    have hlt : w.heap.size < W.heap.size := by have := (Array.getElem?_eq_some_iff.1 h2.1).1; simp only [D] at this; omega
    refine wpIn_mono (hbody _ k x _ (Nat.lt_of_lt_of_le hlt (grownBy_putObj' W (D + 1) _).size) ((hM k x).putObj (s := ()) _ hm (Nat.le_succ _) h2.1 rfl)) ?_
    have after : ∀ {W3 : World}, Kept gs true w.heap.size (W.putObj (D + 1) (.loop (R .busy none))) W3 → two .busy none W3 := fun {W3} hk =>
      ⟨hk.new _ _ (Nat.le_succ _) hb2.1 (.inr rfl), hk.new _ _ (Nat.le_refl _) hb2.2 (.inr rfl)⟩
    have all : ∀ {W3 : World} (o : Obj), Kept gs true w.heap.size (W.putObj (D + 1) (.loop (R .busy none))) W3 → Kept gs true W1.heap.size W (W3.putObj (D + 1) o) := fun {W3} o hk => by
      rw [sz1]
      exact (keptTurn W _).trans ((hk.mono (by simp only [D]; omega)).trans (keptTurn W3 o))
    rintro e a3 W3 hp
    cases e with
    | normal =>
      have h3 := after hp.1
      obtain ⟨k', hk', hi'⟩ := hp.2
      exact ⟨_, _, run_endRound (P := P) none h3.1, all _ hp.1, .inl ⟨rfl, k', hk', hI.putObj _ hi' (Nat.le_succ _) h3.1 rfl, turn .ready none h3⟩⟩
    | ret =>
      have h3 := after hp.1
      exact ⟨_, _, run_endRound (P := P) (some .ret) h3.1, all _ hp.1, .inr ⟨rfl, .ret, (hIx _).putObj (s := ()) _ hp.2 (Nat.le_succ _) h3.1 rfl, turn .done _ h3⟩⟩
    | exit id =>
      have h3 := after hp.1
      exact ⟨_, _, run_endRound (P := P) (some (.exit id)) h3.1, all _ hp.1, .inr ⟨rfl, .exit id, (hIx _).putObj (s := ()) _ hp.2 (Nat.le_succ _) h3.1 rfl, turn .done _ h3⟩⟩
    | goto b =>
      have h3 := after hp.1
      exact ⟨_, _, run_endRound (P := P) (some (.goto b)) h3.1, all _ hp.1, .inr ⟨rfl, .goto b, (hIx _).putObj (s := ()) _ hp.2 (Nat.le_succ _) h3.1 rfl, turn .done _ h3⟩⟩
    | panic ch => exact hp.2.elim
    | outgrown => exact hp.2.elim
  · rintro e W2 ⟨⟨v, rfl⟩, (⟨k, ⟨hi, h2⟩, hEv⟩ | ⟨c, hi, h2⟩)⟩
    · exact ⟨none, _, run_endLoop (P := P) h2.1 (by simp [R]), hdone _ k _ (Nat.le_refl _) (hI.putObj _ hi (Nat.le_succ _) h2.1 rfl) (hE.putObj (s := ()) _ hEv (Nat.le_succ _) h2.1 rfl) ((World.putObj_heap_other (by omega)).trans h2.2)⟩
    · exact ⟨some c, _, run_endLoop (P := P) h2.1 (by simp [R]), hstop _ c _ (Nat.le_refl _) ((hIx c).putObj (s := ()) _ hi (Nat.le_succ _) h2.1 rfl) ((World.putObj_heap_other (by omega)).trans h2.2)⟩

end Go.Proofs.Ytahccfljgmleiaa
