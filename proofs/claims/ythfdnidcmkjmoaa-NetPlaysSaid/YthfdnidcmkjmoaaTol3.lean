/-
  A range over a function whose iterator hands over what it has just made: as text Told's law, but the body is told more: what was said of the world ahead of that (I zs V0), what has been made since (Ok zs z V0 V1), and that nothing but the loop's own record was turned then. Conditions: as each lemma states.
-/
import Derived.Test.YthfdnidcmkjmoaaTold
namespace Go.Proofs.Ythfdnidcmkjmoaa
open Go.RowKit
set_option linter.unusedVariables false

theorem Below.grown {V0 V1 : World} (h : Below V0.heap.size V0 V1) : V0.grownBy V1 none := ⟨h.os, h.tape, h.output, h.size, fun k hk _ => h.block k hk⟩
/-- what an iterator that hands over what 'Ok' says, at each yield, has promised -/
def Tells3 {α : Type} (F : Fence) (n : Nat) (P : Program) (f : Nat) (own : Array Value) (enc : α → Array Value) (Ok : List α → α → World → World → Prop) (gs : List Nat) (t : Bool) (S Sp : List α → Prop) (V0 : World) : Prop :=
  ∀ (l : Nat) (J Jx : Tale α) (V : World), Below V0.heap.size V0 V → OwnFrom V.heap.size J ∧ OwnFrom V.heap.size Jx → J [] V →
    (∀ zs z Va V1, J zs Va → Below Va.heap.size Va V1 → Ok zs z Va V1 → YieldAt F (n - 1) P l (enc z) V1 (Said gs t V.heap.size V1 J Jx (zs ++ [z]))) →
    CallsIn F n P f (#[.func (.yield l) #[] #[]] ++ own) V (Came S Sp J Jx)
/-- an iterator at hand: a function of the program, entered as any, that tells -/
structure Told3 {α : Type} (F : Fence) (n : Nat) (P : Program) (f : Nat) (own : Array Value) (enc : α → Array Value) (Ok : List α → α → World → World → Prop) (gs : List Nat) (t : Bool) (S Sp : List α → Prop) (V0 : World) : Prop where
  free : F.round = none
  room : 1 ≤ n
  inside : F.fn f
  enters : ∀ vs V, (callFunc f vs).run P V = .ok (.enter f vs) V
  tells : Tells3 F (n - 1) P f own enc Ok gs t S Sp V0
structure Lasts3 {α : Type} (B : Nat) (I : Tale α) (Ix : Code → Tale α) : Prop where
  on : OwnFrom B I
  off : ∀ c, OwnFrom B (Ix c)
/-- a round's body -/
def Goes3 {α : Type} (F : Fence) (n : Nat) (P : Program) (body : Code) (B : Nat) (gs : List Nat) (t : Bool) (I : Tale α) (Ix : Code → Tale α) (Ok : List α → α → World → World → Prop) (a₁ : α → Act) : Prop :=
  ∀ l zs z Va V1 d o o', I zs Va → Below Va.heap.size Va V1 → Ok zs z Va V1 → V1.heap[d]? = some o' → o'.isCells = false → B ≤ d → B < (V1.putObj d o).heap.size → I zs (V1.putObj d o) →
    body.wpIn (F.inRound l) n P (Left B gs t I Ix (zs ++ [z]) (V1.putObj d o)) (a₁ z) (V1.putObj d o)

variable {F : Fence} {n : Nat} {P : Program}

/-- a range over an iterator that tells (the steps of the machine by the library's own equations, as its laws for such a loop take them) -/
theorem range_told3 {α : Type} {f : Nat} {own : Array Value} {enc : α → Array Value} {Ok : List α → α → World → World → Prop} {gs : List Nat} {t : Bool} {S Sp : List α → Prop} {V0 : World} (it : Told3 F n P f own enc Ok gs t S Sp V0)
    {g : Operand} {ps : Array Tmp} {assign body : Code} {Q : Exit → Act → World → Prop} {a : Act} {w : World} (hg : a.eval g = .func (.func f) #[] own) (hb0 : Below V0.heap.size V0 w) (hgs : ∀ g ∈ gs, g < w.heap.size) (hps : ∀ z, (enc z).size = ps.size)
    (I : Tale α) (Ix : Code → Tale α) (hl : Lasts3 w.heap.size I Ix) (h0 : I [] w) (a₁ : α → Act) (hassign : Lays F (n - 1 - 1) P ps assign enc a a₁) (hbody : Goes3 F (n - 1 - 1) P body w.heap.size gs t I Ix Ok a₁)
    (hdone : Ends w.heap.size a S I fun b V => Q .normal b V) (hstop : Stops w.heap.size a Sp Ix fun c b V => c.wpIn F n P Q b V) :
    (Code.rangeFunc g ps assign body).wpIn F n P Q a w := by
  obtain ⟨hro, h1, hFg, eg, hseq⟩ := it
  obtain ⟨hI, hIx⟩ := hl
  refine wpIn_rangeFunc fun fn hfn => ?_
  rw [hro]
  let R : LoopState → Option Code → Loop := fun st pe => { state := st, pending := pe, fn, tmps := a.tmps, params := ps, assign, body, defers := w.heap.size }
  -- the two blocks, and what is said of them
  let D := w.heap.size
  let two (st : LoopState) (pe : Option Code) (W : World) : Prop := W.heap[D + 1]? = some (.loop (R st pe)) ∧ W.heap[D]? = some (.deferred (some []))
  let W1 := (w.alloc (.deferred (some []))).alloc (.loop (R .ready none))
  have sz1 : W1.heap.size = D + 2 := by simp [W1, D]
  have two1 : two .ready none W1 := by
    refine ⟨?_, (Below.heap_alloc _ _ _ (by simp [D])).trans (World.alloc_heap_new w _)⟩
    have := World.alloc_heap_new (w.alloc (.deferred (some []))) (.loop (R .ready none))
    rwa [World.size_alloc] at this
  have keepTwo : ∀ {st pe W W' row}, two st pe W → W.grownBy W' row → (∀ r, row = some r → D + 2 ≤ r) → two st pe W' := fun {st pe W W' row} h hg hr =>
    ⟨(hg.block _ (Array.getElem?_eq_some_iff.1 h.1).1 (fun e => by have := hr _ e.symm; omega)).trans h.1, (hg.block _ (Array.getElem?_eq_some_iff.1 h.2).1 (fun e => by have := hr _ e.symm; omega)).trans h.2⟩
  -- a turn of the record
  have turn : ∀ {st pe W} (st' pe'), two st pe W → two st' pe' (W.putObj (D + 1) (.loop (R st' pe'))) := fun {st pe W} st' pe' h =>
    ⟨World.putObj_heap_same (Array.getElem?_eq_some_iff.1 h.1).1, (World.putObj_heap_other (by omega)).trans h.2⟩
  have keptTurn : ∀ (W : World) (o : Obj), Kept gs t (D + 2) W (W.putObj (D + 1) o) := fun W o =>
    ⟨(grownBy_putObj' W (D + 1) o).size, fun g hg => World.putObj_heap_other (by have := hgs g hg; simp only [D]; omega), fun k o' h1 h2 _ => (World.putObj_heap_other (by omega)).trans h2⟩
  refine ⟨D + 1, [{ target := .collected D, args := #[] }], W1, { target := .fn (.func f) own, args := #[.func (.yield (D + 1)) #[] #[]] }, W1, f,
    #[.func (.yield (D + 1)) #[] #[]] ++ own, W1, run_enterLoop_outer _ _ _ _ _, by simp only [resolve, hg]; simp [go_sem], ?_, by simp [invoke, go_sem, eg], fun _ => h1, ?_⟩
  · intro f' hf'; simp [Target.leads] at hf'; subst hf'; exact hFg
  refine (hseq (D + 1) (fun pre W => I pre W ∧ two .ready none W) (fun pre W => ∃ c, Ix c pre W ∧ two .done (some c) W) W1 ?_ ⟨?_, ?_⟩ ?_ ?_).mono ?_
  · exact hb0.trans ((((Below.refl _ w).alloc (Nat.le_refl _) _).alloc (by simp) _).mono hb0.size)
  · exact fun s A B row hs hgr hr => ⟨hI s A B row hs.1 hgr (fun r e => ⟨by have := (hr r e).1; simp only [D] at *; omega, (hr r e).2⟩), keepTwo hs.2 hgr (fun r e => by have := (hr r e).1; omega)⟩
  · rintro s A B row ⟨c, hc, h2⟩ hgr hr
    exact ⟨c, hIx c s A B row hc hgr (fun r e => ⟨by have := (hr r e).1; simp only [D] at *; omega, (hr r e).2⟩), keepTwo h2 hgr (fun r e => by have := (hr r e).1; omega)⟩
  · exact ⟨hI.alloc _ (hI.alloc _ h0), two1⟩
  · -- one round
    rintro pre x Va W ⟨hi0, h20⟩ hbw hok
    have hi := hI pre Va W none hi0 (Below.grown hbw) (fun r e => by cases e)
    have h2 := keepTwo h20 (Below.grown hbw) (fun r e => by cases e)
    refine ⟨fn, _, assign, body, run_yield (P := P) (args := enc x) h2.1 (hps x), roundIn_of_wpIn hfn (hassign _ x W _ ⟨_, run_beginRound h2.1 rfl, ?_⟩)⟩
    have hb2 := turn .busy none h2
    have hput : ∀ {W : World} {st pe} (_ : two st pe W), ∃ o, W.heap[D + 1]? = some o ∧ o.isCells = false := fun h => ⟨_, h.1, rfl⟩
    have hlt : w.heap.size < W.heap.size := by have := (Array.getElem?_eq_some_iff.1 h2.1).1; simp only [D] at this; omega
    refine wpIn_mono (hbody _ pre x Va W (D + 1) _ _ hi0 hbw hok h2.1 rfl (Nat.le_succ _) (Nat.lt_of_lt_of_le hlt (grownBy_putObj' W (D + 1) _).size) (hI.putObj _ hi (Nat.le_succ _) h2.1 rfl)) ?_
    have after : ∀ {W3 : World}, Kept gs t w.heap.size (W.putObj (D + 1) (.loop (R .busy none))) W3 → two .busy none W3 := fun {W3} hk =>
      ⟨hk.new _ _ (Nat.le_succ _) hb2.1 (.inr rfl), hk.new _ _ (Nat.le_refl _) hb2.2 (.inr rfl)⟩
    have all : ∀ {W3 : World} (o : Obj), Kept gs t w.heap.size (W.putObj (D + 1) (.loop (R .busy none))) W3 → Kept gs t W1.heap.size W (W3.putObj (D + 1) o) := fun {W3} o hk => by
      rw [sz1]
      exact (keptTurn W _).trans ((hk.mono (by simp only [D]; omega)).trans (keptTurn W3 o))
    rintro e a3 W3 hp
    cases e with
    | normal =>
      have h3 := after hp.1
      exact ⟨_, _, run_endRound (P := P) none h3.1, all _ hp.1, .inl ⟨rfl, hI.putObj _ hp.2 (Nat.le_succ _) h3.1 rfl, turn .ready none h3⟩⟩
    | ret =>
      have h3 := after hp.1
      exact ⟨_, _, run_endRound (P := P) (some .ret) h3.1, all _ hp.1, .inr ⟨rfl, .ret, (hIx _).putObj _ hp.2 (Nat.le_succ _) h3.1 rfl, turn .done _ h3⟩⟩
    | exit id =>
      have h3 := after hp.1
      exact ⟨_, _, run_endRound (P := P) (some (.exit id)) h3.1, all _ hp.1, .inr ⟨rfl, .exit id, (hIx _).putObj _ hp.2 (Nat.le_succ _) h3.1 rfl, turn .done _ h3⟩⟩
    | goto b =>
      have h3 := after hp.1
      exact ⟨_, _, run_endRound (P := P) (some (.goto b)) h3.1, all _ hp.1, .inr ⟨rfl, .goto b, (hIx _).putObj _ hp.2 (Nat.le_succ _) h3.1 rfl, turn .done _ h3⟩⟩
    | panic ch => exact hp.2.elim
    | outgrown => exact hp.2.elim
  · rintro e W2 ⟨⟨v, rfl⟩, (⟨xs, hS, hi, h2⟩ | ⟨pre, hSp, c, hi, h2⟩)⟩
    · exact ⟨none, _, run_endLoop (P := P) h2.1 (by simp [R]), hdone _ xs _ (Nat.le_refl _) hS (hI.putObj _ hi (Nat.le_succ _) h2.1 rfl) ((World.putObj_heap_other (by omega)).trans h2.2)⟩
    · exact ⟨some c, _, run_endLoop (P := P) h2.1 (by simp [R]), hstop _ c pre _ (Nat.le_refl _) hSp ((hIx c).putObj _ hi (Nat.le_succ _) h2.1 rfl) ((World.putObj_heap_other (by omega)).trans h2.2)⟩

/-- the assignment at a round's head that lays the item in a cell of its own -/
def Lays4 {α : Type} (F : Fence) (n : Nat) (P : Program) (ps : Array Tmp) (assign : Code) (enc : α → Array Value) (a : Act) (a₁ : α → Nat → Act) (al : α → Obj) : Prop :=
  ∀ l z V g K, V.heap.size = g → K (a₁ z g) (V.alloc (al z)) → assign.wpIn (F.inRound l) n P (Exit.then K fun _ _ _ => False) { tmps := (ps.zip (enc z)).foldl (fun t (p, v) => t.setIfInBounds p v) a.tmps, defers := [] } V
/-- a round's body behind it -/
def Goes4 {α : Type} (F : Fence) (n : Nat) (P : Program) (body : Code) (B : Nat) (gs : List Nat) (t : Bool) (I : Tale α) (Ix : Code → Tale α) (Ok : List α → α → World → World → Prop) (a₁ : α → Nat → Act) (al : α → Obj) : Prop :=
  ∀ l zs z Va V1 d o o' g, I zs Va → Below Va.heap.size Va V1 → Ok zs z Va V1 → V1.heap[d]? = some o' → o'.isCells = false → B ≤ d → d < V1.heap.size → V1.heap.size = g → I zs ((V1.alloc (al z)).putObj d o) →
    body.wpIn (F.inRound l) n P (Left B gs t I Ix (zs ++ [z]) ((V1.alloc (al z)).putObj d o)) (a₁ z g) ((V1.alloc (al z)).putObj d o)

/-- .. where each round's assignment lays the item in a cell of its own: a range over an iterator that tells (the steps of the machine by the library's own equations, as its laws for such a loop take them) -/
theorem range_told4 {α : Type} {f : Nat} {own : Array Value} {enc : α → Array Value} {Ok : List α → α → World → World → Prop} {gs : List Nat} {t : Bool} {S Sp : List α → Prop} {V0 : World} (it : Told3 F n P f own enc Ok gs t S Sp V0)
    {g : Operand} {ps : Array Tmp} {assign body : Code} {Q : Exit → Act → World → Prop} {a : Act} {w : World} (hg : a.eval g = .func (.func f) #[] own) (hb0 : Below V0.heap.size V0 w) (hgs : ∀ g ∈ gs, g < w.heap.size) (hps : ∀ z, (enc z).size = ps.size)
    (I : Tale α) (Ix : Code → Tale α) (hl : Lasts3 w.heap.size I Ix) (h0 : I [] w) (a₁ : α → Nat → Act) (al : α → Obj) (hassign : Lays4 F (n - 1 - 1) P ps assign enc a a₁ al) (hbody : Goes4 F (n - 1 - 1) P body w.heap.size gs t I Ix Ok a₁ al)
    (hdone : Ends w.heap.size a S I fun b V => Q .normal b V) (hstop : Stops w.heap.size a Sp Ix fun c b V => c.wpIn F n P Q b V) :
    (Code.rangeFunc g ps assign body).wpIn F n P Q a w := by
  obtain ⟨hro, h1, hFg, eg, hseq⟩ := it
  obtain ⟨hI, hIx⟩ := hl
  refine wpIn_rangeFunc fun fn hfn => ?_
  rw [hro]
  let R : LoopState → Option Code → Loop := fun st pe => { state := st, pending := pe, fn, tmps := a.tmps, params := ps, assign, body, defers := w.heap.size }
  -- the two blocks, and what is said of them
  let D := w.heap.size
  let two (st : LoopState) (pe : Option Code) (W : World) : Prop := W.heap[D + 1]? = some (.loop (R st pe)) ∧ W.heap[D]? = some (.deferred (some []))
  let W1 := (w.alloc (.deferred (some []))).alloc (.loop (R .ready none))
  have sz1 : W1.heap.size = D + 2 := by simp [W1, D]
  have two1 : two .ready none W1 := by
    refine ⟨?_, (Below.heap_alloc _ _ _ (by simp [D])).trans (World.alloc_heap_new w _)⟩
    have := World.alloc_heap_new (w.alloc (.deferred (some []))) (.loop (R .ready none))
    rwa [World.size_alloc] at this
  have keepTwo : ∀ {st pe W W' row}, two st pe W → W.grownBy W' row → (∀ r, row = some r → D + 2 ≤ r) → two st pe W' := fun {st pe W W' row} h hg hr =>
    ⟨(hg.block _ (Array.getElem?_eq_some_iff.1 h.1).1 (fun e => by have := hr _ e.symm; omega)).trans h.1, (hg.block _ (Array.getElem?_eq_some_iff.1 h.2).1 (fun e => by have := hr _ e.symm; omega)).trans h.2⟩
  -- a turn of the record
  have turn : ∀ {st pe W} (st' pe'), two st pe W → two st' pe' (W.putObj (D + 1) (.loop (R st' pe'))) := fun {st pe W} st' pe' h =>
    ⟨World.putObj_heap_same (Array.getElem?_eq_some_iff.1 h.1).1, (World.putObj_heap_other (by omega)).trans h.2⟩
  have keptTurn : ∀ (W : World) (o : Obj), Kept gs t (D + 2) W (W.putObj (D + 1) o) := fun W o =>
    ⟨(grownBy_putObj' W (D + 1) o).size, fun g hg => World.putObj_heap_other (by have := hgs g hg; simp only [D]; omega), fun k o' h1 h2 _ => (World.putObj_heap_other (by omega)).trans h2⟩
  refine ⟨D + 1, [{ target := .collected D, args := #[] }], W1, { target := .fn (.func f) own, args := #[.func (.yield (D + 1)) #[] #[]] }, W1, f,
    #[.func (.yield (D + 1)) #[] #[]] ++ own, W1, run_enterLoop_outer _ _ _ _ _, by simp only [resolve, hg]; simp [go_sem], ?_, by simp [invoke, go_sem, eg], fun _ => h1, ?_⟩
  · intro f' hf'; simp [Target.leads] at hf'; subst hf'; exact hFg
  refine (hseq (D + 1) (fun pre W => I pre W ∧ two .ready none W) (fun pre W => ∃ c, Ix c pre W ∧ two .done (some c) W) W1 ?_ ⟨?_, ?_⟩ ?_ ?_).mono ?_
  · exact hb0.trans ((((Below.refl _ w).alloc (Nat.le_refl _) _).alloc (by simp) _).mono hb0.size)
  · exact fun s A B row hs hgr hr => ⟨hI s A B row hs.1 hgr (fun r e => ⟨by have := (hr r e).1; simp only [D] at *; omega, (hr r e).2⟩), keepTwo hs.2 hgr (fun r e => by have := (hr r e).1; omega)⟩
  · rintro s A B row ⟨c, hc, h2⟩ hgr hr
    exact ⟨c, hIx c s A B row hc hgr (fun r e => ⟨by have := (hr r e).1; simp only [D] at *; omega, (hr r e).2⟩), keepTwo h2 hgr (fun r e => by have := (hr r e).1; omega)⟩
  · exact ⟨hI.alloc _ (hI.alloc _ h0), two1⟩
  · -- one round
    rintro pre x Va W ⟨hi0, h20⟩ hbw hok
    have hi := hI pre Va W none hi0 (Below.grown hbw) (fun r e => by cases e)
    have h2 := keepTwo h20 (Below.grown hbw) (fun r e => by cases e)
    have h2a : two .ready none (W.alloc (al x)) := keepTwo h2 (World.grownBy_alloc W (al x) none) (by simp)
    refine ⟨fn, _, assign, body, run_yield (P := P) (args := enc x) h2.1 (hps x), roundIn_of_wpIn hfn (hassign _ x W _ _ rfl ⟨_, run_beginRound h2a.1 rfl, ?_⟩)⟩
    have hb2 := turn .busy none h2a
    have hD1 : D + 1 < W.heap.size := (Array.getElem?_eq_some_iff.1 h2.1).1
    have hka : Kept gs t W1.heap.size W (W.alloc (al x)) := Kept.grown (World.grownBy_alloc W (al x) none) (fun g hg => by have := hgs g hg; simp only [D] at hD1; omega) (fun r e => by cases e)
    refine wpIn_mono (hbody _ pre x Va W (D + 1) _ _ W.heap.size hi0 hbw hok h2.1 rfl (Nat.le_succ _) hD1 rfl (hI.putObj _ (hI.alloc _ hi) (Nat.le_succ _) h2a.1 rfl)) ?_
    have after : ∀ {W3 : World}, Kept gs t w.heap.size ((W.alloc (al x)).putObj (D + 1) (.loop (R .busy none))) W3 → two .busy none W3 := fun {W3} hk =>
      ⟨hk.new _ _ (Nat.le_succ _) hb2.1 (.inr rfl), hk.new _ _ (Nat.le_refl _) hb2.2 (.inr rfl)⟩
    have all : ∀ {W3 : World} (o : Obj), Kept gs t w.heap.size ((W.alloc (al x)).putObj (D + 1) (.loop (R .busy none))) W3 → Kept gs t W1.heap.size (W.alloc (al x)) (W3.putObj (D + 1) o) := fun {W3} o hk => by
      rw [sz1]
      exact (keptTurn (W.alloc (al x)) _).trans ((hk.mono (by simp only [D]; omega)).trans (keptTurn W3 o))
    rintro e a3 W3 hp
    cases e with
    | normal =>
      have h3 := after hp.1
      exact ⟨_, _, run_endRound (P := P) none h3.1, hka.trans (all _ hp.1), .inl ⟨rfl, hI.putObj _ hp.2 (Nat.le_succ _) h3.1 rfl, turn .ready none h3⟩⟩
    | ret =>
      have h3 := after hp.1
      exact ⟨_, _, run_endRound (P := P) (some .ret) h3.1, hka.trans (all _ hp.1), .inr ⟨rfl, .ret, (hIx _).putObj _ hp.2 (Nat.le_succ _) h3.1 rfl, turn .done _ h3⟩⟩
    | exit id =>
      have h3 := after hp.1
      exact ⟨_, _, run_endRound (P := P) (some (.exit id)) h3.1, hka.trans (all _ hp.1), .inr ⟨rfl, .exit id, (hIx _).putObj _ hp.2 (Nat.le_succ _) h3.1 rfl, turn .done _ h3⟩⟩
    | goto b =>
      have h3 := after hp.1
      exact ⟨_, _, run_endRound (P := P) (some (.goto b)) h3.1, hka.trans (all _ hp.1), .inr ⟨rfl, .goto b, (hIx _).putObj _ hp.2 (Nat.le_succ _) h3.1 rfl, turn .done _ h3⟩⟩
    | panic ch => exact hp.2.elim
    | outgrown => exact hp.2.elim
  · rintro e W2 ⟨⟨v, rfl⟩, (⟨xs, hS, hi, h2⟩ | ⟨pre, hSp, c, hi, h2⟩)⟩
    · exact ⟨none, _, run_endLoop (P := P) h2.1 (by simp [R]), hdone _ xs _ (Nat.le_refl _) hS (hI.putObj _ hi (Nat.le_succ _) h2.1 rfl) ((World.putObj_heap_other (by omega)).trans h2.2)⟩
    · exact ⟨some c, _, run_endLoop (P := P) h2.1 (by simp [R]), hstop _ c pre _ (Nat.le_refl _) hSp ((hIx c).putObj _ hi (Nat.le_succ _) h2.1 rfl) ((World.putObj_heap_other (by omega)).trans h2.2)⟩

end Go.Proofs.Ythfdnidcmkjmoaa
