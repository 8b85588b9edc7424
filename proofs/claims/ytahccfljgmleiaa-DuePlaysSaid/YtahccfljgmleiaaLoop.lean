/-
  Plain words for a loop over Due whose body leaves the table alone: what has been told, and what is left. Conditions: as each lemma states.
-/
import Derived.Test.YtahccfljgmleiaaDue
namespace Go.Proofs.Ytahccfljgmleiaa
open Go.RowKit Go.Shelf Go.Maps
set_option linter.unusedVariables false

theorem sorted_ext : ∀ {L M : List En}, L.Pairwise bef → M.Pairwise bef → (∀ e, e ∈ L ↔ e ∈ M) → L = M
  | [], [], _, _, _ => rfl
  | [], e :: M, _, _, h => absurd ((h e).2 (by simp)) (by simp)
  | e :: L, [], _, _, h => absurd ((h e).1 (by simp)) (by simp)
  | e :: L, f :: M, hL, hM, h => by
    have hef : e = f := by
      rcases List.mem_cons.1 ((h e).1 (by simp)) with h1 | h1
      · exact h1
      · rcases List.mem_cons.1 ((h f).2 (by simp)) with h2 | h2
        · exact h2.symm
        · exact absurd (bef_trans (List.rel_of_pairwise_cons hM h1) (List.rel_of_pairwise_cons hL h2)) (bef_irrefl _)
    subst hef
    refine congrArg (e :: ·) (sorted_ext hL.tail hM.tail fun g => ?_)
    constructor
    · intro hg
      rcases List.mem_cons.1 ((h g).1 (List.mem_cons_of_mem _ hg)) with h1 | h1
      · subst h1; exact absurd (List.rel_of_pairwise_cons hL hg) (bef_irrefl _)
      · exact h1
    · intro hg
      rcases List.mem_cons.1 ((h g).2 (List.mem_cons_of_mem _ hg)) with h1 | h1
      · subst h1; exact absurd (List.rel_of_pairwise_cons hM hg) (bef_irrefl _)
      · exact h1
/-- a table stands for one list alone -/
theorem Du.one {V : World} {tb bm : Nat} {L M : List En} (h : Du V tb bm L) (k : Du V tb bm M) : L = M := by
  obtain ⟨D, ⟨es, c, h1, _, _, h2⟩, hT⟩ := h.map
  obtain ⟨D', ⟨es', c', k1, _, _, k2⟩, kT⟩ := k.map
  rw [h1] at k1
  obtain ⟨rfl, rfl⟩ : es = es' ∧ c = c' := by simpa using k1
  rw [← h2] at k2
  subst k2
  refine sorted_ext h.tbl.sorted k.tbl.sorted fun ⟨x, t⟩ => ?_
  have hin : inL L x = inL M x := (hT.has x).symm.trans (kT.has x)
  constructor
  · intro hm
    obtain ⟨u, hu⟩ := inL_iff.1 (hin ▸ inL_iff.2 ⟨t, hm⟩)
    have e1 := hT.time x t hm .nil
    have e2 := kT.time x u hu .nil
    rw [e1] at e2
    have : t = u := by simpa using e2
    rw [this]; exact hu
  · intro hm
    obtain ⟨u, hu⟩ := inL_iff.1 (hin.symm ▸ inL_iff.2 ⟨t, hm⟩)
    have e1 := kT.time x t hm .nil
    have e2 := hT.time x u hu .nil
    rw [e1] at e2
    have : t = u := by simpa using e2
    rw [this]; exact hu

/-- what stands between the rounds: some have been told, the others are left -/
def JS (tb bm : Nat) (now : Int) (all : List En) (P : List En → World → Prop) : Stand := fun k V =>
  ∃ done rest, all = done ++ rest ∧ k = rest.length ∧ Du V tb bm rest ∧ (∀ e ∈ done, e.2 ≤ now) ∧ P done V
/-- .. and at a yield -/
def MS (tb bm : Nat) (now : Int) (all : List En) (P : List En → World → Prop) (k : Nat) (e : En) (V : World) : Prop :=
  ∃ done rest, all = done ++ e :: rest ∧ k = rest.length + 1 ∧ Du V tb bm rest ∧ (∀ f ∈ done, f.2 ≤ now) ∧ e.2 ≤ now ∧ P done V
/-- what a body's own cells are like -/
structure Still (w : World) (bm : Nat) (P : List En → World → Prop) : Prop where
  moves : ∀ d V V' B, w.heap.size ≤ B → P d V → Moves B bm V V' → P d V'

section
variable {tb bm : Nat} {now : Int} {all : List En} {P : List En → World → Prop} {w : World}
theorem Firm.moves {w : World} {T : World → Prop} {V V' : World} (hT : Firm w.heap.size T) (hb : bm < w.heap.size) (h : T V) (hm : Moves (w.heap.size + 2) bm V V') : T V' :=
  hT V V' h (fun k o h1 h2 h3 => (hm.heap (Array.getElem?_eq_some_iff.1 h3).1 (by omega) h2).trans h3)
theorem loop_adm (hP : Still w bm P) (hb : bm < w.heap.size) (T : World → Prop) (hT : Firm w.heap.size T) : Adm2 tb bm now (w.heap.size + 2) (fun k V => JS tb bm now all P k V ∧ T V) (fun k z V => MS tb bm now all P k z V ∧ T V) := by
  rintro k V ⟨⟨done, rest, h1, h2, h3, h4, h5⟩, h6⟩
  refine ⟨rest, h3, fun e L' V' he hn hm hd => ⟨⟨done, L', by rw [h1, he], by rw [h2, he]; rfl, hd, h4, hn, hP.moves _ _ _ _ (by omega) h5 hm⟩, hT.moves hb h6 hm⟩⟩
theorem loop_own (hP : Still w bm P) (h1 : tb < w.heap.size) (h2 : bm < w.heap.size) : OwnFrom w.heap.size (JS tb bm now all P) := by
  rintro k X Y row ⟨done, rest, a1, a2, a3, a4, a5⟩ hg hr
  exact ⟨done, rest, a1, a2, a3.turn hg (fun r e => (hr r e).1) h1 h2, a4, hP.moves _ _ _ _ (Nat.le_refl _) a5 (Moves.ofGrown hg hr)⟩
theorem loop_ownM (hP : Still w bm P) (h1 : tb < w.heap.size) (h2 : bm < w.heap.size) (k : Nat) (z : En) : OwnFrom w.heap.size (fun (_ : Unit) V => MS tb bm now all P k z V) := by
  rintro s X Y row ⟨done, rest, a1, a2, a3, a4, a5, a6⟩ hg hr
  exact ⟨done, rest, a1, a2, a3.turn hg (fun r e => (hr r e).1) h1 h2, a4, a5, hP.moves _ _ _ _ (Nat.le_refl _) a6 (Moves.ofGrown hg hr)⟩
theorem loop_ownE (h1 : tb < w.heap.size) (h2 : bm < w.heap.size) : OwnFrom w.heap.size (fun (_ : Unit) V => Fin2 tb bm now V) := by
  rintro s X Y row ⟨L, a1, a2⟩ hg hr
  exact ⟨L, a1.turn hg (fun r e => (hr r e).1) h1 h2, a2⟩
theorem loop_start (h : Du w tb bm all) (hP : P [] w) : JS tb bm now all P all.length w := ⟨[], all, rfl, rfl, h, by simp, hP⟩
/-- a round that goes on -/
theorem loop_next {k : Nat} {e : En} {V V' : World} (h : MS tb bm now all P k e V) (hd : ∀ L, Du V tb bm L → Du V' tb bm L) (hp : ∀ done, P done V → P (done ++ [e]) V') : ∃ k', k' < k ∧ JS tb bm now all P k' V' := by
  obtain ⟨done, rest, a1, a2, a3, a4, a5, a6⟩ := h
  refine ⟨rest.length, by omega, done ++ [e], rest, by rw [a1]; simp, rfl, hd _ a3, ?_, hp _ a6⟩
  intro f hf
  rcases List.mem_append.1 hf with h | h
  · exact a4 f h
  · simp at h; subst h; exact a5
/-- behind the loop: the due ones have been told -/
theorem loop_end {k : Nat} {V : World} (h : JS tb bm now all P k V) (hf : Fin2 tb bm now V) : ∃ done rest, all = done ++ rest ∧ done = all.takeWhile (fun e => decide (e.2 ≤ now)) ∧ Du V tb bm rest ∧ (∀ e, rest.head? = some e → now < e.2) ∧ P done V := by
  obtain ⟨done, rest, a1, a2, a3, a4, a5⟩ := h
  obtain ⟨L, b1, b2⟩ := hf
  obtain rfl := a3.one b1
  refine ⟨done, rest, a1, ?_, a3, b2, a5⟩
  rw [a1, List.takeWhile_append_of_pos (by intro e he; simpa using a4 e he)]
  cases rest with
  | nil => simp
  | cons e r =>
    have := b2 e rfl
    rw [List.takeWhile_cons_of_neg (by simpa using this)]; simp
end
end Go.Proofs.Ytahccfljgmleiaa
