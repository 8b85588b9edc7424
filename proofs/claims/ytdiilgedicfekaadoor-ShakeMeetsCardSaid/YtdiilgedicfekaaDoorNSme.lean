/-
  ShakeMeets in plain words: how far both are, what is on its way, and that they meet. Conditions: as each states.
-/
import Derived.Test.YtdiilgedicfekaaDoorMh15
namespace Go.Proofs.YtdiilgedicfekaaDoor
open Go.RowKit Go.Maps Go.ChangeShapes
set_option linter.unusedVariables false
set_option maxRecDepth 100000

/-- what one at this place comes to by a message: 0 nothing, 1 a Hello, 2 an Answer, 3 a last one -/
def hst (st k : Nat) : Nat := if k = 0 then st else if k = 1 then (if st ≤ 1 then 2 else st) else if st = 0 then 0 else 3
/-- .. and sends -/
def hms (st k : Nat) : Nat := if k = 0 then 0 else if k = 1 then 2 else if st = 0 then 0 else if k = 2 then 3 else 0
def ags (st : Nat) : Nat := if st = 1 then 1 else if st = 2 then 2 else 0
def or0 (k a : Nat) : Nat := if k = 0 then a else k
/-- so many rounds may be lost yet, and so many there are: both are Open in time, from places a and b, with messages x and y on their way -/
def win : Nat → Nat → Nat → Nat → Nat → Nat → Bool
  | _, 0, _, _, _, _ => false
  | l, t + 1, a, b, x, y =>
    ((hst a y == 3 && hst b x == 3) || win (l - 1) t (hst a y) (hst b x) (or0 (hms a y) (ags (hst a y))) (or0 (hms b x) (ags (hst b x)))) &&
    (l == 0 || ((a == 3 && b == 3) || win (l - 1) t a b (ags a) (ags b)))
theorem win_one : win 10 40 1 0 1 0 = true := by decide +kernel
theorem win_two : win 10 40 1 1 1 1 = true := by decide +kernel
theorem win_step {l t a b x y : Nat} (h : win l (t + 1) a b x y = true) : (hst a y = 3 ∧ hst b x = 3) ∨ win (l - 1) t (hst a y) (hst b x) (or0 (hms a y) (ags (hst a y))) (or0 (hms b x) (ags (hst b x))) = true := by
  unfold win at h
  simp only [Bool.and_eq_true, Bool.or_eq_true, beq_iff_eq] at h
  exact h.1
theorem win_lost {l t a b x y : Nat} (h : win l (t + 1) a b x y = true) (hl : l ≠ 0) : (hst a 0 = 3 ∧ hst b 0 = 3) ∨ win (l - 1) t (hst a 0) (hst b 0) (or0 (hms a 0) (ags (hst a 0))) (or0 (hms b 0) (ags (hst b 0))) = true := by
  unfold win at h
  simp only [Bool.and_eq_true, Bool.or_eq_true, beq_iff_eq] at h
  rcases h.2 with h | h
  · exact absurd h hl
  · exact h

structure Hs (A B : Int) (NA NB : Nat) (st : Nat) (s : Sk) : Prop where
  eq : s.st = (st : Int)
  own : s.own = A
  oth : s.oth = B
  non : s.non = NA
  ech : 2 ≤ st → s.ech = NB
  le : st ≤ 3
  ok : s.Ok
def Ms (A B : Int) (NA NB : Nat) (L : List Item) (k : Nat) (z : List Int) : Prop :=
  (k = 0 ∧ z = []) ∨ (k = 1 ∧ ∃ t, Mt L t (helloX ⟨0, A, B, NA, 0⟩) ∧ z = Wi.bytes (helloM ⟨0, A, B, NA, 0⟩ t)) ∨ (k = 2 ∧ ∃ t, Mt L t (answerX ⟨0, A, B, NA, NB⟩ []) ∧ z = Wi.bytes (answerM ⟨0, A, B, NA, NB⟩ [] t)) ∨
  (k = 3 ∧ ∃ t, Mt L t (answerX ⟨0, A, B, NA, NB⟩ [1]) ∧ z = Wi.bytes (answerM ⟨0, A, B, NA, NB⟩ [1] t))
def Ext (L L' : List Item) : Prop := (∀ t x, Mt L t x → Mt L' t x) ∧ L'.length ≤ L.length + 1
theorem Ext.refl (L : List Item) : Ext L L := ⟨fun _ _ h => h, by omega⟩
theorem Ext.mint (L : List Item) (x : Item) : Ext L (mintL L x) := ⟨fun _ _ h => h.mint x, mint_len' L x⟩
theorem Ms.ext {A B : Int} {NA NB : Nat} {L L' : List Item} {k : Nat} {z : List Int} (h : Ms A B NA NB L k z) (he : Ext L L') : Ms A B NA NB L' k z := by
  rcases h with h | ⟨e, t, h1, h2⟩ | ⟨e, t, h1, h2⟩ | ⟨e, t, h1, h2⟩
  · exact .inl h
  · exact .inr (.inl ⟨e, t, he.1 _ _ h1, h2⟩)
  · exact .inr (.inr (.inl ⟨e, t, he.1 _ _ h1, h2⟩))
  · exact .inr (.inr (.inr ⟨e, t, he.1 _ _ h1, h2⟩))
theorem Ms.nil {A B : Int} {NA NB : Nat} {L : List Item} : Ms A B NA NB L 0 [] := .inl ⟨rfl, rfl⟩
theorem ms_answer {A B : Int} {NA NB : Nat} {s : Sk} {L : List Item} (h1 : s.own = A) (h2 : s.oth = B) (h3 : s.non = NA) (h4 : s.ech = NB) : Ms A B NA NB (answerL L s []) 2 (answerB L s []) ∧ Ms A B NA NB (answerL L s [1]) 3 (answerB L s [1]) := by
  obtain ⟨st, own, oth, non, ech⟩ := s
  simp only at h1 h2 h3 h4
  subst h1 h2 h3 h4
  exact ⟨.inr (.inr (.inl ⟨rfl, _, Mt.new _ _, rfl⟩)), .inr (.inr (.inr ⟨rfl, _, Mt.new _ _, rfl⟩))⟩
theorem ms_hello {A B : Int} {NA NB : Nat} {s : Sk} {L : List Item} (h1 : s.own = A) (h2 : s.oth = B) (h3 : s.non = NA) : Ms A B NA NB (helloL L s) 1 (helloB L s) := by
  obtain ⟨st, own, oth, non, ech⟩ := s
  simp only at h1 h2 h3
  subst h1 h2 h3
  exact .inr (.inl ⟨rfl, _, Mt.new _ _, rfl⟩)
theorem ok_at {A B : Int} {NA NB : Nat} (h : (newS A B NA).Ok) (h' : (newS B A NB).Ok) (st : Int) (h0 : 0 ≤ st) (h4 : st ≤ 4) (e : Nat) (he : e ≤ 9223372036854775807) : (Sk.mk st A B NA e).Ok := ⟨h0, h4, h.o1, h.o2, h.t1, h.t2, h.ne, h.n1, h.n2, he⟩
theorem holds_at {s : Sk} {NB : Nat} (h : s.st = 2 ∨ s.st = 3) (he : s.ech = NB) : s.holds NB = true := by
  unfold Sk.holds
  rcases h with h | h <;> simp [h, he]
theorem hear_abs {A B : Int} {NA NB : Nat} {L : List Item} {k st : Nat} {s : Sk} {z : List Int} (oa : (newS A B NA).Ok) (ob : (newS B A NB).Ok) (hs : Hs A B NA NB st s) (hm : Ms B A NB NA L k z) (hL : L.length ≤ 1000000) :
    ∃ o, hearO s L z = o ∧ Hs A B NA NB (hst st k) o.s ∧ Ms A B NA NB o.l (hms st k) o.z ∧ Ext L o.l := by
  have e1 := hs.eq; have e2 := hs.own; have e3 := hs.oth; have e4 := hs.non; have e5 := hs.ech; have e6 := hs.le
  have hNB : NB ≤ 9223372036854775807 := ob.n2
  rcases hm with ⟨rfl, rfl⟩ | ⟨rfl, t, hM, rfl⟩ | ⟨rfl, t, hM, rfl⟩ | ⟨rfl, t, hM, rfl⟩
  · exact ⟨_, hear_nil, by simpa [hst] using hs, by simpa [hms] using Ms.nil, Ext.refl _⟩
  · have hh := hear_hello (s := s) (o := ⟨0, B, A, NB, 0⟩) (ok_at ob oa 0 (by omega) (by omega) 0 (by omega)) e2.symm e3.symm hM hL
    rw [hh]
    by_cases h1 : st ≤ 1
    · have hb : s.st = 0 ∨ s.st = 1 := by omega
      refine ⟨_, if_pos hb, ?_, ?_, Ext.mint _ _⟩
      · simp only [hst, show ¬ (1 = 0) by omega, if_false, if_true, if_pos h1]
        exact ⟨rfl, e2, e3, e4, fun _ => rfl, by omega, ⟨by simp, by simp, hs.ok.o1, hs.ok.o2, hs.ok.t1, hs.ok.t2, hs.ok.ne, hs.ok.n1, hs.ok.n2, hNB⟩⟩
      · simp only [hms, show ¬ (1 = 0) by omega, if_false, if_true]
        exact (ms_answer (s := { s with st := 2, ech := NB }) e2 e3 e4 rfl).1
    · have hb : ¬ (s.st = 0 ∨ s.st = 1) := by omega
      have he := e5 (by omega)
      refine ⟨⟨s, answerB L s [], answerL L s []⟩, ?_, ?_, ?_, Ext.mint _ _⟩
      · unfold helloO
        rw [if_neg hb]
        exact if_pos (holds_at (by omega) he)
      · simp only [hst, show ¬ (1 = 0) by omega, if_false, if_true, if_neg h1]
        exact hs
      · simp only [hms, show ¬ (1 = 0) by omega, if_false, if_true]
        exact (ms_answer (s := s) e2 e3 e4 he).1
  · have hh := hear_answer (s := s) (o := ⟨0, B, A, NB, NA⟩) (.inl rfl) (ok_at ob oa 0 (by omega) (by omega) NA oa.n2) e2.symm e3.symm hM hL
    rw [hh]
    by_cases h0 : st = 0
    · refine ⟨⟨s, [], L⟩, ?_, ?_, ?_, Ext.refl _⟩
      · unfold answerO
        refine if_pos (.inr ⟨by omega, ?_⟩)
        unfold Sk.holds
        have a : decide (s.st = 2) = false := by simp; omega
        have b : decide (s.st = 3) = false := by simp; omega
        rw [a, b]; rfl
      · simp [hst, h0]; rw [h0] at hs; exact hs
      · simp [hms, h0]; exact Ms.nil
    · have hgo : ¬ ((answerM ⟨0, B, A, NB, NA⟩ [] t).nums.getD 3 0 ≠ s.non ∨ (s.st ≠ 1 ∧ s.holds ((answerM ⟨0, B, A, NB, NA⟩ [] t).nums.getD 2 0) = false)) := by
        have a : (answerM ⟨0, B, A, NB, NA⟩ [] t).nums.getD 3 0 = NA := rfl
        have b : (answerM ⟨0, B, A, NB, NA⟩ [] t).nums.getD 2 0 = NB := rfl
        rw [a, b, e4]
        by_cases h1 : st = 1
        · simp; omega
        · simp [holds_at (s := s) (NB := NB) (by omega) (e5 (by omega))]
      refine ⟨⟨{ s with st := 3, ech := NB }, answerB L { s with st := 3, ech := NB } [1], answerL L { s with st := 3, ech := NB } [1]⟩, ?_, ?_, ?_, Ext.mint _ _⟩
      · unfold answerO
        rw [if_neg hgo]
        exact if_neg (show ¬ (0 < ([] : List Int).length) by decide)
      · simp only [hst, show ¬ (2 = 0) by omega, show ¬ (2 = 1) by omega, if_false, if_neg h0]
        exact ⟨rfl, e2, e3, e4, fun _ => rfl, by omega, ⟨by simp, by simp, hs.ok.o1, hs.ok.o2, hs.ok.t1, hs.ok.t2, hs.ok.ne, hs.ok.n1, hs.ok.n2, hNB⟩⟩
      · simp only [hms, show ¬ (2 = 0) by omega, show ¬ (2 = 1) by omega, if_false, if_neg h0, if_true]
        exact (ms_answer (s := { s with st := 3, ech := NB }) e2 e3 e4 rfl).2
  · have hh := hear_answer (s := s) (o := ⟨0, B, A, NB, NA⟩) (.inr rfl) (ok_at ob oa 0 (by omega) (by omega) NA oa.n2) e2.symm e3.symm hM hL
    rw [hh]
    by_cases h0 : st = 0
    · refine ⟨⟨s, [], L⟩, ?_, ?_, ?_, Ext.refl _⟩
      · unfold answerO
        refine if_pos (.inr ⟨by omega, ?_⟩)
        unfold Sk.holds
        have a : decide (s.st = 2) = false := by simp; omega
        have b : decide (s.st = 3) = false := by simp; omega
        rw [a, b]; rfl
      · simp [hst, h0]; rw [h0] at hs; exact hs
      · simp [hms, h0]; exact Ms.nil
    · have hgo : ¬ ((answerM ⟨0, B, A, NB, NA⟩ [1] t).nums.getD 3 0 ≠ s.non ∨ (s.st ≠ 1 ∧ s.holds ((answerM ⟨0, B, A, NB, NA⟩ [1] t).nums.getD 2 0) = false)) := by
        have a : (answerM ⟨0, B, A, NB, NA⟩ [1] t).nums.getD 3 0 = NA := rfl
        have b : (answerM ⟨0, B, A, NB, NA⟩ [1] t).nums.getD 2 0 = NB := rfl
        rw [a, b, e4]
        by_cases h1 : st = 1
        · simp; omega
        · simp [holds_at (s := s) (NB := NB) (by omega) (e5 (by omega))]
      refine ⟨⟨{ s with st := 3, ech := NB }, [], L⟩, ?_, ?_, ?_, Ext.refl _⟩
      · unfold answerO
        rw [if_neg hgo]
        exact if_pos (show 0 < ([1] : List Int).length by decide)
      · simp only [hst, show ¬ (3 = 0) by omega, show ¬ (3 = 1) by omega, if_false, if_neg h0]
        exact ⟨rfl, e2, e3, e4, fun _ => rfl, by omega, ⟨by simp, by simp, hs.ok.o1, hs.ok.o2, hs.ok.t1, hs.ok.t2, hs.ok.ne, hs.ok.n1, hs.ok.n2, hNB⟩⟩
      · simp only [hms, show ¬ (3 = 0) by omega, show ¬ (3 = 1) by omega, show ¬ (3 = 2) by omega, if_false, if_neg h0]
        exact Ms.nil
theorem again_abs {A B : Int} {NA NB : Nat} {L : List Item} {st : Nat} {s : Sk} (hs : Hs A B NA NB st s) : ∃ z L', againO s L = ⟨s, z, L'⟩ ∧ Ms A B NA NB L' (ags st) z ∧ Ext L L' := by
  have e1 := hs.eq; have e2 := hs.own; have e3 := hs.oth; have e4 := hs.non; have e5 := hs.ech; have e6 := hs.le
  by_cases h1 : st = 1
  · refine ⟨_, _, if_pos (by omega), ?_, Ext.mint _ _⟩
    simp only [ags, if_pos h1]
    exact ms_hello e2 e3 e4
  · by_cases h2 : st = 2
    · refine ⟨_, _, (if_neg (by omega)).trans (if_pos (by omega)), ?_, Ext.mint _ _⟩
      simp only [ags, if_neg h1, if_pos h2]
      exact (ms_answer e2 e3 e4 (e5 (by omega))).1
    · refine ⟨_, _, (if_neg (by omega)).trans (if_neg (by omega)), ?_, Ext.refl _⟩
      simp only [ags, if_neg h1, if_neg h2]
      exact Ms.nil
theorem Ms.len {A B : Int} {NA NB : Nat} {L : List Item} {k : Nat} {z : List Int} (oa : (newS A B NA).Ok) (hNB : NB ≤ 9223372036854775807) (hL : L.length ≤ 1000000) (h : Ms A B NA NB L k z) : (k = 0 ↔ z.length = 0) ∧ z.length ≤ 1200 := by
  have ok0 : (Sk.mk 0 A B NA 0).Ok := ⟨by simp, by simp, oa.o1, oa.o2, oa.t1, oa.t2, oa.ne, oa.n1, oa.n2, by simp⟩
  have ok1 : (Sk.mk 0 A B NA NB).Ok := ⟨by simp, by simp, oa.o1, oa.o2, oa.t1, oa.t2, oa.ne, oa.n1, oa.n2, hNB⟩
  rcases h with ⟨rfl, rfl⟩ | ⟨rfl, t, hM, rfl⟩ | ⟨rfl, t, hM, rfl⟩ | ⟨rfl, t, hM, rfl⟩
  · simp
  · have := bytes_mg_len (may_hello ok0 t (by have := hM.lt; omega))
    unfold helloM
    omega
  · have := bytes_mg_len (may_answer ok1 t [] (by have := hM.lt; omega) (by simp))
    unfold answerM
    omega
  · have := bytes_mg_len (may_answer ok1 t [1] (by have := hM.lt; omega) (by simp))
    unfold answerM
    omega
def IsBits (w : World) (v : Value) (bs : List Bool) : Prop := ∃ A cap, v = .slice A bs.length cap ∧ bs.length ≤ cap ∧ cap ≤ maxLen ∧ (0 < bs.length → ∃ b off, A = some ⟨b, off, none⟩ ∧ b < w.heap.size ∧ ∀ j, j < bs.length → w.cell? ⟨b, off + j, none⟩ = some (.bool (bs.getD j false)))
theorem open_bits {H : Type} {enc : TypeId × Value → H} {W : World} {r : Reach} {b0 : Nat} {v : Value} {d : DataW H} {p : List MemPlace} (hv : Value.okWide Tryd.prog W r b0 65 v) (h : DataW.Trod enc Tryd.prog W 0 (fun _ => true) true 65 v d p) : ∃ bs, IsBits W v bs := by
  obtain ⟨A, l, c, rfl⟩ := WideShapes.okWide_slice Tryd.underlying65 hv
  obtain ⟨fuel, hf⟩ := h
  rcases Deep.open_slice Tryd.underlying65 hf with ⟨hcs, _⟩ | ⟨a, len, cap, m, n, D, Pl, hcs, _, hl, hm, hmm, _, hi⟩
  · simp [Value.cells] at hcs
    obtain ⟨rfl, rfl, rfl⟩ := hcs
    exact ⟨[], none, 0, rfl, Nat.le_refl _, Nat.zero_le _, fun h => by simp at h⟩
  · simp [Value.cells] at hcs
    obtain ⟨rfl, rfl, rfl⟩ := hcs
    have hmc : m = c := by simpa using hmm
    subst hmc
    have hall : ∀ j, ∃ s : Bool, j < l → W.cell? (a.add j) = some (.bool s) := fun j => by
      by_cases hj : j < l
      · obtain ⟨cs, hc, ht⟩ := hi j (by omega)
        obtain ⟨_, hlen, hat⟩ := World.cells?_some hc
        have h1 : Tryd.prog.cellsOf 4 = 1 := by kernel_rfl
        rw [h1] at hlen hat
        match cs, hlen with
        | [x0], _ =>
          obtain ⟨s, e, _⟩ := DataW.trod_bool Tryd.underlying4 ht
          simp only [List.cons.injEq, and_true] at e
          have h0 := hat 0 (by omega)
          refine ⟨s, fun _ => ?_⟩
          rw [← e]
          have e2 : (a.add (j * 1)).add 0 = a.add j := by simp [Addr.add]
          rw [e2] at h0
          simpa using h0
      · exact ⟨false, fun h => absurd h hj⟩
    obtain ⟨f, hf⟩ := Classical.axiomOfChoice hall
    refine ⟨(List.range l).map f, some a, m, by simp, by simpa using hl, hm, fun hpos => ?_⟩
    have hl0 : 0 < l := by simpa using hpos
    obtain ⟨b, off, spot⟩ := a
    have h8 := World.cell?_spot (hf 0 hl0)
    have hspot : spot = none := by simpa [Addr.add] using h8
    subst hspot
    have hb : b < W.heap.size := by
      have := lt_of_cell (hf 0 hl0)
      simpa [Addr.add] using this
    refine ⟨b, off, rfl, hb, fun j hj => ?_⟩
    have hjl : j < l := by simpa using hj
    have := hf j hjl
    rw [add_spot] at this
    rw [this]
    simp [List.getD, hjl]
end Go.Proofs.YtdiilgedicfekaaDoor
