/-
  Plain words on the way of a datagram: what each box answers and becomes, the way from place to place; what is kept of the boxes. Conditions: as each lemma states.
-/
import Derived.Test.YtidhdgcmagpkgaaWs
import Derived.Test.YtidhdgcmagpkgaaBck
namespace Go.Proofs.Ytidhdgcmagpkgaa
open Go.RowKit
set_option linter.unusedVariables false

/-- a box as it may be -/
structure OkP (b : Bp) : Prop where
  is : isBx b.x
  b2 : box2 b.x = true
  M : Okb b.x b.M
  now : 0 ≤ b.now
  inn : ∀ d ∈ b.M, isA d.inn ∧ mayA d.inn = true
theorem box2_parts {x : Bx} (h : box2 x = true) : x.host ≠ 0 ∧ 1 ≤ x.lo ∧ x.lo ≤ x.hi ∧ x.hi ≤ 65535 ∧ 1 ≤ x.life ∧ x.life ≤ 1099511627776 ∧ 1 ≤ x.most ∧ x.most ≤ 100 := by
  unfold box2 at h
  simp only [Bool.and_eq_true, decide_eq_true_eq, mayA_iff] at h
  obtain ⟨⟨h1, h2, _⟩, ⟨_, _, h3⟩, h4, _, _, h5, h6, h7, h8⟩ := h
  exact ⟨h1, h2, h4, h3, h5, h6, h7, h8⟩
theorem OkP.okB {b : Bp} (h : OkP b) : OkB b.x := by
  obtain ⟨_, h2, h3, h4, h5, h6, _⟩ := box2_parts h.b2
  exact ⟨h2, h3, h4, h5, h6⟩
theorem OkP.okM {b : Bp} (h : OkP b) : OkM b.M := h.M.okM (box2_parts h.b2).2.2.2.2.2.2.2
/-- what In answers, and what the box is behind it -/
def inP (b : Bp) (t p : Int) (f : A2) : (A2 × Int) × Bp := (((inS b.x b.now b.M t p f).1, (inS b.x b.now b.M t p f).2.1), ⟨b.x, (inS b.x b.now b.M t p f).2.2.1, (inS b.x b.now b.M t p f).2.2.2⟩)
def outP (b : Bp) (t : Int) (f g : A2) : (A2 × Int) × Bp := (((outS b.x b.now b.M t f g).1, (outS b.x b.now b.M t f g).2.1), ⟨b.x, (outS b.x b.now b.M t f g).2.2.1, (outS b.x b.now b.M t f g).2.2.2⟩)
theorem goes_le {now t : Int} (h : goes now t = true) : now ≤ t ∧ t ≤ 1099511627776 := by
  unfold goes at h
  rwa [Bool.and_eq_true, decide_eq_true_eq, decide_eq_true_eq] at h
theorem isA_0 : isA (0, 0) := by unfold isA; simp only; omega
theorem in_ok {b : Bp} {t p : Int} {f : A2} (h : OkP b) : OkP (inP b t p f).2 ∧ isA (inP b t p f).1.1 ∧ ((inP b t p f).1.2 = 0 → mayA (inP b t p f).1.1 = true) ∧ (inP b t p f).2.x = b.x := by
  have hM := h.M.in_ (now := b.now) (t := t) (p := p) (f := f)
  refine ⟨⟨h.is, h.b2, hM, ?_, ?_⟩, ?_, ?_, rfl⟩
  · show 0 ≤ (inS b.x b.now b.M t p f).2.2.1
    unfold inS
    split
    · rename_i hg
      have := goes_le hg; have := h.now
      show 0 ≤ t
      omega
    · exact h.now
  · intro d hd
    have hd : d ∈ (inS b.x b.now b.M t p f).2.2.2 := hd
    unfold inS at hd
    split at hd
    · exact h.inn d (List.mem_filter.1 hd).1
    · exact h.inn d hd
  · show isA (inS b.x b.now b.M t p f).1
    unfold inS
    split
    · show isA (inM b.x (liveM b.M t) p f).1
      unfold inM
      split
      · split
        · rename_i d hf
          exact (h.inn d (List.mem_filter.1 (List.mem_of_find?_eq_some hf)).1).1
        · exact isA_0
      · exact isA_0
    · exact isA_0
  · show (inS b.x b.now b.M t p f).2.1 = 0 → mayA (inS b.x b.now b.M t p f).1 = true
    unfold inS
    split
    · show (inM b.x (liveM b.M t) p f).2 = 0 → mayA (inM b.x (liveM b.M t) p f).1 = true
      unfold inM
      split
      · split
        · rename_i d hf
          exact fun _ => (h.inn d (List.mem_filter.1 (List.mem_of_find?_eq_some hf)).1).2
        · intro e; simp at e
      · intro e; simp at e
    · intro e; simp at e
theorem out_ok {b : Bp} {t : Int} {f g : A2} (h : OkP b) (hf : isA f) (hmf : mayA f = true) : OkP (outP b t f g).2 ∧ isA (outP b t f g).1.1 ∧ ((outP b t f g).1.2 = 0 → mayA (outP b t f g).1.1 = true) ∧ (outP b t f g).2.x = b.x := by
  obtain ⟨b1, b2, b3, b4, b5, b6, b7, b8⟩ := box2_parts h.b2
  have hM := h.M.out (now := b.now) (t := t) (a := f) (b := g) b3
  have hP : ∀ p, b.x.lo ≤ p → p ≤ b.x.hi → isA (b.x.host, p) ∧ mayA (b.x.host, p) = true := fun p h1 h2 => ⟨⟨h.is.1, by simp only; omega, by simp only; omega⟩, mayA_t b1 (by simp only; omega) (by simp only; omega)⟩
  have hL := h.M.live t
  have hI : ∀ d ∈ (outS b.x b.now b.M t f g).2.2.2, isA d.inn ∧ mayA d.inn = true := by
    intro d hd
    unfold outS at hd
    split at hd
    · have hd : d ∈ (outM b.x (liveM b.M t) t f g).2.2 := hd
      unfold outM at hd
      split at hd
      · split at hd
        · rcases mem_updF hd with hd | ⟨e, he, rfl⟩
          · exact h.inn d (List.mem_filter.1 hd).1
          · exact h.inn e (List.mem_filter.1 he).1
        · split at hd
          · rcases List.mem_append.1 hd with hd | hd
            · exact h.inn d (List.mem_filter.1 hd).1
            · simp only [List.mem_singleton] at hd
              rw [hd]
              exact ⟨hf, hmf⟩
          · exact h.inn d (List.mem_filter.1 hd).1
      · exact h.inn d (List.mem_filter.1 hd).1
    · exact h.inn d hd
  have hA : isA (outS b.x b.now b.M t f g).1 ∧ ((outS b.x b.now b.M t f g).2.1 = 0 → mayA (outS b.x b.now b.M t f g).1 = true) := by
    unfold outS
    split
    · show isA (outM b.x (liveM b.M t) t f g).1 ∧ ((outM b.x (liveM b.M t) t f g).2.1 = 0 → mayA (outM b.x (liveM b.M t) t f g).1 = true)
      unfold outM
      split
      · split
        · rename_i d hd
          have h1 := hL.rng d (List.mem_of_find?_eq_some hd)
          exact ⟨(hP d.port h1.1 h1.2.1).1, fun _ => (hP d.port h1.1 h1.2.1).2⟩
        · split
          · rename_i p hp
            obtain ⟨_, _, h3, h4⟩ := add_is b3 hp
            exact ⟨(hP p h3 h4).1, fun _ => (hP p h3 h4).2⟩
          · exact ⟨isA_0, fun e => by simp at e⟩
      · exact ⟨isA_0, fun e => by simp at e⟩
    · exact ⟨isA_0, fun e => by simp at e⟩
  refine ⟨⟨h.is, h.b2, hM, ?_, hI⟩, hA.1, hA.2, rfl⟩
  show 0 ≤ (outS b.x b.now b.M t f g).2.2.1
  unfold outS
  split
  · rename_i hg
    have := goes_le hg; have := h.now
    show 0 ≤ t
    omega
  · exact h.now
/-- where boxes may stand -/
def OkS (S : List St) : Prop := ∀ (i : Nat) s, S[i]? = some s → s.2 = -1 ∨ ∃ j : Nat, s.2 = j ∧ j < i ∧ (getS S j).2 = -1
/-- the answer of a way that comes nowhere -/
def noWay (c : Int) : Int × A2 × A2 × Int := (0, (0, 0), (0, 0), c)
/-- the way on: boxes, where, from, to, out of which, whether one was entered -/
def folM (S H : List St) (t : Int) : Nat → List Bp → A2 → A2 → Int → Int → Bool → (Int × A2 × A2 × Int) × List Bp
  | 0, bs, _, _, _, _, _ => (noWay 8, bs)
  | n + 1, bs, f, g, at_, left, ent =>
    if idxS H (g.1, at_) ≠ -1 then ((idxS H (g.1, at_), f, g, 0), bs)
    else if idxS S (g.1, at_) ≠ -1 ∧ idxS S (g.1, at_) ≠ left then
      match bs[(idxS S (g.1, at_)).toNat]? with
      | none => (noWay 8, bs)
      | some b =>
        if (inP b t g.2 f).1.2 = 0 then folM S H t n (bs.set (idxS S (g.1, at_)).toNat (inP b t g.2 f).2) f (inP b t g.2 f).1.1 (idxS S (g.1, at_)) left true
        else (noWay (inP b t g.2 f).1.2, bs.set (idxS S (g.1, at_)).toNat (inP b t g.2 f).2)
    else if at_ ≠ -1 ∧ ent = false then
      match bs[at_.toNat]? with
      | none => (noWay 8, bs)
      | some b =>
        if (outP b t f g).1.2 = 0 then folM S H t n (bs.set at_.toNat (outP b t f g).2) (outP b t f g).1.1 g (getS S at_).2 at_ ent
        else (noWay (outP b t f g).1.2, bs.set at_.toNat (outP b t f g).2)
    else (noWay 8, bs)
/-- how many places are left on the way -/
def meas (S : List St) (at_ : Int) (ent : Bool) : Nat := if ent = true then S.length - at_.toNat else S.length + 2 + (at_ + 1).toNat
end Go.Proofs.Ytidhdgcmagpkgaa
