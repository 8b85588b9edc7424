/-
  The second half of ShakeMeets' round. Conditions: as each states.
-/
import Derived.Test.YtdiilgedicfekaaDoorNSmr
namespace Go.Proofs.YtdiilgedicfekaaDoor
open Go.RowKit Go.Maps
set_option linter.unusedVariables false
set_option maxRecDepth 100000
def DDn (d : Bool) (P : Prop) : Prop := d = true ↔ P
section
variable {w0 : World} {nb ba bb Z : Nat} {A B : Int} {NA NB lim : Nat} {a b : Sk} {xm ym sa sb : Nat} {Ax : Option Addr} {nx cx : Nat} {Ay : Option Addr} {ny cy : Nat} {V V' : World}
theorem Mdl.tw (h : Mdl w0 nb ba bb Z A B NA NB lim a b xm ym Ax nx cx Ay ny cy V) : ∃ L H, Tw2 w0 nb L none ba bb Z a b H V := by
  obtain ⟨L, xs, ys, H, h1, h2, h3, h4, h5, h6, h7, h8⟩ := h
  exact ⟨L, H, h6⟩
theorem Mdl.below (h : Mdl w0 nb ba bb Z A B NA NB lim a b xm ym Ax nx cx Ay ny cy V) (hb : Below V.heap.size V V') : Mdl w0 nb ba bb Z A B NA NB lim a b xm ym Ax nx cx Ay ny cy V' := by
  obtain ⟨L, xs, ys, H, h1, h2, h3, h4, h5, h6, h7, h8⟩ := h
  exact ⟨L, xs, ys, H, h1, h2, h3, h4, h5, h6.below hb, h7, h8⟩
theorem Mdl.a_keep (oa : (newS A B NA).Ok) (hNB : NB ≤ 9223372036854775807) (hl : lim ≤ 1000) (h : Mdl w0 nb ba bb Z A B NA NB lim a b xm ym Ax nx cx Ay ny cy V) (hn : nx ≠ 0) : Mdl w0 nb ba bb Z A B NA NB (lim + 1) a b (or0 xm (ags sa)) ym Ax nx cx Ay ny cy V := by
  obtain ⟨L, xs, ys, H, h1, h2, h3, h4, h5, h6, h7, h8⟩ := h
  have := (h3.len oa hNB (by omega)).1
  have e : or0 xm (ags sa) = xm := if_neg (fun h => hn (by rw [← h1]; exact this.1 h))
  rw [e]
  exact ⟨L, xs, ys, H, h1, h2, h3, h4, by omega, h6, h7, h8⟩
theorem Mdl.b_keep (ob : (newS B A NB).Ok) (hNA : NA ≤ 9223372036854775807) (hl : lim ≤ 1000) (h : Mdl w0 nb ba bb Z A B NA NB lim a b xm ym Ax nx cx Ay ny cy V) (hn : ny ≠ 0) : Mdl w0 nb ba bb Z A B NA NB (lim + 1) a b xm (or0 ym (ags sb)) Ax nx cx Ay ny cy V := by
  obtain ⟨L, xs, ys, H, h1, h2, h3, h4, h5, h6, h7, h8⟩ := h
  have := (h4.len ob hNA (by omega)).1
  have e : or0 ym (ags sb) = ym := if_neg (fun h => hn (by rw [← h2]; exact this.1 h))
  rw [e]
  exact ⟨L, xs, ys, H, h1, h2, h3, h4, by omega, h6, h7, h8⟩
theorem Mdl.a_again (oa : (newS A B NA).Ok) (hNB : NB ≤ 9223372036854775807) (hl : lim ≤ 1000) (hs : Hs A B NA NB sa a) (h : Mdl w0 nb ba bb Z A B NA NB lim a b xm ym Ax nx cx Ay ny cy V) (hn : nx = 0) :
    Calls Tryd.prog 18 #[skv a, .pointer (some ⟨nb, 0, none⟩)] V fun e w' => ∃ A' n c, e = .returned (.slice A' n c) ∧ Mdl w0 nb ba bb Z A B NA NB (lim + 1) a b (or0 xm (ags sa)) ym A' n c Ay ny cy w' := by
  obtain ⟨L, xs, ys, H, h1, h2, h3, h4, h5, h6, h7, h8⟩ := h
  have := (h3.len oa hNB (by omega)).1
  have e : or0 xm (ags sa) = ags sa := if_pos (this.2 (by omega))
  rw [e]
  obtain ⟨z, L', h9, h10, h11⟩ := again_abs (L := L) hs
  refine (again_m h6 a hs.ok (by omega) _ h9).mono fun e' w' hq => ?_
  obtain ⟨A', n', c', H', q1, q2, q3, q4, q5⟩ := hq
  exact ⟨A', n', c', q1, L', z, ys, H', q2, h2, h10, h4.ext h11, by have := h11.2; omega, q5, q3, h8.mono q4⟩
theorem Mdl.b_again (ob : (newS B A NB).Ok) (hNA : NA ≤ 9223372036854775807) (hl : lim ≤ 1000) (hs : Hs B A NB NA sb b) (h : Mdl w0 nb ba bb Z A B NA NB lim a b xm ym Ax nx cx Ay ny cy V) (hn : ny = 0) :
    Calls Tryd.prog 18 #[skv b, .pointer (some ⟨nb, 0, none⟩)] V fun e w' => ∃ A' n c, e = .returned (.slice A' n c) ∧ Mdl w0 nb ba bb Z A B NA NB (lim + 1) a b xm (or0 ym (ags sb)) Ax nx cx A' n c w' := by
  obtain ⟨L, xs, ys, H, h1, h2, h3, h4, h5, h6, h7, h8⟩ := h
  have := (h4.len ob hNA (by omega)).1
  have e : or0 ym (ags sb) = ags sb := if_pos (this.2 (by omega))
  rw [e]
  obtain ⟨z, L', h9, h10, h11⟩ := again_abs (L := L) hs
  refine (again_m h6 b hs.ok (by omega) _ h9).mono fun e' w' hq => ?_
  obtain ⟨A', n', c', H', q1, q2, q3, q4, q5⟩ := hq
  exact ⟨A', n', c', q1, L', xs, z, H', h1, q2, h3.ext h11, h10, by have := h11.2; omega, q5, h7.mono q4, q3⟩
/-- b hears x -/
theorem Mdl.hear_b (oa : (newS A B NA).Ok) (ob : (newS B A NB).Ok) (hl : lim ≤ 1000) (hs : Hs B A NB NA sb b) (h : Mdl w0 nb ba bb Z A B NA NB lim a b xm ym Ax nx cx Ay ny cy V) :
    Calls Tryd.prog 16 #[skv b, .pointer (some ⟨nb, 0, none⟩), .slice Ax nx cx] V fun e w' => ∃ (b' : Sk) (A' : Option Addr) (n c : Nat), e = .returned (.tuple #[skv b', .slice A' n c]) ∧ Hs B A NB NA (hst sb xm) b' ∧
      ∃ L ys vs H, ys.length = ny ∧ vs.length = n ∧ Ms B A NB NA L ym ys ∧ Ms B A NB NA L (hms sb xm) vs ∧ L.length ≤ lim + 1 ∧ Tw2 w0 nb L none ba bb Z a b H w' ∧ SlH H Ay cy ys ∧ SlH H A' c vs := by
  obtain ⟨L, xs, ys, H, h1, h2, h3, h4, h5, h6, h7, h8⟩ := h
  obtain ⟨o, h9, h10, h11, h12⟩ := hear_abs ob oa hs h3 (by omega)
  refine (hear_m h6 b hs.ok (by omega) Ax nx cx xs h1 (by have := (h3.len oa ob.n2 (by omega)).2; omega) h7 o h9).mono fun e' w' hq => ?_
  obtain ⟨A', n', c', H', q1, q2, q3, q4, q5⟩ := hq
  exact ⟨o.s, A', n', c', q1, h10, o.l, ys, o.z, H', h2, q2, h4.ext h12, h11, by have := h12.2; omega, q5, h8.mono q4, q3⟩
/-- .. and then a hears y -/
theorem hear_ay {L : List Item} {ys vs : List Int} {H : List (Nat × Obj)} {vm : Nat} {Av : Option Addr} {nv cv : Nat} (oa : (newS A B NA).Ok) (ob : (newS B A NB).Ok) (hs : Hs A B NA NB sa a) (hl : L.length ≤ 1000) (h2 : ys.length = ny) (h3 : vs.length = nv) (h4 : Ms B A NB NA L ym ys) (h5 : Ms B A NB NA L vm vs) (h6 : Tw2 w0 nb L none ba bb Z a b H V) (h7 : SlH H Ay cy ys) (h8 : SlH H Av cv vs) :
    Calls Tryd.prog 16 #[skv a, .pointer (some ⟨nb, 0, none⟩), .slice Ay ny cy] V fun e w' => ∃ (a' : Sk) (A' : Option Addr) (n c : Nat), e = .returned (.tuple #[skv a', .slice A' n c]) ∧ Hs A B NA NB (hst sa ym) a' ∧
      ∃ L' ws H', ws.length = n ∧ Ms A B NA NB L' (hms sa ym) ws ∧ Ms B A NB NA L' vm vs ∧ L'.length ≤ L.length + 1 ∧ Tw2 w0 nb L' none ba bb Z a b H' w' ∧ SlH H' A' c ws ∧ SlH H' Av cv vs ∧ ∀ p ∈ H, p ∈ H' := by
  obtain ⟨o, h9, h10, h11, h12⟩ := hear_abs oa ob hs h4 (by omega)
  refine (hear_m h6 a hs.ok (by omega) Ay ny cy ys h2 (by have := (h4.len ob oa.n2 (by omega)).2; omega) h7 o h9).mono fun e' w' hq => ?_
  obtain ⟨A', n', c', H', q1, q2, q3, q4, q5⟩ := hq
  exact ⟨o.s, A', n', c', q1, h10, o.l, o.z, H', q2, h11, h5.ext h12, h12.2, q5, q3, h8.mono q4, q4⟩
theorem stp_go {l t x y : Nat} (h : stp l t sa sb x y = true) (hn : ¬ (hst sa y = 3 ∧ hst sb x = 3)) : win l t (hst sa y) (hst sb x) (or0 (hms sa y) (ags (hst sa y))) (or0 (hms sb x) (ags (hst sb x))) = true := by
  unfold stp at h
  simp only [Bool.or_eq_true, Bool.and_eq_true, beq_iff_eq] at h
  rcases h with h | h
  · exact absurd h hn
  · exact h
end
end Go.Proofs.YtdiilgedicfekaaDoor
