/-
  What ShakeOver goes by. Conditions: as each states.
-/
import Derived.Test.YtdiilgedicfekaaDoorNSsm
namespace Go.Proofs.YtdiilgedicfekaaDoor
open Go.RowKit Go.Maps
set_option linter.unusedVariables false
set_option maxRecDepth 100000
section
variable {w0 : World} {nb : Nat} {L : List Item} {R : Option (Nat × List Item)} {os : List (Nat × Obj)} {V : World}
theorem sent_none {n0 : Nat} {v : Value} {w' : World} (h : Sent w0 nb L R os n0 [] v w') : ∃ A k, v = .slice A 0 k ∧ Sd w0 nb L R os w' := by
  obtain ⟨A, c, ho, rfl, _, _, _, _, _, h7⟩ := h
  exact ⟨A, c, rfl, h7.sub (fun p hp => List.mem_append_right _ hp)⟩
theorem over_hear (h : Sd w0 nb L R os V) (c : Sk) (hc : c.Ok) (h4 : c.st = 4) (hL : L.length ≤ 1000000) (A : Option Addr) (n k : Nat) (zs : List Int) (hb : Bts V A n zs) (h1 : n ≤ k) (h2 : k ≤ maxLen) (h3 : A = none → n = 0 ∧ k = 0) (hz : zs.length ≤ 1000000) :
    Calls Tryd.prog 16 #[skv c, .pointer (some ⟨nb, 0, none⟩), .slice A n k] V fun e w' => ∃ A k, e = .returned (.tuple #[skv c, .slice A 0 k]) ∧ Sd w0 nb L R os w' := by
  refine (hear_s c A n k zs hb h1 h2 h3 hz h hc hL).mono fun e w' hq => ?_
  obtain ⟨v, e1, e2⟩ := hq
  rw [hear_over h4] at e1 e2
  obtain ⟨A, k, rfl, h5⟩ := sent_none e2
  exact ⟨A, k, e1, h5⟩
theorem over_call (h : Sd w0 nb L R os V) (c : Sk) (hc : c.Ok) (h4 : c.st = 4) (hL : L.length ≤ 1000000) :
    Calls Tryd.prog 14 #[skv c, .pointer (some ⟨nb, 0, none⟩)] V fun e w' => ∃ A k, e = .returned (.tuple #[skv c, .slice A 0 k]) ∧ Sd w0 nb L R os w' := by
  refine (call_s c h hc hL).mono fun e w' hq => ?_
  obtain ⟨v, e1, e2⟩ := hq
  have : callO c L = ⟨c, [], L⟩ := if_neg (by omega)
  rw [this] at e1 e2
  obtain ⟨A, k, rfl, h5⟩ := sent_none e2
  exact ⟨A, k, e1, h5⟩
theorem none_again (h : Sd w0 nb L R os V) (c : Sk) (hc : c.Ok) (h4 : c.st = 4 ∨ c.st = 0) (hL : L.length ≤ 1000000) :
    Calls Tryd.prog 18 #[skv c, .pointer (some ⟨nb, 0, none⟩)] V fun e w' => ∃ A k, e = .returned (.slice A 0 k) ∧ Sd w0 nb L R os w' := by
  refine (again_s c h hc hL).mono fun e w' hq => ?_
  obtain ⟨v, e1, e2⟩ := hq
  have : againO c L = ⟨c, [], L⟩ := (if_neg (by omega)).trans (if_neg (by omega))
  rw [this] at e2
  obtain ⟨A, k, rfl, h5⟩ := sent_none e2
  exact ⟨A, k, e1, h5⟩
theorem call_any (h : Sd w0 nb L R os V) (s : Sk) (hs : s.Ok ∨ (s.st = 0 ∧ s.may = false)) (hL : L.length ≤ 1000) :
    Calls Tryd.prog 14 #[skv s, .pointer (some ⟨nb, 0, none⟩)] V fun e w' => ∃ (o : Out) (A : Option Addr) (k : Nat) (ho : List (Nat × Obj)), e = .returned (.tuple #[skv o.s, .slice A o.z.length k]) ∧ o.z.length ≤ k ∧ k ≤ maxLen ∧ (A = none → o.z.length = 0 ∧ k = 0) ∧ (∀ W : World, (∀ p ∈ ho, W.heap[p.1]? = some p.2) → Bts W A o.z.length o.z) ∧ (∀ p ∈ ho, V.heap.size ≤ p.1) ∧ Sd w0 nb o.l R (ho ++ os) w' ∧ o.l.length ≤ L.length + 1 ∧ o.z.length ≤ 1200 ∧ o.s.own = s.own ∧ o.s.oth = s.oth ∧ o.s.non = s.non ∧ o.s.ech = s.ech := by
  rcases hs with hs | ⟨h0, hm⟩
  · refine (call_s s h hs (by omega)).mono fun e w' hq => ?_
    obtain ⟨v, e1, A, c, ho, rfl, q2, q3, q4, q5, q6, q7⟩ := hq
    refine ⟨callO s L, A, c, ho, e1, q2, q3, q4, q5, q6, q7, ?_⟩
    by_cases h0 : s.st = 0
    · have e : callO s L = ⟨{ s with st := 1 }, helloB L s, helloL L s⟩ := if_pos h0
      rw [e]
      exact ⟨mint_len' _ _, (sent_len hs (by omega)).2, rfl, rfl, rfl, rfl⟩
    · have e : callO s L = ⟨s, [], L⟩ := if_neg h0
      rw [e]
      exact ⟨by simp, by simp, rfl, rfl, rfl, rfl⟩
  · refine (call_no s h h0 hm).mono fun e w' hq => ?_
    obtain ⟨v, e1, A, c, ho, rfl, q2, q3, q4, q5, q6, q7⟩ := hq
    exact ⟨⟨s, [], L⟩, A, c, ho, e1, q2, q3, q4, q5, q6, q7, by simp, by simp, rfl, rfl, rfl, rfl⟩
end
theorem noS_may : noS.may = false := by decide
end Go.Proofs.YtdiilgedicfekaaDoor
