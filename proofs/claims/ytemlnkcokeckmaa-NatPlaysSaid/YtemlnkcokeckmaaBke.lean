/-
  Words for NatBack's end: who was seen comes in; one of host 77, to whom nothing was sent, just where the box filters by nothing; what All tells rises by ports. Conditions: as each lemma states.
-/
import Derived.Test.YtemlnkcokeckmaaBkw
import Derived.Test.YtemlnkcokeckmaaAlw
namespace Go.Proofs.Ytemlnkcokeckmaa
open Go.RowKit
set_option linter.unusedVariables false

theorem lets_seen {d : Bn} {b : A2} {f : Int} (h : b ∈ d.seen) : letsB d b f = true := by
  unfold letsB
  rw [Bool.or_eq_true]
  exact .inr (List.any_eq_true.2 ⟨b, h, by simp⟩)
theorem lets77 {d : Bn} {b : A2} {f : Int} (ha : d.asked = false) (hb : b ∈ d.seen) (hn : ∀ c ∈ d.seen, c.1 ≠ 77) : letsB d (77, 1) f = decide (f = 0) := by
  unfold letsB
  rw [ha, Bool.false_or, Bool.eq_iff_iff, List.any_eq_true, decide_eq_true_eq]
  constructor
  · rintro ⟨c, hc, h⟩
    rw [decide_eq_true_eq] at h
    unfold partA at h
    by_cases h0 : f = 0
    · exact h0
    · rw [if_neg h0, if_neg h0] at h
      by_cases h1 : f = 1
      · rw [if_pos h1, if_pos h1] at h
        simp only [Prod.mk.injEq, and_true] at h
        exact absurd h (hn c hc)
      · rw [if_neg h1, if_neg h1] at h
        exact absurd (by rw [h]) (hn c hc)
  · intro h
    exact ⟨b, hb, by rw [decide_eq_true_eq]; unfold partA; rw [if_pos h, if_pos h]⟩
section
variable {x : Bx} {M l : List Bn}
theorem all_rise (hok : Okb x M) (hp : l.Perm M) (hr : RiseP l) (i j : Nat) (b c : Bn) (hij : i < j) (h1 : l[i]? = some b) (h2 : l[j]? = some c) : b.port < c.port := by
  have h3 := hr i j b c hij h1 h2
  have hnd : (l.map Bn.port).Nodup := (hp.map _).nodup_iff.2 hok.ports
  rcases Int.lt_or_eq_of_le h3 with h | h
  · exact h
  · exfalso
    obtain ⟨hi, rfl⟩ := List.getElem?_eq_some_iff.1 h1
    obtain ⟨hj, rfl⟩ := List.getElem?_eq_some_iff.1 h2
    have h4 := List.nodup_iff_pairwise_ne.1 hnd
    rw [List.pairwise_map] at h4
    exact List.pairwise_iff_getElem.1 h4 i j hi hj hij h
theorem all_one (hok : Okb x M) (hp : l.Perm M) {d e : Bn} (hd : d ∈ M) (he : e ∈ l) (h : e.port = d.port) : e = d := hok.one hd (hp.mem_iff.1 he) h
end
theorem bs_at {V : World} {A : Option Addr} {n c : Nat} {l : List Bn} (h : IsBs V (.slice A n c) l) {j : Nat} {e : Bn} (he : l[j]? = some e) :
    ∃ b, A = some ⟨b, 0, none⟩ ∧ V.cell? ⟨b, j * 7 + 4, none⟩ = some (.int .i64 e.port) ∧ V.cell? ⟨b, j * 7 + 6, none⟩ = some (.bool e.asked) := by
  obtain ⟨A', c', e1, _, _, h4⟩ := h
  cases e1
  have hj := (List.getElem?_eq_some_iff.1 he).1
  obtain ⟨b, rfl, _, h5⟩ := h4 (by omega)
  exact ⟨b, rfl, (h5 j e he 4 (by omega)).trans rfl, (h5 j e he 6 (by omega)).trans rfl⟩
theorem neq_adr (p q : A2) (W : World) : (binOp .neq 38 (.agg #[.int .u32 p.1, .int .i64 p.2]) (.agg #[.int .u32 q.1, .int .i64 q.2])).run Try.prog W = .ok (.bool (!decide (p = q))) W := by
  have hm := noGuard38
  obtain ⟨p1, p2⟩ := p
  obtain ⟨q1, q2⟩ := q
  dsimp only
  by_cases h1 : p1 = q1
  · subst h1
    by_cases h2 : p2 = q2
    · subst h2
      have e : (!decide (((p1, p2) : A2) = (p1, p2))) = false := by simp
      rw [e]
      go_simp
    · have e : (!decide (((p1, p2) : A2) = (p1, q2))) = true := by simp [h2]
      rw [e]
      go_simp
  · have e : (!decide (((p1, p2) : A2) = (q1, q2))) = true := by simp [h1]
    rw [e]
    go_simp
/-- was anything sent to host 77, so far -/
def sent77 (b : A2) (s : List A2) : Bool := (b.1 == 77) || s.any (fun c => c.1 == 77)
theorem sent77_snoc (b : A2) (s : List A2) (c : A2) : sent77 b (s ++ [c]) = (sent77 b s || (c.1 == 77)) := by
  unfold sent77
  rw [List.any_append]
  simp [Bool.or_assoc]
theorem sent77_no {b : A2} {s : List A2} (h : sent77 b s = false) : b.1 ≠ 77 ∧ ∀ c ∈ s, c.1 ≠ 77 := by
  unfold sent77 at h
  rw [Bool.or_eq_false_iff] at h
  refine ⟨by simpa using h.1, fun c hc e => ?_⟩
  have := List.any_eq_false.1 h.2 c hc
  simp [e] at this
/-- none of a box's blocks holds bindings that are told -/
theorem foot_ty {V : World} {nb : Nat} {x : Bx} {now : Int} {kv : Value} {L : List Nd} (h : Na V nb x now kv L) {k : Nat} (hk : Foot nb kv L k) {C : Array Value} (hC : V.heap[k]? = some (.cells C 54 (0, 0))) : False := by
  rcases hk with rfl | hk | ⟨d, hd, rfl | hk⟩
  · rw [h.top] at hC
    simp at hC
  · obtain ⟨C', hC'⟩ := own_obj h.row hk
    rw [hC'] at hC
    simp at hC
  · rw [(h.nds d hd).own] at hC
    simp at hC
  · obtain ⟨C', hC'⟩ := own_obj (h.nds d hd).row hk
    rw [hC'] at hC
    simp at hC
theorem hold_bs {w0 V : World} {nb : Nat} {x : Bx} {now : Int} {M : List Bn} {os : List (Nat × Obj)} {v : Value} {l : List Bn} (h : Pl w0 nb x now M os V) (hb : IsBs V v l) :
    ∃ OB, Pl w0 nb x now M (OB ++ os) V ∧ ∀ now' M' W, Pl w0 nb x now' M' (OB ++ os) W → IsBs W v l := by
  have hb2 := hb
  obtain ⟨A, c, rfl, h1, h2, h3⟩ := hb
  rcases Nat.eq_zero_or_pos l.length with h0 | h0
  · exact ⟨[], h, fun _ _ W _ => ⟨A, c, rfl, h1, h2, fun hh => by omega⟩⟩
  · obtain ⟨b, rfl, ⟨C, hC⟩, h4⟩ := h3 h0
    refine ⟨[(b, .cells C 54 (0, 0))], ?_, fun _ _ W hW => ⟨_, c, rfl, h1, h2, fun _ => ⟨b, rfl, ⟨C, hW.held (b, .cells C 54 (0, 0)) (by simp)⟩, fun j d hj i hi => ?_⟩⟩⟩
    · obtain ⟨kv, L, g1, g2, g3, g4⟩ := h.bo
      refine ⟨⟨kv, L, g1, g2, g3, fun p hp => ?_⟩, fun p hp => ?_, h.low⟩
      · rcases List.mem_cons.1 (show p ∈ (b, Obj.cells C 54 (0, 0)) :: os from hp) with rfl | hp
        · exact fun hf => foot_ty g1 hf hC
        · exact g4 p hp
      · rcases List.mem_cons.1 (show p ∈ (b, Obj.cells C 54 (0, 0)) :: os from hp) with rfl | hp
        · exact hC
        · exact h.held p hp
    · have hw : W.heap[b]? = some (.cells C 54 (0, 0)) := hW.held (b, .cells C 54 (0, 0)) (by simp)
      exact (World.cell?_of_block (w := V) (a := ⟨b, j * 7 + i, none⟩) (hw.trans hC.symm)).trans (h4 j d hj i hi)
end Go.Proofs.Ytemlnkcokeckmaa
