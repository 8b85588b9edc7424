/-
  What every call keeps of a box's list of bindings: no more than may be, ports all different and within the box's, at most sixteen seen. Conditions: as each lemma states.
-/
import Derived.Test.YtidhdgcmagpkgaaDro
import Derived.Test.YtidhdgcmagpkgaaAsd
namespace Go.Proofs.Ytidhdgcmagpkgaa
open Go.RowKit
set_option linter.unusedVariables false

structure Okb (x : Bx) (M : List Bn) : Prop where
  len : (M.length : Int) ≤ x.most
  ports : (M.map Bn.port).Nodup
  rng : ∀ d ∈ M, x.lo ≤ d.port ∧ d.port ≤ x.hi ∧ d.seen.length ≤ 16
theorem Okb.nil {x : Bx} (h : 0 ≤ x.most) : Okb x [] := ⟨by simpa using h, List.nodup_nil, by simp⟩
theorem Okb.okM {x : Bx} {M : List Bn} (h : Okb x M) (hm : x.most ≤ 100) : OkM M := ⟨by have := h.len; omega, fun d hd => (h.rng d hd).2.2⟩
theorem Okb.sub {x : Bx} {M M' : List Bn} (h : Okb x M) (hs : M'.Sublist M) : Okb x M' :=
  ⟨by have := h.len; have := hs.length_le; omega, h.ports.sublist (hs.map _), fun d hd => h.rng d (hs.subset hd)⟩
theorem Okb.live {x : Bx} {M : List Bn} (h : Okb x M) (t : Int) : Okb x (liveM M t) := h.sub List.filter_sublist
theorem updF_map {f : Bn → Bool} {u : Bn → Bn} (hu : ∀ d, (u d).port = d.port) : ∀ M : List Bn, (updF f u M).map Bn.port = M.map Bn.port
  | [] => rfl
  | d :: M => by
    unfold updF
    split
    · simp [hu]
    · simp [updF_map hu M]
theorem Okb.upd {x : Bx} {M : List Bn} {f : Bn → Bool} {u : Bn → Bn} (h : Okb x M) (hu : ∀ d, (u d).port = d.port) (hs : ∀ d, d.seen.length ≤ 16 → (u d).seen.length ≤ 16) : Okb x (updF f u M) := by
  refine ⟨by rw [updF_len]; exact h.len, by rw [updF_map hu]; exact h.ports, fun e he => ?_⟩
  rcases mem_updF he with he | ⟨d, hd, rfl⟩
  · exact h.rng e he
  · have := h.rng d hd
    rw [hu]
    exact ⟨this.1, this.2.1, hs d this.2.2⟩
theorem add_is {x : Bx} {M : List Bn} {s p : Int} (hx : x.lo ≤ x.hi) (h : addM x M s = some p) : (M.length : Int) < x.most ∧ freeM M p = true ∧ x.lo ≤ p ∧ p ≤ x.hi := by
  unfold addM at h
  cases hq : chooseM x M s with
  | none => rw [hq] at h; simp at h
  | some q =>
    rw [hq] at h
    by_cases hl : (M.length : Int) < x.most
    · simp only [if_pos hl, Option.some.injEq] at h
      subst h
      exact ⟨hl, choose_is hx hq⟩
    · simp [if_neg hl] at h
theorem Okb.snoc {x : Bx} {M : List Bn} {s p : Int} (h : Okb x M) (hx : x.lo ≤ x.hi) (ha : addM x M s = some p) (d : Bn) (hd : d.port = p) (hs : d.seen.length ≤ 16) : Okb x (M ++ [d]) := by
  obtain ⟨h1, h2, h3, h4⟩ := add_is hx ha
  refine ⟨by simp; omega, ?_, fun e he => ?_⟩
  · rw [List.map_append, List.nodup_append]
    refine ⟨h.ports, by simp, fun q hq r hr => ?_⟩
    obtain ⟨e, he, rfl⟩ := List.mem_map.1 hq
    have hr2 : r = p := by simpa [hd] using hr
    rw [hr2]
    exact is_free h2 e he
  · rcases List.mem_append.1 he with he | he
    · exact h.rng e he
    · simp only [List.mem_singleton] at he
      rw [he, hd]
      exact ⟨h3, h4, hs⟩
section
variable {x : Bx} {M : List Bn} {now t : Int} {a b : A2}
theorem Okb.out (h : Okb x M) (hx : x.lo ≤ x.hi) : Okb x (outS x now M t a b).2.2.2 := by
  unfold outS
  split
  · unfold outM
    split
    · split
      · exact (h.live t).upd (fun d => rfl) (fun d hd => seeL_len hd b)
      · split
        · rename_i p hp
          exact (h.live t).snoc hx hp _ rfl (seeL_len (Nat.zero_le _) b)
        · exact h.live t
    · exact h.live t
  · exact h
theorem Okb.ask {s u : Int} (h : Okb x M) (hx : x.lo ≤ x.hi) : Okb x (askS x now M t a s u).2.2.2 := by
  unfold askS
  split
  · unfold askM
    split
    · split
      · exact (h.live t).upd (fun d => rfl) (fun d hd => hd)
      · split
        · rename_i p hp
          exact (h.live t).snoc hx hp _ rfl (Nat.zero_le _)
        · exact h.live t
    · exact h.live t
  · exact h
theorem Okb.in_ {p : Int} {f : A2} (h : Okb x M) : Okb x (inS x now M t p f).2.2.2 := by
  unfold inS
  split
  · exact h.live t
  · exact h
theorem Okb.drop (h : Okb x M) : Okb x (dropS now M t a).2.2 := by
  unfold dropS
  split
  · exact (h.live t).sub List.eraseP_sublist
  · exact h
end
end Go.Proofs.Ytidhdgcmagpkgaa
