/-
  Words for NatBack: what the steps ahead leave, what Out then answers, who comes back in. Conditions: as each lemma states.
-/
import Derived.Test.YtemlnkcokeckmaaBck
namespace Go.Proofs.Ytemlnkcokeckmaa
open Go.RowKit
set_option linter.unusedVariables false

theorem seeL_mem {l : List A2} {b c : A2} (h : c ∈ seeL l b) : c ∈ l ∨ c = b := by
  unfold seeL at h
  rcases List.mem_append.1 h with h | h
  · refine .inl ?_
    have h2 : c ∈ l.filter (fun p => !decide (p = b)) := by
      unfold cut16 at h
      split at h
      · exact List.mem_of_mem_drop h
      · exact h
    exact (List.mem_filter.1 h2).1
  · exact .inr (by simpa using h)
theorem seeL_new (l : List A2) (b : A2) : b ∈ seeL l b := by unfold seeL; simp
/-- what the steps ahead leave: a has asked for nothing; whoever is seen is one of sn -/
structure Bkp (x : Bx) (a : A2) (sn : List A2) (M : List Bn) : Prop where
  ok : Okb x M
  seen : ∀ d ∈ M, ∀ c ∈ d.seen, c ∈ sn
  none : ∀ d ∈ M, d.inn = a → d.asked = false
section
variable {x : Bx} {M : List Bn} {now t : Int} {a b c : A2} {sn : List A2}
theorem Bkp.live (h : Bkp x a sn M) (t : Int) : Bkp x a sn (liveM M t) :=
  ⟨h.ok.live t, fun d hd => h.seen d (List.mem_filter.1 hd).1, fun d hd => h.none d (List.mem_filter.1 hd).1⟩
theorem Bkp.out (h : Bkp x a sn M) (hx : x.lo ≤ x.hi) (hb : b ∈ sn) : Bkp x a sn (outS x now M t c b).2.2.2 := by
  refine ⟨h.ok.out hx, fun d hd => ?_, fun d hd => ?_⟩
  all_goals unfold outS at hd
  all_goals split at hd
  · unfold outM at hd
    split at hd
    · split at hd
      · rcases mem_updF hd with hd | ⟨e, he, rfl⟩
        · exact (h.live t).seen d hd
        · intro f hf
          rcases seeL_mem hf with hf | rfl
          · exact (h.live t).seen e he f hf
          · exact hb
      · split at hd
        · rcases List.mem_append.1 hd with hd | hd
          · exact (h.live t).seen d hd
          · simp only [List.mem_singleton] at hd
            rw [hd]
            intro f hf
            rcases seeL_mem hf with hf | rfl
            · simp [newB] at hf
            · exact hb
        · exact (h.live t).seen d hd
    · exact (h.live t).seen d hd
  · exact h.seen d hd
  · unfold outM at hd
    split at hd
    · split at hd
      · rcases mem_updF hd with hd | ⟨e, he, rfl⟩
        · exact (h.live t).none d hd
        · exact (h.live t).none e he
      · split at hd
        · rcases List.mem_append.1 hd with hd | hd
          · exact (h.live t).none d hd
          · simp only [List.mem_singleton] at hd
            rw [hd]
            intro _; rfl
        · exact (h.live t).none d hd
    · exact (h.live t).none d hd
  · exact h.none d hd
theorem Bkp.ask {s u : Int} (h : Bkp x a sn M) (hx : x.lo ≤ x.hi) (hc : ¬ c = a) : Bkp x a sn (askS x now M t c s u).2.2.2 := by
  refine ⟨h.ok.ask hx, fun d hd => ?_, fun d hd => ?_⟩
  all_goals unfold askS at hd
  all_goals split at hd
  · unfold askM at hd
    split at hd
    · split at hd
      · rcases mem_updF hd with hd | ⟨e, he, rfl⟩
        · exact (h.live t).seen d hd
        · exact (h.live t).seen e he
      · split at hd
        · rcases List.mem_append.1 hd with hd | hd
          · exact (h.live t).seen d hd
          · simp only [List.mem_singleton] at hd
            rw [hd]
            intro f hf
            simp [askB] at hf
        · exact (h.live t).seen d hd
    · exact (h.live t).seen d hd
  · exact h.seen d hd
  · unfold askM at hd
    split at hd
    · split at hd
      · rcases mem_updF hd with hd | ⟨e, he, rfl⟩
        · exact (h.live t).none d hd
        · exact (h.live t).none e he
      · split at hd
        · rcases List.mem_append.1 hd with hd | hd
          · exact (h.live t).none d hd
          · simp only [List.mem_singleton] at hd
            rw [hd]
            intro he
            exact absurd he hc
        · exact (h.live t).none d hd
    · exact (h.live t).none d hd
  · exact h.none d hd
/-- one whose port is d's is d -/
theorem Okb.one (h : Okb x M) {d e : Bn} (hd : d ∈ M) (he : e ∈ M) (hp : e.port = d.port) : e = d := by
  obtain ⟨i, hi, rfl⟩ := List.getElem_of_mem hd
  obtain ⟨j, hj, rfl⟩ := List.getElem_of_mem he
  have h1 := (List.nodup_iff_pairwise_ne.1 h.ports)
  rw [List.pairwise_map] at h1
  have hP := List.pairwise_iff_getElem.1 h1
  rcases Nat.lt_trichotomy i j with h2 | rfl | h2
  · exact absurd hp.symm (hP i j hi hj h2)
  · rfl
  · exact absurd hp (hP j i hj hi h2)
/-- what In answers at a binding's port -/
theorem bk_in (h : Okb x M) {d : Bn} (hd : d ∈ M) (hg : goes now t = true) (hb : mayA b = true) (hu : t < d.until_) :
    inS x now M t d.port b = if letsB d b x.filter = true then (d.inn, 0, t, liveM M t) else ((0, 0), 8, t, liveM M t) := by
  have hl : d ∈ liveM M t := List.mem_filter.2 ⟨hd, by simp; omega⟩
  unfold inS
  rw [if_pos hg]
  unfold inM
  rw [if_pos hb]
  by_cases hc : letsB d b x.filter = true
  · have h1 : (liveM M t).find? (comesF x d.port b) = some d := by
      cases hf : (liveM M t).find? (comesF x d.port b) with
      | none =>
        rw [List.find?_eq_none] at hf
        exact absurd (by simp [comesF, hc]) (hf d hl)
      | some e =>
        have h2 := List.find?_some hf
        have h3 := List.mem_of_find?_eq_some hf
        unfold comesF at h2
        rw [Bool.and_eq_true, decide_eq_true_eq] at h2
        rw [(h.live t).one hl h3 h2.1]
    rw [h1, if_pos hc]
  · have h1 : (liveM M t).find? (comesF x d.port b) = none := by
      rw [List.find?_eq_none]
      intro e he h2
      unfold comesF at h2
      rw [Bool.and_eq_true, decide_eq_true_eq] at h2
      rw [(h.live t).one hl he h2.1] at h2
      exact hc h2.2
    rw [h1, if_neg hc]
/-- what Out answers one who has asked for nothing -/
theorem bk_out (h : Bkp x a sn M) (hx : x.lo ≤ x.hi) (hg : goes now t = true) (hl : t + x.life ≤ 1099511627776) :
    (outS x now M t a b = ((0, 0), 1, t, liveM M t) ∨ outS x now M t a b = ((0, 0), 10, t, liveM M t)) ∨
    (mayA b = true ∧ ∃ M' d, outS x now M t a b = ((x.host, d.port), 0, t, M') ∧ d ∈ M' ∧ d.inn = a ∧ d.asked = false ∧ d.until_ = t + x.life ∧ b ∈ d.seen ∧ (∀ c ∈ d.seen, c ∈ sn ∨ c = b)) := by
  have hL := h.live t
  unfold outS
  rw [if_pos hg]
  generalize liveM M t = L at *
  unfold outM
  by_cases hm : mayA a = true ∧ mayA b = true
  · rw [if_pos hm]
    cases hf : L.find? (wayF x L a b) with
    | some d =>
      refine .inr ⟨hm.2, updF (wayF x L a b) (sentB x t b) L, sentB x t b d, rfl, ?_⟩
      have hd := List.mem_of_find?_eq_some hf
      have hfd := List.find?_some hf
      have hda : d.inn = a := by
        unfold wayF at hfd
        split at hfd
        · unfold askF at hfd; rw [Bool.and_eq_true, decide_eq_true_eq] at hfd; exact hfd.1
        · unfold toF at hfd; rw [Bool.and_eq_true, decide_eq_true_eq] at hfd; exact hfd.1
      have has := hL.none d hd hda
      obtain ⟨_, ls, rs, rfl, hls⟩ := List.find?_eq_some_iff_append.1 hf
      refine ⟨?_, hda, has, ?_, seeL_new _ _, fun c hc => ?_⟩
      · rw [updF_at (fun c hc => by simpa using hls c hc) hfd]; simp
      · show (if d.asked = true then d.until_ else min (t + x.life) 1099511627776) = _
        rw [has, if_neg (by simp), Int.min_eq_left hl]
      · rcases seeL_mem hc with hc | hc
        · exact .inl (hL.seen d hd c hc)
        · exact .inr hc
    | none =>
      cases hp : addM x L a.2 with
      | none => exact .inl (.inr rfl)
      | some p =>
        refine .inr ⟨hm.2, _, sentB x t b (newB x a b p), rfl, by simp, rfl, rfl, ?_, seeL_new _ _, fun c hc => ?_⟩
        · show (if (false : Bool) = true then (0 : Int) else min (t + x.life) 1099511627776) = _
          rw [if_neg (by simp), Int.min_eq_left hl]
        · rcases seeL_mem hc with hc | hc
          · simp [newB] at hc
          · exact .inr hc
  · rw [if_neg hm]
    exact .inl (.inl rfl)
end
end Go.Proofs.Ytemlnkcokeckmaa
