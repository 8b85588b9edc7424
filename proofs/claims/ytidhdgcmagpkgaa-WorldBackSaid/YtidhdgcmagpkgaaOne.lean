/-
  What NatOne's walk is told: one who sends to some others has one binding for each way to look at them. Conditions: as each lemma states.
-/
import Derived.Test.YtidhdgcmagpkgaaLas
namespace Go.Proofs.Ytidhdgcmagpkgaa
open Go.RowKit
set_option linter.unusedVariables false

/-- so many numbers in a row are in a list: it is as long -/
theorem many_in (lo : Int) : ∀ (n : Nat) (M : List Int), (∀ i : Nat, i < n → lo + (i : Int) ∈ M) → n ≤ M.length
  | 0, _, _ => Nat.zero_le _
  | n + 1, M, h => by
    have h1 := h n (Nat.lt_succ_self n)
    have h2 := many_in lo n (M.erase (lo + (n : Int))) (fun i hi => (List.mem_erase_of_ne (by omega)).2 (h i (by omega)))
    have h3 := List.length_erase_of_mem h1
    have h4 := List.length_pos_of_mem h1
    omega
theorem not_free {M : List Bn} {p : Int} (h : freeM M p = false) : p ∈ M.map Bn.port := by
  unfold freeM at h
  rw [List.all_eq_false] at h
  obtain ⟨b, hb, h⟩ := h
  exact List.mem_map.2 ⟨b, hb, by simpa using h⟩
theorem is_free {M : List Bn} {p : Int} (h : freeM M p = true) : ∀ b ∈ M, b.port ≠ p := by
  unfold freeM at h
  rw [List.all_eq_true] at h
  intro b hb
  simpa using h b hb
/-- where no port is free, there are as many bindings -/
theorem choose_full {x : Bx} {M : List Bn} {s : Int} (h : chooseM x M s = none) : ports x ≤ M.length := by
  unfold chooseM at h
  rw [Option.map_eq_none_iff, List.find?_eq_none] at h
  have h2 := many_in x.lo (ports x) (M.map Bn.port) (fun i hi => by
    refine not_free ?_
    have := h (i + 1) (List.mem_range.2 (by omega))
    simpa [cand] using this)
  rwa [List.length_map] at h2
/-- the one that is chosen is free, and one of the box's -/
theorem choose_is {x : Bx} {M : List Bn} {s p : Int} (hx : x.lo ≤ x.hi) (h : chooseM x M s = some p) : freeM M p = true ∧ x.lo ≤ p ∧ p ≤ x.hi := by
  unfold chooseM at h
  rw [Option.map_eq_some_iff] at h
  obtain ⟨k, h1, rfl⟩ := h
  have h2 := List.find?_some h1
  have h3 := List.mem_range.1 (List.mem_of_find?_eq_some h1)
  refine ⟨h2, ?_⟩
  have h4 : (ports x : Int) = x.hi - x.lo + 1 := by unfold ports; omega
  unfold cand
  split
  · exact las_wish x hx s
  · omega
theorem add_some {x : Bx} {M : List Bn} {s : Int} (hx : x.lo ≤ x.hi) (hm : (M.length : Int) < x.most) (hp : M.length < ports x) : ∃ p, addM x M s = some p ∧ freeM M p = true ∧ x.lo ≤ p ∧ p ≤ x.hi := by
  unfold addM
  cases hc : chooseM x M s with
  | none => have := choose_full hc; omega
  | some p => exact ⟨p, by simp only [if_pos hm], choose_is hx hc⟩

/-- bindings of one who has asked for none, all till u: their ways and ports differ -/
structure Ones (x : Bx) (a : A2) (u : Int) (M : List Bn) : Prop where
  all : ∀ d ∈ M, d.inn = a ∧ d.asked = false ∧ d.until_ = u ∧ d.seen.length ≤ 16
  ports : M.Pairwise (fun d e => d.port ≠ e.port ∧ d.to ≠ e.to)
theorem Ones.nil (x : Bx) (a : A2) (u : Int) : Ones x a u [] := ⟨by simp, List.Pairwise.nil⟩
theorem pair_set {α : Type} {R : α → α → Prop} {u : α → α} {f : α → Bool} (hR : ∀ d e, R d e → R (u d) e ∧ R d (u e)) : ∀ {M : List α}, M.Pairwise R → (updF f u M).Pairwise R
  | [], _ => List.Pairwise.nil
  | d :: M, h => by
    rw [List.pairwise_cons] at h
    unfold updF
    split
    · rw [List.pairwise_cons]
      exact ⟨fun e he => (hR d e (h.1 e he)).1, h.2⟩
    · rw [List.pairwise_cons]
      refine ⟨fun e he => ?_, pair_set hR h.2⟩
      have : ∀ (M : List α), (∀ e ∈ M, R d e) → ∀ e ∈ updF f u M, R d e := by
        intro M
        induction M with
        | nil => intro _ e he; cases he
        | cons c M ih =>
          intro hM e he
          unfold updF at he
          split at he
          · rcases List.mem_cons.1 he with rfl | he
            · exact (hR d c (hM c (by simp))).2
            · exact hM e (by simp [he])
          · rcases List.mem_cons.1 he with rfl | he
            · exact hM _ (by simp)
            · exact ih (fun e he => hM e (by simp [he])) e he
      exact this M h.1 e he
theorem mem_updF {α : Type} {f : α → Bool} {u : α → α} : ∀ {M : List α} {e : α}, e ∈ updF f u M → e ∈ M ∨ ∃ d ∈ M, e = u d
  | [], e, h => by cases h
  | c :: M, e, h => by
    unfold updF at h
    split at h
    · rcases List.mem_cons.1 h with rfl | h
      · exact .inr ⟨c, by simp, rfl⟩
      · exact .inl (by simp [h])
    · rcases List.mem_cons.1 h with rfl | h
      · exact .inl (by simp)
      · rcases mem_updF h with h | ⟨d, hd, rfl⟩
        · exact .inl (by simp [h])
        · exact .inr ⟨d, by simp [hd], rfl⟩
theorem updF_mem {α : Type} {f : α → Bool} {u : α → α} : ∀ {M : List α} {e : α}, e ∈ M → e ∈ updF f u M ∨ u e ∈ updF f u M
  | [], e, h => by cases h
  | c :: M, e, h => by
    unfold updF
    split
    · rcases List.mem_cons.1 h with rfl | h
      · exact .inr (by simp)
      · exact .inl (by simp [h])
    · rcases List.mem_cons.1 h with rfl | h
      · exact .inl (by simp)
      · rcases updF_mem (f := f) (u := u) h with h | h
        · exact .inl (by simp [h])
        · exact .inr (by simp [h])
section
variable {x : Bx} {a b : A2} {M : List Bn} {t : Int}
theorem Ones.live {u : Int} (h : Ones x a u M) (hu : t < u) : liveM M t = M := by
  unfold liveM
  rw [List.filter_eq_self]
  intro d hd
  have := (h.all d hd).2.2.1
  simp; omega
theorem Ones.ok {u : Int} (h : Ones x a u M) (hl : M.length ≤ 100) : OkM M := ⟨hl, fun d hd => (h.all d hd).2.2.2⟩
theorem Ones.way {u : Int} (h : Ones x a u M) (b : A2) : wayF x M a b = toF x a b := by
  unfold wayF
  rw [if_neg]
  intro hc
  rw [List.any_eq_true] at hc
  obtain ⟨d, hd, hc⟩ := hc
  have := (h.all d hd).2.1
  simp [askF, this] at hc
theorem sent_port (d : Bn) : (sentB x t b d).port = d.port ∧ (sentB x t b d).to = d.to ∧ (sentB x t b d).inn = d.inn ∧ (sentB x t b d).asked = d.asked := ⟨rfl, rfl, rfl, rfl⟩
/-- one more goes out by one who has asked for none -/
theorem ones_out {now : Int} (hx : OkB x) (h : Ones x a (t + x.life) M) (hg : goes now t = true) (ha : mayA a = true) (hb : mayA b = true) (hl : t + x.life ≤ 1099511627776) (hm : (M.length : Int) < x.most) (hp : M.length < ports x) :
    ∃ M' p, outS x now M t a b = ((x.host, p), 0, t, M') ∧ Ones x a (t + x.life) M' ∧ M'.length ≤ M.length + 1 ∧ (∃ d ∈ M', d.to = partA b x.map ∧ d.port = p) ∧ (∀ d ∈ M, ∃ e ∈ M', e.to = d.to ∧ e.port = d.port) := by
  have hlf := hx.life0
  have h1 : ∀ d, d.inn = a ∧ d.asked = false ∧ d.seen.length ≤ 16 → (sentB x t b d).inn = a ∧ (sentB x t b d).asked = false ∧ (sentB x t b d).until_ = t + x.life ∧ (sentB x t b d).seen.length ≤ 16 := fun d hd => by
    refine ⟨hd.1, hd.2.1, ?_, seeL_len hd.2.2 b⟩
    show (if d.asked = true then d.until_ else min (t + x.life) 1099511627776) = _
    rw [hd.2.1, if_neg (by simp), Int.min_eq_left hl]
  unfold outS
  rw [if_pos hg, h.live (by omega)]
  unfold outM
  rw [if_pos ⟨ha, hb⟩, h.way b]
  cases hf : M.find? (toF x a b) with
  | some d =>
    have hd := List.mem_of_find?_eq_some hf
    have hfd := List.find?_some hf
    have hto : d.to = partA b x.map := by
      unfold toF at hfd
      rw [Bool.and_eq_true, decide_eq_true_eq, decide_eq_true_eq] at hfd
      exact hfd.2
    refine ⟨updF (toF x a b) (sentB x t b) M, d.port, rfl, ⟨fun e he => ?_, pair_set (u := sentB x t b) (fun d e hde => ⟨hde, hde⟩) h.ports⟩, by rw [updF_len]; omega, ?_, fun e he => ?_⟩
    · rcases mem_updF he with he | ⟨c, hc, rfl⟩
      · exact h.all e he
      · have := h.all c hc
        exact h1 c ⟨this.1, this.2.1, this.2.2.2⟩
    · rcases updF_mem (f := toF x a b) (u := sentB x t b) hd with h2 | h2
      · exact ⟨_, h2, hto, rfl⟩
      · exact ⟨_, h2, hto, rfl⟩
    · rcases updF_mem (f := toF x a b) (u := sentB x t b) he with h2 | h2
      · exact ⟨_, h2, rfl, rfl⟩
      · exact ⟨_, h2, rfl, rfl⟩
  | none =>
    obtain ⟨p, hp1, hp2, _⟩ := add_some (s := a.2) hx.lh hm hp
    simp only [hp1]
    rw [List.find?_eq_none] at hf
    refine ⟨M ++ [sentB x t b (newB x a b p)], p, rfl, ⟨fun e he => ?_, ?_⟩, by simp, ⟨sentB x t b (newB x a b p), by simp, rfl, rfl⟩, fun e he => ⟨e, by simp [he], rfl, rfl⟩⟩
    · rcases List.mem_append.1 he with he | he
      · exact h.all e he
      · simp only [List.mem_singleton] at he
        rw [he]
        exact h1 (newB x a b p) ⟨rfl, rfl, Nat.zero_le _⟩
    · rw [List.pairwise_append]
      refine ⟨h.ports, List.pairwise_singleton _ _, fun d hd e he => ?_⟩
      simp only [List.mem_singleton] at he
      rw [he]
      refine ⟨is_free hp2 d hd, fun hto => ?_⟩
      have hto2 : d.to = partA b x.map := hto
      exact hf d hd (by simp [toF, (h.all d hd).1, hto2])
theorem ones_bad {now : Int} (hg : goes now t = true) (hm : ¬ (mayA a = true ∧ mayA b = true)) : (outS x now M t a b).2.1 = 1 ∧ (outS x now M t a b).1 = (0, 0) := by
  unfold outS
  rw [if_pos hg]
  unfold outM
  rw [if_neg hm]
  exact ⟨rfl, rfl⟩
theorem same_d {u : Int} (h : Ones x a u M) {d e : Bn} (hd : d ∈ M) (he : e ∈ M) : d.port = e.port ↔ d.to = e.to := by
  obtain ⟨i, hi, rfl⟩ := List.getElem_of_mem hd
  obtain ⟨j, hj, rfl⟩ := List.getElem_of_mem he
  have hP := List.pairwise_iff_getElem.1 h.ports
  rcases Nat.lt_trichotomy i j with h1 | rfl | h1
  · have := hP i j hi hj h1
    exact ⟨fun e => absurd e this.1, fun e => absurd e this.2⟩
  · exact ⟨fun _ => rfl, fun _ => rfl⟩
  · have := hP j i hj hi h1
    exact ⟨fun e => absurd e.symm this.1, fun e => absurd e.symm this.2⟩
end
/-- those that were sent to have these ports -/
def Ports (x : Bx) (M : List Bn) (l : List A2) (ps : List Int) : Prop := ps.length ≤ l.length ∧ ∀ (i : Nat) (p : Int) (b : A2), ps[i]? = some p → l[i]? = some b → ∃ d ∈ M, d.to = partA b x.map ∧ d.port = p
theorem Ports.nil (x : Bx) (l : List A2) : Ports x [] l [] := ⟨Nat.zero_le _, fun i p b h => by simp at h⟩
theorem Ports.snoc {x : Bx} {M M' : List Bn} {l : List A2} {ps : List Int} {b : A2} {p : Int} (h : Ports x M l ps) (hb : l[ps.length]? = some b) (h1 : ∃ d ∈ M', d.to = partA b x.map ∧ d.port = p) (h2 : ∀ d ∈ M, ∃ e ∈ M', e.to = d.to ∧ e.port = d.port) : Ports x M' l (ps ++ [p]) := by
  refine ⟨by have := (List.getElem?_eq_some_iff.1 hb).1; simp; omega, fun i q c hq hc => ?_⟩
  rcases Nat.lt_or_ge i ps.length with hi | hi
  · rw [List.getElem?_append_left hi] at hq
    obtain ⟨d, hd, e1, e2⟩ := h.2 i q c hq hc
    obtain ⟨e, he, e3, e4⟩ := h2 d hd
    exact ⟨e, he, e3.trans e1, e4.trans e2⟩
  · have hi2 : i = ps.length := by
      have := (List.getElem?_eq_some_iff.1 hq).1
      simp at this
      omega
    subst hi2
    rw [hb] at hc
    cases hc
    simp at hq
    subst hq
    exact h1
theorem Ports.same {x : Bx} {a : A2} {u : Int} {M : List Bn} {l : List A2} {ps : List Int} (h : Ports x M l ps) (ho : Ones x a u M) {i j : Nat} {p q : Int} {b c : A2} (hp : ps[i]? = some p) (hq : ps[j]? = some q) (hb : l[i]? = some b) (hc : l[j]? = some c) : p = q ↔ partA b x.map = partA c x.map := by
  obtain ⟨d, hd, d1, rfl⟩ := h.2 i p b hp hb
  obtain ⟨e, he, e1, rfl⟩ := h.2 j q c hq hc
  rw [same_d ho hd he, d1, e1]
/-- are two looked at as the same one? -/
def sameV (m : Int) (b c : A2) : Bool := decide (m = 0) || (decide (b.1 = c.1) && (decide (m = 1) || decide (b.2 = c.2)))
theorem sameV_iff {m : Int} (hm : 0 ≤ m ∧ m ≤ 2) (b c : A2) : sameV m b c = true ↔ partA b m = partA c m := by
  unfold sameV partA
  obtain ⟨b1, b2⟩ := b
  obtain ⟨c1, c2⟩ := c
  by_cases h0 : m = 0
  · simp [h0]
  · by_cases h1 : m = 1
    · simp [h1]
    · simp [h0, h1]
end Go.Proofs.Ytidhdgcmagpkgaa
