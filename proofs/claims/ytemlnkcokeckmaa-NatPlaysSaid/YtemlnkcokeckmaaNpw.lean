/-
  Lists that hold the same in another order: what is found, turned, added and struck in them. Conditions: as each lemma states.
  Who is seen, and what port is chosen: the program's words and the document's are the same. Conditions: as each lemma states.
  The program's list of bindings and the document's: the same bindings, the document's by rising ports; what fits in one fits in the other. Conditions: as each lemma states.
  What a call leaves: the two lists hold the same again. Conditions: as each lemma states.
  Out: what the document's own answers and leaves is what the program answers and leaves. Conditions: as each lemma states.
  Ask and Drop: what the document's own leaves holds the same as what the program leaves. Conditions: as each lemma states.
  Both boxes at a time t: what each call of the program's and of the document's own answers is the same, and the lists hold the same. Conditions: as each lemma states.
  The two boxes in memory side by side, the program's and the document's own, and the objects that a law holds. Conditions: as each lemma states.
  What NatPlays' walk is told: both boxes are asked the same, and answer the same; behind each step both tell all their bindings, and these are the same. Conditions: the box may be; both stand beside one another.
  A step of a script that came in, in a slice, read as plain data. Conditions: as each states.
  A box that came in, read as plain data. Conditions: as each states.
-/
import Derived.Test.YtemlnkcokeckmaaMvd
import Derived.Test.YtemlnkcokeckmaaRout
import Derived.Test.YtemlnkcokeckmaaAks
import Derived.Test.YtemlnkcokeckmaaDro
import Derived.Test.YtemlnkcokeckmaaRak
import Derived.Test.YtemlnkcokeckmaaRsx
import Derived.Test.YtemlnkcokeckmaaBke
import Derived.Test.YtemlnkcokeckmaaOin
import Derived.Test.YtemlnkcokeckmaaBkw
namespace Go.Proofs.Ytemlnkcokeckmaa
set_option linter.unusedVariables false

/-- at most one of them fits -/
def One {α : Type} (f : α → Bool) (M : List α) : Prop := ∀ a ∈ M, ∀ b ∈ M, f a = true → f b = true → a = b
theorem One.perm {α : Type} {f : α → Bool} {M R : List α} (h : One f M) (hp : M.Perm R) : One f R := fun a ha b hb => h a (hp.mem_iff.2 ha) b (hp.mem_iff.2 hb)
theorem find_perm {α : Type} {f : α → Bool} {M R : List α} (hp : M.Perm R) (h : One f M) : M.find? f = R.find? f := by
  cases hr : R.find? f with
  | none =>
    rw [List.find?_eq_none] at hr ⊢
    exact fun a ha => hr a (hp.mem_iff.1 ha)
  | some b =>
    have hb := List.mem_of_find?_eq_some hr
    have fb := List.find?_some hr
    cases hm : M.find? f with
    | none =>
      rw [List.find?_eq_none] at hm
      exact absurd fb (hm b (hp.mem_iff.2 hb))
    | some c =>
      rw [h c (List.mem_of_find?_eq_some hm) b (hp.mem_iff.2 hb) (List.find?_some hm) fb]
theorem any_perm {α : Type} {f : α → Bool} {M R : List α} (hp : M.Perm R) : M.any f = R.any f := by
  rw [Bool.eq_iff_iff, List.any_eq_true, List.any_eq_true]
  exact ⟨fun ⟨a, h1, h2⟩ => ⟨a, hp.mem_iff.1 h1, h2⟩, fun ⟨a, h1, h2⟩ => ⟨a, hp.mem_iff.2 h1, h2⟩⟩
theorem split_first {α : Type} {f : α → Bool} : ∀ {M : List α}, (∃ a ∈ M, f a = true) → ∃ ls d rs, M = ls ++ d :: rs ∧ (∀ a ∈ ls, f a = false) ∧ f d = true
  | [], h => by obtain ⟨a, ha, _⟩ := h; cases ha
  | b :: M, h => by
    cases hb : f b with
    | true => exact ⟨[], b, M, rfl, (by intro a ha; cases ha), hb⟩
    | false =>
      have h2 : ∃ a ∈ M, f a = true := by
        obtain ⟨a, ha, fa⟩ := h
        rcases List.mem_cons.1 ha with rfl | ha
        · rw [hb] at fa; cases fa
        · exact ⟨a, ha, fa⟩
      obtain ⟨ls, d, rs, rfl, h3, h4⟩ := split_first h2
      refine ⟨b :: ls, d, rs, rfl, fun a ha => ?_, h4⟩
      rcases List.mem_cons.1 ha with rfl | ha
      · exact hb
      · exact h3 a ha
theorem set_split {α : Type} {R : List α} {k : Nat} {b : α} (h : R[k]? = some b) (u : α) : R = R.take k ++ b :: R.drop (k + 1) ∧ R.set k u = R.take k ++ u :: R.drop (k + 1) := by
  obtain ⟨hk, he⟩ := List.getElem?_eq_some_iff.1 h
  constructor
  · conv => lhs; rw [← List.take_append_drop k R, List.drop_eq_getElem_cons hk, he]
  · rw [List.set_eq_take_append_cons_drop, if_pos hk]
/-- one is turned -/
theorem updF_perm {α : Type} {f : α → Bool} {u : α → α} {M R : List α} {k : Nat} {b : α} (hp : M.Perm R) (h : One f M) (hk : R[k]? = some b) (hb : f b = true) : (updF f u M).Perm (R.set k (u b)) := by
  obtain ⟨e1, e2⟩ := set_split hk (u b)
  have hbm : b ∈ M := hp.mem_iff.2 (List.mem_of_getElem? hk)
  obtain ⟨ls, d, rs, rfl, h3, h4⟩ := split_first ⟨b, hbm, hb⟩
  obtain rfl : d = b := h d (by simp) b hbm h4 hb
  rw [updF_at h3 h4, e2]
  rw [e1] at hp
  have h5 : (ls ++ rs).Perm (R.take k ++ R.drop (k + 1)) := (((List.perm_middle (l₁ := ls) (l₂ := rs) (a := d)).symm.trans hp).trans List.perm_middle).cons_inv
  exact (List.perm_middle.trans (h5.cons (u d))).trans List.perm_middle.symm
/-- one is struck -/
theorem erase_perm {α : Type} {f : α → Bool} {M R : List α} {k : Nat} {b : α} (hp : M.Perm R) (h : One f M) (hk : R[k]? = some b) (hb : f b = true) : (M.eraseP f).Perm (R.take k ++ R.drop (k + 1)) := by
  obtain ⟨e1, _⟩ := set_split hk b
  have hbm : b ∈ M := hp.mem_iff.2 (List.mem_of_getElem? hk)
  obtain ⟨ls, d, rs, rfl, h3, h4⟩ := split_first ⟨b, hbm, hb⟩
  obtain rfl : d = b := h d (by simp) b hbm h4 hb
  rw [List.eraseP_append_right _ (fun a ha => by simp [h3 a ha]), List.eraseP_cons_of_pos h4]
  rw [e1] at hp
  exact (((List.perm_middle (l₁ := ls) (l₂ := rs) (a := d)).symm.trans hp).trans List.perm_middle).cons_inv
/-- one is added -/
theorem add_perm {α : Type} {M R : List α} (k : Nat) (b : α) (hp : M.Perm R) : (M ++ [b]).Perm (R.take k ++ [b] ++ R.drop k) := by
  have h1 : (M ++ [b]).Perm (b :: M) := List.perm_append_singleton b M
  have h2 : (R.take k ++ [b] ++ R.drop k).Perm (b :: R) := by
    rw [List.append_assoc]
    refine (List.perm_middle (l₁ := R.take k) (l₂ := R.drop k) (a := b)).trans ?_
    rw [List.take_append_drop]
  exact (h1.trans (hp.cons b)).trans h2.symm
theorem live_perm {M R : List Bn} (hp : M.Perm R) (t : Int) : (liveM M t).Perm (liveM R t) := hp.filter _
end Go.Proofs.Ytemlnkcokeckmaa
namespace Go.Proofs.Ytemlnkcokeckmaa
set_option linter.unusedVariables false

theorem seen_same {l : List A2} (h : l.length ≤ 16) (b : A2) : seenR l b = seeL l b := by
  unfold seenR seeL cut16
  have h1 := List.length_filter_le (fun p => !decide (p = b)) l
  generalize l.filter (fun p => !decide (p = b)) = F at *
  rw [List.length_append, List.length_singleton]
  by_cases h2 : F.length = 16
  · rw [if_pos (by omega), if_pos h2, List.drop_append_of_le_length (by omega)]
  · rw [if_neg (by omega), if_neg h2]
theorem freeR_eq (x : Bx) (M : List Bn) (p : Int) : freeR x M p = true ↔ freeM M p = true ∧ x.lo ≤ p ∧ p ≤ x.hi := by
  unfold freeR freeM
  simp only [Bool.and_eq_true, Bool.not_eq_true', List.any_eq_false, List.all_eq_true, decide_eq_true_eq, beq_iff_eq]
theorem freeM_no {x : Bx} {M : List Bn} {p : Int} (h : freeR x M p = false) (h1 : x.lo ≤ p) (h2 : p ≤ x.hi) : freeM M p = false := by
  cases hf : freeM M p with
  | false => rfl
  | true => rw [(freeR_eq x M p).2 ⟨hf, h1, h2⟩] at h; cases h
theorem freeR_perm {x : Bx} {M R : List Bn} (hp : M.Perm R) (p : Int) : freeR x M p = freeR x R p := by
  unfold freeR
  rw [any_perm hp]
theorem choose_port {x : Bx} {M : List Bn} {s p : Int} (hlh : x.lo ≤ x.hi) (h : PortR x M s p) : chooseM x M s = some p := by
  obtain ⟨h1, h2⟩ := h
  obtain ⟨f1, f2, f3⟩ := (freeR_eq x M p).1 h1
  by_cases hw : wish0 x s = p
  · have hc : cand x s 0 = p := by unfold cand; rw [if_pos rfl]; exact hw
    have := choose_some (x := x) (M := M) (s := s) (k := 0) (by omega) (by rw [hc]; exact f1) (fun j hj => by omega)
    rw [hc] at this
    exact this
  · have h3 : p ≠ s := by
      rintro rfl
      exact hw (by unfold wish0; rw [if_neg (by omega)])
    rcases h2 with h2 | ⟨h2, h4⟩
    · exact absurd h2 h3
    · obtain ⟨k, hk⟩ : ∃ k : Nat, (k : Int) = p - x.lo := ⟨(p - x.lo).toNat, by omega⟩
      have hc : cand x s (k + 1) = p := by unfold cand; rw [if_neg (by omega)]; simp only [Nat.add_sub_cancel]; omega
      have := choose_some (x := x) (M := M) (s := s) (k := k + 1) (by unfold ports; omega) (by rw [hc]; exact f1) (fun j hj => by
        unfold cand
        by_cases hj0 : j = 0
        · rw [if_pos hj0]
          unfold wish0 at hw ⊢
          by_cases hs : s < x.lo ∨ x.hi < s
          · rw [if_pos hs] at hw ⊢
            exact freeM_no (h4 x.lo (Int.le_refl _) (by omega)) (Int.le_refl _) hlh
          · rw [if_neg hs] at hw ⊢
            exact freeM_no h2 (by omega) (by omega)
        · rw [if_neg hj0]
          exact freeM_no (h4 _ (by omega) (by omega)) (by omega) (by omega))
      rw [hc] at this
      exact this
theorem choose_noport {x : Bx} {M : List Bn} {s : Int} (hlh : x.lo ≤ x.hi) (h : NoPort x M s) : chooseM x M s = none := by
  obtain ⟨h1, h2⟩ := h
  refine choose_none (fun j hj => ?_)
  have hj' : (j : Int) ≤ x.hi - x.lo + 1 := by unfold ports at hj; omega
  unfold cand
  by_cases hj0 : j = 0
  · rw [if_pos hj0]
    unfold wish0
    by_cases hs : s < x.lo ∨ x.hi < s
    · rw [if_pos hs]
      exact freeM_no (h2 x.lo (Int.le_refl _) hlh) (Int.le_refl _) hlh
    · rw [if_neg hs]
      exact freeM_no h1 (by omega) (by omega)
  · rw [if_neg hj0]
    exact freeM_no (h2 _ (by omega) (by omega)) (by omega) (by omega)
theorem port_perm {x : Bx} {M R : List Bn} (hp : M.Perm R) {s p : Int} (h : PortR x R s p) : PortR x M s p :=
  ⟨by rw [freeR_perm hp]; exact h.1, h.2.imp id (fun ⟨h1, h2⟩ => ⟨by rw [freeR_perm hp]; exact h1, fun q a b => by rw [freeR_perm hp]; exact h2 q a b⟩)⟩
theorem noport_perm {x : Bx} {M R : List Bn} (hp : M.Perm R) {s : Int} (h : NoPort x R s) : NoPort x M s :=
  ⟨by rw [freeR_perm hp]; exact h.1, fun q a b => by rw [freeR_perm hp]; exact h.2 q a b⟩
end Go.Proofs.Ytemlnkcokeckmaa
namespace Go.Proofs.Ytemlnkcokeckmaa
set_option linter.unusedVariables false

structure Rel (M R : List Bn) : Prop where
  perm : M.Perm R
  asc : R.Pairwise (fun a b => a.port < b.port)
  asked1 : ∀ a ∈ M, ∀ b ∈ M, a.asked = true → b.asked = true → a.inn = b.inn → a = b
  way1 : ∀ a ∈ M, ∀ b ∈ M, a.asked = false → b.asked = false → a.inn = b.inn → a.to = b.to → a = b
  sn : ∀ a ∈ M, a.seen.length ≤ 16
theorem Rel.nil : Rel [] [] := ⟨.refl _, .nil, (by intro a ha; cases ha), (by intro a ha; cases ha), (by intro a ha; cases ha)⟩
theorem Rel.live {M R : List Bn} (h : Rel M R) (t : Int) : Rel (liveM M t) (liveM R t) :=
  ⟨live_perm h.perm t, h.asc.filter _, fun a ha b hb => h.asked1 a (List.mem_filter.1 ha).1 b (List.mem_filter.1 hb).1, fun a ha b hb => h.way1 a (List.mem_filter.1 ha).1 b (List.mem_filter.1 hb).1, fun a ha => h.sn a (List.mem_filter.1 ha).1⟩
theorem Rel.oneAsk {M R : List Bn} (h : Rel M R) (a : A2) : One (askF a) M := by
  intro c hc d hd fc fd
  unfold askF at fc fd
  simp only [Bool.and_eq_true, decide_eq_true_eq] at fc fd
  exact h.asked1 c hc d hd fc.2 fd.2 (fc.1.trans fd.1.symm)
theorem Rel.oneWay {M R : List Bn} (h : Rel M R) (x : Bx) (a b : A2) : One (wayF x M a b) M := by
  unfold wayF
  split
  · exact h.oneAsk a
  · rename_i hn
    intro c hc d hd fc fd
    have hnc : ∀ e ∈ M, e.inn = a → e.asked = false := fun e he hi => by
      cases hk : e.asked with
      | false => rfl
      | true => exact absurd (List.any_eq_true.2 ⟨e, he, by unfold askF; simp [hi, hk]⟩) hn
    unfold toF at fc fd
    simp only [Bool.and_eq_true, decide_eq_true_eq] at fc fd
    exact h.way1 c hc d hd (hnc c hc fc.1) (hnc d hd fd.1) (fc.1.trans fd.1.symm) (fc.2.trans fd.2.symm)
theorem findP_ask (a b : A2) (d : Bn) : findP a true b d = askF a d := by
  unfold findP askF
  cases d.asked <;> simp
/-- the first that serves in the document's row is what the program finds -/
theorem way_serv {x : Bx} {M : List Bn} {LL : List Rb} {a b : A2} {k : Nat} {d : Rb} (h : Rel M (LL.map Rb.b)) (hs : ServR x LL a b k d) : M.find? (wayF x M a b) = some d.b ∧ wayF x M a b d.b = true ∧ (LL.map Rb.b)[k]? = some d.b := by
  obtain ⟨h1, h2⟩ := hs
  have hk : (LL.map Rb.b)[k]? = some d.b := by rw [List.getElem?_map, h1]; rfl
  have hm : d.b ∈ M := h.perm.mem_iff.2 (List.mem_of_getElem? hk)
  have hw : wayF x M a b d.b = true := by
    unfold wayF
    rcases h2 with ⟨h2, _⟩ | ⟨h2, h3, _⟩
    · rw [findP_ask] at h2
      rw [if_pos (List.any_eq_true.2 ⟨d.b, hm, h2⟩)]
      exact h2
    · rw [if_neg]
      · unfold findP at h3
        simp only [Bool.and_eq_true, decide_eq_true_eq, Bool.false_or] at h3
        unfold toF
        simp [h3.1, h3.2.2]
      · intro hc
        obtain ⟨e, he, fe⟩ := List.any_eq_true.1 hc
        obtain ⟨e', he', rfl⟩ := List.mem_map.1 (h.perm.mem_iff.1 he)
        have := h2 e' he'
        rw [findP_ask] at this
        rw [this] at fe
        cases fe
  refine ⟨?_, hw, hk⟩
  cases hf : M.find? (wayF x M a b) with
  | none => rw [List.find?_eq_none] at hf; exact absurd hw (hf _ hm)
  | some c => rw [h.oneWay x a b c (List.mem_of_find?_eq_some hf) d.b hm (List.find?_some hf) hw]
theorem way_none {x : Bx} {M : List Bn} {LL : List Rb} {a b : A2} (h : Rel M (LL.map Rb.b)) (hs : NoneR x LL a b) : M.find? (wayF x M a b) = none := by
  obtain ⟨h1, h2⟩ := hs
  have hna : ¬ M.any (askF a) = true := by
    intro hc
    obtain ⟨e, he, fe⟩ := List.any_eq_true.1 hc
    obtain ⟨e', he', rfl⟩ := List.mem_map.1 (h.perm.mem_iff.1 he)
    have := h1 e' he'
    rw [findP_ask] at this
    rw [this] at fe
    cases fe
  unfold wayF
  rw [if_neg hna, List.find?_eq_none]
  intro e he fe
  have hk : e.asked = false := by
    cases hk : e.asked with
    | false => rfl
    | true =>
      unfold toF at fe
      simp only [Bool.and_eq_true, decide_eq_true_eq] at fe
      exact absurd (List.any_eq_true.2 ⟨e, he, by unfold askF; simp [fe.1, hk]⟩) hna
  obtain ⟨e', he', rfl⟩ := List.mem_map.1 (h.perm.mem_iff.1 he)
  have := h2 e' he'
  unfold toF at fe
  simp only [Bool.and_eq_true, decide_eq_true_eq] at fe
  unfold findP at this
  simp [fe.1, fe.2, hk] at this
end Go.Proofs.Ytemlnkcokeckmaa
namespace Go.Proofs.Ytemlnkcokeckmaa
set_option linter.unusedVariables false

theorem asc_ne {R : List Bn} {k : Nat} {d e : Bn} (h : R.Pairwise (fun a b => a.port < b.port)) (hk : R[k]? = some d) (he : e ∈ R.take k ++ R.drop (k + 1)) : e ≠ d := by
  obtain ⟨e1, _⟩ := set_split hk d
  rw [e1, List.pairwise_append, List.pairwise_cons] at h
  obtain ⟨h1, ⟨h2, h3⟩, h4⟩ := h
  rintro rfl
  rcases List.mem_append.1 he with he | he
  · exact absurd (h4 e he e (by simp)) (by omega)
  · exact absurd (h2 e he) (by omega)
/-- one binding is turned: who has it, towards whom, its port and whether it was asked for stay -/
theorem Rel.turn {M R : List Bn} {f : Bn → Bool} {u : Bn → Bn} {k : Nat} {d : Bn} (h : Rel M R) (h1 : One f M) (hk : R[k]? = some d) (hd : f d = true) (e1 : (u d).inn = d.inn) (e2 : (u d).to = d.to) (e3 : (u d).port = d.port) (e4 : (u d).asked = d.asked) (e5 : (u d).seen.length ≤ 16) : Rel (updF f u M) (R.set k (u d)) := by
  have hp := updF_perm (u := u) h.perm h1 hk hd
  obtain ⟨s1, s2⟩ := set_split hk (u d)
  have hdm : d ∈ M := h.perm.mem_iff.2 (List.mem_of_getElem? hk)
  have hmem : ∀ e ∈ updF f u M, e = u d ∨ (e ∈ M ∧ e ≠ d) := by
    intro e he
    have := hp.mem_iff.1 he
    rw [s2] at this
    rcases List.mem_append.1 this with h2 | h2
    · exact .inr ⟨h.perm.mem_iff.2 (List.mem_of_mem_take h2), asc_ne h.asc hk (List.mem_append.2 (.inl h2))⟩
    · rcases List.mem_cons.1 h2 with h2 | h2
      · exact .inl h2
      · exact .inr ⟨h.perm.mem_iff.2 (List.mem_of_mem_drop h2), asc_ne h.asc hk (List.mem_append.2 (.inr h2))⟩
  refine ⟨hp, ?_, ?_, ?_, ?_⟩
  · have ha := h.asc
    rw [s1] at ha
    rw [s2]
    rw [List.pairwise_append, List.pairwise_cons] at ha ⊢
    obtain ⟨a1, ⟨a2, a3⟩, a4⟩ := ha
    refine ⟨a1, ⟨fun b hb => by rw [e3]; exact a2 b hb, a3⟩, fun a hA b hB => ?_⟩
    rcases List.mem_cons.1 hB with rfl | hB
    · rw [e3]; exact a4 a hA d (by simp)
    · exact a4 a hA b (by simp [hB])
  · intro a ha b hb ka kb kc
    rcases hmem a ha with rfl | ⟨a1, a2⟩
    · rcases hmem b hb with rfl | ⟨b1, b2⟩
      · rfl
      · exact absurd (h.asked1 d hdm b b1 (by rw [← e4]; exact ka) kb (by rw [← e1]; exact kc)).symm b2
    · rcases hmem b hb with rfl | ⟨b1, b2⟩
      · exact absurd (h.asked1 a a1 d hdm ka (by rw [← e4]; exact kb) (by rw [← e1]; exact kc)) a2
      · exact h.asked1 a a1 b b1 ka kb kc
  · intro a ha b hb ka kb kc kd
    rcases hmem a ha with rfl | ⟨a1, a2⟩
    · rcases hmem b hb with rfl | ⟨b1, b2⟩
      · rfl
      · exact absurd (h.way1 d hdm b b1 (by rw [← e4]; exact ka) kb (by rw [← e1]; exact kc) (by rw [← e2]; exact kd)).symm b2
    · rcases hmem b hb with rfl | ⟨b1, b2⟩
      · exact absurd (h.way1 a a1 d hdm ka (by rw [← e4]; exact kb) (by rw [← e1]; exact kc) (by rw [← e2]; exact kd)) a2
      · exact h.way1 a a1 b b1 ka kb kc kd
  · intro a ha
    rcases hmem a ha with rfl | ⟨a1, a2⟩
    · exact e5
    · exact h.sn a a1
/-- one is struck -/
theorem Rel.strike {M R : List Bn} {f : Bn → Bool} {k : Nat} {d : Bn} (h : Rel M R) (h1 : One f M) (hk : R[k]? = some d) (hd : f d = true) : Rel (M.eraseP f) (R.take k ++ R.drop (k + 1)) := by
  have hp := erase_perm h.perm h1 hk hd
  obtain ⟨s1, _⟩ := set_split hk d
  have hm : ∀ e ∈ M.eraseP f, e ∈ M := fun e he => List.mem_of_mem_eraseP he
  refine ⟨hp, ?_, fun a ha b hb => h.asked1 a (hm a ha) b (hm b hb), fun a ha b hb => h.way1 a (hm a ha) b (hm b hb), fun a ha => h.sn a (hm a ha)⟩
  have ha := h.asc
  rw [s1] at ha
  rw [List.pairwise_append, List.pairwise_cons] at ha
  rw [List.pairwise_append]
  exact ⟨ha.1, ha.2.1.2, fun a hA b hB => ha.2.2 a hA b (by simp [hB])⟩
/-- one is added, at its place -/
theorem Rel.add {M R : List Bn} {k : Nat} {d : Bn} (h : Rel M R) (hl : ∀ e ∈ R.take k, e.port < d.port) (hr : ∀ e ∈ R.drop k, d.port < e.port) (ha : d.asked = true → ∀ e ∈ M, e.asked = true → e.inn ≠ d.inn) (hw : d.asked = false → ∀ e ∈ M, e.asked = false → e.inn = d.inn → e.to ≠ d.to) (hs : d.seen.length ≤ 16) : Rel (M ++ [d]) (R.take k ++ [d] ++ R.drop k) := by
  have hm : ∀ e ∈ M ++ [d], e ∈ M ∨ e = d := fun e he => by simpa using he
  have hasc := h.asc
  rw [← List.take_append_drop k R, List.pairwise_append] at hasc
  refine ⟨add_perm k d h.perm, ?_, ?_, ?_, ?_⟩
  · rw [List.append_assoc, List.pairwise_append, List.singleton_append, List.pairwise_cons]
    refine ⟨hasc.1, ⟨hr, hasc.2.1⟩, fun a hA b hB => ?_⟩
    rcases List.mem_cons.1 hB with rfl | hB
    · exact hl a hA
    · exact hasc.2.2 a hA b hB
  · intro a hA b hB ka kb kc
    rcases hm a hA with gA | rfl
    · rcases hm b hB with gB | rfl
      · exact h.asked1 a gA b gB ka kb kc
      · exact absurd kc (ha kb a gA ka)
    · rcases hm b hB with gB | rfl
      · exact absurd kc.symm (ha ka b gB kb)
      · rfl
  · intro a hA b hB ka kb kc kd
    rcases hm a hA with gA | rfl
    · rcases hm b hB with gB | rfl
      · exact h.way1 a gA b gB ka kb kc kd
      · exact absurd kd (hw kb a gA ka kc)
    · rcases hm b hB with gB | rfl
      · exact absurd kd.symm (hw ka b gB kb kc.symm)
      · rfl
  · intro a hA
    rcases hm a hA with gA | rfl
    · exact h.sn a gA
    · exact hs
end Go.Proofs.Ytemlnkcokeckmaa
namespace Go.Proofs.Ytemlnkcokeckmaa
set_option linter.unusedVariables false

theorem out_same {x : Bx} {t : Int} {b : A2} {d : Bn} (h : d.seen.length ≤ 16) : outB x t b d = sentB x t b d := by
  unfold outB sentB
  rw [seen_same h]
  congr 1
  cases d.asked with
  | true => rfl
  | false =>
    simp only [Bool.false_eq_true, if_false]
    split <;> omega
theorem map_set {L : List Rb} {k : Nat} {d' : Rb} : (L.set k d').map Rb.b = (L.map Rb.b).set k d'.b := by rw [List.map_set]
theorem insR_map {L : List Rb} {k : Nat} {d : Rb} : (insR L k d).map Rb.b = (L.map Rb.b).take k ++ [d.b] ++ (L.map Rb.b).drop k := by
  unfold insR
  simp [List.map_take, List.map_drop]
theorem place_lt {L : List Rb} {p : Int} {k : Nat} (h : PlaceR L p k) : ∀ e ∈ (L.map Rb.b).take k, e.port < p := by
  intro e he
  rw [← List.map_take] at he
  obtain ⟨d, hd, rfl⟩ := List.mem_map.1 he
  obtain ⟨j, hj, hjd⟩ := List.mem_iff_getElem.1 hd
  rw [List.length_take] at hj
  rw [List.getElem_take] at hjd
  exact h.2.1 j d (by omega) (by rw [List.getElem?_eq_getElem (by omega), hjd])
theorem place_gt {L : List Rb} {p : Int} {k : Nat} (h : PlaceR L p k) (ha : (L.map Rb.b).Pairwise (fun a b => a.port < b.port)) (hf : ∀ e ∈ L, e.b.port ≠ p) : ∀ e ∈ (L.map Rb.b).drop k, p < e.port := by
  intro e he
  by_cases hk : k < L.length
  · have h0 := h.2.2 L[k] (List.getElem?_eq_getElem hk)
    have h1 := hf L[k] (List.getElem_mem hk)
    have hd : (L.map Rb.b).drop k = L[k].b :: (L.map Rb.b).drop (k + 1) := by
      rw [List.drop_eq_getElem_cons (by rw [List.length_map]; exact hk), List.getElem_map]
    rw [hd] at he
    rcases List.mem_cons.1 he with rfl | he
    · omega
    · rw [← List.take_append_drop k (L.map Rb.b), List.pairwise_append, hd, List.pairwise_cons] at ha
      have := ha.2.1.1 e he
      omega
  · rw [List.drop_eq_nil_of_le (by rw [List.length_map]; omega)] at he
    cases he
theorem out_rel {w w' : World} {rb : Nat} {x : Bx} {v : Value} {now t : Int} {L LL : List Rb} {a b : A2} {e : Ending} {M : List Bn} (h : Rel M (LL.map Rb.b)) (hlh : x.lo ≤ x.hi) (hok : mayA a = true ∧ mayA b = true ∧ goes now t = true) (hr : RoutAns w rb x v now L LL t a b e w') :
    ∃ L', e = .returned (ansA (outM x M t a b).1 (outM x M t a b).2.1) ∧ RStep w w' rb x v L t L' ∧ Rel (outM x M t a b).2.2 (L'.map Rb.b) := by
  have hlen : M.length = LL.length := by rw [h.perm.length_eq, List.length_map]
  rcases hr with ⟨hno, _⟩ | ⟨_, hr⟩
  · exact absurd hok hno
  · unfold outM
    rw [if_pos ⟨hok.1, hok.2.1⟩]
    rcases hr with ⟨k, d, d', hs, hd, rfl, hst⟩ | ⟨hn, hf, rfl, hst⟩ | ⟨hn, p, k, d', hm, hp, hpl, hd, rfl, hst⟩
    · obtain ⟨w1, w2, w3⟩ := way_serv h hs
      rw [w1]
      have hdm : d.b ∈ M := h.perm.mem_iff.2 (List.mem_of_getElem? w3)
      refine ⟨_, rfl, hst, ?_⟩
      rw [map_set, hd, out_same (h.sn _ hdm)]
      exact h.turn (u := sentB x t b) (h.oneWay x a b) w3 w2 rfl rfl rfl rfl (seeL_len (h.sn _ hdm) b)
    · rw [way_none h hn]
      have : addM x M a.2 = none := by
        unfold addM
        rcases hf with hf | hf
        · cases chooseM x M a.2 with
          | none => rfl
          | some p => dsimp only; rw [if_neg (by omega)]
        · rw [choose_noport hlh (noport_perm h.perm hf)]
      rw [this]
      exact ⟨_, rfl, hst, h⟩
    · rw [way_none h hn]
      have : addM x M a.2 = some p := by
        unfold addM
        rw [choose_port hlh (port_perm h.perm hp)]
        dsimp only
        rw [if_pos (by omega)]
      rw [this]
      refine ⟨_, rfl, hst, ?_⟩
      have hf := ((freeR_eq x _ p).1 hp.1).1
      have hne : ∀ e ∈ LL, e.b.port ≠ p := by
        intro e he
        unfold freeM at hf
        rw [List.all_eq_true] at hf
        simpa using hf e.b (List.mem_map.2 ⟨e, he, rfl⟩)
      have hat : ((insR LL k (newR a (partA b x.map) false p)).map Rb.b)[k]? = some (newR a (partA b x.map) false p).b := by
        rw [List.getElem?_map, insRo_at hpl.1]; rfl
      have h2 : Rel (M ++ [newB x a b p]) ((insR LL k (newR a (partA b x.map) false p)).map Rb.b) := by
        rw [insR_map]
        refine h.add (d := newB x a b p) (place_lt hpl) (place_gt hpl h.asc hne) (fun hc => by cases hc) (fun _ e he hk hi ht => ?_) (Nat.zero_le _)
        obtain ⟨d, hd, rfl⟩ := List.mem_map.1 (h.perm.mem_iff.1 he)
        have := hn.2 d hd
        unfold findP at this
        simp only [newB] at hi ht
        simp [hi, ht, hk] at this
      have hMp : ∀ e ∈ M, (e.port == p) = false := fun e he => by
        obtain ⟨d, hd, rfl⟩ := List.mem_map.1 (h.perm.mem_iff.1 he)
        have := hne d hd
        simpa using this
      have hone : One (fun e : Bn => e.port == p) (M ++ [newB x a b p]) := by
        intro c hc d hd fc fd
        have g : ∀ e ∈ M ++ [newB x a b p], (e.port == p) = true → e = newB x a b p := by
          intro e he fe
          rcases List.mem_append.1 he with he | he
          · rw [hMp e he] at fe; cases fe
          · simpa using he
        rw [g c hc fc, g d hd fd]
      have h3 := h2.turn (u := sentB x t b) (k := k) (d := newB x a b p) hone hat (by simp [newB]) rfl rfl rfl rfl (seeL_len (Nat.zero_le _) b)
      rw [updF_at (ls := M) (rs := []) hMp (by simp [newB])] at h3
      rw [map_set, hd, out_same (Nat.zero_le _)]
      exact h3
end Go.Proofs.Ytemlnkcokeckmaa
namespace Go.Proofs.Ytemlnkcokeckmaa
set_option linter.unusedVariables false

theorem ask_in {M : List Bn} {LL : List Rb} {a : A2} {k : Nat} {d : Rb} (h : Rel M (LL.map Rb.b)) (hk : LL[k]? = some d) (hd : findP a true (0, 0) d.b = true) : M.find? (askF a) = some d.b ∧ askF a d.b = true ∧ (LL.map Rb.b)[k]? = some d.b ∧ d.b ∈ M := by
  rw [findP_ask] at hd
  have h1 : (LL.map Rb.b)[k]? = some d.b := by rw [List.getElem?_map, hk]; rfl
  have hm : d.b ∈ M := h.perm.mem_iff.2 (List.mem_of_getElem? h1)
  refine ⟨?_, hd, h1, hm⟩
  cases hf : M.find? (askF a) with
  | none => rw [List.find?_eq_none] at hf; exact absurd hd (hf _ hm)
  | some c => rw [h.oneAsk a c (List.mem_of_find?_eq_some hf) d.b hm (List.find?_some hf) hd]
theorem ask_out {M : List Bn} {LL : List Rb} {a : A2} (h : Rel M (LL.map Rb.b)) (hn : ∀ d ∈ LL, findP a true (0, 0) d.b = false) : ∀ e ∈ M, askF a e = false := by
  intro e he
  obtain ⟨d, hd, rfl⟩ := List.mem_map.1 (h.perm.mem_iff.1 he)
  have := hn d hd
  rwa [findP_ask] at this
theorem drop_some {M : List Bn} {LL : List Rb} {a : A2} {k : Nat} {d : Rb} (h : Rel M (LL.map Rb.b)) (hk : LL[k]? = some d) (hd : findP a true (0, 0) d.b = true) : M.any (askF a) = true ∧ Rel (dropM M a) ((LL.take k ++ LL.drop (k + 1)).map Rb.b) := by
  obtain ⟨h1, h2, h3, h4⟩ := ask_in h hk hd
  refine ⟨List.any_eq_true.2 ⟨_, h4, h2⟩, ?_⟩
  have := h.strike (h.oneAsk a) h3 h2
  rw [List.map_append, List.map_take, List.map_drop]
  exact this
theorem drop_none {M : List Bn} {LL : List Rb} {a : A2} (h : Rel M (LL.map Rb.b)) (hn : ∀ d ∈ LL, findP a true (0, 0) d.b = false) : M.any (askF a) = false ∧ dropM M a = M := by
  have h1 := ask_out h hn
  refine ⟨by rw [List.any_eq_false]; intro e he; simp [h1 e he], ?_⟩
  unfold dropM
  exact List.eraseP_of_forall_not (fun e he => by simp [h1 e he])
theorem ask_turn {M : List Bn} {LL : List Rb} {a : A2} {u : Int} {k : Nat} {d : Rb} (h : Rel M (LL.map Rb.b)) (hk : LL[k]? = some d) (hd : findP a true (0, 0) d.b = true) : Rel (updF (askF a) (tillB u) M) ((LL.set k (endR d u)).map Rb.b) := by
  obtain ⟨h1, h2, h3, h4⟩ := ask_in h hk hd
  rw [map_set]
  exact h.turn (u := tillB u) (h.oneAsk a) h3 h2 rfl rfl rfl rfl (show d.b.seen.length ≤ 16 from h.sn _ h4)
theorem ask_new {M : List Bn} {LL : List Rb} {x : Bx} {a : A2} {s u p : Int} {k : Nat} (h : Rel M (LL.map Rb.b)) (hn : ∀ d ∈ LL, findP a true (0, 0) d.b = false) (hp : PortR x (LL.map Rb.b) s p) (hpl : PlaceR LL p k) : Rel (M ++ [askB a p u]) (((insR LL k (newR a (0, 0) true p)).set k (endR (newR a (0, 0) true p) u)).map Rb.b) := by
  have h1 := ask_out h hn
  have hf := ((freeR_eq x _ p).1 hp.1).1
  have hne : ∀ e ∈ LL, e.b.port ≠ p := by
    intro e he
    unfold freeM at hf
    rw [List.all_eq_true] at hf
    simpa using hf e.b (List.mem_map.2 ⟨e, he, rfl⟩)
  have e1 : (insR LL k (newR a (0, 0) true p)).set k (endR (newR a (0, 0) true p) u) = insR LL k (endR (newR a (0, 0) true p) u) := by
    unfold insR
    rw [List.nil_append, List.append_assoc, List.append_assoc, List.set_append_right _ _ (by rw [List.length_take]; omega)]
    have : k - (LL.take k).length = 0 := by rw [List.length_take]; have := hpl.1; omega
    rw [this]
    rfl
  rw [e1, insR_map]
  refine h.add (d := askB a p u) (place_lt hpl) (place_gt hpl h.asc hne) (fun _ e he hk hi => ?_) (fun hc => by cases hc) (Nat.zero_le _)
  have := h1 e he
  unfold askF at this
  have hi' : e.inn = a := hi
  simp [hi', hk] at this
end Go.Proofs.Ytemlnkcokeckmaa
namespace Go.Proofs.Ytemlnkcokeckmaa
open Go.RowKit
set_option linter.unusedVariables false

/-- who was not asked for has been sent to -/
def SnE (M : List Bn) : Prop := ∀ d ∈ M, d.asked = false → d.seen ≠ []
structure Mid (x : Bx) (t n1 : Int) (M : List Bn) (n2 : Int) (L : List Rb) : Prop where
  g1 : goes n1 t = true
  g2 : goes n2 t = true
  rel : Rel (liveM M t) ((liveR L t).map Rb.b)
  ok : Okb x M
  sne : SnE M
  len : L.length ≤ 100
  sn : ∀ d ∈ L, d.b.seen.length ≤ 16
theorem live_live (M : List Bn) (t : Int) : liveM (liveM M t) t = liveM M t := by unfold liveM; simp
theorem liveR_live (L : List Rb) (t : Int) : liveR (liveR L t) t = liveR L t := by unfold liveR; simp
theorem goes_refl {n t : Int} (h : goes n t = true) : goes t t = true := by
  unfold goes at h ⊢
  simp only [Bool.and_eq_true, decide_eq_true_eq] at h ⊢
  omega
theorem SnE.live {M : List Bn} (h : SnE M) (t : Int) : SnE (liveM M t) := fun d hd => h d (List.mem_filter.1 hd).1
theorem seeL_ne (l : List A2) (b : A2) : seeL l b ≠ [] := fun h => by have := seeL_new l b; rw [h] at this; cases this
theorem SnE.upd {M : List Bn} {f : Bn → Bool} {u : Bn → Bn} (h : SnE M) (hu : ∀ d, (u d).asked = false → d.asked = false) (hs : ∀ d, d.asked = false → d.seen ≠ [] → (u d).seen ≠ []) : SnE (updF f u M) := by
  intro e he hk
  rcases mem_updF he with he | ⟨d, hd, rfl⟩
  · exact h e he hk
  · exact hs d (hu d hk) (h d hd (hu d hk))
theorem SnE.snoc {M : List Bn} {d : Bn} (h : SnE M) (hd : d.asked = false → d.seen ≠ []) : SnE (M ++ [d]) := by
  intro e he hk
  rcases List.mem_append.1 he with he | he
  · exact h e he hk
  · have : e = d := by simpa using he
    subst this
    exact hd hk
section
variable {x : Bx} {t n1 n2 : Int} {M : List Bn} {L : List Rb}
theorem SnE.outM {a b : A2} (h : SnE M) : SnE (outM x M t a b).2.2 := by
  unfold Go.Proofs.Ytemlnkcokeckmaa.outM
  split
  · split
    · exact h.upd (fun d hk => hk) (fun d _ _ => seeL_ne _ _)
    · split
      · exact h.snoc (fun _ => seeL_ne _ _)
      · exact h
  · exact h
theorem SnE.askM {a : A2} {s u : Int} (h : SnE M) : SnE (askM x M t a s u).2.2 := by
  unfold Go.Proofs.Ytemlnkcokeckmaa.askM
  split
  · split
    · exact h.upd (fun d hk => hk) (fun d _ hs => hs)
    · split
      · exact h.snoc (fun hk => by cases hk)
      · exact h
  · exact h
theorem Rel.lenR {R : List Bn} (h : Rel M R) (hok : Okb x M) (hm : x.most ≤ 100) : R.length ≤ 100 := by
  have := hok.len
  rw [← h.perm.length_eq]
  omega
theorem Rel.snR {L' : List Rb} (h : Rel M (L'.map Rb.b)) : ∀ d ∈ L', d.b.seen.length ≤ 16 := fun d hd => h.sn _ (h.perm.mem_iff.2 (List.mem_map.2 ⟨d, hd, rfl⟩))
/-- behind a call that both boxes took -/
theorem Mid.took {M' : List Bn} {L' : List Rb} (hg : goes n1 t = true) (hr : Rel M' (L'.map Rb.b)) (hok : Okb x M') (hs : SnE M') (hm : x.most ≤ 100) : Mid x t t M' t L' :=
  ⟨goes_refl hg, goes_refl hg, by rw [liveR_map]; exact hr.live t, hok, hs, by have := hr.lenR hok hm; rwa [List.length_map] at this, hr.snR⟩
theorem Mid.go1 (h : Mid x t n1 M n2 L) : Mid x t t (liveM M t) n2 L := ⟨goes_refl h.g1, h.g2, by rw [live_live]; exact h.rel, h.ok.live t, h.sne.live t, h.len, h.sn⟩
theorem Mid.go2 (h : Mid x t n1 M n2 L) : Mid x t n1 M t (liveR L t) := ⟨h.g1, goes_refl h.g1, by rw [liveR_live]; exact h.rel, h.ok, h.sne, Nat.le_trans (List.length_filter_le _ _) h.len, fun d hd => h.sn d (List.mem_filter.1 hd).1⟩
theorem Mid.next {t' : Int} (h : Mid x t n1 M n2 L) (h1 : t ≤ t') (h2 : t' ≤ 1099511627776) : Mid x t' n1 M n2 L := by
  have e : ∀ N : List Bn, liveM N t' = liveM (liveM N t) t' := fun N => by
    unfold liveM
    rw [List.filter_filter]
    refine List.filter_congr (fun b _ => ?_)
    by_cases hb : b.until_ ≤ t'
    · simp [hb]
    · have : ¬ b.until_ ≤ t := by omega
      simp [hb, this]
  have g : ∀ n, goes n t = true → goes n t' = true := fun n hn => by
    unfold goes at hn ⊢
    simp only [Bool.and_eq_true, decide_eq_true_eq] at hn ⊢
    omega
  refine ⟨g _ h.g1, g _ h.g2, ?_, h.ok, h.sne, h.len, h.sn⟩
  have := h.rel.live t'
  rw [liveR_map] at this ⊢
  rwa [← e, ← e] at this
theorem Mid.start (hr : Rel M (L.map Rb.b)) (hok : Okb x M) (hs : SnE M) (hm : x.most ≤ 100) (hg : goes n1 t = true) : Mid x t n1 M n1 L :=
  ⟨hg, hg, by rw [liveR_map]; exact hr.live t, hok, hs, by have := hr.lenR hok hm; rwa [List.length_map] at this, hr.snR⟩
/-- Out -/
theorem Mid.out {a b : A2} {w w' : World} {rb : Nat} {v : Value} {e : Ending} (h : Mid x t n1 M n2 L) (hx : x.lo ≤ x.hi) (hm : x.most ≤ 100) (hr : RoutAns w rb x v n2 L (liveR L t) t a b e w') :
    ∃ n2' L', e = .returned (ansA (outS x n1 M t a b).1 (outS x n1 M t a b).2.1) ∧ RStep w w' rb x v L n2' L' ∧ Mid x t (outS x n1 M t a b).2.2.1 (outS x n1 M t a b).2.2.2 n2' L' := by
  have hok' := h.ok.out (now := n1) (t := t) (a := a) (b := b) hx
  unfold outS at hok' ⊢
  rw [if_pos h.g1] at hok' ⊢
  dsimp only at hok' ⊢
  by_cases hab : mayA a = true ∧ mayA b = true
  · obtain ⟨L', h1, h2, h3⟩ := out_rel h.rel hx ⟨hab.1, hab.2, h.g2⟩ hr
    exact ⟨t, L', h1, h2, .took h.g1 h3 hok' (h.sne.live t).outM hm⟩
  · rcases hr with ⟨_, h1, h2⟩ | ⟨hn, _⟩
    · have e1 : outM x (liveM M t) t a b = ((0, 0), 1, liveM M t) := by unfold outM; rw [if_neg hab]
      rw [e1]
      exact ⟨n2, L, h1, h2, h.go1⟩
    · exact absurd ⟨hn.1, hn.2.1⟩ hab
/-- Ask -/
theorem Mid.ask {a : A2} {s u : Int} {w w' : World} {rb : Nat} {v : Value} {e : Ending} (h : Mid x t n1 M n2 L) (hx : x.lo ≤ x.hi) (hm : x.most ≤ 100) (hr : RaskAns w rb x v n2 L (liveR L t) t a s u e w') :
    ∃ n2' L', e = .returned (ansI (askS x n1 M t a s u).1 (askS x n1 M t a s u).2.1) ∧ RStep w w' rb x v L n2' L' ∧ Mid x t (askS x n1 M t a s u).2.2.1 (askS x n1 M t a s u).2.2.2 n2' L' := by
  have hok' := h.ok.ask (now := n1) (t := t) (a := a) (s := s) (u := u) hx
  unfold askS at hok' ⊢
  rw [if_pos h.g1] at hok' ⊢
  dsimp only at hok' ⊢
  have hs' := (h.sne.live t).askM (x := x) (t := t) (a := a) (s := s) (u := u)
  unfold askM at hok' hs' ⊢
  by_cases hab : mayA a = true ∧ t < u ∧ u ≤ 1099511627776
  · rw [if_pos hab] at hok' hs' ⊢
    rcases hr with ⟨hn, _⟩ | ⟨_, hr⟩
    · exact absurd ⟨hab.1, hab.2.1, hab.2.2, h.g2⟩ hn
    · rcases hr with ⟨k, d, hk, hd, _, h1, h2⟩ | ⟨hn, hf, h1, h2⟩ | ⟨hn, p, k, hl, hp, hpl, h1, h2⟩
      · obtain ⟨f1, f2, f3, f4⟩ := ask_in h.rel hk hd
        rw [f1] at hok' hs' ⊢
        exact ⟨t, _, h1, h2, .took h.g1 (ask_turn h.rel hk hd) hok' hs' hm⟩
      · have f0 : (liveM M t).find? (askF a) = none := by rw [List.find?_eq_none]; intro e he; rw [ask_out h.rel hn e he]; simp
        have f1 : addM x (liveM M t) s = none := by
          unfold addM
          rcases hf with hf | hf
          · have hlen : (liveM M t).length = (liveR L t).length := by rw [h.rel.perm.length_eq, List.length_map]
            cases chooseM x (liveM M t) s with
            | none => rfl
            | some p => dsimp only; rw [if_neg (by omega)]
          · rw [choose_noport hx (noport_perm h.rel.perm hf)]
        rw [f0, f1] at hok' hs' ⊢
        exact ⟨t, _, h1, h2, .took h.g1 h.rel (h.ok.live t) (h.sne.live t) hm⟩
      · have f0 : (liveM M t).find? (askF a) = none := by rw [List.find?_eq_none]; intro e he; rw [ask_out h.rel hn e he]; simp
        have f1 : addM x (liveM M t) s = some p := by
          have hlen : (liveM M t).length = (liveR L t).length := by rw [h.rel.perm.length_eq, List.length_map]
          unfold addM
          rw [choose_port hx (port_perm h.rel.perm hp)]
          dsimp only
          rw [if_pos (by omega)]
        rw [f0, f1] at hok' hs' ⊢
        exact ⟨t, _, h1, h2, .took h.g1 (ask_new h.rel hn hp hpl) hok' hs' hm⟩
  · rw [if_neg hab]
    rcases hr with ⟨_, h1, h2⟩ | ⟨hn, _⟩
    · exact ⟨n2, L, h1, h2, h.go1⟩
    · exact absurd ⟨hn.1, hn.2.1, hn.2.2.1⟩ hab
/-- what the document's Drop answers -/
def RdropAns (w : World) (rb : Nat) (x : Bx) (v : Value) (now : Int) (L : List Rb) (t : Int) (a : A2) (e : Ending) (w' : World) : Prop :=
  (goes now t = false ∧ e = .returned (.bool false) ∧ RStep w w' rb x v L now L) ∨
  (goes now t = true ∧ (∀ d ∈ liveR L t, findP a true (0, 0) d.b = false) ∧ e = .returned (.bool false) ∧ RStep w w' rb x v L t (liveR L t)) ∨
  (goes now t = true ∧ ∃ (k : Nat) (d : Rb), (liveR L t)[k]? = some d ∧ findP a true (0, 0) d.b = true ∧ (∀ (j : Nat) (e : Rb), j < k → (liveR L t)[j]? = some e → findP a true (0, 0) e.b = false) ∧ e = .returned (.bool true) ∧ RStep w w' rb x v L t (cutR (liveR L t) k))
theorem Mid.drop {a : A2} {w w' : World} {rb : Nat} {v : Value} {e : Ending} (h : Mid x t n1 M n2 L) (hm : x.most ≤ 100) (hr : RdropAns w rb x v n2 L t a e w') :
    ∃ n2' L', e = .returned (.bool (dropS n1 M t a).1) ∧ RStep w w' rb x v L n2' L' ∧ Mid x t (dropS n1 M t a).2.1 (dropS n1 M t a).2.2 n2' L' := by
  have hok' := h.ok.drop (now := n1) (t := t) (a := a)
  unfold dropS at hok' ⊢
  rw [if_pos h.g1] at hok' ⊢
  dsimp only at hok' ⊢
  rcases hr with ⟨hn, _⟩ | ⟨_, hn, h1, h2⟩ | ⟨_, k, d, hk, hd, _, h1, h2⟩
  · rw [h.g2] at hn; cases hn
  · obtain ⟨f1, f2⟩ := drop_none h.rel hn
    rw [f2] at hok' ⊢
    rw [f1]
    exact ⟨t, _, h1, h2, .took h.g1 h.rel hok' (h.sne.live t) hm⟩
  · obtain ⟨f1, f2⟩ := drop_some h.rel hk hd
    rw [f1]
    refine ⟨t, _, h1, h2, .took h.g1 f2 hok' (fun e he => ?_) hm⟩
    exact h.sne.live t e (List.mem_of_mem_eraseP he)
/-- does the document's own let in whom the program lets in -/
theorem okB_eq {d : Bn} {f : A2} {m : Int} (h0 : 0 ≤ m) (h2 : m ≤ 2) (hs : d.asked = false → d.seen ≠ []) : okB m f d = letsB d f m := by
  unfold okB letsB
  cases hk : d.asked with
  | true => simp
  | false =>
    obtain ⟨c, hc⟩ := List.exists_mem_of_ne_nil _ (hs hk)
    by_cases e0 : m = 0
    · subst e0
      have : d.seen.any (fun a => decide (partA a 0 = partA f 0)) = true := List.any_eq_true.2 ⟨c, hc, by unfold partA; simp⟩
      rw [this]
      simp
    · have e1 : (m == 0) = false := by simpa using e0
      rw [e1, Bool.or_false, Bool.false_or, Bool.false_or]
      congr 1
      funext a
      unfold okA partA
      rw [if_neg e0, if_neg e0]
      by_cases e2 : m = 1
      · subst e2
        simp only [beq_self_eq_true, Bool.true_and, if_true]
        by_cases hh : a.1 = f.1
        · simp [hh]
        · have : ¬ a = f := fun e => hh (by rw [e])
          simp [hh, this]
      · have e3 : (m == 1) = false := by simpa using e2
        rw [if_neg e2, if_neg e2, e3, Bool.false_and, Bool.or_false]
theorem in_rel {R : List Bn} {p : Int} {f : A2} (h : Rel M R) (hok : Okb x M) (hs : SnE M) (h0 : 0 ≤ x.filter) (h2 : x.filter ≤ 2) (hf : mayA f = true) : refIn x R p f = inM x M p f := by
  unfold refIn inM
  rw [if_pos hf]
  have hone : One (comesF x p f) M := by
    intro c hc d hd fc fd
    unfold comesF at fc fd
    simp only [Bool.and_eq_true, decide_eq_true_eq] at fc fd
    exact hok.one hd hc (fc.1.trans fd.1.symm)
  rw [find_perm h.perm hone]
  have : R.find? (inP x p f) = R.find? (comesF x p f) := by
    have e : ∀ d ∈ R, inP x p f d = comesF x p f d := fun d hd => by
      unfold inP comesF
      rw [okB_eq h0 h2 (hs d (h.perm.mem_iff.2 hd))]
      rfl
    clear h hok hs hone
    induction R with
    | nil => rfl
    | cons d R ih =>
      rw [List.find?_cons, List.find?_cons, e d (by simp), ih (fun c hc => e c (by simp [hc]))]
  rw [this]
  cases R.find? (comesF x p f) <;> rfl
def RinAns (w : World) (rb : Nat) (x : Bx) (v : Value) (now : Int) (L : List Rb) (t p : Int) (f : A2) (e : Ending) (w' : World) : Prop :=
  (mayA f = true ∧ goes now t = true ∧ e = .returned (ansA (refIn x ((liveR L t).map Rb.b) p f).1 (refIn x ((liveR L t).map Rb.b) p f).2) ∧ RStep w w' rb x v L t (liveR L t)) ∨
  (¬ (mayA f = true ∧ goes now t = true) ∧ e = .returned (ansA (0, 0) 1) ∧ RStep w w' rb x v L now L)
theorem Mid.in_ {p : Int} {f : A2} {w w' : World} {rb : Nat} {v : Value} {e : Ending} (h : Mid x t n1 M n2 L) (h0 : 0 ≤ x.filter) (h2 : x.filter ≤ 2) (hr : RinAns w rb x v n2 L t p f e w') :
    ∃ n2' L', e = .returned (ansA (inS x n1 M t p f).1 (inS x n1 M t p f).2.1) ∧ RStep w w' rb x v L n2' L' ∧ Mid x t (inS x n1 M t p f).2.2.1 (inS x n1 M t p f).2.2.2 n2' L' := by
  unfold inS
  rw [if_pos h.g1]
  dsimp only
  rcases hr with ⟨hf, _, h1, h2'⟩ | ⟨hn, h1, h2'⟩
  · rw [in_rel h.rel (h.ok.live t) (h.sne.live t) h0 h2 hf] at h1
    exact ⟨t, _, h1, h2', h.go1.go2⟩
  · have hf : ¬ mayA f = true := fun hf => hn ⟨hf, h.g2⟩
    have e1 : inM x (liveM M t) p f = ((0, 0), 1) := by unfold inM; rw [if_neg hf]
    rw [e1]
    exact ⟨n2, L, h1, h2', h.go1⟩
/-- All of both: the same row -/
theorem Rel.all {R l : List Bn} (h : Rel M R) (hok : Okb x M) (hp : l.Perm M) (hr : RiseP l) : l = R := by
  refine List.Perm.eq_of_pairwise (le := fun a b : Bn => a.port < b.port) (fun a b _ _ h1 h2 => by omega) ?_ h.asc (hp.trans h.perm)
  rw [List.pairwise_iff_getElem]
  intro i j hi hj hij
  exact all_rise hok hp hr i j _ _ hij (List.getElem?_eq_getElem hi) (List.getElem?_eq_getElem hj)
theorem box2_may (hx : isBx x) : box2 x = decide (RMay x) := by
  obtain ⟨⟨h1, _⟩, _⟩ := hx
  unfold box2 isWayB
  rw [Bool.eq_iff_iff]
  simp only [Bool.and_eq_true, decide_eq_true_eq, mayA_iff]
  unfold RMay
  constructor
  · rintro ⟨⟨a1, a2, a3⟩, ⟨_, a4, a5⟩, a6, ⟨a7, a8⟩, ⟨a9, b1⟩, b2, b3, b4, b5⟩
    exact ⟨a1, a2, a6, a5, a7, a8, a9, b1, b2, b3, b4, b5⟩
  · rintro ⟨a1, a2, a6, a5, a7, a8, a9, b1, b2, b3, b4, b5⟩
    exact ⟨⟨a1, a2, by omega⟩, ⟨a1, by omega, a5⟩, a6, ⟨a7, a8⟩, ⟨a9, b1⟩, b2, b3, b4, b5⟩
end
end Go.Proofs.Ytemlnkcokeckmaa
namespace Go.Proofs.Ytemlnkcokeckmaa
open Go.RowKit
set_option linter.unusedVariables false

/-- the blocks of the document's box, with what they are -/
def rks (rb : Nat) (v : Value) (LL : List Rb) : List Nat := rb :: (v.ownBlock.toList ++ LL.filterMap (fun d => blockOf d.sv))
theorem rks_iff {rb k : Nat} {v : Value} {LL : List Rb} : k ∈ rks rb v LL ↔ RFoot rb v LL k := by
  unfold rks RFoot
  simp only [List.mem_cons, List.mem_append, Option.mem_toList, List.mem_filterMap]
def rbl (V : World) (rb : Nat) (v : Value) (LL : List Rb) : List (Nat × Obj) := (rks rb v LL).filterMap (fun k => (V.heap[k]?).map (fun o => (k, o)))
theorem rbl_mem {V : World} {rb : Nat} {v : Value} {LL : List Rb} {p : Nat × Obj} (h : p ∈ rbl V rb v LL) : V.heap[p.1]? = some p.2 ∧ RFoot rb v LL p.1 := by
  unfold rbl at h
  obtain ⟨k, hk, ho⟩ := List.mem_filterMap.1 h
  cases hv : V.heap[k]? with
  | none => rw [hv] at ho; cases ho
  | some o =>
    rw [hv] at ho
    cases ho
    exact ⟨hv, rks_iff.1 hk⟩
theorem rbl_all {V : World} {rb : Nat} {x : Bx} {now : Int} {v : Value} {LL : List Rb} (h : Ra V rb x now v LL) {k : Nat} (hk : RFoot rb v LL k) : ∃ o, (k, o) ∈ rbl V rb v LL := by
  have hl := h.foot_lt hk
  refine ⟨V.heap[k], List.mem_filterMap.2 ⟨k, rks_iff.2 hk, ?_⟩⟩
  rw [Array.getElem?_eq_getElem hl]
  rfl
/-- both boxes stand; these objects are held -/
structure Tw (w0 : World) (nb : Nat) (x : Bx) (now : Int) (M : List Bn) (rb : Nat) (nowR : Int) (LL : List Rb) (os : List (Nat × Obj)) (V : World) : Prop where
  two : ∃ v bl, Pl w0 nb x now M (bl ++ os) V ∧ Ra V rb x nowR v LL ∧ (∀ k, RFoot rb v LL k → w0.heap.size ≤ k ∧ ∃ o, (k, o) ∈ bl) ∧ (∀ p ∈ bl, RFoot rb v LL p.1) ∧ ∀ p ∈ os, ¬ RFoot rb v LL p.1
section
variable {w0 V V' : World} {nb rb : Nat} {x : Bx} {now now' nowR nowR' : Int} {M M' : List Bn} {LL LL' : List Rb} {os : List (Nat × Obj)}
theorem Tw.pl (h : Tw w0 nb x now M rb nowR LL os V) : Pl w0 nb x now M os V := by
  obtain ⟨v, bl, h1, _⟩ := h.two
  exact h1.sub (fun p hp => List.mem_append_right _ hp)
theorem Tw.lt (h : Tw w0 nb x now M rb nowR LL os V) {p : Nat × Obj} (hp : p ∈ os) : p.1 < V.heap.size := h.pl.lt hp
theorem Tw.low (h : Tw w0 nb x now M rb nowR LL os V) : Below w0.heap.size w0 V := h.pl.low
theorem Tw.cells {b : Nat} {C : Array Value} {t : TypeId} (h : Tw w0 nb x now M rb nowR LL os V) (hp : (b, Obj.cells C t (0, 0)) ∈ os) (j : Nat) : V.cell? ⟨b, j, none⟩ = C[j]? ∧ V.frozen? ⟨b, j, none⟩ = false := h.pl.cells hp j
theorem Tw.below (h : Tw w0 nb x now M rb nowR LL os V) (hb : Below V.heap.size V V') : Tw w0 nb x now M rb nowR LL os V' := by
  obtain ⟨v, bl, h1, h2, h3, h4, h5⟩ := h.two
  exact ⟨v, bl, h1.below hb, h2.below hb, h3, h4, h5⟩
theorem Tw.alloc (h : Tw w0 nb x now M rb nowR LL os V) (o : Obj) : Tw w0 nb x now M rb nowR LL os (V.alloc o) := h.below ((Below.refl _ V).alloc (Nat.le_refl _) o)
theorem Tw.drewN (h : Tw w0 nb x now M rb nowR LL os V) (q : Nat) : Tw w0 nb x now M rb nowR LL os (V.drewN q) := h.below (below_drw (Below.refl _ V) q)
theorem Tw.sub {os' : List (Nat × Obj)} (h : Tw w0 nb x now M rb nowR LL os V) (hs : ∀ p ∈ os', p ∈ os) : Tw w0 nb x now M rb nowR LL os' V := by
  obtain ⟨v, bl, h1, h2, h3, h4, h5⟩ := h.two
  refine ⟨v, bl, h1.sub (fun p hp => ?_), h2, h3, h4, fun p hp => h5 p (hs p hp)⟩
  rcases List.mem_append.1 hp with hp | hp
  · exact List.mem_append_left _ hp
  · exact List.mem_append_right _ (hs p hp)
/-- one more object, neither box's -/
theorem Tw.more {p : Nat × Obj} (h : Tw w0 nb x now M rb nowR LL os V) (hv : V.heap[p.1]? = some p.2) (h1 : ∀ kv L, Na V nb x now kv L → ¬ Foot nb kv L p.1) (h2 : ∀ v, Ra V rb x nowR v LL → ¬ RFoot rb v LL p.1) : Tw w0 nb x now M rb nowR LL (p :: os) V := by
  obtain ⟨v, bl, g1, g2, g3, g4, g5⟩ := h.two
  have hin : ∀ q, q ∈ bl ++ p :: os → q = p ∨ q ∈ bl ++ os := fun q hq => by
    rcases List.mem_append.1 hq with hq | hq
    · exact .inr (List.mem_append_left _ hq)
    · rcases List.mem_cons.1 hq with rfl | hq
      · exact .inl rfl
      · exact .inr (List.mem_append_right _ hq)
  refine ⟨v, bl, ?_, g2, g3, g4, fun q hq => ?_⟩
  · obtain ⟨kv, L, e1, e2, e3, e4⟩ := g1.bo
    refine ⟨⟨kv, L, e1, e2, e3, fun q hq => ?_⟩, fun q hq => ?_, g1.low⟩
    · rcases hin q hq with rfl | hq
      · exact h1 kv L e1
      · exact e4 q hq
    · rcases hin q hq with rfl | hq
      · exact hv
      · exact g1.held q hq
  · rcases List.mem_cons.1 hq with rfl | hq
    · exact h2 v g2
    · exact g5 q hq
theorem Tw.fresh {k : Nat} {o : Obj} (h : Tw w0 nb x now M rb nowR LL os V) (hb : Below V.heap.size V V') (hk : V.heap.size ≤ k) (ho : V'.heap[k]? = some o) : Tw w0 nb x now M rb nowR LL ((k, o) :: os) V' := by
  obtain ⟨v, bl, g1, g2, g3, g4, g5⟩ := h.two
  obtain ⟨kv, L, e1, e2, e3, e4⟩ := g1.bo
  have hin : ∀ q, q ∈ bl ++ (k, o) :: os → q = (k, o) ∨ q ∈ bl ++ os := fun q hq => by
    rcases List.mem_append.1 hq with hq | hq
    · exact .inr (List.mem_append_left _ hq)
    · rcases List.mem_cons.1 hq with rfl | hq
      · exact .inl rfl
      · exact .inr (List.mem_append_right _ hq)
  refine ⟨v, bl, ⟨⟨kv, L, e1.below hb, e2, e3, fun q hq => ?_⟩, fun q hq => ?_, (g1.below hb).low⟩, g2.below hb, g3, g4, fun q hq => ?_⟩
  · rcases hin q hq with rfl | hq
    · intro hf
      have := e1.foot_lt hf
      dsimp only at this
      omega
    · exact e4 q hq
  · rcases hin q hq with rfl | hq
    · exact ho
    · exact (g1.below hb).held q hq
  · rcases List.mem_cons.1 hq with rfl | hq
    · intro hf
      have := g2.foot_lt hf
      dsimp only at this
      omega
    · exact g5 q hq
theorem Tw.box {k : Nat} (h : Tw w0 nb x now M rb nowR LL os V) (cs : Array Value) (t : TypeId) (hk : k = V.heap.size) : Tw w0 nb x now M rb nowR LL ((k, .cells cs t (0, 0)) :: os) (V.alloc (.cells cs t)) :=
  h.fresh ((Below.refl _ V).alloc (Nat.le_refl _) _) (by omega) (by rw [hk]; exact World.alloc_heap_new V _)
/-- a call of the program's box -/
theorem Tw.prog {f : Nat} {args : Array Value} {E : Ending → World → Prop} (h : Tw w0 nb x now M rb nowR LL os V) (hc : ∀ os', Pl w0 nb x now M os' V → Calls Try.prog f args V fun e V' => E e V' ∧ Pl w0 nb x now' M' os' V') :
    Calls Try.prog f args V fun e V' => E e V' ∧ Tw w0 nb x now' M' rb nowR LL os V' := by
  obtain ⟨v, bl, h1, h2, h3, h4, h5⟩ := h.two
  refine (hc _ h1).mono fun e V' hr => ⟨hr.1, ⟨v, bl, hr.2, h2.kept fun k hk => ?_, h3, h4, h5⟩⟩
  obtain ⟨_, o, ho⟩ := h3 k hk
  exact (hr.2.held (k, o) (List.mem_append_left _ ho)).trans (h1.held (k, o) (List.mem_append_left _ ho)).symm
/-- a call of the document's box, or a store in it -/
theorem Tw.refc (h : Tw w0 nb x now M rb nowR LL os V) : ∃ v, Ra V rb x nowR v LL ∧ ∀ V' nowR' LL', RStep V V' rb x v LL nowR' LL' → Tw w0 nb x now M rb nowR' LL' os V' := by
  obtain ⟨v, bl, h1, h2, h3, h4, h5⟩ := h.two
  refine ⟨v, h2, fun V' nowR' LL' hs => ?_⟩
  obtain ⟨v', a1, a2, a3⟩ := hs
  obtain ⟨kv, L, e1, e2, e3, e4⟩ := h1.bo
  have hno : ∀ k, RFoot rb v LL k → ¬ Foot nb kv L k := fun k hk => by
    obtain ⟨_, o, ho⟩ := h3 k hk
    exact e4 (k, o) (List.mem_append_left _ ho)
  have hst : ∀ k, (k = rb ∨ v.ownBlock = some k) → RFoot rb v LL k := fun k hk => hk.elim .inl (fun e => .inr (.inl e))
  have hsz : w0.heap.size ≤ V.heap.size := h1.low.size
  refine ⟨v', rbl V' rb v' LL', ⟨⟨kv, L, e1.keeps a2 (fun k hk hs => hno k (hst k hs) hk), e2, e3, fun p hp => ?_⟩, fun p hp => ?_, ?_⟩, a1, fun k hk => ⟨?_, rbl_all a1 hk⟩, fun p hp => (rbl_mem hp).2, fun p hp hf => ?_⟩
  · rcases List.mem_append.1 hp with hp | hp
    · intro hf
      rcases a3 _ (rbl_mem hp).2 with g | g
      · exact hno _ g hf
      · have := e1.foot_lt hf; omega
    · exact e4 p (List.mem_append_right _ hp)
  · rcases List.mem_append.1 hp with hp | hp
    · exact (rbl_mem hp).1
    · have hp' := List.mem_append_right bl hp
      exact (a2.block _ (h1.lt hp') (fun hs => h5 p hp (hst _ hs))).trans (h1.held p hp')
  · exact h1.low.trans (a2.below (fun k hk => (h3 k (hst k hk)).1) hsz)
  · exact (a3 k hk).elim (fun g => (h3 k g).1) (fun g => Nat.le_trans hsz g)
  · rcases a3 _ hf with g | g
    · exact h5 p hp g
    · have := h1.lt (List.mem_append_right bl hp); omega
/-- the document's box begins -/
theorem Tw.begin {o : Nat × Obj} {v : Value} (h : Pl w0 nb x now M (o :: os) V) (hr : Ra V rb x nowR v []) (ho : o.1 = rb) (hv : v.ownBlock = none) (h0 : w0.heap.size ≤ rb) (hos : ∀ p ∈ os, p.1 ≠ rb) : Tw w0 nb x now M rb nowR [] os V := by
  have hf : ∀ k, RFoot rb v [] k → k = rb := fun k hk => by
    rcases hk with hk | hk | ⟨d, hd, _⟩
    · exact hk
    · rw [hv] at hk; cases hk
    · cases hd
  refine ⟨v, [o], h, hr, fun k hk => ?_, fun p hp => ?_, fun p hp hk => hos p hp (hf _ hk)⟩
  · rw [hf k hk]
    exact ⟨h0, o.2, by rw [← ho]; simp⟩
  · have : p = o := by simpa using hp
    rw [this, ho]
    exact .inl rfl
/-- a held block's cell is turned -/
theorem Tw.store {b j : Nat} {C : Array Value} {t : TypeId} {u : Value} (h : Tw w0 nb x now M rb nowR LL ((b, Obj.cells C t (0, 0)) :: os) V) (ho : ∀ p ∈ os, p.1 ≠ b) (hb : w0.heap.size ≤ b) :
    Tw w0 nb x now M rb nowR LL ((b, Obj.cells (C.setIfInBounds j u) t (0, 0)) :: os) (V.setCell ⟨b, j, none⟩ u) := by
  obtain ⟨v, bl, g1, g2, g3, g4, g5⟩ := h.two
  obtain ⟨kv, L, e1, e2, e3, e4⟩ := g1.bo
  have hbf : ¬ Foot nb kv L b := e4 (b, Obj.cells C t (0, 0)) (List.mem_append_right _ (by simp))
  have hbr : ¬ RFoot rb v LL b := g5 (b, Obj.cells C t (0, 0)) (by simp)
  have hk : Keeps (fun k => k = b) V (V.setCell ⟨b, j, none⟩ u) := Keeps.set (S := fun k => k = b) (Keeps.refl _ _) b j u rfl
  have hin : ∀ (o : Obj) q, q ∈ bl ++ (b, o) :: os → q = (b, o) ∨ (q.1 ≠ b ∧ q ∈ bl ++ (b, Obj.cells C t (0, 0)) :: os) := fun o q hq => by
    rcases List.mem_append.1 hq with hq | hq
    · exact .inr ⟨fun e => hbr (by rw [← e]; exact g4 q hq), List.mem_append_left _ hq⟩
    · rcases List.mem_cons.1 hq with rfl | hq
      · exact .inl rfl
      · exact .inr ⟨ho q hq, List.mem_append_right _ (List.mem_cons_of_mem _ hq)⟩
  refine ⟨v, bl, ⟨⟨kv, L, e1.keeps hk (fun k hk e => hbf (by rw [← e]; exact hk)), e2, e3, fun q hq => ?_⟩, fun q hq => ?_, g1.low.setCell (p := ⟨b, j, none⟩) hb _⟩, g2.kept fun k hk2 => hk.block k (g2.foot_lt hk2) (fun e => hbr (by rw [← e]; exact hk2)), g3, g4, fun q hq => ?_⟩
  · rcases hin _ q hq with rfl | ⟨_, hq⟩
    · exact hbf
    · exact e4 q hq
  · rcases hin _ q hq with rfl | ⟨hn, hq⟩
    · exact heap_setCell_same V b j C t u (g1.held (b, Obj.cells C t (0, 0)) (List.mem_append_right _ (by simp)))
    · exact (heap_setCell_other V ⟨b, j, none⟩ q.1 u (fun e => hn e)).trans (g1.held q hq)
  · rcases List.mem_cons.1 hq with rfl | hq
    · exact hbr
    · exact g5 q (List.mem_cons_of_mem _ hq)
end
/-- the document's box is emptied by the law's own stores -/
theorem rboot_step {V : World} {rb : Nat} {x : Bx} {now : Int} {v : Value} {LL : List Rb} (h : Ra V rb x now v LL) : RStep V ((V.setCell ⟨rb, 7, none⟩ (.slice none 0 0)).setCell ⟨rb, 8, none⟩ (.int .i64 0)) rb x v LL 0 [] := by
  have h1 := heap_setCell_same V rb 7 _ 36 (.slice none 0 0) h.top
  have h2 := heap_setCell_same _ rb 8 _ 36 (.int .i64 0) h1
  refine ⟨.slice none 0 0, ⟨h2, ⟨rfl, .inl ⟨rfl, rfl⟩⟩, fun d hd => by cases hd⟩, ((Keeps.refl _ _).set rb 7 _ (.inl rfl)).set rb 8 _ (.inl rfl), fun g hg => ?_⟩
  rcases hg with rfl | hg | ⟨d, hd, _⟩
  · exact .inl (.inl rfl)
  · cases hg
  · cases hd
theorem rfoot_ty {V : World} {rb : Nat} {x : Bx} {now : Int} {v : Value} {LL : List Rb} (h : Ra V rb x now v LL) {k : Nat} (hk : RFoot rb v LL k) {C : Array Value} (hC : V.heap[k]? = some (.cells C 54 (0, 0))) : False := by
  rcases hk with rfl | hk | ⟨d, hd, hk⟩
  · rw [h.top] at hC
    simp at hC
  · obtain ⟨C', hC'⟩ := own_obj h.row hk
    rw [hC'] at hC
    simp at hC
  · obtain ⟨_, C', hC'⟩ := (h.nds d hd).lt hk
    rw [hC'] at hC
    simp at hC
theorem Tw.hold_bs {w0 V : World} {nb rb : Nat} {x : Bx} {now nowR : Int} {M : List Bn} {LL : List Rb} {os : List (Nat × Obj)} {u : Value} {l : List Bn} (h : Tw w0 nb x now M rb nowR LL os V) (hb : IsBs V u l) :
    ∃ OB, Tw w0 nb x now M rb nowR LL (OB ++ os) V ∧ ∀ now' M' nowR' LL' W, Tw w0 nb x now' M' rb nowR' LL' (OB ++ os) W → IsBs W u l := by
  have hb2 := hb
  obtain ⟨A, c, rfl, h1, h2, h3⟩ := hb
  rcases Nat.eq_zero_or_pos l.length with h0 | h0
  · exact ⟨[], h, fun _ _ _ _ W _ => ⟨A, c, rfl, h1, h2, fun hh => by omega⟩⟩
  · obtain ⟨b, rfl, ⟨C, hC⟩, h4⟩ := h3 h0
    refine ⟨[(b, .cells C 54 (0, 0))], h.more (p := (b, .cells C 54 (0, 0))) hC (fun kv L hn hf => foot_ty hn hf hC) (fun v hr hf => rfoot_ty hr hf hC), fun _ _ _ _ W hW => ⟨_, c, rfl, h1, h2, fun _ => ⟨b, rfl, ⟨C, hW.pl.held (b, .cells C 54 (0, 0)) (by simp)⟩, fun j d hj i hi => ?_⟩⟩⟩
    have e1 := (hW.cells (b := b) (C := C) (t := 54) (by simp) (j * 7 + i)).1
    have e2 := (h.more (p := (b, .cells C 54 (0, 0))) hC (fun kv L hn hf => foot_ty hn hf hC) (fun v hr hf => rfoot_ty hr hf hC)).cells (b := b) (C := C) (t := 54) (by simp) (j * 7 + i)
    rw [e1, ← e2.1]
    exact h4 j d hj i hi
end Go.Proofs.Ytemlnkcokeckmaa
namespace Go.Proofs.Ytemlnkcokeckmaa
open Go.RowKit
set_option linter.unusedVariables false

/-- ahead of a step -/
structure St (x : Bx) (T : Int) (M : List Bn) (LL : List Rb) : Prop where
  t0 : 0 ≤ T
  t1 : T ≤ 1099511627776
  rel : Rel M (LL.map Rb.b)
  ok : Okb x M
  sne : SnE M
/-- behind a step, ahead of what both tell -/
def Aft (x : Bx) (t T : Int) (M : List Bn) (LL : List Rb) (n1 : Int) (M1 : List Bn) (n2 : Int) (L2 : List Rb) : Prop :=
  (goes T t = true ∧ Mid x t n1 M1 n2 L2) ∨ (goes T t = false ∧ n1 = T ∧ n2 = T ∧ M1 = M ∧ L2 = LL)
theorem St.nil {x : Bx} (h : RMay x) : St x 0 [] [] := ⟨by omega, by omega, .nil, .nil (by unfold RMay at h; omega), fun d hd => by cases hd⟩
theorem may_okB {x : Bx} (h : RMay x) : OkB x := by
  unfold RMay at h
  obtain ⟨_, h1, h2, h3, _, _, _, _, h4, h5, _⟩ := h
  exact ⟨h1, h2, h3, h4, h5⟩
section
variable {x : Bx} {t T : Int} {M : List Bn} {LL : List Rb}
theorem St.okM (h : St x T M LL) (hx : RMay x) : OkM M := h.ok.okM (by unfold RMay at hx; omega)
theorem St.len (h : St x T M LL) (hx : RMay x) : LL.length ≤ 100 := by
  have := h.rel.lenR h.ok (by unfold RMay at hx; omega)
  rwa [List.length_map] at this
theorem St.mid (h : St x T M LL) (hx : RMay x) (hg : goes T t = true) : Mid x t T M T LL := .start h.rel h.ok h.sne (by unfold RMay at hx; omega) hg
theorem aft_out {a b : A2} {w w' : World} {rb : Nat} {v : Value} {e : Ending} (h : St x T M LL) (hx : RMay x) (hr : RoutAns w rb x v T LL (liveR LL t) t a b e w') :
    ∃ n2 L2, e = .returned (ansA (outS x T M t a b).1 (outS x T M t a b).2.1) ∧ RStep w w' rb x v LL n2 L2 ∧ Aft x t T M LL (outS x T M t a b).2.2.1 (outS x T M t a b).2.2.2 n2 L2 := by
  cases hg : goes T t with
  | true =>
    obtain ⟨n2, L2, h1, h2, h3⟩ := (h.mid hx hg).out (may_okB hx).lh (by unfold RMay at hx; omega) hr
    exact ⟨n2, L2, h1, h2, .inl ⟨hg, h3⟩⟩
  | false =>
    unfold outS
    rw [hg, if_neg (by simp)]
    rcases hr with ⟨_, h1, h2⟩ | ⟨hn, _⟩
    · exact ⟨T, LL, h1, h2, .inr ⟨hg, rfl, rfl, rfl, rfl⟩⟩
    · rw [hn.2.2] at hg; cases hg
theorem aft_in {p : Int} {f : A2} {w w' : World} {rb : Nat} {v : Value} {e : Ending} (h : St x T M LL) (hx : RMay x) (hr : RinAns w rb x v T LL t p f e w') :
    ∃ n2 L2, e = .returned (ansA (inS x T M t p f).1 (inS x T M t p f).2.1) ∧ RStep w w' rb x v LL n2 L2 ∧ Aft x t T M LL (inS x T M t p f).2.2.1 (inS x T M t p f).2.2.2 n2 L2 := by
  cases hg : goes T t with
  | true =>
    obtain ⟨n2, L2, h1, h2, h3⟩ := (h.mid hx hg).in_ (by unfold RMay at hx; omega) (by unfold RMay at hx; omega) hr
    exact ⟨n2, L2, h1, h2, .inl ⟨hg, h3⟩⟩
  | false =>
    unfold inS
    rw [hg, if_neg (by simp)]
    rcases hr with ⟨_, hn, _⟩ | ⟨_, h1, h2⟩
    · rw [hn] at hg; cases hg
    · exact ⟨T, LL, h1, h2, .inr ⟨hg, rfl, rfl, rfl, rfl⟩⟩
theorem aft_ask {a : A2} {s u : Int} {w w' : World} {rb : Nat} {v : Value} {e : Ending} (h : St x T M LL) (hx : RMay x) (hr : RaskAns w rb x v T LL (liveR LL t) t a s u e w') :
    ∃ n2 L2, e = .returned (ansI (askS x T M t a s u).1 (askS x T M t a s u).2.1) ∧ RStep w w' rb x v LL n2 L2 ∧ Aft x t T M LL (askS x T M t a s u).2.2.1 (askS x T M t a s u).2.2.2 n2 L2 := by
  cases hg : goes T t with
  | true =>
    obtain ⟨n2, L2, h1, h2, h3⟩ := (h.mid hx hg).ask (may_okB hx).lh (by unfold RMay at hx; omega) hr
    exact ⟨n2, L2, h1, h2, .inl ⟨hg, h3⟩⟩
  | false =>
    unfold askS
    rw [hg, if_neg (by simp)]
    rcases hr with ⟨_, h1, h2⟩ | ⟨hn, _⟩
    · exact ⟨T, LL, h1, h2, .inr ⟨hg, rfl, rfl, rfl, rfl⟩⟩
    · rw [hn.2.2.2] at hg; cases hg
theorem aft_drop {a : A2} {w w' : World} {rb : Nat} {v : Value} {e : Ending} (h : St x T M LL) (hx : RMay x) (hr : RdropAns w rb x v T LL t a e w') :
    ∃ n2 L2, e = .returned (.bool (dropS T M t a).1) ∧ RStep w w' rb x v LL n2 L2 ∧ Aft x t T M LL (dropS T M t a).2.1 (dropS T M t a).2.2 n2 L2 := by
  cases hg : goes T t with
  | true =>
    obtain ⟨n2, L2, h1, h2, h3⟩ := (h.mid hx hg).drop (by unfold RMay at hx; omega) hr
    exact ⟨n2, L2, h1, h2, .inl ⟨hg, h3⟩⟩
  | false =>
    unfold dropS
    rw [hg, if_neg (by simp)]
    rcases hr with ⟨_, h1, h2⟩ | ⟨hn, _⟩ | ⟨hn, _⟩
    · exact ⟨T, LL, h1, h2, .inr ⟨hg, rfl, rfl, rfl, rfl⟩⟩
    · rw [hn] at hg; cases hg
    · rw [hn] at hg; cases hg
/-- what both tell behind it -/
def tells (T t : Int) (L2 : List Rb) : List Bn := if goes T t = true then (liveR L2 t).map Rb.b else []
/-- .. and what is left then -/
def endT (T t : Int) : Int := if goes T t = true then t else T
def endM (T t : Int) (M1 : List Bn) : List Bn := if goes T t = true then liveM M1 t else M1
def endR2 (T t : Int) (L2 : List Rb) : List Rb := if goes T t = true then liveR L2 t else L2
theorem Aft.st {n1 n2 : Int} {M1 : List Bn} {L2 : List Rb} (h : Aft x t T M LL n1 M1 n2 L2) (hs : St x T M LL) : St x (endT T t) (endM T t M1) (endR2 T t L2) := by
  unfold endT endM endR2
  rcases h with ⟨hg, hm⟩ | ⟨hg, rfl, rfl, rfl, rfl⟩
  · rw [if_pos hg, if_pos hg, if_pos hg]
    have hg' := hg
    unfold goes at hg'
    simp only [Bool.and_eq_true, decide_eq_true_eq] at hg'
    have := hs.t0
    exact ⟨by omega, by omega, hm.rel, hm.ok.live t, hm.sne.live t⟩
  · rw [if_neg (by rw [hg]; simp), if_neg (by rw [hg]; simp), if_neg (by rw [hg]; simp)]
    exact hs
theorem isBs_nil (w : World) : IsBs w (.slice none 0 0) [] := ⟨none, 0, rfl, Nat.le_refl _, Nat.zero_le _, fun h => absurd h (by simp)⟩
end
section
variable {w0 V : World} {nb rb : Nat} {x : Bx} {t T : Int} {M : List Bn} {LL : List Rb} {os : List (Nat × Obj)}
theorem tw_out (h : Tw w0 nb x T M rb T LL os V) (hx : RMay x) (hs : St x T M LL) (t : Int) (a b : A2) (ha : isA a) (hb : isA b) :
    Calls Try.prog 17 #[.pointer (some ⟨nb, 0, none⟩), .int .i64 t, adr a, adr b] V fun e V' => e = .returned (ansA (outS x T M t a b).1 (outS x T M t a b).2.1) ∧ Tw w0 nb x (outS x T M t a b).2.2.1 (outS x T M t a b).2.2.2 rb T LL os V' :=
  h.prog fun os' hp => out_pl hp (may_okB hx) (hs.okM hx) t a b ha hb hs.t0
theorem tw_rout {n1 : Int} {M1 : List Bn} (h : Tw w0 nb x n1 M1 rb T LL os V) (hx : RMay x) (hs : St x T M LL) (t : Int) (a b : A2) (ha : isA a) (hb : isA b) (ht : -9223372036854775808 ≤ t) (e1 : n1 = (outS x T M t a b).2.2.1) (e2 : M1 = (outS x T M t a b).2.2.2) :
    Calls Try.prog 18 #[.pointer (some ⟨rb, 0, none⟩), .int .i64 t, adr a, adr b] V fun e V' => e = .returned (ansA (outS x T M t a b).1 (outS x T M t a b).2.1) ∧ ∃ n2 L2, Tw w0 nb x n1 M1 rb n2 L2 os V' ∧ Aft x t T M LL n1 M1 n2 L2 := by
  obtain ⟨v, hr, hst⟩ := h.refc
  have hb' := may_okB hx
  refine (rout_any hr t a b ha hb (hs.len hx) hb'.lo hb'.hi ⟨hb'.life0, hb'.life1⟩ ht hs.rel.snR).mono fun e V' hq => ?_
  obtain ⟨n2, L2, q1, q2, q3⟩ := aft_out hs hx hq
  exact ⟨q1, n2, L2, hst _ _ _ q2, by rw [e1, e2]; exact q3⟩
theorem tw_in (h : Tw w0 nb x T M rb T LL os V) (hx : RMay x) (hs : St x T M LL) (t p : Int) (f : A2) (hf : isA f) :
    Calls Try.prog 19 #[.pointer (some ⟨nb, 0, none⟩), .int .i64 t, .int .i64 p, adr f] V fun e V' => e = .returned (ansA (inS x T M t p f).1 (inS x T M t p f).2.1) ∧ Tw w0 nb x (inS x T M t p f).2.2.1 (inS x T M t p f).2.2.2 rb T LL os V' :=
  h.prog fun os' hp => in_pl hp (hs.okM hx) t p f hf
theorem tw_rin {n1 : Int} {M1 : List Bn} (h : Tw w0 nb x n1 M1 rb T LL os V) (hx : RMay x) (hs : St x T M LL) (t p : Int) (f : A2) (hf : isA f) (e1 : n1 = (inS x T M t p f).2.2.1) (e2 : M1 = (inS x T M t p f).2.2.2) :
    Calls Try.prog 20 #[.pointer (some ⟨rb, 0, none⟩), .int .i64 t, .int .i64 p, adr f] V fun e V' => e = .returned (ansA (inS x T M t p f).1 (inS x T M t p f).2.1) ∧ ∃ n2 L2, Tw w0 nb x n1 M1 rb n2 L2 os V' ∧ Aft x t T M LL n1 M1 n2 L2 := by
  obtain ⟨v, hr, hst⟩ := h.refc
  refine (rin_any hr t p f hf (hs.len hx)).mono fun e V' hq => ?_
  obtain ⟨n2, L2, q1, q2, q3⟩ := aft_in hs hx hq
  exact ⟨q1, n2, L2, hst _ _ _ q2, by rw [e1, e2]; exact q3⟩
theorem tw_ask (h : Tw w0 nb x T M rb T LL os V) (hx : RMay x) (hs : St x T M LL) (t : Int) (a : A2) (s u : Int) (ha : isA a) :
    Calls Try.prog 21 #[.pointer (some ⟨nb, 0, none⟩), .int .i64 t, adr a, .int .i64 s, .int .i64 u] V fun e V' => e = .returned (ansI (askS x T M t a s u).1 (askS x T M t a s u).2.1) ∧ Tw w0 nb x (askS x T M t a s u).2.2.1 (askS x T M t a s u).2.2.2 rb T LL os V' :=
  h.prog fun os' hp => ask_pl hp (may_okB hx) (hs.okM hx) t a s u ha
theorem tw_rask {n1 : Int} {M1 : List Bn} (h : Tw w0 nb x n1 M1 rb T LL os V) (hx : RMay x) (hs : St x T M LL) (t : Int) (a : A2) (s u : Int) (ha : isA a) (e1 : n1 = (askS x T M t a s u).2.2.1) (e2 : M1 = (askS x T M t a s u).2.2.2) :
    Calls Try.prog 22 #[.pointer (some ⟨rb, 0, none⟩), .int .i64 t, adr a, .int .i64 s, .int .i64 u] V fun e V' => e = .returned (ansI (askS x T M t a s u).1 (askS x T M t a s u).2.1) ∧ ∃ n2 L2, Tw w0 nb x n1 M1 rb n2 L2 os V' ∧ Aft x t T M LL n1 M1 n2 L2 := by
  obtain ⟨v, hr, hst⟩ := h.refc
  have hb' := may_okB hx
  refine (rask_any hr t a s u ha (hs.len hx) hb'.lo hb'.hi).mono fun e V' hq => ?_
  obtain ⟨n2, L2, q1, q2, q3⟩ := aft_ask hs hx hq
  exact ⟨q1, n2, L2, hst _ _ _ q2, by rw [e1, e2]; exact q3⟩
/-- Drop of both, in either order -/
theorem tw_drop {n2 : Int} {L2 : List Rb} (h : Tw w0 nb x T M rb n2 L2 os V) (hx : RMay x) (hs : St x T M LL) (t : Int) (a : A2) :
    Calls Try.prog 23 #[.pointer (some ⟨nb, 0, none⟩), .int .i64 t, adr a] V fun e V' => e = .returned (.bool (dropS T M t a).1) ∧ Tw w0 nb x (dropS T M t a).2.1 (dropS T M t a).2.2 rb n2 L2 os V' :=
  h.prog fun os' hp => drop_pl hp (hs.okM hx) t a
theorem tw_rdrop {n1 : Int} {M1 : List Bn} (h : Tw w0 nb x n1 M1 rb T LL os V) (hx : RMay x) (hs : St x T M LL) (t : Int) (a : A2) :
    Calls Try.prog 24 #[.pointer (some ⟨rb, 0, none⟩), .int .i64 t, adr a] V fun e V' => e = .returned (.bool (dropS T M t a).1) ∧ ∃ n2 L2, Tw w0 nb x n1 M1 rb n2 L2 os V' ∧ Aft x t T M LL (dropS T M t a).2.1 (dropS T M t a).2.2 n2 L2 := by
  obtain ⟨v, hr, hst⟩ := h.refc
  refine (rdrop_any hr t a (hs.len hx)).mono fun e V' hq => ?_
  obtain ⟨n2, L2, q1, q2, q3⟩ := aft_drop hs hx hq
  exact ⟨q1, n2, L2, hst _ _ _ q2, q3⟩
theorem tw_reboot {n2 : Int} {L2 : List Rb} (h : Tw w0 nb x T M rb n2 L2 os V) :
    Calls Try.prog 25 #[.pointer (some ⟨nb, 0, none⟩)] V fun e V' => e = .returned (.tuple #[]) ∧ Tw w0 nb x 0 [] rb n2 L2 os V' :=
  h.prog fun os' hp => reboot_pl hp
theorem tw_rboot {n1 : Int} {M1 : List Bn} (h : Tw w0 nb x n1 M1 rb T LL os V) : Tw w0 nb x n1 M1 rb 0 [] os ((V.setCell ⟨rb, 7, none⟩ (.slice none 0 0)).setCell ⟨rb, 8, none⟩ (.int .i64 0)) := by
  obtain ⟨v, hr, hst⟩ := h.refc
  exact hst _ _ _ (rboot_step hr)
theorem aft_boot (hx : RMay x) (t : Int) : Aft x t 0 [] [] 0 [] 0 [] := by
  cases hg : goes 0 t with
  | true => exact .inl ⟨hg, (St.nil hx).mid hx hg⟩
  | false => exact .inr ⟨hg, rfl, rfl, rfl, rfl⟩
/-- All of the program's -/
theorem tw_all {n1 n2 : Int} {M1 : List Bn} {L2 : List Rb} (h : Tw w0 nb x n1 M1 rb n2 L2 os V) (hx : RMay x) (hs : St x T M LL) (ha : Aft x t T M LL n1 M1 n2 L2) :
    Calls Try.prog 27 #[.pointer (some ⟨nb, 0, none⟩), .int .i64 t] V fun e V' => (∃ u, e = .returned u ∧ IsBs V' u (tells T t L2)) ∧ Tw w0 nb x (endT T t) (endM T t M1) rb n2 L2 os V' := by
  rcases ha with ⟨hg, hm⟩ | ⟨hg, rfl, rfl, rfl, rfl⟩
  · unfold tells endT endM
    rw [if_pos hg, if_pos hg, if_pos hg]
    refine (h.prog (E := fun e V' => ∃ v l', e = .returned v ∧ l'.Perm (liveM M1 t) ∧ RiseP l' ∧ IsBs V' v l') fun os' hp => all_pl hp (hm.ok.okM (by unfold RMay at hx; omega)) t hm.g1).mono fun e V' hq => ⟨?_, hq.2⟩
    obtain ⟨v, l', rfl, q1, q2, q3⟩ := hq.1
    rw [hm.rel.all (hm.ok.live t) q1 q2] at q3
    exact ⟨v, rfl, q3⟩
  · unfold tells endT endM
    have hn : ¬ goes n2 t = true := by rw [hg]; simp
    rw [if_neg hn, if_neg hn, if_neg hn]
    refine (h.prog (E := fun e _ => e = .returned (.slice none 0 0)) fun os' hp => ?_).mono fun e V' hq => ⟨⟨_, hq.1, isBs_nil V'⟩, hq.2⟩
    obtain ⟨kv, L, h1, h2, h3, h4⟩ := hp.bo
    subst h2
    refine (all_any nb x n2 kv L t V h1 (hs.okM hx).ofL).mono fun e V' hr => ?_
    unfold AllR at hr
    rw [if_neg hn] at hr
    obtain ⟨rfl, g2⟩ := hr
    refine ⟨rfl, ⟨kv, L, g2.na, rfl, fun k hk => (g2.foot k hk).elim (h3 k) (fun e => Nat.le_trans hp.low.size e), fun p hq hf => ?_⟩, fun p hq => ?_, hp.low.trans (g2.keeps.below h3 hp.low.size)⟩
    · exact (g2.foot _ hf).elim (h4 p hq) (fun e => by have := hp.lt hq; omega)
    · exact (g2.keeps.block _ (hp.lt hq) (h4 p hq)).trans (hp.held p hq)
/-- All of the document's -/
theorem tw_rall {n0 n1 n2 : Int} {M0 M1 : List Bn} {L2 : List Rb} (h : Tw w0 nb x n0 M0 rb n2 L2 os V) (hx : RMay x) (hs : St x T M LL) (ha : Aft x t T M LL n1 M1 n2 L2) :
    Calls Try.prog 28 #[.pointer (some ⟨rb, 0, none⟩), .int .i64 t] V fun e V' => (∃ u, e = .returned u ∧ IsBs V' u (tells T t L2)) ∧ Tw w0 nb x n0 M0 rb (endT T t) (endR2 T t L2) os V' := by
  obtain ⟨v, hr, hst⟩ := h.refc
  rcases ha with ⟨hg, hm⟩ | ⟨hg, rfl, rfl, rfl, rfl⟩
  · unfold tells endT endR2
    rw [if_pos hg, if_pos hg, if_pos hg]
    refine (rall_any hr t hm.len).mono fun e V' hq => ?_
    rcases hq with ⟨_, q1, q2⟩ | ⟨hn, _⟩
    · exact ⟨q1, hst _ _ _ q2⟩
    · rw [hm.g2] at hn; cases hn
  · unfold tells endT endR2
    have hn : ¬ goes n2 t = true := by rw [hg]; simp
    rw [if_neg hn, if_neg hn, if_neg hn]
    refine (rall_any hr t (hs.len hx)).mono fun e V' hq => ?_
    rcases hq with ⟨hn, _⟩ | ⟨_, rfl, q2⟩
    · rw [hg] at hn; cases hn
    · exact ⟨⟨_, rfl, isBs_nil V'⟩, hst _ _ _ q2⟩
theorem same_bs {u v : Value} {l : List Bn} (hu : IsBs V u l) (hv : IsBs V v l) : Calls Try.prog 26 #[u, v] V fun e w' => e = .returned (.bool true) ∧ Below V.heap.size V w' :=
  rsame_any hu hv rfl (fun k b c hb hc => by rw [hb] at hc; cases hc; exact sameB_self b)
/-- the document's box's time -/
theorem Tw.now {n1 n2 : Int} {M1 : List Bn} {L2 : List Rb} (h : Tw w0 nb x n1 M1 rb n2 L2 os V) : V.cell? ⟨rb, 8, none⟩ = some (.int .i64 n2) ∧ V.frozen? ⟨rb, 8, none⟩ = false ∧ rb < V.heap.size := by
  obtain ⟨v, hr, _⟩ := h.refc
  exact ⟨hr.cells.2.2.1, hr.cells.2.2.2 8, hr.lt⟩
end
end Go.Proofs.Ytemlnkcokeckmaa
namespace Go.Proofs.Ytemlnkcokeckmaa
open Go.RowKit Go.Shelf Go.Maps
set_option linter.unusedVariables false

/-- a step, as plain data -/
structure Dz where
  kind : Int
  wait : Int
  a : A2
  b : A2
  port : Int
  till : Int
instance : Inhabited Dz := ⟨⟨0, 0, (0, 0), (0, 0), 0, 0⟩⟩
/-- a step's eight values -/
def Vals8 (xs : List Value) (d : Dz) : Prop := xs = [.int .i64 d.kind, .int .i64 d.wait, .int .u32 d.a.1, .int .i64 d.a.2, .int .u32 d.b.1, .int .i64 d.b.2, .int .i64 d.port, .int .i64 d.till] ∧ W64 d.kind ∧ W64 d.wait ∧ isA d.a ∧ isA d.b ∧ W64 d.port ∧ W64 d.till
def DzAt (w : World) (b off : Nat) (d : Dz) : Prop := ∃ xs, Vals8 xs d ∧ ∀ i, i < 8 → w.cell? ⟨b, off + i, none⟩ = xs[i]?
def IsDzs (w : World) (v : Value) (ds : List Dz) : Prop := ∃ A cap, v = .slice A ds.length cap ∧ ds.length ≤ cap ∧ cap ≤ maxLen ∧ (0 < ds.length → ∃ b off, A = some ⟨b, off, none⟩ ∧ b < w.heap.size ∧ ∀ j, j < ds.length → DzAt w b (off + j * 8) (ds.getD j default))
section
variable {H : Type} {enc : TypeId × Value → H} {W : World}
theorem add_at (b o k : Nat) : (⟨b, o, none⟩ : Addr).add k = ⟨b, o + k, none⟩ := by unfold Addr.add; split <;> simp_all
theorem lt_at {w : World} {a : Addr} {v : Value} (h : w.cell? a = some v) : a.block < w.heap.size := World.block_lt_of_cell? w a h
theorem trod_struct6 {P : Program} {w : World} {base : Nat} {spare : Nat → Bool} {held : Bool} {t : TypeId} {f0 f1 f2 f3 f4 f5 : Field} {fuel : Nat} {cs : List Value} {x : DataW H × List MemPlace} (ht : P.underlying t = some (.struct #[f0, f1, f2, f3, f4, f5])) (h : DataW.trod enc P w base spare held fuel t cs = some x) :
    ∃ y0 y1 y2 y3 y4 y5 n, DataW.trod enc P w base spare held n f0.type ((cs.drop f0.offset).take (P.cellsOf f0.type)) = some y0 ∧
      DataW.trod enc P w base spare held n f1.type ((cs.drop f1.offset).take (P.cellsOf f1.type)) = some y1 ∧ DataW.trod enc P w base spare held n f2.type ((cs.drop f2.offset).take (P.cellsOf f2.type)) = some y2 ∧
      DataW.trod enc P w base spare held n f3.type ((cs.drop f3.offset).take (P.cellsOf f3.type)) = some y3 ∧ DataW.trod enc P w base spare held n f4.type ((cs.drop f4.offset).take (P.cellsOf f4.type)) = some y4 ∧
      DataW.trod enc P w base spare held n f5.type ((cs.drop f5.offset).take (P.cellsOf f5.type)) = some y5 := by
  obtain ⟨xs, n, _, rfl, hl, hlen, hf⟩ := DataW.trod_struct ht h
  match xs, hlen with
  | [y0, y1, y2, y3, y4, y5], _ => exact ⟨y0, y1, y2, y3, y4, y5, n, by simpa using hf 0 f0 rfl, by simpa using hf 1 f1 rfl, by simpa using hf 2 f2 rfl, by simpa using hf 3 f3 rfl, by simpa using hf 4 f4 rfl, by simpa using hf 5 f5 rfl⟩
theorem adr_trod {n : Nat} {x0 x1 : Value} {y : DataW H × List MemPlace} (h : DataW.trod enc Try.prog W 0 (fun _ => true) true n 38 [x0, x1] = some y) : ∃ a : A2, x0 = .int .u32 a.1 ∧ x1 = .int .i64 a.2 ∧ isA a := by
  obtain ⟨y0, y1, n', h0, h1⟩ := trod_struct2 Try.underlying38 h
  have c3 : Try.prog.cellsOf 3 = 1 := by kernel_rfl
  have c22 : Try.prog.cellsOf 22 = 1 := by kernel_rfl
  simp only [c3, c22, List.drop_zero, List.drop_succ_cons, List.take_succ_cons, List.take_zero] at h0 h1
  exact adr_of h0 h1
theorem int_trod {n : Nat} {x0 : Value} {y : DataW H × List MemPlace} (h : DataW.trod enc Try.prog W 0 (fun _ => true) true n 3 [x0] = some y) : ∃ z : Int, x0 = .int .i64 z ∧ W64 z := by
  obtain ⟨b0, e0, _, p0⟩ := DataW.trod_int Try.underlying3 h
  simp only [List.cons.injEq, and_true] at e0
  subst e0
  exact ⟨b0, rfl, bounds_i64 p0⟩
set_option maxRecDepth 100000 in
theorem open_dzs {r : Reach} {b0 : Nat} {v : Value} {d : DataW H} {p : List MemPlace} (hv : Value.okWide Try.prog W r b0 25 v) (h : DataW.Trod enc Try.prog W 0 (fun _ => true) true  25 v d p) : ∃ ds, IsDzs W v ds := by
  obtain ⟨A, l, c, rfl⟩ := WideShapes.okWide_slice Try.underlying25 hv
  obtain ⟨fuel, hf⟩ := h
  rcases Deep.open_slice Try.underlying25 hf with ⟨hcs, _⟩ | ⟨a, len, cap, m, n, D, Pl, hcs, _, hl, hm, hmm, _, hi⟩
  · simp [Value.cells] at hcs
    obtain ⟨rfl, rfl, rfl⟩ := hcs
    exact ⟨[], none, 0, rfl, Nat.le_refl _, Nat.zero_le _, fun h => by simp at h⟩
  · simp [Value.cells] at hcs
    obtain ⟨rfl, rfl, rfl⟩ := hcs
    have hmc : m = c := by simpa using hmm
    subst hmc
    have hall : ∀ j, ∃ s, j < l → ∃ xs, (∀ i, i < 8 → W.cell? ((a.add (j * 8)).add i) = xs[i]?) ∧ Vals8 xs s := fun j => by
      by_cases hj : j < l
      · obtain ⟨cs, hc, ht⟩ := hi j (by omega)
        obtain ⟨_, hlen, hat⟩ := World.cells?_some hc
        have h4 : Try.prog.cellsOf 40 = 8 := by kernel_rfl
        rw [h4] at hlen hat
        obtain ⟨y0, y1, y2, y3, y4, y5, n', h0, h1, h2, h3, h5, h6⟩ := trod_struct6 Try.underlying40 ht
        have c3 : Try.prog.cellsOf 3 = 1 := by kernel_rfl
        have c38 : Try.prog.cellsOf 38 = 2 := by kernel_rfl
        match cs, hlen with
        | [x0, x1, x2, x3, x4, x5, x6, x7], _ =>
          simp only [c3, c38, List.drop_zero, List.drop_succ_cons, List.take_succ_cons, List.take_zero] at h0 h1 h2 h3 h5 h6
          obtain ⟨z0, rfl, p0⟩ := int_trod h0
          obtain ⟨z1, rfl, p1⟩ := int_trod h1
          obtain ⟨z2, rfl, rfl, p2⟩ := adr_trod h2
          obtain ⟨z3, rfl, rfl, p3⟩ := adr_trod h3
          obtain ⟨z4, rfl, p4⟩ := int_trod h5
          obtain ⟨z5, rfl, p5⟩ := int_trod h6
          exact ⟨⟨z0, z1, z2, z3, z4, z5⟩, fun _ => ⟨_, hat, rfl, p0, p1, p2, p3, p4, p5⟩⟩
      · exact ⟨default, fun h => absurd h hj⟩
    obtain ⟨f, hf⟩ := Classical.axiomOfChoice hall
    refine ⟨(List.range l).map f, some a, m, by simp, by simpa using hl, hm, fun hpos => ?_⟩
    have hl0 : 0 < l := by simpa using hpos
    obtain ⟨b, off, spot⟩ := a
    obtain ⟨xs, hat, hs⟩ := hf 0 hl0
    have hx0 : ∃ x0, xs[0]? = some x0 := by rw [hs.1]; exact ⟨_, rfl⟩
    obtain ⟨x0, hx0⟩ := hx0
    have h8 := World.cell?_spot ((hat 0 (by omega)).trans hx0)
    have hspot : spot = none := by simpa [Addr.add] using h8
    subst hspot
    have hb : b < W.heap.size := by
      have h9 := (hat 0 (by omega)).trans hx0
      rw [add_at, add_at] at h9
      exact lt_at h9
    refine ⟨b, off, rfl, hb, fun j hj => ?_⟩
    have hjl : j < l := by simpa using hj
    obtain ⟨xs, hat, hs⟩ := hf j hjl
    have e : ∀ i, ((⟨b, off, none⟩ : Addr).add (j * 8)).add i = ⟨b, off + j * 8 + i, none⟩ := fun i => by rw [add_at, add_at]
    have hg : ((List.range l).map f).getD j default = f j := by simp [List.getD, hjl]
    rw [hg]
    exact ⟨xs, hs, fun i hi => by rw [← e]; exact hat i hi⟩
end
/-- a step in a slice, in the walk's words -/
theorem DzAt.parts {w : World} {b off : Nat} {d : Dz} (h : DzAt w b off d) : (w.cell? ⟨b, off, none⟩ = some (.int .i64 d.kind) ∧ w.cell? ⟨b, off + 1, none⟩ = some (.int .i64 d.wait) ∧ w.cell? ⟨b, off + 2, none⟩ = some (.int .u32 d.a.1) ∧ w.cell? ⟨b, off + 3, none⟩ = some (.int .i64 d.a.2) ∧ w.cell? ⟨b, off + 4, none⟩ = some (.int .u32 d.b.1) ∧ w.cell? ⟨b, off + 5, none⟩ = some (.int .i64 d.b.2) ∧ w.cell? ⟨b, off + 6, none⟩ = some (.int .i64 d.port) ∧ w.cell? ⟨b, off + 7, none⟩ = some (.int .i64 d.till)) ∧ W64 d.kind ∧ W64 d.wait ∧ isA d.a ∧ isA d.b ∧ W64 d.port ∧ W64 d.till := by
  obtain ⟨xs, ⟨rfl, h1⟩, h2⟩ := h
  exact ⟨⟨h2 0 (by omega), h2 1 (by omega), h2 2 (by omega), h2 3 (by omega), h2 4 (by omega), h2 5 (by omega), h2 6 (by omega), h2 7 (by omega)⟩, h1⟩
theorem DzAt.below {w w' : World} {b off : Nat} {d : Dz} (h : DzAt w b off d) (hb : Below w.heap.size w w') : DzAt w' b off d := by
  have hl := lt_at h.parts.1.1
  obtain ⟨xs, h1, h2⟩ := h
  exact ⟨xs, h1, fun i hi => (hb.cell (p := ⟨b, off + i, none⟩) hl).trans (h2 i hi)⟩
theorem IsDzs.below {w w' : World} {v : Value} {ds : List Dz} (h : IsDzs w v ds) (hb : Below w.heap.size w w') : IsDzs w' v ds := by
  obtain ⟨A, c, rfl, h1, h2, h3⟩ := h
  refine ⟨A, c, rfl, h1, h2, fun h => ?_⟩
  obtain ⟨b, off, rfl, h4, h5⟩ := h3 h
  exact ⟨b, off, rfl, Nat.lt_of_lt_of_le h4 hb.size, fun j hj => (h5 j hj).below hb⟩
end Go.Proofs.Ytemlnkcokeckmaa
namespace Go.Proofs.Ytemlnkcokeckmaa
open Go.RowKit Go.ChangeShapes
set_option linter.unusedVariables false

def IsBox (w : World) (v : Value) (x : Bx) : Prop := v = .agg (boxCells x) ∧ isBx x
section
variable {H : Type} {enc : TypeId × Value → H} {W : World}
set_option maxRecDepth 100000 in
set_option maxHeartbeats 1000000 in
theorem open_box {r : Reach} {b0 : Nat} {v : Value} {d : DataW H} {p : List MemPlace} (hv : Value.okWide Try.prog W r b0 24 v) (h : DataW.Trod enc Try.prog W 0 (fun _ => true) true 24 v d p) : ∃ s, IsBox W v s := by
  obtain ⟨cs, rfl, hsz⟩ := Go.WideShapes.okWide_struct Try.underlying24 hv
  have hsz2 : cs.toList.length = 7 := by rw [Array.length_toList]; exact hsz.trans (by kernel_rfl)
  obtain ⟨c0, c1, c2, c3, c4, c5, c6, rfl⟩ : ∃ c0 c1 c2 c3 c4 c5 c6, cs = #[c0, c1, c2, c3, c4, c5, c6] := by
    match h : cs.toList, hsz2 with
    | [c0, c1, c2, c3, c4, c5, c6], _ => exact ⟨c0, c1, c2, c3, c4, c5, c6, by rw [← Array.toArray_toList (xs := cs), h]⟩
  obtain ⟨fuel, hf⟩ := h
  obtain ⟨xs, n, _, _, hl, hlen, hx⟩ := DataW.trod_struct Try.underlying24 hf
  have k3 : Try.prog.cellsOf 3 = 1 := by kernel_rfl
  have k22 : Try.prog.cellsOf 22 = 1 := by kernel_rfl
  match xs, hlen with
  | [y0, y1, y2, y3, y4, y5, y6], _ =>
    have h0 : DataW.trod enc Try.prog W 0 (fun _ => true) true n 22 [c0] = some y0 := by simpa [k22, Value.cells] using hx 0 _ rfl
    have h1 : DataW.trod enc Try.prog W 0 (fun _ => true) true n 3 [c1] = some y1 := by simpa [k3, Value.cells] using hx 1 _ rfl
    have h2 : DataW.trod enc Try.prog W 0 (fun _ => true) true n 3 [c2] = some y2 := by simpa [k3, Value.cells] using hx 2 _ rfl
    have h3 : DataW.trod enc Try.prog W 0 (fun _ => true) true n 3 [c3] = some y3 := by simpa [k3, Value.cells] using hx 3 _ rfl
    have h4 : DataW.trod enc Try.prog W 0 (fun _ => true) true n 3 [c4] = some y4 := by simpa [k3, Value.cells] using hx 4 _ rfl
    have h5 : DataW.trod enc Try.prog W 0 (fun _ => true) true n 3 [c5] = some y5 := by simpa [k3, Value.cells] using hx 5 _ rfl
    have h6 : DataW.trod enc Try.prog W 0 (fun _ => true) true n 3 [c6] = some y6 := by simpa [k3, Value.cells] using hx 6 _ rfl
    obtain ⟨a0, e0, _, p0⟩ := DataW.trod_int Try.underlying22 h0
    obtain ⟨a1, e1, _, p1⟩ := DataW.trod_int Try.underlying3 h1
    obtain ⟨a2, e2, _, p2⟩ := DataW.trod_int Try.underlying3 h2
    obtain ⟨a3, e3, _, p3⟩ := DataW.trod_int Try.underlying3 h3
    obtain ⟨a4, e4, _, p4⟩ := DataW.trod_int Try.underlying3 h4
    obtain ⟨a5, e5, _, p5⟩ := DataW.trod_int Try.underlying3 h5
    obtain ⟨a6, e6, _, p6⟩ := DataW.trod_int Try.underlying3 h6
    simp only [List.cons.injEq, and_true] at e0 e1 e2 e3 e4 e5 e6
    have q0 := bounds_u32 p0
    refine ⟨⟨a0, a1, a2, a3, a4, a5, a6⟩, by rw [e0, e1, e2, e3, e4, e5, e6]; rfl, ⟨q0.1, by simp only; omega⟩, bounds_i64 p1, bounds_i64 p2, bounds_i64 p3, bounds_i64 p4, bounds_i64 p5, bounds_i64 p6⟩
end
end Go.Proofs.Ytemlnkcokeckmaa
