/-
  What NatOne's walk is told: one who sends to some others has one binding for each way to look at them. Conditions: as each lemma states.
  What NatFull's walk is told: a box with one binding for each of some who send. Conditions: as each lemma states.
  DERIVED: THE SHELF's CONTRACTS AT THIS DUMP, IN PLAIN WORDS (tools/lay-plain.mjs out of 'YtemlnkcokeckmaaSrt.lean', which tools/lay-shelf.mjs wrote): THE SAME DECLARATIONS UNDER THE SAME NAMES: 'import', 'namespace', 'open', 'def', 'theorem' AND NOTHING ELSE: no command of the shelf's: FOR A HAND-IN. Each laying: the table of numbers ('.._ren') and one theorem, a field a fact of the dump's own or the kernel's comparison; each contract: ONE APPLICATION.
  The contract of nat's All: all bindings, by rising ports. Conditions: the box lies in memory; at most 100 bindings.
  The contract of nat's All: all bindings, by rising ports. Conditions: the box lies in memory; at most 100 bindings.
  What NatAsked's walk is told: a binding that is asked for, by itself. Conditions: as each lemma states.
  What every call keeps of a box's list of bindings: no more than may be, ports all different and within the box's, at most sixteen seen. Conditions: as each lemma states.
-/
import Derived.Test.YtemlnkcokeckmaaMh12
import Derived.Shelf.SlSortCmp.WholeK
import Derived.Shelf.SlicesG.Cmp
import Derived.Shelf.Small.Bits
import Derived.Shelf.SlGeneric
import Derived.Ground.SlsfProg
import Derived.Ground.SlgcProg
import Derived.Ground.NamesProg
import Derived.Test.YtemlnkcokeckmaaProg
import Derived.Shelf.SlSortCmp.NoneTotal
import Derived.Test.YtemlnkcokeckmaaMh11
namespace Go.Proofs.Ytemlnkcokeckmaa
open Go.RowKit
set_option linter.unusedVariables false

/-- so many numbers in a row are in a list: it is as long -/
theorem many_in (lo : Int) : ∀ (n : Nat) (M : List Int), (∀ i : Nat, i < n → lo + (i : Int) ∈ M) → n ≤ M.length
  | 0, _, _ => Nat.zero_le _
  | n + 1, M, h => by
    have h1 := h n (Nat.lt_succ_self n)
    have h2 := many_in lo n (M.erase (lo + (n : Int))) (fun i hi => (List.mem_erase_of_ne (by omega)).2 (h i (by omega)))
    have h3 := List.length_erase_of_mem h1
    have h4 := List.length_pos_of_mem h1
    omega
theorem not_free {M : List Bn} {p : Int} (h : freeM M p = false) : p ∈ M.map Bn.port := by
  unfold freeM at h
  rw [List.all_eq_false] at h
  obtain ⟨b, hb, h⟩ := h
  exact List.mem_map.2 ⟨b, hb, by simpa using h⟩
theorem is_free {M : List Bn} {p : Int} (h : freeM M p = true) : ∀ b ∈ M, b.port ≠ p := by
  unfold freeM at h
  rw [List.all_eq_true] at h
  intro b hb
  simpa using h b hb
/-- where no port is free, there are as many bindings -/
theorem choose_full {x : Bx} {M : List Bn} {s : Int} (h : chooseM x M s = none) : ports x ≤ M.length := by
  unfold chooseM at h
  rw [Option.map_eq_none_iff, List.find?_eq_none] at h
  have h2 := many_in x.lo (ports x) (M.map Bn.port) (fun i hi => by
    refine not_free ?_
    have := h (i + 1) (List.mem_range.2 (by omega))
    simpa [cand] using this)
  rwa [List.length_map] at h2
/-- the one that is chosen is free, and one of the box's -/
theorem choose_is {x : Bx} {M : List Bn} {s p : Int} (hx : x.lo ≤ x.hi) (h : chooseM x M s = some p) : freeM M p = true ∧ x.lo ≤ p ∧ p ≤ x.hi := by
  unfold chooseM at h
  rw [Option.map_eq_some_iff] at h
  obtain ⟨k, h1, rfl⟩ := h
  have h2 := List.find?_some h1
  have h3 := List.mem_range.1 (List.mem_of_find?_eq_some h1)
  refine ⟨h2, ?_⟩
  have h4 : (ports x : Int) = x.hi - x.lo + 1 := by unfold ports; omega
  unfold cand
  split
  · exact las_wish x hx s
  · omega
theorem add_some {x : Bx} {M : List Bn} {s : Int} (hx : x.lo ≤ x.hi) (hm : (M.length : Int) < x.most) (hp : M.length < ports x) : ∃ p, addM x M s = some p ∧ freeM M p = true ∧ x.lo ≤ p ∧ p ≤ x.hi := by
  unfold addM
  cases hc : chooseM x M s with
  | none => have := choose_full hc; omega
  | some p => exact ⟨p, by simp only [if_pos hm], choose_is hx hc⟩

/-- bindings of one who has asked for none, all till u: their ways and ports differ -/
structure Ones (x : Bx) (a : A2) (u : Int) (M : List Bn) : Prop where
  all : ∀ d ∈ M, d.inn = a ∧ d.asked = false ∧ d.until_ = u ∧ d.seen.length ≤ 16
  ports : M.Pairwise (fun d e => d.port ≠ e.port ∧ d.to ≠ e.to)
theorem Ones.nil (x : Bx) (a : A2) (u : Int) : Ones x a u [] := ⟨by simp, List.Pairwise.nil⟩
theorem pair_set {α : Type} {R : α → α → Prop} {u : α → α} {f : α → Bool} (hR : ∀ d e, R d e → R (u d) e ∧ R d (u e)) : ∀ {M : List α}, M.Pairwise R → (updF f u M).Pairwise R
  | [], _ => List.Pairwise.nil
  | d :: M, h => by
    rw [List.pairwise_cons] at h
    unfold updF
    split
    · rw [List.pairwise_cons]
      exact ⟨fun e he => (hR d e (h.1 e he)).1, h.2⟩
    · rw [List.pairwise_cons]
      refine ⟨fun e he => ?_, pair_set hR h.2⟩
      have : ∀ (M : List α), (∀ e ∈ M, R d e) → ∀ e ∈ updF f u M, R d e := by
        intro M
        induction M with
        | nil => intro _ e he; cases he
        | cons c M ih =>
          intro hM e he
          unfold updF at he
          split at he
          · rcases List.mem_cons.1 he with rfl | he
            · exact (hR d c (hM c (by simp))).2
            · exact hM e (by simp [he])
          · rcases List.mem_cons.1 he with rfl | he
            · exact hM _ (by simp)
            · exact ih (fun e he => hM e (by simp [he])) e he
      exact this M h.1 e he
theorem mem_updF {α : Type} {f : α → Bool} {u : α → α} : ∀ {M : List α} {e : α}, e ∈ updF f u M → e ∈ M ∨ ∃ d ∈ M, e = u d
  | [], e, h => by cases h
  | c :: M, e, h => by
    unfold updF at h
    split at h
    · rcases List.mem_cons.1 h with rfl | h
      · exact .inr ⟨c, by simp, rfl⟩
      · exact .inl (by simp [h])
    · rcases List.mem_cons.1 h with rfl | h
      · exact .inl (by simp)
      · rcases mem_updF h with h | ⟨d, hd, rfl⟩
        · exact .inl (by simp [h])
        · exact .inr ⟨d, by simp [hd], rfl⟩
theorem updF_mem {α : Type} {f : α → Bool} {u : α → α} : ∀ {M : List α} {e : α}, e ∈ M → e ∈ updF f u M ∨ u e ∈ updF f u M
  | [], e, h => by cases h
  | c :: M, e, h => by
    unfold updF
    split
    · rcases List.mem_cons.1 h with rfl | h
      · exact .inr (by simp)
      · exact .inl (by simp [h])
    · rcases List.mem_cons.1 h with rfl | h
      · exact .inl (by simp)
      · rcases updF_mem (f := f) (u := u) h with h | h
        · exact .inl (by simp [h])
        · exact .inr (by simp [h])
section
variable {x : Bx} {a b : A2} {M : List Bn} {t : Int}
theorem Ones.live {u : Int} (h : Ones x a u M) (hu : t < u) : liveM M t = M := by
  unfold liveM
  rw [List.filter_eq_self]
  intro d hd
  have := (h.all d hd).2.2.1
  simp; omega
theorem Ones.ok {u : Int} (h : Ones x a u M) (hl : M.length ≤ 100) : OkM M := ⟨hl, fun d hd => (h.all d hd).2.2.2⟩
theorem Ones.way {u : Int} (h : Ones x a u M) (b : A2) : wayF x M a b = toF x a b := by
  unfold wayF
  rw [if_neg]
  intro hc
  rw [List.any_eq_true] at hc
  obtain ⟨d, hd, hc⟩ := hc
  have := (h.all d hd).2.1
  simp [askF, this] at hc
theorem sent_port (d : Bn) : (sentB x t b d).port = d.port ∧ (sentB x t b d).to = d.to ∧ (sentB x t b d).inn = d.inn ∧ (sentB x t b d).asked = d.asked := ⟨rfl, rfl, rfl, rfl⟩
/-- one more goes out by one who has asked for none -/
theorem ones_out {now : Int} (hx : OkB x) (h : Ones x a (t + x.life) M) (hg : goes now t = true) (ha : mayA a = true) (hb : mayA b = true) (hl : t + x.life ≤ 1099511627776) (hm : (M.length : Int) < x.most) (hp : M.length < ports x) :
    ∃ M' p, outS x now M t a b = ((x.host, p), 0, t, M') ∧ Ones x a (t + x.life) M' ∧ M'.length ≤ M.length + 1 ∧ (∃ d ∈ M', d.to = partA b x.map ∧ d.port = p) ∧ (∀ d ∈ M, ∃ e ∈ M', e.to = d.to ∧ e.port = d.port) := by
  have hlf := hx.life0
  have h1 : ∀ d, d.inn = a ∧ d.asked = false ∧ d.seen.length ≤ 16 → (sentB x t b d).inn = a ∧ (sentB x t b d).asked = false ∧ (sentB x t b d).until_ = t + x.life ∧ (sentB x t b d).seen.length ≤ 16 := fun d hd => by
    refine ⟨hd.1, hd.2.1, ?_, seeL_len hd.2.2 b⟩
    show (if d.asked = true then d.until_ else min (t + x.life) 1099511627776) = _
    rw [hd.2.1, if_neg (by simp), Int.min_eq_left hl]
  unfold outS
  rw [if_pos hg, h.live (by omega)]
  unfold outM
  rw [if_pos ⟨ha, hb⟩, h.way b]
  cases hf : M.find? (toF x a b) with
  | some d =>
    have hd := List.mem_of_find?_eq_some hf
    have hfd := List.find?_some hf
    have hto : d.to = partA b x.map := by
      unfold toF at hfd
      rw [Bool.and_eq_true, decide_eq_true_eq, decide_eq_true_eq] at hfd
      exact hfd.2
    refine ⟨updF (toF x a b) (sentB x t b) M, d.port, rfl, ⟨fun e he => ?_, pair_set (u := sentB x t b) (fun d e hde => ⟨hde, hde⟩) h.ports⟩, by rw [updF_len]; omega, ?_, fun e he => ?_⟩
    · rcases mem_updF he with he | ⟨c, hc, rfl⟩
      · exact h.all e he
      · have := h.all c hc
        exact h1 c ⟨this.1, this.2.1, this.2.2.2⟩
    · rcases updF_mem (f := toF x a b) (u := sentB x t b) hd with h2 | h2
      · exact ⟨_, h2, hto, rfl⟩
      · exact ⟨_, h2, hto, rfl⟩
    · rcases updF_mem (f := toF x a b) (u := sentB x t b) he with h2 | h2
      · exact ⟨_, h2, rfl, rfl⟩
      · exact ⟨_, h2, rfl, rfl⟩
  | none =>
    obtain ⟨p, hp1, hp2, _⟩ := add_some (s := a.2) hx.lh hm hp
    simp only [hp1]
    rw [List.find?_eq_none] at hf
    refine ⟨M ++ [sentB x t b (newB x a b p)], p, rfl, ⟨fun e he => ?_, ?_⟩, by simp, ⟨sentB x t b (newB x a b p), by simp, rfl, rfl⟩, fun e he => ⟨e, by simp [he], rfl, rfl⟩⟩
    · rcases List.mem_append.1 he with he | he
      · exact h.all e he
      · simp only [List.mem_singleton] at he
        rw [he]
        exact h1 (newB x a b p) ⟨rfl, rfl, Nat.zero_le _⟩
    · rw [List.pairwise_append]
      refine ⟨h.ports, List.pairwise_singleton _ _, fun d hd e he => ?_⟩
      simp only [List.mem_singleton] at he
      rw [he]
      refine ⟨is_free hp2 d hd, fun hto => ?_⟩
      have hto2 : d.to = partA b x.map := hto
      exact hf d hd (by simp [toF, (h.all d hd).1, hto2])
theorem ones_bad {now : Int} (hg : goes now t = true) (hm : ¬ (mayA a = true ∧ mayA b = true)) : (outS x now M t a b).2.1 = 1 ∧ (outS x now M t a b).1 = (0, 0) := by
  unfold outS
  rw [if_pos hg]
  unfold outM
  rw [if_neg hm]
  exact ⟨rfl, rfl⟩
theorem same_d {u : Int} (h : Ones x a u M) {d e : Bn} (hd : d ∈ M) (he : e ∈ M) : d.port = e.port ↔ d.to = e.to := by
  obtain ⟨i, hi, rfl⟩ := List.getElem_of_mem hd
  obtain ⟨j, hj, rfl⟩ := List.getElem_of_mem he
  have hP := List.pairwise_iff_getElem.1 h.ports
  rcases Nat.lt_trichotomy i j with h1 | rfl | h1
  · have := hP i j hi hj h1
    exact ⟨fun e => absurd e this.1, fun e => absurd e this.2⟩
  · exact ⟨fun _ => rfl, fun _ => rfl⟩
  · have := hP j i hj hi h1
    exact ⟨fun e => absurd e.symm this.1, fun e => absurd e.symm this.2⟩
end
/-- those that were sent to have these ports -/
def Ports (x : Bx) (M : List Bn) (l : List A2) (ps : List Int) : Prop := ps.length ≤ l.length ∧ ∀ (i : Nat) (p : Int) (b : A2), ps[i]? = some p → l[i]? = some b → ∃ d ∈ M, d.to = partA b x.map ∧ d.port = p
theorem Ports.nil (x : Bx) (l : List A2) : Ports x [] l [] := ⟨Nat.zero_le _, fun i p b h => by simp at h⟩
theorem Ports.snoc {x : Bx} {M M' : List Bn} {l : List A2} {ps : List Int} {b : A2} {p : Int} (h : Ports x M l ps) (hb : l[ps.length]? = some b) (h1 : ∃ d ∈ M', d.to = partA b x.map ∧ d.port = p) (h2 : ∀ d ∈ M, ∃ e ∈ M', e.to = d.to ∧ e.port = d.port) : Ports x M' l (ps ++ [p]) := by
  refine ⟨by have := (List.getElem?_eq_some_iff.1 hb).1; simp; omega, fun i q c hq hc => ?_⟩
  rcases Nat.lt_or_ge i ps.length with hi | hi
  · rw [List.getElem?_append_left hi] at hq
    obtain ⟨d, hd, e1, e2⟩ := h.2 i q c hq hc
    obtain ⟨e, he, e3, e4⟩ := h2 d hd
    exact ⟨e, he, e3.trans e1, e4.trans e2⟩
  · have hi2 : i = ps.length := by
      have := (List.getElem?_eq_some_iff.1 hq).1
      simp at this
      omega
    subst hi2
    rw [hb] at hc
    cases hc
    simp at hq
    subst hq
    exact h1
theorem Ports.same {x : Bx} {a : A2} {u : Int} {M : List Bn} {l : List A2} {ps : List Int} (h : Ports x M l ps) (ho : Ones x a u M) {i j : Nat} {p q : Int} {b c : A2} (hp : ps[i]? = some p) (hq : ps[j]? = some q) (hb : l[i]? = some b) (hc : l[j]? = some c) : p = q ↔ partA b x.map = partA c x.map := by
  obtain ⟨d, hd, d1, rfl⟩ := h.2 i p b hp hb
  obtain ⟨e, he, e1, rfl⟩ := h.2 j q c hq hc
  rw [same_d ho hd he, d1, e1]
/-- are two looked at as the same one? -/
def sameV (m : Int) (b c : A2) : Bool := decide (m = 0) || (decide (b.1 = c.1) && (decide (m = 1) || decide (b.2 = c.2)))
theorem sameV_iff {m : Int} (hm : 0 ≤ m ∧ m ≤ 2) (b c : A2) : sameV m b c = true ↔ partA b m = partA c m := by
  unfold sameV partA
  obtain ⟨b1, b2⟩ := b
  obtain ⟨c1, c2⟩ := c
  by_cases h0 : m = 0
  · simp [h0]
  · by_cases h1 : m = 1
    · simp [h1]
    · simp [h0, h1]
end Go.Proofs.Ytemlnkcokeckmaa
namespace Go.Proofs.Ytemlnkcokeckmaa
open Go.RowKit
set_option linter.unusedVariables false

/-- different numbers out of a row are no more than the row has -/
theorem many_out (lo : Int) : ∀ (n : Nat) (l : List Int), l.Nodup → (∀ p ∈ l, lo ≤ p ∧ p < lo + (n : Int)) → l.length ≤ n
  | 0, l, _, h => by
    cases l with
    | nil => exact Nat.le_refl _
    | cons p l => have := h p (by simp); omega
  | n + 1, l, hn, h => by
    have h2 := many_out lo n (l.erase (lo + (n : Int))) (hn.erase _) (fun p hp => by
      obtain ⟨h3, h4⟩ := (List.Nodup.mem_erase_iff hn).1 hp
      have := h p h4
      omega)
    have h3 := List.length_erase_le (a := lo + (n : Int)) (l := l)
    have h4 : l.length ≤ (l.erase (lo + (n : Int))).length + 1 := by
      rw [List.length_erase]
      split <;> omega
    omega
/-- the bindings of the first i of those who send, in a box with room for k -/
structure Fl (x : Bx) (i : Nat) (k : Nat) (M : List Bn) : Prop where
  len : M.length = min i k
  all : ∀ d ∈ M, d.asked = false ∧ d.until_ = 30 ∧ d.inn.1 ≤ (i : Int) ∧ d.seen.length ≤ 16 ∧ x.lo ≤ d.port ∧ d.port ≤ x.hi
  ports : (M.map Bn.port).Nodup
theorem Fl.nil (x : Bx) (k : Nat) : Fl x 0 k [] := ⟨by simp, by simp, List.nodup_nil⟩
section
variable {x : Bx} {i k : Nat} {M : List Bn} {b : A2}
theorem Fl.live (h : Fl x i k M) : liveM M 0 = M := by
  unfold liveM
  rw [List.filter_eq_self]
  intro d hd
  have := (h.all d hd).2.1
  simp; omega
theorem Fl.ok (h : Fl x i k M) (hk : k ≤ 100) : OkM M := ⟨by have := h.len; omega, fun d hd => (h.all d hd).2.2.2.1⟩
theorem Fl.none (h : Fl x i k M) (a : A2) (ha : a.1 = (i : Int) + 1) : M.find? (wayF x M a b) = none := by
  have h1 : wayF x M a b = toF x a b := by
    unfold wayF
    rw [if_neg]
    intro hc
    rw [List.any_eq_true] at hc
    obtain ⟨d, hd, hc⟩ := hc
    have := (h.all d hd).1
    simp [askF, this] at hc
  rw [h1, List.find?_eq_none]
  intro d hd hc
  unfold toF at hc
  rw [Bool.and_eq_true, decide_eq_true_eq, decide_eq_true_eq] at hc
  have := (h.all d hd).2.2.1
  rw [hc.1] at this
  omega
/-- one more sends: there is room -/
theorem full_yes (hx : OkB x) (hl : x.life = 30) (hkm : (k : Int) ≤ x.most) (hkp : k ≤ ports x) (h : Fl x i k M) (hik : i < k) (a : A2) (ha1 : a.1 = (i : Int) + 1) (ha : mayA a = true) (hb : mayA b = true) :
    ∃ M' r, outS x 0 M 0 a b = (r, 0, 0, M') ∧ Fl x (i + 1) k M' := by
  have hlen := h.len
  obtain ⟨p, hp1, hp2, hp3, hp4⟩ := add_some (M := M) (s := a.2) hx.lh (by omega) (by omega)
  refine ⟨M ++ [sentB x 0 b (newB x a b p)], (x.host, p), ?_, ?_, fun d hd => ?_, ?_⟩
  · unfold outS
    rw [if_pos (by decide), h.live]
    unfold outM
    rw [if_pos ⟨ha, hb⟩, h.none a ha1]
    simp only [hp1]
  · simp only [List.length_append, List.length_cons, List.length_nil]; omega
  · rcases List.mem_append.1 hd with hd | hd
    · obtain ⟨h1, h2, h3, h4, h5⟩ := h.all d hd
      exact ⟨h1, h2, by omega, h4, h5⟩
    · simp only [List.mem_singleton] at hd
      rw [hd]
      refine ⟨rfl, ?_, ?_, seeL_len (Nat.zero_le _) b, hp3, hp4⟩
      · show (if (false : Bool) = true then (0 : Int) else min (0 + x.life) 1099511627776) = 30
        rw [if_neg (by simp), hl]; decide
      · show a.1 ≤ _
        omega
  · rw [List.map_append, List.nodup_append]
    refine ⟨h.ports, by simp, fun q hq r hr => ?_⟩
    obtain ⟨d, hd, rfl⟩ := List.mem_map.1 hq
    have hr2 : r = p := by simpa [sentB, newB] using hr
    rw [hr2]
    exact is_free hp2 d hd
/-- .. there is none -/
theorem full_no (hx : OkB x) (hk : (k : Int) = x.most ∨ k = ports x) (h : Fl x i k M) (hik : k ≤ i) (a : A2) (ha1 : a.1 = (i : Int) + 1) (ha : mayA a = true) (hb : mayA b = true) :
    outS x 0 M 0 a b = ((0, 0), 10, 0, M) ∧ Fl x (i + 1) k M := by
  have hlen : M.length = k := by have := h.len; omega
  have hadd : addM x M a.2 = none := by
    unfold addM
    cases hc : chooseM x M a.2 with
    | none => rfl
    | some p =>
      have hlt : ¬ (M.length : Int) < x.most := by
        rcases hk with hk | hk
        · omega
        · intro _
          obtain ⟨c1, c2, c3⟩ := choose_is hx.lh hc
          have hps : (ports x : Int) = x.hi - x.lo + 1 := by unfold ports; have := hx.lh; omega
          have := many_out x.lo (ports x) (p :: M.map Bn.port) (List.nodup_cons.2 ⟨fun hm => by
            obtain ⟨d, hd, e⟩ := List.mem_map.1 hm
            exact is_free c1 d hd e, h.ports⟩) (fun q hq => by
            rcases List.mem_cons.1 hq with rfl | hq
            · omega
            · obtain ⟨d, hd, rfl⟩ := List.mem_map.1 hq
              have := (h.all d hd).2.2.2.2
              omega)
          simp at this
          omega
      simp only [if_neg hlt]
  refine ⟨?_, by have := h.len; omega, fun d hd => ?_, h.ports⟩
  · unfold outS
    rw [if_pos (by decide), h.live]
    unfold outM
    rw [if_pos ⟨ha, hb⟩, h.none a ha1]
    simp only [hadd]
  · obtain ⟨h1, h2, h3, h4⟩ := h.all d hd
    exact ⟨h1, h2, by omega, h4⟩
end
theorem full_bad {x : Bx} {M : List Bn} {a b : A2} (hm : ¬ (mayA a = true ∧ mayA b = true)) : (outS x 0 M 0 a b).2.1 = 1 ∧ (outS x 0 M 0 a b).1 = (0, 0) := ones_bad (by decide) hm
/-- NatFull's box -/
def bxF (m p : Nat) : Bx := ⟨3405803777, 40000, 40000 + (p : Int) % 12, 0, 0, 30, 1 + (m : Int) % 12⟩
theorem bxF_is (m p : Nat) : isBx (bxF m p) := by
  refine ⟨⟨by simp [bxF], by simp [bxF]⟩, ?_, ?_, ?_, ?_, ?_, ?_⟩ <;> (unfold W64 bxF; dsimp only; omega)
theorem bxF_ok (m p : Nat) : OkB (bxF m p) := by constructor <;> (unfold bxF; dsimp only; omega)
theorem bxF_2 (m p : Nat) : box2 (bxF m p) = true := by
  have h1 : mayA (3405803777, 40000 + (p : Int) % 12) = true := by rw [mayA_iff]; dsimp only; omega
  have h2 : decide ((40000 : Int) ≤ 40000 + (p : Int) % 12) = true := by rw [decide_eq_true_eq]; omega
  have h3 : decide ((1 : Int) ≤ 1 + (m : Int) % 12) = true := by rw [decide_eq_true_eq]; omega
  have h4 : decide (1 + (m : Int) % 12 ≤ 100) = true := by rw [decide_eq_true_eq]; omega
  unfold box2 bxF
  dsimp only
  rw [h1, h2, h3, h4]
  simp [mayA, isWayB]
end Go.Proofs.Ytemlnkcokeckmaa
namespace Go.Proofs
open Go.Shelf
def Try.sortB_ren : Go.Shelf.Ren := ⟨fun | 6 => 55 | 15 => 88 | 14 => 87 | 28 => 112 | 29 => 113 | 20 => 104 | 21 => 105 | 22 => 106 | 23 => 107 | 24 => 108 | 25 => 109 | 26 => 110 | 27 => 111 | 46 => 122 | 47 => 123 | 48 => 124 | 49 => 125 | 50 => 126 | 57 => 128 | n => n, fun | 22 => 48 | 24 => 54 | 25 => 111 | 3 => 3 | 39 => 142 | 0 => 0 | 53 => 22 | 55 => 62 | 4 => 4 | 46 => 151 | 45 => 150 | 50 => 134 | 5 => 5 | 9 => 9 | 66 => 168 | 70 => 172 | 76 => 176 | 77 => 177 | n => n, fun | n => n⟩
theorem Try.sortB : Go.Proofs.SlLaysF0.n6 Try.prog Try.sortB_ren := {
  mixed := by kernel_rfl
  f6 := ⟨Try.f55.name, by decide, Try.func55.trans (congrArg some (by kernel_rfl))⟩
  f14 := ⟨Try.f87.name, by decide, Try.func87.trans (congrArg some (by kernel_rfl))⟩
  f15 := Try.func88.trans (congrArg some (by kernel_rfl))
  f20 := ⟨Try.f104.name, by decide, Try.func104.trans (congrArg some (by kernel_rfl))⟩
  f21 := ⟨Try.f105.name, by decide, Try.func105.trans (congrArg some (by kernel_rfl))⟩
  f22 := ⟨Try.f106.name, by decide, Try.func106.trans (congrArg some (by kernel_rfl))⟩
  f23 := ⟨Try.f107.name, by decide, Try.func107.trans (congrArg some (by kernel_rfl))⟩
  f24 := ⟨Try.f108.name, by decide, Try.func108.trans (congrArg some (by kernel_rfl))⟩
  f25 := ⟨Try.f109.name, by decide, Try.func109.trans (congrArg some (by kernel_rfl))⟩
  f26 := ⟨Try.f110.name, by decide, Try.func110.trans (congrArg some (by kernel_rfl))⟩
  f27 := ⟨Try.f111.name, by decide, Try.func111.trans (congrArg some (by kernel_rfl))⟩
  f28 := Try.func112.trans (congrArg some (by kernel_rfl))
  f29 := Try.func113.trans (congrArg some (by kernel_rfl))
  f46 := ⟨Try.f122.name, by decide, Try.func122.trans (congrArg some (by kernel_rfl))⟩
  f47 := Try.func123.trans (congrArg some (by kernel_rfl))
  f48 := Try.func124.trans (congrArg some (by kernel_rfl))
  f49 := ⟨Try.f125.name, by decide, Try.func125.trans (congrArg some (by kernel_rfl))⟩
  f50 := ⟨Try.f126.name, by decide, Try.func126.trans (congrArg some (by kernel_rfl))⟩
  f57 := ⟨Try.f128.name, by decide, Try.func128.trans (congrArg some (by kernel_rfl))⟩
  t0 := Try.underlying0
  a0 := Try.isAgg0
  z0 := Try.sizeOf0
  v0 := Try.zeroValue0
  t3 := Try.underlying3
  a3 := Try.isAgg3
  z3 := Try.sizeOf3
  v3 := Try.zeroValue3
  t4 := Try.underlying4
  a4 := Try.isAgg4
  z4 := Try.sizeOf4
  v4 := Try.zeroValue4
  t5 := Try.underlying5
  a5 := Try.isAgg5
  z5 := Try.sizeOf5
  v5 := Try.zeroValue5
  t9 := Try.underlying9
  a9 := Try.isAgg9
  z9 := Try.sizeOf9
  v9 := Try.zeroValue9
  t22 := Try.underlying48
  a22 := Try.isAgg48
  z22 := Try.sizeOf48
  v22 := Try.zeroValue48
  t25 := Try.underlying111
  a25 := Try.isAgg111
  z25 := Try.sizeOf111
  v25 := Try.zeroValue111
  t39 := Try.underlying142
  a39 := Try.isAgg142
  z39 := Try.sizeOf142
  v39 := Try.zeroValue142
  t45 := Try.underlying150
  a45 := Try.isAgg150
  z45 := Try.sizeOf150
  v45 := Try.zeroValue150
  t46 := Try.underlying151
  a46 := Try.isAgg151
  z46 := Try.sizeOf151
  v46 := Try.zeroValue151
  t50 := Try.underlying134
  a50 := Try.isAgg134
  z50 := Try.sizeOf134
  v50 := Try.zeroValue134
  t53 := Try.underlying22
  a53 := Try.isAgg22
  z53 := Try.sizeOf22
  v53 := Try.zeroValue22
  t55 := Try.underlying62
  a55 := Try.isAgg62
  z55 := Try.sizeOf62
  v55 := Try.zeroValue62
  t66 := Try.underlying168
  a66 := Try.isAgg168
  z66 := Try.sizeOf168
  v66 := Try.zeroValue168
  t70 := Try.underlying172
  a70 := Try.isAgg172
  z70 := Try.sizeOf172
  v70 := Try.zeroValue172
  t76 := Try.underlying176
  a76 := Try.isAgg176
  z76 := Try.sizeOf176
  v76 := Try.zeroValue176
  t77 := Try.underlying177
  a77 := Try.isAgg177
  z77 := Try.sizeOf177
  v77 := Try.zeroValue177 }
def Try.cmpInt_ren : Go.Shelf.Ren := ⟨fun | 5 => 57 | 7 => 89 | n => n, fun | 22 => 3 | 3 => 3 | 4 => 4 | n => n, fun | n => n⟩
theorem Try.cmpInt : Go.Proofs.SlLaysC2.n5 Try.prog Try.cmpInt_ren := {
  mixed := by kernel_rfl
  f5 := ⟨Try.f57.name, by decide, Try.func57.trans (congrArg some (by kernel_rfl))⟩
  f7 := ⟨Try.f89.name, by decide, Try.func89.trans (congrArg some (by kernel_rfl))⟩
  t3 := Try.underlying3
  a3 := Try.isAgg3
  z3 := Try.sizeOf3
  v3 := Try.zeroValue3
  t4 := Try.underlying4
  a4 := Try.isAgg4
  z4 := Try.sizeOf4
  v4 := Try.zeroValue4
  t22 := Try.underlying3
  a22 := Try.isAgg3
  z22 := Try.sizeOf3
  v22 := Try.zeroValue3 }
end Go.Proofs
namespace Go.Proofs.Ytemlnkcokeckmaa
open Go.Shelf Go.RowKit Go.Lib Go.Sort
set_option linter.unusedVariables false

/-- a binding that is told, as values -/
def encB (b : Bn) : List Value := b.cells
instance : Inhabited Bn := ⟨⟨(0, 0), (0, 0), 0, 0, false, []⟩⟩
def cmpB (b c : Bn) : Int := Lib.compareInt b.port c.port
theorem ltB (b c : Bn) : ltOf cmpB b c = decide (b.port < c.port) := by
  unfold ltOf cmpB Lib.compareInt
  by_cases h1 : b.port < c.port
  · simp [h1]
  · by_cases h2 : c.port < b.port <;> simp [h1, h2]
theorem swoB : SWO (ltOf cmpB) where
  irrefl x := by rw [ltB]; simp
  trans x y z h1 h2 := by rw [ltB] at *; simp at *; omega
  ntrans x y z h1 h2 := by rw [ltB] at *; simp at *; omega

set_option maxHeartbeats 1000000 in
theorem closure43 (b c : Bn) (W : World) : Calls Try.prog 56 #[.agg (encB b).toArray, .agg (encB c).toArray] W fun e w' => e = .returned (.int .i64 (cmpB b c)) ∧ ∃ q os', w' = grow (W.drewN q) os' := by
  have hcon := fun W' => AnyG.cmp_Compare_int Try.cmpInt b.port c.port W'
  change ∀ W', Calls Try.prog 57 _ _ _ at hcon
  unfold encB Bn.cells cmpB
  generalize Lib.compareInt b.port c.port = r at hcon ⊢
  go_enter Try.func56, Try.ntmps56
  go_wp2_with (go_at_call 57; refine (hcon _).mono ?_; rintro e w' ⟨rfl, rfl⟩)
  go_ret
  exact ⟨rfl, 0, _, by rw [alloc_eq_grow, alloc_eq_grow, grow_grow]; rfl⟩
theorem encB_len (b : Bn) : (encB b).length = 7 := rfl
theorem encB_one (b : Bn) : ∀ v ∈ encB b, v.oneCell' = true := by
  intro v hv
  simp [encB, Bn.cells] at hv
  rcases hv with rfl | rfl | rfl | rfl | rfl | rfl | rfl <;> rfl
/-- slices.SortFunc at bindings, by ports -/
theorem sortB_any (blk cap : Nat) (d : Array Bn) (w : World) (hH : HoldsK encB 7 w blk 0 d) (hblk : blk < w.heap.size) (hsz : d.size < 4611686018427387904) :
    Calls Try.prog 55 #[.slice (some ⟨blk, 0, none⟩) d.size cap, .func (.func 56) #[] #[]] w fun e w' => e = .returned (.tuple #[]) ∧ ∃ d' n os, PermIn 0 d.size d d' ∧ SortedIn (ltOf cmpB) 0 d.size d' ∧ w' = sortWorldK encB 7 w blk 0 n d' os := by
  have eg : ∀ args w, (callFunc 56 args).run Try.prog w = .ok (.enter 56 args) w := enters_of Try.func56 (by kernel_rfl) rfl
  exact AnyQ.slices_SortFunc Try.sortB 7 Try.isAgg54 Try.sizeOf54 encB encB_len encB_one cmpB swoB 56 #[] blk 0 cap d w eg (fun _ _ _ _ x y => closure43 x y _) hH hblk hsz
theorem info54 : (Try.prog.info? 54).map (fun i => (i.zero, i.size, i.bytes)) = some (some (.agg #[.int .u32 0, .int .i64 0, .int .u32 0, .int .i64 0, .int .i64 0, .int .i64 0, .bool false]), 7, 56) := by kernel_rfl
def cellsB (l : List Bn) : List Value := l.flatMap encB
theorem cellsB_len : ∀ l : List Bn, (cellsB l).length = l.length * 7
  | [] => rfl
  | b :: l => by
    show (encB b ++ cellsB l).length = _
    rw [List.length_append, encB_len, cellsB_len l, List.length_cons]; omega
theorem cellsB_snoc (l : List Bn) (b : Bn) : cellsB (l ++ [b]) = cellsB l ++ encB b := by simp [cellsB]
theorem row_end {B : Nat} {w : World} {v : Value} {l : List Bn} (b : Bn) (hr : w.ownsRow B 54 7 v l.length (cellsB l)) (hl : l.length ≤ 1000) (hB : B ≤ w.heap.size) :
    ∃ v' w', (∀ ty, (Builtin.append_ #[48, 48] ty #[v, .slice (some ⟨w.heap.size, 0, none⟩) 1 1]).run Try.prog (w.alloc (.cells (encB b).toArray 54)) = .ok v' w') ∧ (∃ A n c, v' = .slice A n c) ∧
      w'.ownsRow B 54 7 v' (l ++ [b]).length (cellsB (l ++ [b])) ∧ Below B w w' := by
  obtain ⟨i0, hi0, hz0, hz1, hz2⟩ := info_parts info54
  have h1 : (w.alloc (.cells (encB b).toArray 54)).ownsRow B 54 7 v l.length (cellsB l) := hr.alloc _
  have hc : ∀ j u, (encB b)[j]? = some u → (w.alloc (.cells (encB b).toArray 54)).cell? ((⟨w.heap.size, 0, none⟩ : Addr).add j) = some u := by
    intro j u hj
    rw [add_spot, Nat.zero_add, (cells_of (World.alloc_heap_new w _) j).1]
    simpa using hj
  have hrun := fun ty => run_append_own_at (P := Try.prog) (w.alloc (.cells (encB b).toArray 54)) B 48 ty 54 i0 _ 7 56 Try.underlying48 hi0 hz0 hz1 hz2 rfl (by decide) v l.length (cellsB l) h1 ⟨w.heap.size, 0, none⟩ 1 1 (encB b) rfl hc (encB_one b) (by unfold maxLen; omega) (by omega) (by simp; omega)
  obtain ⟨v', w', r0, r1, r2, r3, r4⟩ := hrun 48
  refine ⟨v', w', fun ty => ?_, ?_, ?_, ?_⟩
  · rw [← r0]; rfl
  · rcases r1.2 with ⟨e, _⟩ | ⟨g, cap, cur, e, _⟩
    · exact ⟨_, _, _, e⟩
    · exact ⟨_, _, _, e⟩
  · rw [List.length_append, cellsB_snoc]; exact r1
  · exact ((Below.refl _ w).alloc hB _).trans ⟨r2.os, r2.tape, r2.output, r2.size, fun k hk => r2.block k (by simp; omega) (fun e => by have := (hr.lt k e.symm).1; omega)⟩
theorem sort_keeps (w : World) (blk n : Nat) (d' : Array Bn) (os : Array Obj) : Keeps (fun k => k = blk) w (sortWorldK encB 7 w blk 0 n d' os) := by
  refine ⟨rfl, rfl, rfl, ?_, fun k hk hn => ?_⟩
  · simp [sortWorldK, grow, putRowK, putRow, mapBlock]
  · have hn2 : ¬ blk = k := fun e => hn e.symm
    simp [sortWorldK, grow, putRowK, putRow, mapBlock, Array.getElem?_append, hk, Array.getElem_modify, hn2]
/-- the slice value reads as these bindings, as they are told -/
def IsBs (w : World) (v : Value) (l : List Bn) : Prop := ∃ A c, v = .slice A l.length c ∧ l.length ≤ c ∧ c ≤ maxLen ∧ (0 < l.length → ∃ b, A = some ⟨b, 0, none⟩ ∧ (∃ C, w.heap[b]? = some (.cells C 54 (0, 0))) ∧ ∀ (j : Nat) (d : Bn), l[j]? = some d → ∀ i, i < 7 → w.cell? ⟨b, j * 7 + i, none⟩ = (encB d)[i]?)
/-- by rising ports -/
def RiseP (l : List Bn) : Prop := ∀ (i j : Nat) (b c : Bn), i < j → l[i]? = some b → l[j]? = some c → b.port ≤ c.port
theorem cellsB_at {l : List Bn} {k : Nat} {b : Bn} (h : l[k]? = some b) (i : Nat) (hi : i < 7) : (cellsB l)[k * 7 + i]? = (encB b)[i]? := by
  induction l generalizing k with
  | nil => simp at h
  | cons c l ih =>
    show (encB c ++ cellsB l)[k * 7 + i]? = _
    cases k with
    | zero =>
      simp only [List.getElem?_cons_zero, Option.some.injEq] at h
      subst h
      rw [Nat.zero_mul, Nat.zero_add, List.getElem?_append_left (by rw [encB_len]; exact hi)]
    | succ k =>
      rw [List.getElem?_append_right (by rw [encB_len]; omega), encB_len, show (k + 1) * 7 + i - 7 = k * 7 + i by omega]
      exact ih (by simpa using h)
theorem holds_of {w : World} {g cap : Nat} {cur : Array Value} {l : List Bn} (hg : w.heap[g]? = some (.cells cur 54 (0, 0))) (ht : cur.toList.take (l.length * 7) = cellsB l) : HoldsK encB 7 w g 0 l.toArray := by
  intro t ht2
  rw [size_flatK, List.size_toArray] at ht2
  rw [get_flatK encB 7 _ _ (by rw [List.size_toArray]; exact ht2), Nat.zero_add]
  refine ⟨?_, (cells_of hg t).2⟩
  have hk : t / 7 < l.length := by omega
  have h1 := cellsB_at (l := l) (k := t / 7) (b := l[t / 7]) (List.getElem?_eq_getElem hk) (t % 7) (by omega)
  rw [show t / 7 * 7 + t % 7 = t by omega, ← ht, List.getElem?_take_of_lt (by omega)] at h1
  rw [(cells_of hg t).1]
  have h2 : cur[t]? = (encB l[t / 7])[t % 7]? := by simpa using h1
  have h3 : (l.toArray)[t / 7]! = l[t / 7] := by rw [getElem!_pos l.toArray (t / 7) (by simpa using hk)]; simp
  rw [h2, h3]
  have h4 : t % 7 < (encB l[t / 7]).length := by rw [encB_len]; omega
  rw [List.getElem?_eq_getElem h4, getElem!_pos (encB l[t / 7]) (t % 7) h4]
  rfl
/-- slices.SortFunc on a row of the call's own -/
theorem sort_list {B : Nat} {w : World} {v : Value} {l : List Bn} (hr : w.ownsRow B 54 7 v l.length (cellsB l)) (hl : l.length ≤ 1000) (hB : B ≤ w.heap.size) :
    Calls Try.prog 55 #[v, .func (.func 56) #[] #[]] w fun e w' => e = .returned (.tuple #[]) ∧ Below B w w' ∧ ∃ l', l'.Perm l ∧ RiseP l' ∧ IsBs w' v l' := by
  rcases hr.2 with ⟨rfl, h0⟩ | ⟨g, cap, cur, rfl, hb, hg, hn, hm, hsz, htake⟩
  · obtain rfl := List.eq_nil_of_length_eq_zero h0
    refine (AnyF.slices_SortFunc_none Try.sortB none 0 _ w).mono ?_
    rintro e w' ⟨rfl, rfl⟩
    exact ⟨rfl, Below.refl _ _, [], List.Perm.refl _, fun i j b c _ h => by simp at h, none, 0, rfl, Nat.le_refl _, Nat.zero_le _, fun h => by simp at h⟩
  · have hH := holds_of (cap := cap) hg htake
    have hgl := (Array.getElem?_eq_some_iff.1 hg).1
    have hS := sortB_any g cap l.toArray w hH hgl (by simp; omega)
    rw [List.size_toArray] at hS
    refine hS.mono ?_
    rintro e w' ⟨rfl, d', n, os, ⟨hp1, hp2, hp3⟩, hs, rfl⟩
    have hp1 : d'.size = l.length := by simpa using hp1
    have hk := sort_keeps w g n d' os
    have hl' : d'.toList.length = l.length := by rw [Array.length_toList, hp1]
    have hH' : HoldsK encB 7 (sortWorldK encB 7 w g 0 n d' os) g 0 d' := holdsK_grow encB 7 _ os g 0 d' (by simpa [putRowK, putRow, mapBlock] using hgl) (holdsK_putRowK encB 7 (Sort.ahead w n) g 0 l.toArray d' (holdsK_ahead encB 7 w n g 0 _ hH) (by simp [hp1]))
    have hcl : ∀ (j : Nat) (d : Bn), d'.toList[j]? = some d → ∀ i, i < 7 → (sortWorldK encB 7 w g 0 n d' os).cell? ⟨g, j * 7 + i, none⟩ = (encB d)[i]? := fun j d hj i hi => by
      obtain ⟨hj1, hj2⟩ := List.getElem?_eq_some_iff.1 hj
      have hj3 : j < d'.size := by simpa using hj1
      have h1 := (hH'.cell hj3 hi).1
      rw [Nat.zero_add] at h1
      rw [h1]
      have h2 : d'[j]! = d := by rw [getElem!_pos d' j hj3]; simpa using hj2
      rw [h2, List.getElem?_eq_getElem (by rw [encB_len]; exact hi), getElem!_pos (encB d) i (by rw [encB_len]; exact hi)]
    refine ⟨rfl, hk.below (fun k e => by rw [e]; exact hb) hB, d'.toList, ?_, fun i j b c hij hi hj => ?_, some ⟨g, 0, none⟩, cap, by rw [hl'], by rw [hl']; exact hn, hm, fun h => ⟨g, rfl, ?_, hcl⟩⟩
    · have e1 : (d'.extract 0 l.length).toList = d'.toList := by rw [← hp1]; simp
      have e2 : (l.toArray.extract 0 l.length).toList = l := by simp
      have hp3 : (d'.extract 0 l.length).toList.Perm (l.toArray.extract 0 l.length).toList := by simpa using hp3
      rw [e1, e2] at hp3
      exact hp3
    · obtain ⟨hi1, hi2⟩ := List.getElem?_eq_some_iff.1 hi
      obtain ⟨hj1, hj2⟩ := List.getElem?_eq_some_iff.1 hj
      have := hs i j (Nat.zero_le _) hij (by rw [← hl']; exact hj1)
      rw [ltB] at this
      have e1 : d'[i]! = b := by rw [getElem!_pos d' i (by simpa using hi1)]; simpa using hi2
      have e2 : d'[j]! = c := by rw [getElem!_pos d' j (by simpa using hj1)]; simpa using hj2
      rw [e1, e2] at this
      simpa using this
    · have hc0 := (hH'.cell (i := 0) (c := 0) (by rw [hp1]; omega) (by omega)).1
      have h2 : (sortWorldK encB 7 w g 0 n d' os).heap[g]? = some (.cells (putCells id 0 (flatK encB 7 d') cur) 54 (0, 0)) := by
        have hg2 : w.heap[g] = .cells cur 54 (0, 0) := (Array.getElem?_eq_some_iff.1 hg).2
        simp [sortWorldK, grow, putRowK, putRow, mapBlock, Array.getElem?_append, hgl, Array.getElem_modify, hg2, onCells]
      exact ⟨_, h2⟩
end Go.Proofs.Ytemlnkcokeckmaa
namespace Go.Proofs.Ytemlnkcokeckmaa
open Go.RowKit
attribute [local go_sem] Oper.semAt_some
set_option linter.unusedVariables false

/-- what All leaves -/
def AllR (w : World) (nb : Nat) (x : Bx) (now : Int) (kv : Value) (L : List Nd) (t : Int) : Ending → World → Prop := fun e w' =>
  if goes now t = true then ∃ kv' v l', e = .returned v ∧ l'.Perm (liveM (L.map Nd.b) t) ∧ RiseP l' ∧ IsBs w' v l' ∧ Mvd nb x kv L w t kv' (liveN L t) w'
  else e = .returned (.slice none 0 0) ∧ Mvd nb x kv L w now kv L w'

set_option maxRecDepth 100000 in
set_option maxHeartbeats 4000000 in
theorem all_any (nb : Nat) (x : Bx) (now : Int) (kv : Value) (L : List Nd) (t : Int) (w : World) (h : Na w nb x now kv L) (hL : OkL L) :
    Calls Try.prog 27 #[.pointer (some ⟨nb, 0, none⟩), .int .i64 t] w (AllR w nb x now kv L t) := by
  have HG := Lib.hid (goesOn_any nb x now t kv L w h (by have := hL.len; omega))
  have H := Lib.hid h; have HL := Lib.hid hL
  clear h hL
  go_enter Try.func27, Try.ntmps27
  go_wp2_with fail
  refine HG.out.mono ?_
  intro e w1 hw1
  obtain rfl := hw1.1
  cases hg : goes now t with
  | false =>
    have hb : Below w.heap.size w w1 := by have := hw1.2; rw [hg, if_neg (by simp)] at this; exact this
    have HE := Lib.hid (Mvd.same H.out hb)
    have HGG := Lib.hid hg
    clear hw1 hg hb
    go_wp2
    go_ret
    unfold AllR
    rw [HGG.out, if_neg (by simp)]
    exact ⟨rfl, HE.out⟩
  | true =>
    obtain ⟨kv1, hm1⟩ := Mvd.went H.out hw1 hg
    have HL1 := Lib.hid (HL.out.live t)
    have HRES : Hid (∀ v w' l', l'.Perm ((liveN L t).map Nd.b) → RiseP l' → IsBs w' v l' → Mvd nb x kv L w t kv1 (liveN L t) w' → AllR w nb x now kv L t (.returned v) w') := Lib.hid (fun v w' l' h1 h2 h3 h4 => by
      rw [live_map] at h1
      unfold AllR
      rw [if_pos hg]
      exact ⟨kv1, v, l', rfl, h1, h2, h3, h4⟩)
    clear hw1 hg
    generalize liveN L t = L1 at *
    have HM1 := Lib.hid hm1
    have c7 := hm1.na.cells.2.1
    have hl100 := HL1.out.len
    have HEND : Hid (∀ w', Below w1.heap.size w1 w' → Mvd nb x kv L w t kv1 L1 w') := Lib.hid (fun w' hb => HM1.out.trans (.same HM1.out.na hb))
    rcases hm1.na.rowAt with ⟨rfl, rfl⟩ | ⟨g, cap, cur, rfl, hgg, hnc, hm3, hcs, hcell⟩
    · have HS := Lib.hid (fun W => sort_list (B := W.heap.size) (w := W) (v := .slice none 0 0) (l := []) (World.ownsRow_nil _ _ _ _) (by simp) (Nat.le_refl _))
      clear hm1
      go_wp2
      go_loopg [5, 17] 0 (fun _ s5 s17 wr => s5 = .slice none 0 0 ∧ s17 = .int .i64 0 ∧ wr = w1)
      case atStart => exact ⟨rfl, rfl, rfl⟩
      case round =>
        obtain ⟨rfl, rfl, rfl⟩ := hrel
        go_wp2_with fail
        refine (HS.out _).mono ?_
        rintro e w9 ⟨rfl, hb9, l', h1, h2, h3⟩
        have HE := Lib.hid (HRES.out _ _ _ h1 h2 h3 (HEND.out _ hb9))
        clear hb9 h1 h2 h3
        go_wp2
        go_ret
        exact HE.out
    · have HCELL : Hid (∀ (j : Nat) (d : Nd), L1[j]? = some d → d ∈ L1 ∧ w1.cell? ⟨g, j, none⟩ = some (.pointer (some ⟨d.p, 0, none⟩))) := Lib.hid (fun j d hj => ⟨List.mem_of_getElem? hj, by rw [(cells_of hgg j).1]; exact hcell j d hj⟩)
      have hgl := (Array.getElem?_eq_some_iff.1 hgg).1
      clear hcell hcs hgg hm1
      go_wp2
      go_loopg [5, 17] L1.length (fun gg s5 s17 wr => ∃ k : Nat, k ≤ L1.length ∧ L1.length - k ≤ gg ∧ s17 = .int .i64 k ∧ Hid (∃ A n c, s5 = .slice A n c) ∧ Hid (wr.ownsRow w1.heap.size 54 7 s5 ((L1.take k).map Nd.b).length (cellsB ((L1.take k).map Nd.b))) ∧ Hid (Below w1.heap.size w1 wr))
      case atStart => exact ⟨0, by omega, by omega, rfl, Lib.hid ⟨_, _, _, rfl⟩, Lib.hid (World.ownsRow_nil _ _ _ _), Lib.hid (Below.refl _ _)⟩
      case round =>
        obtain ⟨k, hk, hgk, rfl, HSL, HRW, HB⟩ := hrel
        have hwr := HB.out.size
        by_cases hlt : k < L1.length
        · have hltz : (k : Int) < (L1.length : Int) := by omega
          obtain ⟨d, hd⟩ : ∃ d, L1[k]? = some d := ⟨_, List.getElem?_eq_getElem hlt⟩
          obtain ⟨hdm, k0⟩ := HCELL.out k d hd
          have hND := HM1.out.na.nds d hdm
          have hdl := hND.lt
          obtain ⟨n0, n1, n2, n3, n4, n5, n6⟩ := hND.cells.1
          have y := (HB.out.cell (p := ⟨g, k, none⟩) hgl).trans k0
          have m0 := (HB.out.cell (p := ⟨d.p, 0, none⟩) hdl).trans n0
          have m1 := (HB.out.cell (p := ⟨d.p, 1, none⟩) hdl).trans n1
          have m2 := (HB.out.cell (p := ⟨d.p, 2, none⟩) hdl).trans n2
          have m3 := (HB.out.cell (p := ⟨d.p, 3, none⟩) hdl).trans n3
          have m4 := (HB.out.cell (p := ⟨d.p, 4, none⟩) hdl).trans n4
          have m5 := (HB.out.cell (p := ⟨d.p, 5, none⟩) hdl).trans n5
          have m6 := (HB.out.cell (p := ⟨d.p, 6, none⟩) hdl).trans n6
          obtain ⟨v9, W9, t1, t2, t3, t4⟩ := row_end d.b HRW.out (by rw [List.length_map, List.length_take]; omega) hwr
          obtain ⟨A9, N9, C9, rfl⟩ := t2
          have T1 := Lib.hid t1
          have HRW9 : Hid (W9.ownsRow w1.heap.size 54 7 (.slice A9 N9 C9) ((L1.take (k + 1)).map Nd.b).length (cellsB ((L1.take (k + 1)).map Nd.b))) := Lib.hid (by
            rw [List.take_add_one, hd, List.map_append]; exact t3)
          have HB9 := Lib.hid (HB.out.trans t4)
          unfold encB Bn.cells at T1
          clear n0 n1 n2 n3 n4 n5 n6 hND t1 t3 t4 hd hdm k0
          go_wp2_with (at_builtin; refine wpList_run rfl (.tmp 21) (.tmp 26) 48 rfl rfl rfl T1.out ?_)
          go_roundg (L1.length - (k + 1))
          case measure => omega
          case rel => exact ⟨k + 1, by omega, by omega, by go_num, Lib.hid ⟨_, _, _, rfl⟩, HRW9, HB9⟩
        · have hltz : ¬ (k : Int) < (L1.length : Int) := by omega
          obtain rfl : k = L1.length := by omega
          rw [List.take_length] at HRW
          have HS := Lib.hid (sort_list HRW.out (by rw [List.length_map]; omega) hwr)
          obtain ⟨A8, N8, C8, h8⟩ := HSL.out
          rw [h8] at HS
          go_wp2_with fail
          first | rw [h8] | skip
          refine HS.out.mono ?_
          rintro e w9 ⟨rfl, hb9, l', h1, h2, h3⟩
          have HE := Lib.hid (HRES.out _ _ _ h1 h2 h3 (HEND.out _ (HB.out.trans hb9)))
          clear hb9 h1 h2 h3
          go_wp2
          go_ret
          exact HE.out
section
variable {w0 V V' : World} {nb : Nat} {x : Bx} {now now' : Int} {M M' : List Bn} {os : List (Nat × Obj)}
/-- All, where the time may go on -/
theorem all_pl (h : Pl w0 nb x now M os V) (hM : OkM M) (t : Int) (hg : goes now t = true) :
    Calls Try.prog 27 #[.pointer (some ⟨nb, 0, none⟩), .int .i64 t] V fun e V' => (∃ v l', e = .returned v ∧ l'.Perm (liveM M t) ∧ RiseP l' ∧ IsBs V' v l') ∧ Pl w0 nb x t (liveM M t) os V' := by
  obtain ⟨kv, L, h1, h2, h3, h4⟩ := h.bo
  subst h2
  refine (all_any nb x now kv L t V h1 hM.ofL).mono fun e V' hr => ?_
  unfold AllR at hr
  rw [if_pos hg] at hr
  obtain ⟨kv', v, l', rfl, p1, p2, p3, g2⟩ := hr
  refine ⟨⟨v, l', rfl, p1, p2, p3⟩, ⟨kv', _, g2.na, live_map L t, fun k hk => (g2.foot k hk).elim (h3 k) (fun e => Nat.le_trans h.low.size e), fun p hp hf => ?_⟩, fun p hp => ?_, h.low.trans (g2.keeps.below h3 h.low.size)⟩
  · exact (g2.foot _ hf).elim (h4 p hp) (fun e => by have := h.lt hp; omega)
  · exact (g2.keeps.block _ (h.lt hp) (h4 p hp)).trans (h.held p hp)
theorem reboot_pl (h : Pl w0 nb x now M os V) : Calls Try.prog 25 #[.pointer (some ⟨nb, 0, none⟩)] V fun e V' => e = .returned (.tuple #[]) ∧ Pl w0 nb x 0 [] os V' := by
  obtain ⟨kv, L, h1, h2, h3, h4⟩ := h.bo
  refine (reboot_any nb x now kv L V h1).mono fun e V' hr => ?_
  obtain ⟨rfl, g2⟩ := hr
  refine ⟨rfl, ⟨_, _, g2.na, rfl, fun k hk => (g2.foot k hk).elim (h3 k) (fun e => Nat.le_trans h.low.size e), fun p hp hf => ?_⟩, fun p hp => ?_, h.low.trans (g2.keeps.below h3 h.low.size)⟩
  · exact (g2.foot _ hf).elim (h4 p hp) (fun e => by have := h.lt hp; omega)
  · exact (g2.keeps.block _ (h.lt hp) (h4 p hp)).trans (h.held p hp)
end
end Go.Proofs.Ytemlnkcokeckmaa
namespace Go.Proofs.Ytemlnkcokeckmaa
open Go.RowKit
set_option linter.unusedVariables false

/-- what Ask answers and leaves, at any time -/
def askS (x : Bx) (now : Int) (M : List Bn) (t : Int) (a : A2) (s u : Int) : Int × Int × Int × List Bn :=
  if goes now t = true then ((askM x (liveM M t) t a s u).1, (askM x (liveM M t) t a s u).2.1, t, (askM x (liveM M t) t a s u).2.2) else (0, 1, now, M)
theorem ask_pl {w0 V : World} {nb : Nat} {x : Bx} {now : Int} {M : List Bn} {os : List (Nat × Obj)} (h : Pl w0 nb x now M os V) (hx : OkB x) (hM : OkM M) (t : Int) (a : A2) (s u : Int) (ha : isA a) :
    Calls Try.prog 21 #[.pointer (some ⟨nb, 0, none⟩), .int .i64 t, adr a, .int .i64 s, .int .i64 u] V fun e V' => e = .returned (ansI (askS x now M t a s u).1 (askS x now M t a s u).2.1) ∧ Pl w0 nb x (askS x now M t a s u).2.2.1 (askS x now M t a s u).2.2.2 os V' := by
  obtain ⟨kv, L, h1, h2, h3, h4⟩ := h.bo
  subst h2
  refine (ask_any nb x now kv L t a s u V h1 hx hM.ofL ha).mono fun e V' hr => ?_
  unfold AskR at hr
  unfold askS
  by_cases hg : goes now t = true
  · rw [if_pos hg] at hr ⊢
    obtain ⟨kv', L', g1, g2, g3⟩ := hr
    refine ⟨g1, ⟨kv', L', g2.na, g3, fun k hk => (g2.foot k hk).elim (h3 k) (fun e => Nat.le_trans h.low.size e), fun p hp hf => ?_⟩, fun p hp => ?_, h.low.trans (g2.keeps.below h3 h.low.size)⟩
    · exact (g2.foot _ hf).elim (h4 p hp) (fun e => by have := h.lt hp; omega)
    · exact (g2.keeps.block _ (h.lt hp) (h4 p hp)).trans (h.held p hp)
  · rw [if_neg hg] at hr ⊢
    obtain ⟨g1, g2⟩ := hr
    refine ⟨g1, ⟨kv, L, g2.na, rfl, fun k hk => (g2.foot k hk).elim (h3 k) (fun e => Nat.le_trans h.low.size e), fun p hp hf => ?_⟩, fun p hp => ?_, h.low.trans (g2.keeps.below h3 h.low.size)⟩
    · exact (g2.foot _ hf).elim (h4 p hp) (fun e => by have := h.lt hp; omega)
    · exact (g2.keeps.block _ (h.lt hp) (h4 p hp)).trans (h.held p hp)
def bA (a : A2) (u : Int) (l : List A2) : Bn := { inn := a, to := (0, 0), port := 40005, until_ := u, asked := true, seen := l }
section
variable {x : Bx} {a b : A2} {u t now : Int} {l : List A2}
theorem ok_bA (h : l.length ≤ 16) : OkM [bA a u l] := ⟨by simp, fun c hc => by simp at hc; subst hc; exact h⟩
theorem liveA (h : t < u) : liveM [bA a u l] t = [bA a u l] := by
  unfold liveM
  have : (!decide ((bA a u l).until_ ≤ t)) = true := by show (!decide (u ≤ t)) = true; rw [decide_eq_false (by omega)]; rfl
  simp [List.filter, this]
theorem goneA (h : u ≤ t) : liveM [bA a u l] t = [] := by
  unfold liveM
  have : (!decide ((bA a u l).until_ ≤ t)) = false := by show (!decide (u ≤ t)) = false; rw [decide_eq_true (by omega)]; rfl
  simp [List.filter, this]
theorem askA_bad (hm : mayA a = false) : askS x 0 [] 0 a 40005 50 = (0, 1, 0, []) := by
  unfold askS
  rw [if_pos (by decide)]
  unfold askM
  rw [if_neg (by simp [hm])]; rfl
theorem askA_new (hx : OkB x) (hm : 1 ≤ x.most) (hw : wish0 x 40005 = 40005) (ha : mayA a = true) : askS x 0 [] 0 a 40005 50 = (40005, 0, 0, [bA a 50 []]) := by
  unfold askS
  rw [if_pos (by decide)]
  unfold askM
  have h0 : liveM [] 0 = [] := rfl
  rw [if_pos ⟨ha, by decide, by decide⟩, h0]
  simp only [List.find?_nil, add_nil hx.lh hm, hw]
  rfl
theorem askA_again (hg : goes now 2 = true) (ha : mayA a = true) : askS x now [bA a 50 l] 2 a 40009 60 = (40005, 0, 2, [bA a 60 l]) := by
  unfold askS
  rw [if_pos hg, liveA (by decide)]
  unfold askM
  have h2 : askF a (bA a 50 l) = true := by simp [askF, bA]
  have h3 : [bA a 50 l].find? (askF a) = some (bA a 50 l) := by simp [h2]
  have h4 : updF (askF a) (tillB 60) [bA a 50 l] = [bA a 60 l] := by
    unfold updF
    rw [if_pos h2]; rfl
  rw [if_pos ⟨ha, by decide, by decide⟩, h3]
  simp only [h4]
  rfl
theorem outA_bad (hg : goes now 1 = true) (hm : mayA b = false) : outS x now [bA a 50 l] 1 a b = ((0, 0), 1, 1, [bA a 50 l]) := by
  unfold outS
  rw [if_pos hg, liveA (by decide)]
  unfold outM
  rw [if_neg (by simp [hm])]
theorem outA (hg : goes now 1 = true) (ha : mayA a = true) (hb : mayA b = true) : outS x now [bA a 50 l] 1 a b = ((x.host, 40005), 0, 1, [bA a 50 (seeL l b)]) := by
  unfold outS
  rw [if_pos hg, liveA (by decide)]
  unfold outM
  have h2 : askF a (bA a 50 l) = true := by simp [askF, bA]
  have h1 : wayF x [bA a 50 l] a b = askF a := by
    unfold wayF
    rw [if_pos (by simp [h2])]
  rw [if_pos ⟨ha, hb⟩, h1]
  have h3 : [bA a 50 l].find? (askF a) = some (bA a 50 l) := by simp [h2]
  have h4 : updF (askF a) (sentB x 1 b) [bA a 50 l] = [bA a 50 (seeL l b)] := by
    unfold updF
    rw [if_pos h2]; rfl
  rw [h3]
  simp only [h4]
  rfl
theorem inA (hg : goes now t = true) (hb : mayA b = true) (hu : t < u) : inS x now [bA a u l] t 40005 b = (a, 0, t, [bA a u l]) := by
  unfold inS
  rw [if_pos hg, liveA hu]
  have h1 : comesF x 40005 b (bA a u l) = true := by simp [comesF, letsB, bA]
  have h2 : inM x [bA a u l] 40005 b = (a, 0) := by
    unfold inM
    rw [if_pos hb]
    have h3 : [bA a u l].find? (comesF x 40005 b) = some (bA a u l) := by simp [h1]
    rw [h3]
    rfl
  rw [h2]
theorem inA_gone (hg : goes now t = true) (hb : mayA b = true) (hu : u ≤ t) : inS x now [bA a u l] t 40005 b = ((0, 0), 8, t, []) := by
  unfold inS
  rw [if_pos hg, goneA hu]
  have h2 : inM x [] 40005 b = ((0, 0), 8) := by
    unfold inM
    rw [if_pos hb]; rfl
  rw [h2]
end
end Go.Proofs.Ytemlnkcokeckmaa
namespace Go.Proofs.Ytemlnkcokeckmaa
open Go.RowKit
set_option linter.unusedVariables false

structure Okb (x : Bx) (M : List Bn) : Prop where
  len : (M.length : Int) ≤ x.most
  ports : (M.map Bn.port).Nodup
  rng : ∀ d ∈ M, x.lo ≤ d.port ∧ d.port ≤ x.hi ∧ d.seen.length ≤ 16
theorem Okb.nil {x : Bx} (h : 0 ≤ x.most) : Okb x [] := ⟨by simpa using h, List.nodup_nil, by simp⟩
theorem Okb.okM {x : Bx} {M : List Bn} (h : Okb x M) (hm : x.most ≤ 100) : OkM M := ⟨by have := h.len; omega, fun d hd => (h.rng d hd).2.2⟩
theorem Okb.sub {x : Bx} {M M' : List Bn} (h : Okb x M) (hs : M'.Sublist M) : Okb x M' :=
  ⟨by have := h.len; have := hs.length_le; omega, h.ports.sublist (hs.map _), fun d hd => h.rng d (hs.subset hd)⟩
theorem Okb.live {x : Bx} {M : List Bn} (h : Okb x M) (t : Int) : Okb x (liveM M t) := h.sub List.filter_sublist
theorem updF_map {f : Bn → Bool} {u : Bn → Bn} (hu : ∀ d, (u d).port = d.port) : ∀ M : List Bn, (updF f u M).map Bn.port = M.map Bn.port
  | [] => rfl
  | d :: M => by
    unfold updF
    split
    · simp [hu]
    · simp [updF_map hu M]
theorem Okb.upd {x : Bx} {M : List Bn} {f : Bn → Bool} {u : Bn → Bn} (h : Okb x M) (hu : ∀ d, (u d).port = d.port) (hs : ∀ d, d.seen.length ≤ 16 → (u d).seen.length ≤ 16) : Okb x (updF f u M) := by
  refine ⟨by rw [updF_len]; exact h.len, by rw [updF_map hu]; exact h.ports, fun e he => ?_⟩
  rcases mem_updF he with he | ⟨d, hd, rfl⟩
  · exact h.rng e he
  · have := h.rng d hd
    rw [hu]
    exact ⟨this.1, this.2.1, hs d this.2.2⟩
theorem add_is {x : Bx} {M : List Bn} {s p : Int} (hx : x.lo ≤ x.hi) (h : addM x M s = some p) : (M.length : Int) < x.most ∧ freeM M p = true ∧ x.lo ≤ p ∧ p ≤ x.hi := by
  unfold addM at h
  cases hq : chooseM x M s with
  | none => rw [hq] at h; simp at h
  | some q =>
    rw [hq] at h
    by_cases hl : (M.length : Int) < x.most
    · simp only [if_pos hl, Option.some.injEq] at h
      subst h
      exact ⟨hl, choose_is hx hq⟩
    · simp [if_neg hl] at h
theorem Okb.snoc {x : Bx} {M : List Bn} {s p : Int} (h : Okb x M) (hx : x.lo ≤ x.hi) (ha : addM x M s = some p) (d : Bn) (hd : d.port = p) (hs : d.seen.length ≤ 16) : Okb x (M ++ [d]) := by
  obtain ⟨h1, h2, h3, h4⟩ := add_is hx ha
  refine ⟨by simp; omega, ?_, fun e he => ?_⟩
  · rw [List.map_append, List.nodup_append]
    refine ⟨h.ports, by simp, fun q hq r hr => ?_⟩
    obtain ⟨e, he, rfl⟩ := List.mem_map.1 hq
    have hr2 : r = p := by simpa [hd] using hr
    rw [hr2]
    exact is_free h2 e he
  · rcases List.mem_append.1 he with he | he
    · exact h.rng e he
    · simp only [List.mem_singleton] at he
      rw [he, hd]
      exact ⟨h3, h4, hs⟩
section
variable {x : Bx} {M : List Bn} {now t : Int} {a b : A2}
theorem Okb.out (h : Okb x M) (hx : x.lo ≤ x.hi) : Okb x (outS x now M t a b).2.2.2 := by
  unfold outS
  split
  · unfold outM
    split
    · split
      · exact (h.live t).upd (fun d => rfl) (fun d hd => seeL_len hd b)
      · split
        · rename_i p hp
          exact (h.live t).snoc hx hp _ rfl (seeL_len (Nat.zero_le _) b)
        · exact h.live t
    · exact h.live t
  · exact h
theorem Okb.ask {s u : Int} (h : Okb x M) (hx : x.lo ≤ x.hi) : Okb x (askS x now M t a s u).2.2.2 := by
  unfold askS
  split
  · unfold askM
    split
    · split
      · exact (h.live t).upd (fun d => rfl) (fun d hd => hd)
      · split
        · rename_i p hp
          exact (h.live t).snoc hx hp _ rfl (Nat.zero_le _)
        · exact h.live t
    · exact h.live t
  · exact h
theorem Okb.in_ {p : Int} {f : A2} (h : Okb x M) : Okb x (inS x now M t p f).2.2.2 := by
  unfold inS
  split
  · exact h.live t
  · exact h
theorem Okb.drop (h : Okb x M) : Okb x (dropS now M t a).2.2 := by
  unfold dropS
  split
  · exact (h.live t).sub List.eraseP_sublist
  · exact h
end
end Go.Proofs.Ytemlnkcokeckmaa
