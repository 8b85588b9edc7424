/-
  What NatFull's walk is told: a box with one binding for each of some who send. Conditions: as each lemma states.
-/
import Derived.Test.YtidhdgcmagpkgaaOne
namespace Go.Proofs.Ytidhdgcmagpkgaa
open Go.RowKit
set_option linter.unusedVariables false

/-- different numbers out of a row are no more than the row has -/
theorem many_out (lo : Int) : ∀ (n : Nat) (l : List Int), l.Nodup → (∀ p ∈ l, lo ≤ p ∧ p < lo + (n : Int)) → l.length ≤ n
  | 0, l, _, h => by
    cases l with
    | nil => exact Nat.le_refl _
    | cons p l => have := h p (by simp); omega
  | n + 1, l, hn, h => by
    have h2 := many_out lo n (l.erase (lo + (n : Int))) (hn.erase _) (fun p hp => by
      obtain ⟨h3, h4⟩ := (List.Nodup.mem_erase_iff hn).1 hp
      have := h p h4
      omega)
    have h3 := List.length_erase_le (a := lo + (n : Int)) (l := l)
    have h4 : l.length ≤ (l.erase (lo + (n : Int))).length + 1 := by
      rw [List.length_erase]
      split <;> omega
    omega
/-- the bindings of the first i of those who send, in a box with room for k -/
structure Fl (x : Bx) (i : Nat) (k : Nat) (M : List Bn) : Prop where
  len : M.length = min i k
  all : ∀ d ∈ M, d.asked = false ∧ d.until_ = 30 ∧ d.inn.1 ≤ (i : Int) ∧ d.seen.length ≤ 16 ∧ x.lo ≤ d.port ∧ d.port ≤ x.hi
  ports : (M.map Bn.port).Nodup
theorem Fl.nil (x : Bx) (k : Nat) : Fl x 0 k [] := ⟨by simp, by simp, List.nodup_nil⟩
section
variable {x : Bx} {i k : Nat} {M : List Bn} {b : A2}
theorem Fl.live (h : Fl x i k M) : liveM M 0 = M := by
  unfold liveM
  rw [List.filter_eq_self]
  intro d hd
  have := (h.all d hd).2.1
  simp; omega
theorem Fl.ok (h : Fl x i k M) (hk : k ≤ 100) : OkM M := ⟨by have := h.len; omega, fun d hd => (h.all d hd).2.2.2.1⟩
theorem Fl.none (h : Fl x i k M) (a : A2) (ha : a.1 = (i : Int) + 1) : M.find? (wayF x M a b) = none := by
  have h1 : wayF x M a b = toF x a b := by
    unfold wayF
    rw [if_neg]
    intro hc
    rw [List.any_eq_true] at hc
    obtain ⟨d, hd, hc⟩ := hc
    have := (h.all d hd).1
    simp [askF, this] at hc
  rw [h1, List.find?_eq_none]
  intro d hd hc
  unfold toF at hc
  rw [Bool.and_eq_true, decide_eq_true_eq, decide_eq_true_eq] at hc
  have := (h.all d hd).2.2.1
  rw [hc.1] at this
  omega
/-- one more sends: there is room -/
theorem full_yes (hx : OkB x) (hl : x.life = 30) (hkm : (k : Int) ≤ x.most) (hkp : k ≤ ports x) (h : Fl x i k M) (hik : i < k) (a : A2) (ha1 : a.1 = (i : Int) + 1) (ha : mayA a = true) (hb : mayA b = true) :
    ∃ M' r, outS x 0 M 0 a b = (r, 0, 0, M') ∧ Fl x (i + 1) k M' := by
  have hlen := h.len
  obtain ⟨p, hp1, hp2, hp3, hp4⟩ := add_some (M := M) (s := a.2) hx.lh (by omega) (by omega)
  refine ⟨M ++ [sentB x 0 b (newB x a b p)], (x.host, p), ?_, ?_, fun d hd => ?_, ?_⟩
  · unfold outS
    rw [if_pos (by decide), h.live]
    unfold outM
    rw [if_pos ⟨ha, hb⟩, h.none a ha1]
    simp only [hp1]
  · simp only [List.length_append, List.length_cons, List.length_nil]; omega
  · rcases List.mem_append.1 hd with hd | hd
    · obtain ⟨h1, h2, h3, h4, h5⟩ := h.all d hd
      exact ⟨h1, h2, by omega, h4, h5⟩
    · simp only [List.mem_singleton] at hd
      rw [hd]
      refine ⟨rfl, ?_, ?_, seeL_len (Nat.zero_le _) b, hp3, hp4⟩
      · show (if (false : Bool) = true then (0 : Int) else min (0 + x.life) 1099511627776) = 30
        rw [if_neg (by simp), hl]; decide
      · show a.1 ≤ _
        omega
  · rw [List.map_append, List.nodup_append]
    refine ⟨h.ports, by simp, fun q hq r hr => ?_⟩
    obtain ⟨d, hd, rfl⟩ := List.mem_map.1 hq
    have hr2 : r = p := by simpa [sentB, newB] using hr
    rw [hr2]
    exact is_free hp2 d hd
/-- .. there is none -/
theorem full_no (hx : OkB x) (hk : (k : Int) = x.most ∨ k = ports x) (h : Fl x i k M) (hik : k ≤ i) (a : A2) (ha1 : a.1 = (i : Int) + 1) (ha : mayA a = true) (hb : mayA b = true) :
    outS x 0 M 0 a b = ((0, 0), 10, 0, M) ∧ Fl x (i + 1) k M := by
  have hlen : M.length = k := by have := h.len; omega
  have hadd : addM x M a.2 = none := by
    unfold addM
    cases hc : chooseM x M a.2 with
    | none => rfl
    | some p =>
      have hlt : ¬ (M.length : Int) < x.most := by
        rcases hk with hk | hk
        · omega
        · intro _
          obtain ⟨c1, c2, c3⟩ := choose_is hx.lh hc
          have hps : (ports x : Int) = x.hi - x.lo + 1 := by unfold ports; have := hx.lh; omega
          have := many_out x.lo (ports x) (p :: M.map Bn.port) (List.nodup_cons.2 ⟨fun hm => by
            obtain ⟨d, hd, e⟩ := List.mem_map.1 hm
            exact is_free c1 d hd e, h.ports⟩) (fun q hq => by
            rcases List.mem_cons.1 hq with rfl | hq
            · omega
            · obtain ⟨d, hd, rfl⟩ := List.mem_map.1 hq
              have := (h.all d hd).2.2.2.2
              omega)
          simp at this
          omega
      simp only [if_neg hlt]
  refine ⟨?_, by have := h.len; omega, fun d hd => ?_, h.ports⟩
  · unfold outS
    rw [if_pos (by decide), h.live]
    unfold outM
    rw [if_pos ⟨ha, hb⟩, h.none a ha1]
    simp only [hadd]
  · obtain ⟨h1, h2, h3, h4⟩ := h.all d hd
    exact ⟨h1, h2, by omega, h4⟩
end
theorem full_bad {x : Bx} {M : List Bn} {a b : A2} (hm : ¬ (mayA a = true ∧ mayA b = true)) : (outS x 0 M 0 a b).2.1 = 1 ∧ (outS x 0 M 0 a b).1 = (0, 0) := ones_bad (by decide) hm
/-- NatFull's box -/
def bxF (m p : Nat) : Bx := ⟨3405803777, 40000, 40000 + (p : Int) % 12, 0, 0, 30, 1 + (m : Int) % 12⟩
theorem bxF_is (m p : Nat) : isBx (bxF m p) := by
  refine ⟨⟨by simp [bxF], by simp [bxF]⟩, ?_, ?_, ?_, ?_, ?_, ?_⟩ <;> (unfold W64 bxF; dsimp only; omega)
theorem bxF_ok (m p : Nat) : OkB (bxF m p) := by constructor <;> (unfold bxF; dsimp only; omega)
theorem bxF_2 (m p : Nat) : box2 (bxF m p) = true := by
  have h1 : mayA (3405803777, 40000 + (p : Int) % 12) = true := by rw [mayA_iff]; dsimp only; omega
  have h2 : decide ((40000 : Int) ≤ 40000 + (p : Int) % 12) = true := by rw [decide_eq_true_eq]; omega
  have h3 : decide ((1 : Int) ≤ 1 + (m : Int) % 12) = true := by rw [decide_eq_true_eq]; omega
  have h4 : decide (1 + (m : Int) % 12 ≤ 100) = true := by rw [decide_eq_true_eq]; omega
  unfold box2 bxF
  dsimp only
  rw [h1, h2, h3, h4]
  simp [mayA, isWayB]
end Go.Proofs.Ytidhdgcmagpkgaa
