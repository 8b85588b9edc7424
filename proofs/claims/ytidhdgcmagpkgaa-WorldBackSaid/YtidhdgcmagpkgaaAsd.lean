/-
  What NatAsked's walk is told: a binding that is asked for, by itself. Conditions: as each lemma states.
-/
import Derived.Test.YtidhdgcmagpkgaaAks
import Derived.Test.YtidhdgcmagpkgaaFul
import Derived.Test.YtidhdgcmagpkgaaAlw
namespace Go.Proofs.Ytidhdgcmagpkgaa
open Go.RowKit
set_option linter.unusedVariables false

/-- what Ask answers and leaves, at any time -/
def askS (x : Bx) (now : Int) (M : List Bn) (t : Int) (a : A2) (s u : Int) : Int × Int × Int × List Bn :=
  if goes now t = true then ((askM x (liveM M t) t a s u).1, (askM x (liveM M t) t a s u).2.1, t, (askM x (liveM M t) t a s u).2.2) else (0, 1, now, M)
def bA (a : A2) (u : Int) (l : List A2) : Bn := { inn := a, to := (0, 0), port := 40005, until_ := u, asked := true, seen := l }
section
variable {x : Bx} {a b : A2} {u t now : Int} {l : List A2}
theorem ok_bA (h : l.length ≤ 16) : OkM [bA a u l] := ⟨by simp, fun c hc => by simp at hc; subst hc; exact h⟩
theorem liveA (h : t < u) : liveM [bA a u l] t = [bA a u l] := by
  unfold liveM
  have : (!decide ((bA a u l).until_ ≤ t)) = true := by show (!decide (u ≤ t)) = true; rw [decide_eq_false (by omega)]; rfl
  simp [List.filter, this]
theorem goneA (h : u ≤ t) : liveM [bA a u l] t = [] := by
  unfold liveM
  have : (!decide ((bA a u l).until_ ≤ t)) = false := by show (!decide (u ≤ t)) = false; rw [decide_eq_true (by omega)]; rfl
  simp [List.filter, this]
theorem askA_bad (hm : mayA a = false) : askS x 0 [] 0 a 40005 50 = (0, 1, 0, []) := by
  unfold askS
  rw [if_pos (by decide)]
  unfold askM
  rw [if_neg (by simp [hm])]; rfl
theorem askA_new (hx : OkB x) (hm : 1 ≤ x.most) (hw : wish0 x 40005 = 40005) (ha : mayA a = true) : askS x 0 [] 0 a 40005 50 = (40005, 0, 0, [bA a 50 []]) := by
  unfold askS
  rw [if_pos (by decide)]
  unfold askM
  have h0 : liveM [] 0 = [] := rfl
  rw [if_pos ⟨ha, by decide, by decide⟩, h0]
  simp only [List.find?_nil, add_nil hx.lh hm, hw]
  rfl
theorem askA_again (hg : goes now 2 = true) (ha : mayA a = true) : askS x now [bA a 50 l] 2 a 40009 60 = (40005, 0, 2, [bA a 60 l]) := by
  unfold askS
  rw [if_pos hg, liveA (by decide)]
  unfold askM
  have h2 : askF a (bA a 50 l) = true := by simp [askF, bA]
  have h3 : [bA a 50 l].find? (askF a) = some (bA a 50 l) := by simp [h2]
  have h4 : updF (askF a) (tillB 60) [bA a 50 l] = [bA a 60 l] := by
    unfold updF
    rw [if_pos h2]; rfl
  rw [if_pos ⟨ha, by decide, by decide⟩, h3]
  simp only [h4]
  rfl
theorem outA_bad (hg : goes now 1 = true) (hm : mayA b = false) : outS x now [bA a 50 l] 1 a b = ((0, 0), 1, 1, [bA a 50 l]) := by
  unfold outS
  rw [if_pos hg, liveA (by decide)]
  unfold outM
  rw [if_neg (by simp [hm])]
theorem outA (hg : goes now 1 = true) (ha : mayA a = true) (hb : mayA b = true) : outS x now [bA a 50 l] 1 a b = ((x.host, 40005), 0, 1, [bA a 50 (seeL l b)]) := by
  unfold outS
  rw [if_pos hg, liveA (by decide)]
  unfold outM
  have h2 : askF a (bA a 50 l) = true := by simp [askF, bA]
  have h1 : wayF x [bA a 50 l] a b = askF a := by
    unfold wayF
    rw [if_pos (by simp [h2])]
  rw [if_pos ⟨ha, hb⟩, h1]
  have h3 : [bA a 50 l].find? (askF a) = some (bA a 50 l) := by simp [h2]
  have h4 : updF (askF a) (sentB x 1 b) [bA a 50 l] = [bA a 50 (seeL l b)] := by
    unfold updF
    rw [if_pos h2]; rfl
  rw [h3]
  simp only [h4]
  rfl
theorem inA (hg : goes now t = true) (hb : mayA b = true) (hu : t < u) : inS x now [bA a u l] t 40005 b = (a, 0, t, [bA a u l]) := by
  unfold inS
  rw [if_pos hg, liveA hu]
  have h1 : comesF x 40005 b (bA a u l) = true := by simp [comesF, letsB, bA]
  have h2 : inM x [bA a u l] 40005 b = (a, 0) := by
    unfold inM
    rw [if_pos hb]
    have h3 : [bA a u l].find? (comesF x 40005 b) = some (bA a u l) := by simp [h1]
    rw [h3]
    rfl
  rw [h2]
theorem inA_gone (hg : goes now t = true) (hb : mayA b = true) (hu : u ≤ t) : inS x now [bA a u l] t 40005 b = ((0, 0), 8, t, []) := by
  unfold inS
  rw [if_pos hg, goneA hu]
  have h2 : inM x [] 40005 b = ((0, 0), 8) := by
    unfold inM
    rw [if_pos hb]; rfl
  rw [h2]
end
end Go.Proofs.Ytidhdgcmagpkgaa
