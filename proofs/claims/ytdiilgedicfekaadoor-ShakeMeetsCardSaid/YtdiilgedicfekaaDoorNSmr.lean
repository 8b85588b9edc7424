/-
  What stands in ShakeMeets' rounds. Conditions: as each states.
-/
import Derived.Test.YtdiilgedicfekaaDoorNSme
namespace Go.Proofs.YtdiilgedicfekaaDoor
open Go.RowKit Go.Maps
set_option linter.unusedVariables false
set_option maxRecDepth 100000
/-- a message in a slice, its block held -/
def SlH (H : List (Nat × Obj)) (A : Option Addr) (c : Nat) (zs : List Int) : Prop := zs.length ≤ c ∧ c ≤ maxLen ∧ (A = none → zs.length = 0 ∧ c = 0) ∧ ∀ V : World, (∀ p ∈ H, V.heap[p.1]? = some p.2) → Bts V A zs.length zs
theorem SlH.nil (H : List (Nat × Obj)) : SlH H none 0 [] := ⟨Nat.le_refl _, Nat.zero_le _, fun _ => ⟨rfl, rfl⟩, fun V _ => bts_nil V⟩
theorem SlH.mono {H H' : List (Nat × Obj)} {A : Option Addr} {c : Nat} {zs : List Int} (h : SlH H A c zs) (hh : ∀ p ∈ H, p ∈ H') : SlH H' A c zs := ⟨h.1, h.2.1, h.2.2.1, fun V hV => h.2.2.2 V (fun p hp => hV p (hh p hp))⟩
section
variable {w0 : World} {nb : Nat} {L : List Item} {ba bb Z : Nat} {a b : Sk} {H : List (Nat × Obj)} {V : World}
theorem hear_m (h : Tw2 w0 nb L none ba bb Z a b H V) (s : Sk) (hk : s.Ok) (hL : L.length ≤ 1000000) (A : Option Addr) (n c : Nat) (zs : List Int) (hn : zs.length = n) (hz : n ≤ 1200) (hs : SlH H A c zs) (o : Out) (ho : hearO s L zs = o) :
    Calls Tryd.prog 16 #[skv s, .pointer (some ⟨nb, 0, none⟩), .slice A n c] V fun e w' => ∃ A' n' c' H', e = .returned (.tuple #[skv o.s, .slice A' n' c']) ∧ o.z.length = n' ∧ SlH H' A' c' o.z ∧ (∀ p ∈ H, p ∈ H') ∧ Tw2 w0 nb o.l none ba bb Z a b H' w' := by
  subst hn
  refine (hear_2 h s hk hL A _ c zs (hs.2.2.2 V (fun p hp => h.sd.held p (by simp [hp]))) hs.1 hs.2.1 hs.2.2.1 (by omega) o ho).mono fun e w' hq => ?_
  obtain ⟨v, e1, A', c', ho', rfl, q1, q2, q3, q4, q5⟩ := hq
  exact ⟨A', _, c', ho' ++ H, e1, rfl, ⟨q1, q2, q3, fun W hW => q4 W (fun p hp => hW p (List.mem_append_left _ hp))⟩, fun p hp => List.mem_append_right _ hp, q5⟩
theorem again_m (h : Tw2 w0 nb L none ba bb Z a b H V) (s : Sk) (hk : s.Ok) (hL : L.length ≤ 1000000) (o : Out) (ho : againO s L = o) :
    Calls Tryd.prog 18 #[skv s, .pointer (some ⟨nb, 0, none⟩)] V fun e w' => ∃ A' n' c' H', e = .returned (.slice A' n' c') ∧ o.z.length = n' ∧ SlH H' A' c' o.z ∧ (∀ p ∈ H, p ∈ H') ∧ Tw2 w0 nb o.l none ba bb Z a b H' w' := by
  refine (again_2 h s hk hL o ho).mono fun e w' hq => ?_
  obtain ⟨v, e1, A', c', ho', rfl, q1, q2, q3, q4, q5⟩ := hq
  exact ⟨A', _, c', ho' ++ H, e1, rfl, ⟨q1, q2, q3, fun W hW => q4 W (fun p hp => hW p (List.mem_append_left _ hp))⟩, fun p hp => List.mem_append_right _ hp, q5⟩
theorem call_m (h : Tw2 w0 nb L none ba bb Z a b H V) (s : Sk) (hk : s.Ok) (hL : L.length ≤ 1000000) (o : Out) (ho : callO s L = o) :
    Calls Tryd.prog 14 #[skv s, .pointer (some ⟨nb, 0, none⟩)] V fun e w' => ∃ A' n' c' H', e = .returned (.tuple #[skv o.s, .slice A' n' c']) ∧ o.z.length = n' ∧ SlH H' A' c' o.z ∧ (∀ p ∈ H, p ∈ H') ∧ Tw2 w0 nb o.l none ba bb Z a b H' w' := by
  refine (call_2 h s hk hL o ho).mono fun e w' hq => ?_
  obtain ⟨v, e1, A', c', ho', rfl, q1, q2, q3, q4, q5⟩ := hq
  exact ⟨A', _, c', ho' ++ H, e1, rfl, ⟨q1, q2, q3, fun W hW => q4 W (fun p hp => hW p (List.mem_append_left _ hp))⟩, fun p hp => List.mem_append_right _ hp, q5⟩
end
/-- two messages on their way: x from a's maker, y from b's -/
def Mdl (w0 : World) (nb ba bb Z : Nat) (A B : Int) (NA NB lim : Nat) (a b : Sk) (xm ym : Nat) (Ax : Option Addr) (nx cx : Nat) (Ay : Option Addr) (ny cy : Nat) (V : World) : Prop :=
  ∃ L xs ys H, xs.length = nx ∧ ys.length = ny ∧ Ms A B NA NB L xm xs ∧ Ms B A NB NA L ym ys ∧ L.length ≤ lim ∧ Tw2 w0 nb L none ba bb Z a b H V ∧ SlH H Ax cx xs ∧ SlH H Ay cy ys
/-- .. and how far both are -/
def MeetS (w0 : World) (nb ba bb Z : Nat) (A B : Int) (NA NB lim : Nat) (wn : Nat → Nat → Nat → Nat → Bool) (Ax : Option Addr) (nx cx : Nat) (Ay : Option Addr) (ny cy : Nat) (V : World) : Prop :=
  ∃ a b sa sb xm ym, Hs A B NA NB sa a ∧ Hs B A NB NA sb b ∧ wn sa sb xm ym = true ∧ Mdl w0 nb ba bb Z A B NA NB lim a b xm ym Ax nx cx Ay ny cy V
def stp (l t : Nat) (a b x y : Nat) : Bool := (hst a y == 3 && hst b x == 3) || win l t (hst a y) (hst b x) (or0 (hms a y) (ags (hst a y))) (or0 (hms b x) (ags (hst b x)))
theorem stp_win {l t a b x y : Nat} (h : win l (t + 1) a b x y = true) : stp (l - 1) t a b x y = true := by
  unfold win at h
  simp only [Bool.and_eq_true] at h
  exact h.1
theorem stp_lost {l t a b x y : Nat} (h : win l (t + 1) a b x y = true) (hl : l ≠ 0) : stp (l - 1) t a b 0 0 = true := by
  rcases win_lost h hl with ⟨h1, h2⟩ | h1
  · unfold stp; simp [h1, h2]
  · unfold stp; rw [h1]; simp
theorem MeetS.step {w0 : World} {nb ba bb Z : Nat} {A B : Int} {NA NB lim l t : Nat} {Ax : Option Addr} {nx cx : Nat} {Ay : Option Addr} {ny cy : Nat} {V : World} (h : MeetS w0 nb ba bb Z A B NA NB lim (win l (t + 1)) Ax nx cx Ay ny cy V) : MeetS w0 nb ba bb Z A B NA NB lim (stp (l - 1) t) Ax nx cx Ay ny cy V := by
  obtain ⟨a, b, sa, sb, xm, ym, h1, h2, h3, h4⟩ := h
  exact ⟨a, b, sa, sb, xm, ym, h1, h2, stp_win h3, h4⟩
theorem MeetS.lost {w0 : World} {nb ba bb Z : Nat} {A B : Int} {NA NB lim l t : Nat} {Ax : Option Addr} {nx cx : Nat} {Ay : Option Addr} {ny cy : Nat} {V : World} (h : MeetS w0 nb ba bb Z A B NA NB lim (win l (t + 1)) Ax nx cx Ay ny cy V) (hl : l ≠ 0) : MeetS w0 nb ba bb Z A B NA NB lim (stp (l - 1) t) none 0 0 none 0 0 V := by
  obtain ⟨a, b, sa, sb, xm, ym, h1, h2, h3, L, xs, ys, H, h4, h5, h6, h7, h8, h9, h10, h11⟩ := h
  exact ⟨a, b, sa, sb, 0, 0, h1, h2, stp_lost h3 hl, L, [], [], H, rfl, rfl, Ms.nil, Ms.nil, h8, h9, SlH.nil _, SlH.nil _⟩
theorem MeetS.no {w0 : World} {nb ba bb Z : Nat} {A B : Int} {NA NB lim l : Nat} {Ax : Option Addr} {nx cx : Nat} {Ay : Option Addr} {ny cy : Nat} {V : World} (h : MeetS w0 nb ba bb Z A B NA NB lim (win l 0) Ax nx cx Ay ny cy V) : False := by
  obtain ⟨a, b, sa, sb, xm, ym, h1, h2, h3, _⟩ := h
  unfold win at h3
  cases h3
theorem MeetS.low {w0 : World} {nb ba bb Z : Nat} {A B : Int} {NA NB lim : Nat} {wn : Nat → Nat → Nat → Nat → Bool} {Ax : Option Addr} {nx cx : Nat} {Ay : Option Addr} {ny cy : Nat} {V : World} (h : MeetS w0 nb ba bb Z A B NA NB lim wn Ax nx cx Ay ny cy V) : Below w0.heap.size w0 V := by
  obtain ⟨a, b, sa, sb, xm, ym, h1, h2, h3, L, xs, ys, H, h4, h5, h6, h7, h8, h9, h10, h11⟩ := h
  exact h9.sd.low
theorem hs_call {A B : Int} {NA NB : Nat} (oa : (newS A B NA).Ok) : Hs A B NA NB 1 (stA (newS A B NA)) := ⟨rfl, rfl, rfl, rfl, fun h => by omega, by omega, stA_ok oa⟩
theorem hs_new {A B : Int} {NA NB : Nat} (oa : (newS A B NA).Ok) : Hs A B NA NB 0 (newS A B NA) := ⟨rfl, rfl, rfl, rfl, fun h => by omega, by omega, oa⟩
theorem call_new {A B : Int} {NA : Nat} (L : List Item) : callO (newS A B NA) L = ⟨stA (newS A B NA), helloB L (newS A B NA), helloL L (newS A B NA)⟩ := if_pos rfl
theorem hello_ms {A B : Int} {NA NB : Nat} (L : List Item) : Ms A B NA NB (helloL L (newS A B NA)) 1 (helloB L (newS A B NA)) := ms_hello rfl rfl rfl
end Go.Proofs.YtdiilgedicfekaaDoor
