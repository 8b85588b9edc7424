/-
  Plain words on what a box answers and leaves, on its list of bindings; how a call moves a box on in memory. Conditions: ls each lemma states.
-/
import Derived.Test.YtidhdgcmagpkgaaAdd
import Derived.Test.YtidhdgcmagpkgaaWay
namespace Go.Proofs.Ytidhdgcmagpkgaa
open Go.RowKit
set_option linter.unusedVariables false

/-- the box has been moved on: its blocks are its own, or new -/
structure Mvd (nb : Nat) (x : Bx) (kv : Value) (L : List Nd) (w : World) (now' : Int) (kv' : Value) (L' : List Nd) (w' : World) : Prop where
  na : Na w' nb x now' kv' L'
  foot : ∀ k, Foot nb kv' L' k → Foot nb kv L k ∨ w.heap.size ≤ k
  keeps : Keeps (Foot nb kv L) w w'
section
variable {nb : Nat} {x : Bx} {kv kv1 kv2 : Value} {L L1 L2 : List Nd} {w w1 w2 : World} {now now1 now2 : Int}
theorem Mvd.same (h : Na w nb x now kv L) (hb : Below w.heap.size w w1) : Mvd nb x kv L w now kv L w1 := ⟨h.below hb, fun k hk => .inl hk, .all hb⟩
theorem Mvd.trans (h : Mvd nb x kv L w now1 kv1 L1 w1) (k : Mvd nb x kv1 L1 w1 now2 kv2 L2 w2) : Mvd nb x kv L w now2 kv2 L2 w2 :=
  ⟨k.na, fun i hi => (k.foot i hi).elim (h.foot i) (fun e => .inr (Nat.le_trans h.keeps.size e)), h.keeps.then k.keeps (fun i hi hf => (h.foot i hf).elim id (fun e => by omega))⟩
theorem Mvd.went {t : Int} {e : Ending} (h : Na w nb x now kv L) (hw : Went w nb x now t kv L e w1) (hg : goes now t = true) : ∃ kv', Mvd nb x kv L w t kv' (liveN L t) w1 := by
  have h2 := hw.2
  rw [if_pos hg] at h2
  obtain ⟨kv', h3, h4, h5⟩ := h2
  refine ⟨kv', h3, fun k hk => .inl ?_, h5.mono (fun k _ hk => hk.elim .inl (fun e => .inr (.inl e)))⟩
  rcases hk with rfl | hk | ⟨d, hd, hk⟩
  · exact .inl rfl
  · exact .inr (.inl (by rw [← h4]; exact hk))
  · exact .inr (.inr ⟨d, (List.mem_filter.1 hd).1, hk⟩)
theorem Mvd.added {q : Nat} {d : Nd} (hN : Na w1 nb x now1 kv1 (L ++ [d])) (hq : w.heap.size ≤ d.p) (hs : d.sv = .slice none 0 0) (hf : ∀ g, kv1.ownBlock = some g → kv.ownBlock = some g ∨ w.heap.size ≤ g) (hk : Keeps (fun k => k = nb ∨ kv.ownBlock = some k) w w1) : Mvd nb x kv L w now1 kv1 (L ++ [d]) w1 := by
  refine ⟨hN, fun k hk => ?_, hk.mono (fun k _ hk => hk.elim .inl (fun e => .inr (.inl e)))⟩
  rcases hk with rfl | hk | ⟨e, he, hk⟩
  · exact .inl (.inl rfl)
  · exact (hf k hk).imp (fun e => .inr (.inl e)) id
  · rcases List.mem_append.1 he with he | he
    · exact .inl (.inr (.inr ⟨e, he, hk⟩))
    · simp only [List.mem_singleton] at he
      subst he
      rcases hk with rfl | hk
      · exact .inr hq
      · rw [hs] at hk; cases hk
/-- one binding is turned -/
theorem Mvd.turn {ls rs : List Nd} {d d' : Nd} (h : Na w nb x now kv (ls ++ d :: rs)) (hp : d'.p = d.p) (h1 : NdAt w1 d') (h2 : ∀ g, d'.sv.ownBlock = some g → d.sv.ownBlock = some g ∨ w.heap.size ≤ g) (hk : Keeps (fun k => k = d.p ∨ d.sv.ownBlock = some k) w w1) :
    Mvd nb x kv (ls ++ d :: rs) w now kv (ls ++ d' :: rs) w1 := by
  have hd : d ∈ ls ++ d :: rs := by simp
  have hsep := h.sep
  rw [List.pairwise_append, List.pairwise_cons] at hsep
  obtain ⟨s1, ⟨s2, s3⟩, s4⟩ := hsep
  have hap : ∀ e ∈ ls ++ rs, Apart e d ∧ e ∈ ls ++ d :: rs := fun e he => by
    rcases List.mem_append.1 he with he | he
    · exact ⟨s4 e he d (by simp), by simp [he]⟩
    · exact ⟨(s2 e he).symm, by simp [he]⟩
  have hap' : ∀ e ∈ ls ++ rs, Apart e d' := fun e he => by
    obtain ⟨a1, a2⟩ := hap e he
    refine ⟨by rw [hp]; exact a1.1, fun g hg hg' => ?_⟩
    rcases h2 g hg' with h3 | h3
    · exact a1.2 g hg h3
    · have := (h.nds e a2).rowlt hg; omega
  have hol : ∀ e ∈ ls ++ rs, NdAt w1 e := fun e he => by
    obtain ⟨a1, a2⟩ := hap e he
    refine (h.nds e a2).kept (hk.block _ (h.nds e a2).lt ?_) (fun g hg => hk.block g ((h.nds e a2).rowlt hg) ?_)
    · rintro (e1 | e1)
      · exact a1.1 e1
      · exact h.nd_seen hd a2 e1
    · rintro (e1 | e1)
      · rw [e1] at hg; exact h.nd_seen a2 hd hg
      · exact a1.2 g hg e1
  refine ⟨⟨(hk.block nb h.lt ?_).trans h.top, ?_, ?_, ?_⟩, ?_, ?_⟩
  · rintro (e1 | e1)
    · exact h.ne_nd hd e1.symm
    · exact h.ne_seen hd e1
  · have hr := h.row
    have e1 : (ls ++ d' :: rs).length = (ls ++ d :: rs).length := by simp
    have e2 : (ls ++ d' :: rs).map Nd.p = (ls ++ d :: rs).map Nd.p := by simp [hp]
    rw [e1, e2]
    refine own_at hr (fun g hg => hk.block g (h.foot_lt (.inr (.inl hg))) ?_)
    rintro (e3 | e3)
    · rw [e3] at hg; exact h.row_nd hd hg
    · exact h.row_seen hd hg e3
  · intro e he
    simp only [List.mem_append, List.mem_cons] at he
    rcases he with he | rfl | he
    · exact hol e (by simp [he])
    · exact h1
    · exact hol e (by simp [he])
  · rw [List.pairwise_append, List.pairwise_cons]
    refine ⟨s1, ⟨fun e he => (hap' e (by simp [he])).symm, s3⟩, fun e he f hf => ?_⟩
    rcases List.mem_cons.1 hf with rfl | hf
    · exact hap' e (by simp [he])
    · exact s4 e he f (by simp [hf])
  · rintro k (rfl | hk1 | ⟨e, he, hk1⟩)
    · exact .inl (.inl rfl)
    · exact .inl (.inr (.inl hk1))
    · simp only [List.mem_append, List.mem_cons] at he
      rcases he with he | rfl | he
      · exact .inl (.inr (.inr ⟨e, by simp [he], hk1⟩))
      · rcases hk1 with rfl | hk1
        · exact .inl (.inr (.inr ⟨d, hd, .inl hp⟩))
        · exact (h2 k hk1).imp (fun h3 => .inr (.inr ⟨d, hd, .inr h3⟩)) id
      · exact .inl (.inr (.inr ⟨e, by simp [he], hk1⟩))
  · exact hk.mono (fun k _ e => .inr (.inr ⟨d, hd, e⟩))
end
/-- the first of which it holds is turned -/
def updF {α : Type} (f : α → Bool) (u : α → α) : List α → List α
  | [] => []
  | b :: M => if f b = true then u b :: M else b :: updF f u M
theorem updF_at {α : Type} {f : α → Bool} {u : α → α} {ls rs : List α} {d : α} (ha : ∀ a ∈ ls, f a = false) (hd : f d = true) : updF f u (ls ++ d :: rs) = ls ++ u d :: rs := by
  induction ls with
  | nil => simp [updF, hd]
  | cons a ls ih =>
    have h1 := ha a (by simp)
    simp only [List.cons_append, updF, h1, Bool.false_eq_true, if_false]
    rw [ih (fun e he => ha e (by simp [he]))]
theorem updF_len {α : Type} (f : α → Bool) (u : α → α) : ∀ M : List α, (updF f u M).length = M.length
  | [] => rfl
  | b :: M => by
    unfold updF
    split
    · rfl
    · simp [updF_len f u M]
/-- what a box is asked for: whose, towards whom -/
def askF (a : A2) (b : Bn) : Bool := decide (b.inn = a) && b.asked
def toF (x : Bx) (a b : A2) (d : Bn) : Bool := decide (d.inn = a) && decide (d.to = partA b x.map)
def wayF (x : Bx) (M : List Bn) (a b : A2) : Bn → Bool := if M.any (askF a) = true then askF a else toF x a b
theorem wayN_eq (x : Bx) (L : List Nd) (a b : A2) : wayN x L a b = L.find? (fun d => wayF x (L.map Nd.b) a b d.b) := by
  unfold wayN wayF
  have e1 : (fun d : Nd => inF a d && d.b.asked) = (fun d => askF a d.b) := rfl
  have e2 : (fun d : Nd => inF a d && decide (d.b.to = partA b x.map)) = (fun d => toF x a b d.b) := rfl
  rw [e1, e2]
  by_cases h : (L.map Nd.b).any (askF a) = true
  · rw [if_pos h]
    cases hf : L.find? (fun d => askF a d.b) with
    | some d => rfl
    | none =>
      exfalso
      rw [List.find?_eq_none] at hf
      rw [List.any_eq_true] at h
      obtain ⟨b, hb, h⟩ := h
      obtain ⟨d, hd, rfl⟩ := List.mem_map.1 hb
      exact hf d hd h
  · rw [if_neg h]
    have hf : L.find? (fun d => askF a d.b) = none := by
      rw [List.find?_eq_none]
      intro d hd hc
      exact h (List.any_eq_true.2 ⟨d.b, List.mem_map.2 ⟨d, hd, rfl⟩, hc⟩)
    rw [hf]; rfl
/-- the bindings that are left at t -/
def liveM (M : List Bn) (t : Int) : List Bn := M.filter (fun b => !decide (b.until_ ≤ t))
theorem live_map (L : List Nd) (t : Int) : (liveN L t).map Nd.b = liveM (L.map Nd.b) t := by
  unfold liveN liveM dead
  rw [List.filter_map]; rfl
/-- an address, and a code -/
def ansA (a : A2) (c : Int) : Value := .tuple #[adr a, .int .i64 c]
/-- a binding by which something has gone out -/
def sentB (x : Bx) (t : Int) (b : A2) (d : Bn) : Bn := { d with until_ := if d.asked = true then d.until_ else min (t + x.life) 1099511627776, seen := seeL d.seen b }
def newB (x : Bx) (a b : A2) (p : Int) : Bn := { inn := a, to := partA b x.map, port := p, until_ := 0, asked := false, seen := [] }
/-- what Out answers: the address and the code, and the bindings that it leaves, at a time that may be -/
def outM (x : Bx) (M : List Bn) (t : Int) (a b : A2) : A2 × Int × List Bn :=
  if mayA a = true ∧ mayA b = true then
    match M.find? (wayF x M a b) with
    | some d => ((x.host, d.port), 0, updF (wayF x M a b) (sentB x t b) M)
    | none => match addM x M a.2 with
      | some p => ((x.host, p), 0, M ++ [sentB x t b (newB x a b p)])
      | none => ((0, 0), 10, M)
  else ((0, 0), 1, M)
end Go.Proofs.Ytidhdgcmagpkgaa
