/-
  Again. Conditions: as each states.
  The handshake in plain words: who hears what was minted, and what then. Conditions: as each lemma states.
  Two handshakes in boxes, the notary, and what is held: what stands while the laws go; awake's exchange in plain words. Conditions: as each states.
  The law's awake. Conditions: wire's table is as it was laid.
  What came in: how two peers are made, steps, bools. Conditions: as each lemma states.
  How the laws begin: New of what came in; the notary made behind the boxes. Conditions: as each states.
  ShakeAgain in plain words; handshakes compared; bytes as a string. Conditions: as each states.
-/
import Derived.Test.YtdiilgedicfekaaDoorMh12
import Derived.Test.YtdiilgedicfekaaDoorMh10
import Derived.Test.YtdiilgedicfekaaDoorMh14
namespace Go.Proofs.YtdiilgedicfekaaDoor
open Go.RowKit Go.Maps
set_option linter.unusedVariables false
set_option maxRecDepth 100000

section
variable {w0 : World} {nb : Nat} {L : List Item} {R : Option (Nat × List Item)} {os : List (Nat × Obj)} {w : World}
set_option maxHeartbeats 8000000 in
theorem again_s (s : Sk) (h : Sd w0 nb L R os w) (hs : s.Ok) (hL : L.length ≤ 1000000) :
    Calls Tryd.prog 18 #[skv s, .pointer (some ⟨nb, 0, none⟩)] w fun e w' => ∃ v, e = .returned v ∧ Sent w0 nb (againO s L).l R os w.heap.size (againO s L).z v w' := by
  have hw0 := h.low.size
  have CM : Hid (∀ V, Calls Tryd.prog 29 #[skv s] V fun e w' => e = .returned (.bool true) ∧ Below V.heap.size V w') := Lib.hid (fun V => by have := smay_any s V; rw [hs.may] at this; exact this)
  have C1 := Lib.hid (fun (V : World) (hV : Sd w0 nb L R os V) => hello_s s hV hs hL)
  have C2 := Lib.hid (fun (V : World) (hV : Sd w0 nb L R os V) => answer_s s [] _ (.inl ⟨rfl, rfl⟩) hV hs hL)
  obtain ⟨st, own, oth, non, ech⟩ := s
  have HA : Hid (Sd w0 nb L R ((w.heap.size, Obj.cells #[.int .i64 st, .int .i64 own, .int .i64 oth, .int .u64 (non : Int), .int .u64 (ech : Int)] 29 (0, 0)) :: os) (w.alloc (.cells #[.int .i64 st, .int .i64 own, .int .i64 oth, .int .u64 (non : Int), .int .u64 (ech : Int)] 29))) := Lib.hid (h.box _ _ rfl)
  have mono : ∀ {n0 n1 : Nat} {L' z v w'}, n1 ≤ n0 → Sent w0 nb L' R os n0 z v w' → Sent w0 nb L' R os n1 z v w' := fun hn hq => by
    obtain ⟨A, c, ho, q1, q2, q3, q4, q5, q6, q7⟩ := hq
    exact ⟨A, c, ho, q1, q2, q3, q4, q5, fun p hp => Nat.le_trans hn (q6 p hp), q7⟩
  have HMO : Hid (∀ (n0 n1 : Nat) (L' : List Item) (z : List Int) (v : Value) (w' : World), n1 ≤ n0 → Sent w0 nb L' R os n0 z v w' → Sent w0 nb L' R os n1 z v w') := Lib.hid (fun _ _ _ _ _ _ a b => mono a b)
  clear mono hs h
  by_cases h1 : st = 1
  · subst h1
    have HE : Hid (againO ⟨1, own, oth, non, ech⟩ L = ⟨⟨1, own, oth, non, ech⟩, helloB L ⟨1, own, oth, non, ech⟩, helloL L ⟨1, own, oth, non, ech⟩⟩) := Lib.hid rfl
    go_enter Tryd.func18, Tryd.ntmps18
    go_wp2_with fail
    refine (CM.out _).mono ?_
    rintro e W3 ⟨rfl, hb3⟩
    have hs3 := HA.out.below hb3
    have HZ := Lib.hid hb3.size
    have zz : w.heap.size ≤ W3.heap.size := by have := HZ.out; simp at this; omega
    obtain ⟨⟨a0, _⟩, ⟨a1, _⟩, ⟨a2, _⟩, ⟨a3, _⟩, ⟨a4, _⟩, al⟩ := five (hs3.held (w.heap.size, Obj.cells #[.int .i64 1, .int .i64 own, .int .i64 oth, .int .u64 (non : Int), .int .u64 (ech : Int)] 29 (0, 0)) (by simp))
    have HS3 := Lib.hid (hs3.sub (os' := os) (fun p hp => by simp [hp]))
    clear hb3 hs3
    go_wp2_with fail
    refine (C1.out _ HS3.out).mono ?_
    rintro e W5 ⟨v5, rfl, q5, q6⟩
    have HQ := Lib.hid q5
    clear q5 q6
    go_wp2
    go_ret
    exact ⟨_, rfl, by rw [HE.out]; exact HMO.out _ _ _ _ _ _ zz HQ.out⟩
  by_cases h2 : st = 2
  · subst h2
    have HE : Hid (againO ⟨2, own, oth, non, ech⟩ L = ⟨⟨2, own, oth, non, ech⟩, answerB L ⟨2, own, oth, non, ech⟩ [], answerL L ⟨2, own, oth, non, ech⟩ []⟩) := Lib.hid rfl
    clear h1
    go_enter Tryd.func18, Tryd.ntmps18
    go_wp2_with fail
    refine (CM.out _).mono ?_
    rintro e W3 ⟨rfl, hb3⟩
    have hs3 := HA.out.below hb3
    have HZ := Lib.hid hb3.size
    have zz : w.heap.size ≤ W3.heap.size := by have := HZ.out; simp at this; omega
    obtain ⟨⟨a0, _⟩, ⟨a1, _⟩, ⟨a2, _⟩, ⟨a3, _⟩, ⟨a4, _⟩, al⟩ := five (hs3.held (w.heap.size, Obj.cells #[.int .i64 2, .int .i64 own, .int .i64 oth, .int .u64 (non : Int), .int .u64 (ech : Int)] 29 (0, 0)) (by simp))
    have HS3 := Lib.hid (hs3.sub (os' := os) (fun p hp => by simp [hp]))
    clear hb3 hs3
    go_wp2_with fail
    refine (C2.out _ HS3.out).mono ?_
    rintro e W5 ⟨v5, rfl, q5, q6⟩
    have HQ := Lib.hid q5
    clear q5 q6
    go_wp2
    go_ret
    exact ⟨_, rfl, by rw [HE.out]; exact HMO.out _ _ _ _ _ _ zz HQ.out⟩
  · have t1 : (st == 1) = false := by simp [h1]
    have t2 : (st == 2) = false := by simp [h2]
    have HE : Hid (againO ⟨st, own, oth, non, ech⟩ L = ⟨⟨st, own, oth, non, ech⟩, [], L⟩) := Lib.hid (by unfold againO; rw [if_neg h1, if_neg h2])
    clear h1 h2
    go_enter Tryd.func18, Tryd.ntmps18
    go_wp2_with fail
    refine (CM.out _).mono ?_
    rintro e W3 ⟨rfl, hb3⟩
    have hs3 := HA.out.below hb3
    have HZ := Lib.hid hb3.size
    have zz : w.heap.size ≤ W3.heap.size := by have := HZ.out; simp at this; omega
    obtain ⟨⟨a0, _⟩, ⟨a1, _⟩, ⟨a2, _⟩, ⟨a3, _⟩, ⟨a4, _⟩, al⟩ := five (hs3.held (w.heap.size, Obj.cells #[.int .i64 st, .int .i64 own, .int .i64 oth, .int .u64 (non : Int), .int .u64 (ech : Int)] 29 (0, 0)) (by simp))
    have HS3 := Lib.hid (hs3.sub (os' := os) (fun p hp => by simp [hp]))
    clear hb3 hs3
    go_wp2
    go_ret
    exact ⟨_, rfl, by rw [HE.out]; exact sent_nil HS3.out⟩
end
end Go.Proofs.YtdiilgedicfekaaDoor
namespace Go.Proofs.YtdiilgedicfekaaDoor
open Go.RowKit Go.Maps
set_option linter.unusedVariables false
set_option maxRecDepth 100000

theorem mg_wf {k : Int} {ns : List Nat} {b : List Int} (hm : Wi.may (mg k ns b) = true) (hb : ∀ z ∈ b, 0 ≤ z ∧ z ≤ 255) : Wi.Wf (mg k ns b) :=
  ⟨by simp [mg], fun v hv => by have := (Wi.may_iff.1 hm).2.2.2.1 v hv; omega, hb⟩
theorem read_mg {k : Int} {ns : List Nat} {b : List Int} (hm : Wi.may (mg k ns b) = true) (hb : ∀ z ∈ b, 0 ≤ z ∧ z ≤ 255) : Wi.read (Wi.bytes (mg k ns b)) = some (mg k ns b) := Wi.read_bytes (mg_wf hm hb) hm
/-- the entry with this number -/
def Mt (L : List Item) (t : Nat) (x : Item) : Prop := 1 ≤ t ∧ L[t - 1]? = some x
theorem Mt.mint {L : List Item} {t : Nat} {x : Item} (h : Mt L t x) (y : Item) : Mt (mintL L y) t x := by
  unfold mintL
  split
  · exact h
  · exact ⟨h.1, by rw [List.getElem?_append_left (List.getElem?_eq_some_iff.1 h.2).1]; exact h.2⟩
theorem Mt.new (L : List Item) (x : Item) : Mt (mintL L x) (tagL L x) x := by
  unfold mintL tagL
  split
  · rename_i hx
    have := List.idxOf_lt_length_of_mem hx
    exact ⟨by omega, by simp [List.getElem?_eq_getElem this]⟩
  · rename_i hx
    rw [List.idxOf_eq_length hx]
    exact ⟨by omega, by simp⟩
theorem Mt.lt {L : List Item} {t : Nat} {x : Item} (h : Mt L t x) : t ≤ L.length := by
  have h2 := (List.getElem?_eq_some_iff.1 h.2).1
  have h1 := h.1
  omega
theorem Mt.check {L : List Item} {t : Nat} {x : Item} : checkL L x t = 0 ↔ Mt L t x := by
  unfold checkL Mt
  split <;> simp_all
/-- minted once more, a text has the tag that it had -/
theorem tag_again (L : List Item) (x : Item) : tagL (mintL L x) x = tagL L x := by
  unfold mintL tagL
  split
  · rfl
  · rename_i hx
    rw [List.idxOf_eq_length hx, List.idxOf_append, if_neg hx]
    simp
theorem tag_mem {L : List Item} {x : Item} (h : x ∈ L) (y : Item) : tagL (mintL L y) x = tagL L x := by
  unfold mintL tagL
  split
  · rfl
  · rw [List.idxOf_append, if_pos h]
theorem mint_again (L : List Item) (x : Item) : mintL (mintL L x) x = mintL L x := by
  have : x ∈ mintL L x := by
    unfold mintL
    split
    · assumption
    · simp
  generalize mintL L x = M at *
  unfold mintL
  rw [if_pos this]
theorem mem_mint (L : List Item) (x : Item) : x ∈ mintL L x := by
  unfold mintL
  split
  · assumption
  · simp
theorem mem_mint_of {L : List Item} {x : Item} (h : x ∈ L) (y : Item) : x ∈ mintL L y := by
  unfold mintL
  split
  · exact h
  · simp [h]

theorem setZ_snoc (ns : List Nat) (t : Nat) : setZ (ns ++ [t]) = ns ++ [0] := by simp [setZ]
theorem lastN_snoc (ns : List Nat) (t : Nat) : lastN (ns ++ [t]) = t := by simp [lastN, List.getD]
/-- a message with these numbers and this tag is right just if that is its text's -/
theorem check_iff {L : List Item} {k : Int} {ns : List Nat} {b : List Int} {t : Nat} (hk : k = 1 ∨ k = 2) (hm : Wi.may (mg k (ns ++ [t]) b) = true) (h0 : 0 < ns.length) :
    checkM L (mg k (ns ++ [t]) b) = true ↔ Mt L t ((ns.getD 0 0 : Nat), txt0 k ns b) := by
  have hk' : (mg k (ns ++ [t]) b).kind = 1 ∨ (mg k (ns ++ [t]) b).kind = 2 := hk
  have e1 : (mg k (ns ++ [t]) b).nums.getD 0 0 = ns.getD 0 0 := by
    show (ns ++ [t]).getD 0 0 = _
    rw [List.getD, List.getD, List.getElem?_append_left h0]
  have e2 : Wi.bytes { mg k (ns ++ [t]) b with nums := setZ (mg k (ns ++ [t]) b).nums } = txt0 k ns b := by
    show Wi.bytes ⟨k, setZ (ns ++ [t]), [], b⟩ = _
    rw [setZ_snoc]; rfl
  have e3 : lastN (mg k (ns ++ [t]) b).nums = t := lastN_snoc ns t
  unfold checkM
  rw [hm, e1, e2, e3]
  simp only [hk', decide_true, Bool.true_and, decide_eq_true_eq]
  exact Mt.check

def helloM (o : Sk) (t : Nat) : Wi.Msg := mg 1 (o.h3 ++ [t]) []
def answerM (o : Sk) (b : List Int) (t : Nat) : Wi.Msg := mg 2 (o.h4 ++ [t]) b
def helloX (o : Sk) : Item := (o.own, txt0 1 o.h3 [])
def answerX (o : Sk) (b : List Int) : Item := (o.own, txt0 2 o.h4 b)
def Bd1 (b : List Int) : Prop := b = [] ∨ b = [1]
theorem Bd1.bd {b : List Int} (h : Bd1 b) : ∀ z ∈ b, 0 ≤ z ∧ z ≤ 255 := by rcases h with rfl | rfl <;> simp
theorem Bd1.len {b : List Int} (h : Bd1 b) : b.length ≤ 1000 := by rcases h with rfl | rfl <;> simp
theorem helloB_eq (L : List Item) (o : Sk) : helloB L o = Wi.bytes (helloM o (tagL L (helloX o))) := rfl
theorem helloL_eq (L : List Item) (o : Sk) : helloL L o = mintL L (helloX o) := rfl
theorem answerB_eq (L : List Item) (o : Sk) (b : List Int) : answerB L o b = Wi.bytes (answerM o b (tagL L (answerX o b))) := rfl
theorem answerL_eq (L : List Item) (o : Sk) (b : List Int) : answerL L o b = mintL L (answerX o b) := rfl
theorem own_nat {o : Sk} (h : o.Ok) : ((o.own.toNat : Nat) : Int) = o.own := by have := h.o1; omega
theorem oth_nat {o : Sk} (h : o.Ok) : ((o.oth.toNat : Nat) : Int) = o.oth := by have := h.t1; omega
/-- what one hears that the other one minted -/
theorem hear_hello {L : List Item} {s o : Sk} {t : Nat} (ho : o.Ok) (h1 : o.oth = s.own) (h2 : o.own = s.oth) (hM : Mt L t (helloX o)) (hL : L.length ≤ 1000000) :
    hearO s L (Wi.bytes (helloM o t)) = helloO s L (helloM o t) := by
  have ht := hM.lt
  have hm : Wi.may (helloM o t) = true := may_hello ho t (by omega)
  have hr : Wi.read (Wi.bytes (helloM o t)) = some (helloM o t) := read_mg hm (by simp)
  have hc : checkM L (helloM o t) = true := (check_iff (.inl rfl) hm (by simp [Sk.h3])).2 (by
    have e : (((o.h3.getD 0 0 : Nat) : Int), txt0 1 o.h3 []) = helloX o := by unfold helloX; rw [show ((o.h3.getD 0 0 : Nat) : Int) = o.own from own_nat ho]
    rw [e]; exact hM)
  have hti : toIt s (helloM o t) = true := by
    unfold toIt
    have a : (((helloM o t).nums.getD 0 0 : Nat) : Int) = s.oth := (own_nat ho).trans h2
    have b : (((helloM o t).nums.getD 1 0 : Nat) : Int) = s.own := (oth_nat ho).trans h1
    have c : (helloM o t).nums.getD 2 0 = o.non := rfl
    rw [a, b, c]
    have := ho.n1; have := ho.n2
    simp [isNonB]; omega
  unfold hearO
  rw [hr]
  show hearM s L (helloM o t) = _
  unfold hearM
  rw [if_pos ⟨hc, hti⟩]
  exact if_pos rfl
theorem hear_answer {L : List Item} {s o : Sk} {t : Nat} {b : List Int} (hb : Bd1 b) (ho : o.Ok) (h1 : o.oth = s.own) (h2 : o.own = s.oth) (hM : Mt L t (answerX o b)) (hL : L.length ≤ 1000000) :
    hearO s L (Wi.bytes (answerM o b t)) = answerO s L (answerM o b t) := by
  have ht := hM.lt
  have hm : Wi.may (answerM o b t) = true := may_answer ho t b (by omega) hb.len
  have hr : Wi.read (Wi.bytes (answerM o b t)) = some (answerM o b t) := read_mg hm hb.bd
  have hc : checkM L (answerM o b t) = true := (check_iff (.inr rfl) hm (by simp [Sk.h4])).2 (by
    have e : (((o.h4.getD 0 0 : Nat) : Int), txt0 2 o.h4 b) = answerX o b := by unfold answerX; rw [show ((o.h4.getD 0 0 : Nat) : Int) = o.own from own_nat ho]
    rw [e]; exact hM)
  have hti : toIt s (answerM o b t) = true := by
    unfold toIt
    have a : (((answerM o b t).nums.getD 0 0 : Nat) : Int) = s.oth := (own_nat ho).trans h2
    have b' : (((answerM o b t).nums.getD 1 0 : Nat) : Int) = s.own := (oth_nat ho).trans h1
    have c : (answerM o b t).nums.getD 2 0 = o.non := rfl
    rw [a, b', c]
    have := ho.n1; have := ho.n2
    simp [isNonB]; omega
  unfold hearO
  rw [hr]
  show hearM s L (answerM o b t) = _
  unfold hearM
  rw [if_pos ⟨hc, hti⟩]
  exact if_neg (by show ¬ ((2 : Int) = 1); decide)
/-- nothing is heard by one that is over -/
theorem hear_over {L : List Item} {s : Sk} (hs : s.st = 4) (zs : List Int) : hearO s L zs = ⟨s, [], L⟩ := by
  unfold hearO
  cases Wi.read zs with
  | none => rfl
  | some m =>
    show hearM s L m = _
    unfold hearM
    split
    · split
      · unfold helloO; simp [hs, Sk.holds]
      · unfold answerO; simp [hs, Sk.holds]
    · rfl
theorem hear_nil {L : List Item} {s : Sk} : hearO s L [] = ⟨s, [], L⟩ := by
  have : Wi.read [] = none := by decide +kernel
  unfold hearO
  rw [this]
end Go.Proofs.YtdiilgedicfekaaDoor
namespace Go.Proofs.YtdiilgedicfekaaDoor
open Go.RowKit Go.Maps
set_option linter.unusedVariables false
set_option maxRecDepth 100000

abbrev sko (s : Sk) : Obj := .cells #[.int .i64 s.st, .int .i64 s.own, .int .i64 s.oth, .int .u64 (s.non : Int), .int .u64 (s.ech : Int)] 29 (0, 0)
section
variable {w0 : World} {nb : Nat} {L : List Item} {R : Option (Nat × List Item)} {os : List (Nat × Obj)} {V : World}
theorem Sd.put5 (h : Sd w0 nb L R os V) (b : Nat) (s s' : Sk) (hm : (b, sko s) ∈ os) (hb : w0.heap.size ≤ b) (os' : List (Nat × Obj)) (hs : ∀ p ∈ os', p ∈ os ∧ p.1 ≠ b) :
    Sd w0 nb L R ((b, sko s') :: os') (((((V.setCell ⟨b, 0, none⟩ (.int .i64 s'.st)).setCell ⟨b, 1, none⟩ (.int .i64 s'.own)).setCell ⟨b, 2, none⟩ (.int .i64 s'.oth)).setCell ⟨b, 3, none⟩ (.int .u64 (s'.non : Int))).setCell ⟨b, 4, none⟩ (.int .u64 (s'.ech : Int))) :=
  h.turned (keeps5 V b _ _ _ _ _) (fun k e => by rw [e]; exact hb) (fun k e => .inl ⟨_, hm, e.symm⟩) _ (fun p hp => by
    rcases List.mem_cons.1 hp with rfl | hp
    · exact .inr ⟨set5_heap (h.held _ hm), .inl ⟨_, hm, rfl⟩⟩
    · exact .inl ⟨(hs p hp).1, (hs p hp).2⟩)
/-- two handshakes in boxes, and what is held besides -/
structure Tw2 (w0 : World) (nb : Nat) (L : List Item) (R : Option (Nat × List Item)) (ba bb Z : Nat) (a b : Sk) (hs : List (Nat × Obj)) (V : World) : Prop where
  sd : Sd w0 nb L R ((ba, sko a) :: (bb, sko b) :: hs) V
  la : w0.heap.size ≤ ba
  lb : w0.heap.size ≤ bb
  ab : ba ≠ bb
  za : ba < Z
  zb : bb < Z
  zm : Z = ba + 1 ∨ Z = bb + 1
  hz : ∀ p ∈ hs, Z ≤ p.1
variable {ba bb Z : Nat} {a b : Sk} {hs : List (Nat × Obj)} {V' : World}
theorem Tw2.zv (h : Tw2 w0 nb L R ba bb Z a b hs V) : Z ≤ V.heap.size := by
  have h1 := h.sd.lt (p := (ba, sko a)) (by simp)
  have h2 := h.sd.lt (p := (bb, sko b)) (by simp)
  simp only at h1 h2
  rcases h.zm with e | e <;> omega
theorem Tw2.below (h : Tw2 w0 nb L R ba bb Z a b hs V) (hb : Below V.heap.size V V') : Tw2 w0 nb L R ba bb Z a b hs V' := ⟨h.sd.below hb, h.la, h.lb, h.ab, h.za, h.zb, h.zm, h.hz⟩
theorem Tw2.drew (h : Tw2 w0 nb L R ba bb Z a b hs V) : Tw2 w0 nb L R ba bb Z a b hs V.drew := h.below (below_drewN' (Below.refl _ V) 1)
theorem Tw2.putA (h : Tw2 w0 nb L R ba bb Z a b hs V) (a' : Sk) : Tw2 w0 nb L R ba bb Z a' b hs (((((V.setCell ⟨ba, 0, none⟩ (.int .i64 a'.st)).setCell ⟨ba, 1, none⟩ (.int .i64 a'.own)).setCell ⟨ba, 2, none⟩ (.int .i64 a'.oth)).setCell ⟨ba, 3, none⟩ (.int .u64 (a'.non : Int))).setCell ⟨ba, 4, none⟩ (.int .u64 (a'.ech : Int))) :=
  ⟨h.sd.put5 ba a a' (by simp) h.la _ (fun p hp => ⟨by simp only [List.mem_cons] at hp ⊢; exact .inr hp, by
    rcases List.mem_cons.1 hp with rfl | hp
    · exact Ne.symm h.ab
    · have := h.hz p hp; have := h.za; omega⟩), h.la, h.lb, h.ab, h.za, h.zb, h.zm, h.hz⟩
theorem Tw2.swap (h : Tw2 w0 nb L R ba bb Z a b hs V) : Tw2 w0 nb L R bb ba Z b a hs V :=
  ⟨h.sd.sub (fun p hp => by simp only [List.mem_cons] at hp ⊢; rcases hp with h | h | h <;> simp [h]), h.lb, h.la, Ne.symm h.ab, h.zb, h.za, h.zm.symm, h.hz⟩
theorem Tw2.putB (h : Tw2 w0 nb L R ba bb Z a b hs V) (b' : Sk) : Tw2 w0 nb L R ba bb Z a b' hs (((((V.setCell ⟨bb, 0, none⟩ (.int .i64 b'.st)).setCell ⟨bb, 1, none⟩ (.int .i64 b'.own)).setCell ⟨bb, 2, none⟩ (.int .i64 b'.oth)).setCell ⟨bb, 3, none⟩ (.int .u64 (b'.non : Int))).setCell ⟨bb, 4, none⟩ (.int .u64 (b'.ech : Int))) :=
  (h.swap.putA b').swap
theorem Tw2.fiveA (h : Tw2 w0 nb L R ba bb Z a b hs V) : (V.cell? ⟨ba, 0, none⟩ = some (.int .i64 a.st) ∧ V.frozen? ⟨ba, 0, none⟩ = false) ∧ (V.cell? ⟨ba, 1, none⟩ = some (.int .i64 a.own) ∧ V.frozen? ⟨ba, 1, none⟩ = false) ∧ (V.cell? ⟨ba, 2, none⟩ = some (.int .i64 a.oth) ∧ V.frozen? ⟨ba, 2, none⟩ = false) ∧ (V.cell? ⟨ba, 3, none⟩ = some (.int .u64 (a.non : Int)) ∧ V.frozen? ⟨ba, 3, none⟩ = false) ∧ (V.cell? ⟨ba, 4, none⟩ = some (.int .u64 (a.ech : Int)) ∧ V.frozen? ⟨ba, 4, none⟩ = false) ∧ ba < V.heap.size := five (h.sd.held (ba, sko a) (by simp))
theorem Tw2.fiveB (h : Tw2 w0 nb L R ba bb Z a b hs V) : (V.cell? ⟨bb, 0, none⟩ = some (.int .i64 b.st) ∧ V.frozen? ⟨bb, 0, none⟩ = false) ∧ (V.cell? ⟨bb, 1, none⟩ = some (.int .i64 b.own) ∧ V.frozen? ⟨bb, 1, none⟩ = false) ∧ (V.cell? ⟨bb, 2, none⟩ = some (.int .i64 b.oth) ∧ V.frozen? ⟨bb, 2, none⟩ = false) ∧ (V.cell? ⟨bb, 3, none⟩ = some (.int .u64 (b.non : Int)) ∧ V.frozen? ⟨bb, 3, none⟩ = false) ∧ (V.cell? ⟨bb, 4, none⟩ = some (.int .u64 (b.ech : Int)) ∧ V.frozen? ⟨bb, 4, none⟩ = false) ∧ bb < V.heap.size := five (h.sd.held (bb, sko b) (by simp))
/-- what is sent, its block held beside the rest -/
def Snt (w0 : World) (nb : Nat) (L : List Item) (R : Option (Nat × List Item)) (ba bb Z : Nat) (a b : Sk) (hs : List (Nat × Obj)) (z : List Int) (v : Value) (w' : World) : Prop :=
  ∃ A c ho, v = .slice A z.length c ∧ z.length ≤ c ∧ c ≤ maxLen ∧ (A = none → z.length = 0 ∧ c = 0) ∧ (∀ V : World, (∀ p ∈ ho, V.heap[p.1]? = some p.2) → Bts V A z.length z) ∧ Tw2 w0 nb L R ba bb Z a b (ho ++ hs) w'
theorem snt_of {L' : List Item} {z : List Int} {v : Value} {w' : World} (h : Tw2 w0 nb L R ba bb Z a b hs V) (hq : Sent w0 nb L' R ((ba, sko a) :: (bb, sko b) :: hs) V.heap.size z v w') : Snt w0 nb L' R ba bb Z a b hs z v w' := by
  obtain ⟨A, c, ho, q1, q2, q3, q4, q5, q6, q7⟩ := hq
  refine ⟨A, c, ho, q1, q2, q3, q4, q5, ⟨q7.sub (fun p hp => ?_), h.la, h.lb, h.ab, h.za, h.zb, h.zm, fun p hp => ?_⟩⟩
  · simp only [List.mem_cons, List.mem_append] at hp ⊢
    rcases hp with h | h | h | h <;> simp [h]
  · rcases List.mem_append.1 hp with h' | h'
    · exact Nat.le_trans h.zv (q6 p h')
    · exact h.hz p h'

/-- the calls' contracts in these words: 'a' calls, hears, sends again -/
def AnsA (w0 : World) (nb : Nat) (R : Option (Nat × List Item)) (ba bb Z : Nat) (a b : Sk) (hs : List (Nat × Obj)) (o : Out) (e : Ending) (w' : World) : Prop := ∃ v, e = .returned (.tuple #[skv o.s, v]) ∧ Snt w0 nb o.l R ba bb Z a b hs o.z v w'
theorem call_2 (h : Tw2 w0 nb L R ba bb Z a b hs V) (s : Sk) (hk : s.Ok) (hL : L.length ≤ 1000000) (o : Out) (ho : callO s L = o) :
    Calls Tryd.prog 14 #[skv s, .pointer (some ⟨nb, 0, none⟩)] V (AnsA w0 nb R ba bb Z a b hs o) := by
  subst ho
  refine (call_s s h.sd hk hL).mono fun e w' hq => ?_
  obtain ⟨v, h1, h2⟩ := hq
  exact ⟨v, h1, snt_of h h2⟩
theorem hear_2 (h : Tw2 w0 nb L R ba bb Z a b hs V) (s : Sk) (hk : s.Ok) (hL : L.length ≤ 1000000) (A : Option Addr) (n c : Nat) (zs : List Int) (hb : Bts V A n zs) (h1 : n ≤ c) (h2 : c ≤ maxLen) (h3 : A = none → n = 0 ∧ c = 0) (hz : zs.length ≤ 1000000) (o : Out) (ho : hearO s L zs = o) :
    Calls Tryd.prog 16 #[skv s, .pointer (some ⟨nb, 0, none⟩), .slice A n c] V (AnsA w0 nb R ba bb Z a b hs o) := by
  subst ho
  refine (hear_s s A n c zs hb h1 h2 h3 hz h.sd hk hL).mono fun e w' hq => ?_
  obtain ⟨v, h1, h2⟩ := hq
  exact ⟨v, h1, snt_of h h2⟩
theorem again_2 (h : Tw2 w0 nb L R ba bb Z a b hs V) (s : Sk) (hk : s.Ok) (hL : L.length ≤ 1000000) (o : Out) (ho : againO s L = o) :
    Calls Tryd.prog 18 #[skv s, .pointer (some ⟨nb, 0, none⟩)] V fun e w' => ∃ v, e = .returned v ∧ Snt w0 nb o.l R ba bb Z a b hs o.z v w' := by
  subst ho
  refine (again_s s h.sd hk hL).mono fun e w' hq => ?_
  obtain ⟨v, h1, h2⟩ := hq
  exact ⟨v, h1, snt_of h h2⟩
theorem bytes_mg_len {k : Int} {ns : List Nat} {b : List Int} (hm : Wi.may (mg k ns b) = true) : 0 < (Wi.bytes (mg k ns b)).length ∧ (Wi.bytes (mg k ns b)).length ≤ 1200 := Wi.bytes_len hm
theorem sent_len {o : Sk} (ho : o.Ok) {L : List Item} (hL : L.length ≤ 1000000) : 0 < (helloB L o).length ∧ (helloB L o).length ≤ 1200 := by
  have := tag_lt L (helloX o)
  exact bytes_mg_len (may_hello ho _ (by unfold tagOf; unfold helloX at this; omega))
theorem sent_len2 {o : Sk} (ho : o.Ok) {L : List Item} (hL : L.length ≤ 1000000) {b : List Int} (hb : Bd1 b) : 0 < (answerB L o b).length ∧ (answerB L o b).length ≤ 1200 := by
  have := tag_lt L (answerX o b)
  exact bytes_mg_len (may_answer ho _ b (by unfold tagOf; unfold answerX at this; omega) hb.len)
end
end Go.Proofs.YtdiilgedicfekaaDoor
namespace Go.Proofs.YtdiilgedicfekaaDoor
open Go.RowKit Go.Maps
set_option linter.unusedVariables false
set_option maxRecDepth 100000

def aw0 : Sk := ⟨0, 1, 2, 5, 0⟩
def bw0 : Sk := ⟨0, 2, 1, 6, 0⟩
def aw1 : Sk := ⟨1, 1, 2, 5, 0⟩
def bw1 : Sk := ⟨2, 2, 1, 6, 5⟩
def aw2 : Sk := ⟨3, 1, 2, 5, 6⟩
def bw2 : Sk := ⟨3, 2, 1, 6, 5⟩
theorem aw0_ok : aw0.Ok := by constructor <;> decide
theorem bw0_ok : bw0.Ok := by constructor <;> decide
theorem aw1_ok : aw1.Ok := by constructor <;> decide
theorem bw1_ok : bw1.Ok := by constructor <;> decide
theorem aw2_ok : aw2.Ok := by constructor <;> decide
theorem mint_len' (L : List Item) (x : Item) : (mintL L x).length ≤ L.length + 1 := by unfold mintL; split <;> simp
/-- the exchange -/
theorem aw_steps : ∃ x y z L1 L2 L3, callO aw0 [] = ⟨aw1, x, L1⟩ ∧ hearO bw0 L1 x = ⟨bw1, y, L2⟩ ∧ hearO aw1 L2 y = ⟨aw2, z, L3⟩ ∧ hearO bw1 L3 z = ⟨bw2, [], L3⟩ ∧ L1.length ≤ 3 ∧ L2.length ≤ 3 ∧ L3.length ≤ 3 ∧ (0 < x.length ∧ x.length ≤ 1200) ∧ (0 < y.length ∧ y.length ≤ 1200) ∧ (0 < z.length ∧ z.length ≤ 1200) := by
  have l1 := mint_len' [] (helloX aw0)
  have l2 := mint_len' (mintL [] (helloX aw0)) (answerX bw1 [])
  have l3 := mint_len' (mintL (mintL [] (helloX aw0)) (answerX bw1 [])) (answerX aw2 [1])
  simp only [List.length_nil] at l1
  refine ⟨helloB [] aw0, answerB (helloL [] aw0) bw1 [], answerB (answerL (helloL [] aw0) bw1 []) aw2 [1], helloL [] aw0, answerL (helloL [] aw0) bw1 [], answerL (answerL (helloL [] aw0) bw1 []) aw2 [1], rfl, ?_, ?_, ?_, ?_, ?_, ?_, sent_len aw0_ok (by simp), sent_len2 bw1_ok ?_ (.inl rfl), sent_len2 aw2_ok ?_ (.inr rfl)⟩
  · rw [helloB_eq, hear_hello aw0_ok rfl rfl (by rw [helloL_eq]; exact Mt.new _ _) (by rw [helloL_eq]; omega)]
    exact if_pos (.inl rfl)
  · rw [answerB_eq, hear_answer (.inl rfl) bw1_ok rfl rfl (by rw [answerL_eq]; exact Mt.new _ _) (by rw [answerL_eq, helloL_eq]; omega)]
    unfold answerO
    rw [if_neg (by decide), if_neg (by decide)]
    rfl
  · rw [answerB_eq, hear_answer (.inr rfl) aw2_ok rfl rfl (by rw [answerL_eq]; exact Mt.new _ _) (by rw [answerL_eq, answerL_eq, helloL_eq]; omega)]
    unfold answerO
    rw [if_neg (by decide), if_pos (by decide)]
    rfl
  · rw [helloL_eq]; omega
  · rw [answerL_eq, helloL_eq]; omega
  · rw [answerL_eq, answerL_eq, helloL_eq]; omega
  · rw [helloL_eq]; omega
  · rw [answerL_eq, helloL_eq]; omega

set_option maxHeartbeats 8000000 in
theorem sawake_any (w : World) (hT : Tb w) : Calls Tryd.prog 9 #[] w fun e w' => e = .returned (.bool true) ∧ Below w.heap.size w w' := by
  obtain ⟨x, y, z, L1, L2, L3, s1, s2, s3, s4, l1, l2, l3, n1, n2, n3⟩ := aw_steps
  have CA : Hid (∀ V, Calls Tryd.prog 11 #[.int .i64 1, .int .i64 2, .int .u64 5] V fun e w' => e = .returned (.tuple #[.agg #[.int .i64 0, .int .i64 1, .int .i64 2, .int .u64 5, .int .u64 0], .int .i64 0]) ∧ Below V.heap.size V w') := Lib.hid (fun V => by
    have := snew_any 1 2 5 V
    rw [show (newS 1 2 5).may = true by decide] at this
    exact this)
  have CB : Hid (∀ V, Calls Tryd.prog 11 #[.int .i64 2, .int .i64 1, .int .u64 6] V fun e w' => e = .returned (.tuple #[.agg #[.int .i64 0, .int .i64 2, .int .i64 1, .int .u64 6, .int .u64 0], .int .i64 0]) ∧ Below V.heap.size V w') := Lib.hid (fun V => by
    have := snew_any 2 1 6 V
    rw [show (newS 2 1 6).may = true by decide] at this
    exact this)
  have CC : Hid (∀ V, Calls Tryd.prog 11 #[.int .i64 1, .int .i64 1, .int .u64 5] V fun e w' => e = .returned (.tuple #[.agg #[.int .i64 0, .int .i64 0, .int .i64 0, .int .u64 0, .int .u64 0], .int .i64 1]) ∧ Below V.heap.size V w') := Lib.hid (fun V => by
    have := snew_any 1 1 5 V
    rw [show (newS 1 1 5).may = false by decide] at this
    exact this)
  go_enter Tryd.func9, Tryd.ntmps9
  go_wp2_with fail
  refine (new_s w hT).mono ?_
  rintro e w1 ⟨nb, rfl, h1⟩
  have H1 := Lib.hid h1
  clear h1
  go_wp2_with fail
  refine (CA.out _).mono ?_
  rintro e w2 ⟨rfl, hb2⟩
  have H2 := Lib.hid ((H1.out.below hb2).box #[.int .i64 0, .int .i64 1, .int .i64 2, .int .u64 5, .int .u64 0] 29 rfl)
  have hz2 := hb2.size
  clear hb2
  go_wp2_with fail
  refine (CB.out _).mono ?_
  rintro e w3 ⟨rfl, hb3⟩
  have H3 := Lib.hid ((H2.out.below hb3).box #[.int .i64 0, .int .i64 2, .int .i64 1, .int .u64 6, .int .u64 0] 29 rfl)
  have hz3 := hb3.size
  simp at hz3
  clear hb3
  have HT : Hid (Tw2 w nb [] none w2.heap.size w3.heap.size (w3.heap.size + 1) aw0 bw0 [] (w3.alloc (.cells #[.int .i64 0, .int .i64 2, .int .i64 1, .int .u64 6, .int .u64 0] 29))) := Lib.hid ⟨H3.out.sub (fun p hp => by simp only [List.mem_cons] at hp ⊢; rcases hp with h | h | h <;> simp [h, aw0, bw0]), by have := H2.out.low.size; have := H1.out.low.size; omega, by have := H2.out.low.size; have := H1.out.low.size; omega, by omega, by omega, by omega, .inr rfl, by simp⟩
  go_wp2_with fail
  refine (CC.out _).mono ?_
  rintro e w4 ⟨rfl, hb4⟩
  have HT4 := Lib.hid ((HT.out.below hb4).below ((Below.refl _ _).alloc (Nat.le_refl _) (.cells #[.int .i64 0, .int .i64 0, .int .i64 0, .int .u64 0, .int .u64 0] 29)))
  clear hb4
  obtain ⟨⟨u0, uf0⟩, ⟨u1, uf1⟩, ⟨u2, uf2⟩, ⟨u3, uf3⟩, ⟨u4, uf4⟩, ul⟩ := HT4.out.fiveA
  obtain ⟨⟨v0, vf0⟩, ⟨v1, vf1⟩, ⟨v2, vf2⟩, ⟨v3, vf3⟩, ⟨v4, vf4⟩, vl⟩ := HT4.out.fiveB
  go_wp2_with fail
  clear u0 uf0 u1 uf1 u2 uf2 u3 uf3 u4 uf4 ul
  clear v0 vf0 v1 vf1 v2 vf2 v3 vf3 v4 vf4 vl
  refine (call_2 HT4.out aw0 aw0_ok (by simp) _ s1).mono ?_
  rintro e w5 ⟨v0, rfl, A0, c0, ho0, rfl, p0, r0, hn0, hq0, ht0⟩
  have HN0 := Lib.hid hn0; have HQ0 := Lib.hid hq0
  have HT5 : Hid (Tw2 w nb L1 none w2.heap.size w3.heap.size (w3.heap.size + 1) aw1 bw0 (ho0 ++ []) ((((((w5).setCell ⟨w2.heap.size, 0, none⟩ (.int .i64 aw1.st)).setCell ⟨w2.heap.size, 1, none⟩ (.int .i64 aw1.own)).setCell ⟨w2.heap.size, 2, none⟩ (.int .i64 aw1.oth)).setCell ⟨w2.heap.size, 3, none⟩ (.int .u64 (aw1.non : Int))).setCell ⟨w2.heap.size, 4, none⟩ (.int .u64 (aw1.ech : Int)))) := Lib.hid (ht0.putA aw1)
  have HK0 := Lib.hid ht0
  clear hn0 hq0 ht0
  obtain ⟨⟨u0, uf0⟩, ⟨u1, uf1⟩, ⟨u2, uf2⟩, ⟨u3, uf3⟩, ⟨u4, uf4⟩, ul⟩ := HK0.out.fiveA
  obtain ⟨⟨v0, vf0⟩, ⟨v1, vf1⟩, ⟨v2, vf2⟩, ⟨v3, vf3⟩, ⟨v4, vf4⟩, vl⟩ := HK0.out.fiveB
  have hab : ¬ (w2.heap.size = w3.heap.size) := HK0.out.ab
  have hba : ¬ (w3.heap.size = w2.heap.size) := fun e => hab e.symm
  go_wp2_with fail
  obtain ⟨W1, hW1⟩ : ∃ W1, (((((w5).setCell ⟨w2.heap.size, 0, none⟩ (.int .i64 aw1.st)).setCell ⟨w2.heap.size, 1, none⟩ (.int .i64 aw1.own)).setCell ⟨w2.heap.size, 2, none⟩ (.int .i64 aw1.oth)).setCell ⟨w2.heap.size, 3, none⟩ (.int .u64 (aw1.non : Int))).setCell ⟨w2.heap.size, 4, none⟩ (.int .u64 (aw1.ech : Int)) = W1 := ⟨_, rfl⟩
  rw [hW1] at HT5 ⊢
  clear hW1
  clear u0 uf0 u1 uf1 u2 uf2 u3 uf3 u4 uf4 ul
  clear v0 vf0 v1 vf1 v2 vf2 v3 vf3 v4 vf4 vl
  have hbt := HQ0.out _ (fun p hp => HT5.out.sd.held p (by simp [hp]))
  refine (hear_2 HT5.out bw0 bw0_ok (by omega) A0 _ c0 _ hbt p0 r0 HN0.out (by omega) _ s2).mono ?_
  rintro e w6 ⟨v1, rfl, A1, c1, ho1, rfl, p1, r1, hn1, hq1, ht1⟩
  have HN1 := Lib.hid hn1; have HQ1 := Lib.hid hq1
  have HT6 : Hid (Tw2 w nb L2 none w2.heap.size w3.heap.size (w3.heap.size + 1) aw1 bw1 (ho1 ++ (ho0 ++ [])) ((((((w6).setCell ⟨w3.heap.size, 0, none⟩ (.int .i64 bw1.st)).setCell ⟨w3.heap.size, 1, none⟩ (.int .i64 bw1.own)).setCell ⟨w3.heap.size, 2, none⟩ (.int .i64 bw1.oth)).setCell ⟨w3.heap.size, 3, none⟩ (.int .u64 (bw1.non : Int))).setCell ⟨w3.heap.size, 4, none⟩ (.int .u64 (bw1.ech : Int)))) := Lib.hid (ht1.putB bw1)
  have HK1 := Lib.hid ht1
  clear hn1 hq1 ht1
  obtain ⟨⟨u0, uf0⟩, ⟨u1, uf1⟩, ⟨u2, uf2⟩, ⟨u3, uf3⟩, ⟨u4, uf4⟩, ul⟩ := HK1.out.fiveA
  obtain ⟨⟨v0, vf0⟩, ⟨v1, vf1⟩, ⟨v2, vf2⟩, ⟨v3, vf3⟩, ⟨v4, vf4⟩, vl⟩ := HK1.out.fiveB
  go_wp2_with fail
  obtain ⟨W2, hW2⟩ : ∃ W2, (((((w6).setCell ⟨w3.heap.size, 0, none⟩ (.int .i64 bw1.st)).setCell ⟨w3.heap.size, 1, none⟩ (.int .i64 bw1.own)).setCell ⟨w3.heap.size, 2, none⟩ (.int .i64 bw1.oth)).setCell ⟨w3.heap.size, 3, none⟩ (.int .u64 (bw1.non : Int))).setCell ⟨w3.heap.size, 4, none⟩ (.int .u64 (bw1.ech : Int)) = W2 := ⟨_, rfl⟩
  rw [hW2] at HT6 ⊢
  clear hW2
  clear u0 uf0 u1 uf1 u2 uf2 u3 uf3 u4 uf4 ul
  clear v0 vf0 v1 vf1 v2 vf2 v3 vf3 v4 vf4 vl
  have hbt := HQ1.out _ (fun p hp => HT6.out.sd.held p (by simp [hp]))
  refine (hear_2 HT6.out aw1 aw1_ok (by omega) A1 _ c1 _ hbt p1 r1 HN1.out (by omega) _ s3).mono ?_
  rintro e w7 ⟨v2, rfl, A2, c2, ho2, rfl, p2, r2, hn2, hq2, ht2⟩
  have HN2 := Lib.hid hn2; have HQ2 := Lib.hid hq2
  have HT7 : Hid (Tw2 w nb L3 none w2.heap.size w3.heap.size (w3.heap.size + 1) aw2 bw1 (ho2 ++ (ho1 ++ (ho0 ++ []))) ((((((w7).setCell ⟨w2.heap.size, 0, none⟩ (.int .i64 aw2.st)).setCell ⟨w2.heap.size, 1, none⟩ (.int .i64 aw2.own)).setCell ⟨w2.heap.size, 2, none⟩ (.int .i64 aw2.oth)).setCell ⟨w2.heap.size, 3, none⟩ (.int .u64 (aw2.non : Int))).setCell ⟨w2.heap.size, 4, none⟩ (.int .u64 (aw2.ech : Int)))) := Lib.hid (ht2.putA aw2)
  have HK2 := Lib.hid ht2
  clear hn2 hq2 ht2
  obtain ⟨⟨u0, uf0⟩, ⟨u1, uf1⟩, ⟨u2, uf2⟩, ⟨u3, uf3⟩, ⟨u4, uf4⟩, ul⟩ := HK2.out.fiveA
  obtain ⟨⟨v0, vf0⟩, ⟨v1, vf1⟩, ⟨v2, vf2⟩, ⟨v3, vf3⟩, ⟨v4, vf4⟩, vl⟩ := HK2.out.fiveB
  go_wp2_with fail
  obtain ⟨W3, hW3⟩ : ∃ W3, (((((w7).setCell ⟨w2.heap.size, 0, none⟩ (.int .i64 aw2.st)).setCell ⟨w2.heap.size, 1, none⟩ (.int .i64 aw2.own)).setCell ⟨w2.heap.size, 2, none⟩ (.int .i64 aw2.oth)).setCell ⟨w2.heap.size, 3, none⟩ (.int .u64 (aw2.non : Int))).setCell ⟨w2.heap.size, 4, none⟩ (.int .u64 (aw2.ech : Int)) = W3 := ⟨_, rfl⟩
  rw [hW3] at HT7 ⊢
  clear hW3
  clear u0 uf0 u1 uf1 u2 uf2 u3 uf3 u4 uf4 ul
  clear v0 vf0 v1 vf1 v2 vf2 v3 vf3 v4 vf4 vl
  have hbt := HQ2.out _ (fun p hp => HT7.out.sd.held p (by simp [hp]))
  refine (hear_2 HT7.out bw1 bw1_ok (by omega) A2 _ c2 _ hbt p2 r2 HN2.out (by omega) _ s4).mono ?_
  rintro e w8 ⟨v3, rfl, A3, c3, ho3, rfl, p3, r3, hn3, hq3, ht3⟩
  have HN3 := Lib.hid hn3; have HQ3 := Lib.hid hq3
  have HT8 : Hid (Tw2 w nb L3 none w2.heap.size w3.heap.size (w3.heap.size + 1) aw2 bw2 (ho3 ++ (ho2 ++ (ho1 ++ (ho0 ++ [])))) ((((((w8).setCell ⟨w3.heap.size, 0, none⟩ (.int .i64 bw2.st)).setCell ⟨w3.heap.size, 1, none⟩ (.int .i64 bw2.own)).setCell ⟨w3.heap.size, 2, none⟩ (.int .i64 bw2.oth)).setCell ⟨w3.heap.size, 3, none⟩ (.int .u64 (bw2.non : Int))).setCell ⟨w3.heap.size, 4, none⟩ (.int .u64 (bw2.ech : Int)))) := Lib.hid (ht3.putB bw2)
  have HK3 := Lib.hid ht3
  clear hn3 hq3 ht3
  obtain ⟨⟨u0, uf0⟩, ⟨u1, uf1⟩, ⟨u2, uf2⟩, ⟨u3, uf3⟩, ⟨u4, uf4⟩, ul⟩ := HK3.out.fiveA
  obtain ⟨⟨v0, vf0⟩, ⟨v1, vf1⟩, ⟨v2, vf2⟩, ⟨v3, vf3⟩, ⟨v4, vf4⟩, vl⟩ := HK3.out.fiveB
  obtain ⟨lx, hlx⟩ : ∃ n, x.length = n := ⟨_, rfl⟩
  obtain ⟨ly, hly⟩ : ∃ n, y.length = n := ⟨_, rfl⟩
  obtain ⟨lz, hlz⟩ : ∃ n, z.length = n := ⟨_, rfl⟩
  rw [hlx] at n1 ⊢
  rw [hly] at n2 ⊢
  rw [hlz] at n3 ⊢
  simp only [List.length_nil]
  clear hlx hly hlz s1 s2 s3 s4 p0 p1 p2 p3 hbt
  have d1 : decide ((lx : Int) > 0) = true := by simp; omega
  have d2 : decide ((ly : Int) > 0) = true := by simp; omega
  have d3 : decide ((lz : Int) > 0) = true := by simp; omega
  have e1 : (0 : Int) < (lx : Int) := by omega
  have e2 : (0 : Int) < (ly : Int) := by omega
  have e3 : (0 : Int) < (lz : Int) := by omega
  have HLOW := Lib.hid HT8.out.sd.low
  have hu0 : w8.cell? ⟨w2.heap.size, 0, none⟩ = some (.int .i64 3) := u0
  have hu4 : w8.cell? ⟨w2.heap.size, 4, none⟩ = some (.int .u64 6) := u4
  have k1 : bw2.st = 3 := rfl
  have k2 : (bw2.ech : Int) = 5 := rfl
  clear u0 u4
  go_wp2
  go_ret
  exact ⟨rfl, HLOW.out⟩
end Go.Proofs.YtdiilgedicfekaaDoor
namespace Go.Proofs.YtdiilgedicfekaaDoor
open Go.RowKit Go.Maps Go.ChangeShapes
set_option linter.unusedVariables false
set_option maxRecDepth 100000

structure Tq where
  A : Int
  B : Int
  NA : Nat
  NB : Nat
def IsTwo (w : World) (v : Value) (t : Tq) : Prop := v = .agg #[.int .i64 t.A, .int .i64 t.B, .int .u64 (t.NA : Int), .int .u64 (t.NB : Int)] ∧ (-9223372036854775808 ≤ t.A ∧ t.A ≤ 9223372036854775807) ∧ (-9223372036854775808 ≤ t.B ∧ t.B ≤ 9223372036854775807) ∧ t.NA < 18446744073709551616 ∧ t.NB < 18446744073709551616
structure Dq where
  kind : Int
  side : Bool
  at_ : Int
  bytes : List Int
  msg : Wi.Msg
instance : Inhabited Dq := ⟨⟨0, false, 0, [], ⟨0, [], [], []⟩⟩⟩
def DqAt (w : World) (b off : Nat) (d : Dq) : Prop := ∃ x3 x5 x6 x7, w.cell? ⟨b, off, none⟩ = some (.int .i64 d.kind) ∧ w.cell? ⟨b, off + 1, none⟩ = some (.bool d.side) ∧ w.cell? ⟨b, off + 2, none⟩ = some (.int .u8 d.at_) ∧ w.cell? ⟨b, off + 3, none⟩ = some x3 ∧
  w.cell? ⟨b, off + 4, none⟩ = some (.int .i64 d.msg.kind) ∧ w.cell? ⟨b, off + 5, none⟩ = some x5 ∧ w.cell? ⟨b, off + 6, none⟩ = some x6 ∧ w.cell? ⟨b, off + 7, none⟩ = some x7 ∧ Tx w x3 d.bytes ∧ MsgV w x5 x6 x7 d.msg ∧ (0 ≤ d.at_ ∧ d.at_ ≤ 255) ∧ (-9223372036854775808 ≤ d.kind ∧ d.kind ≤ 9223372036854775807)
def IsDos (w : World) (v : Value) (ds : List Dq) : Prop := ∃ A cap, v = .slice A ds.length cap ∧ ds.length ≤ cap ∧ cap ≤ maxLen ∧ (0 < ds.length → ∃ b off, A = some ⟨b, off, none⟩ ∧ b < w.heap.size ∧ ∀ j, j < ds.length → DqAt w b (off + j * 8) (ds.getD j default))
def IsFlag (w : World) (v : Value) (b : Bool) : Prop := v = .bool b
section
variable {H : Type} {enc : TypeId × Value → H} {W : World}
theorem open_flag {r : Reach} {b0 : Nat} {v : Value} {d : DataW H} {p : List MemPlace} (hv : Value.okWide Tryd.prog W r b0 4 v) (h : DataW.Trod enc Tryd.prog W 0 (fun _ => true) true 4 v d p) : ∃ s, IsFlag W v s := by
  obtain ⟨b, rfl, _⟩ := open_bool Tryd.underlying4 hv h
  exact ⟨b, rfl⟩
theorem open_two {r : Reach} {b0 : Nat} {v : Value} {d : DataW H} {p : List MemPlace} (hv : Value.okWide Tryd.prog W r b0 24 v) (h : DataW.Trod enc Tryd.prog W 0 (fun _ => true) true 24 v d p) : ∃ s, IsTwo W v s := by
  obtain ⟨x0, x1, x2, x3, y0, y1, y2, y3, n, rfl, _, _, h0, h1, h2, h3⟩ := Joins.open_agg4 Tryd.underlying24 (by kernel_rfl) (by kernel_rfl) hv h
  obtain ⟨a0, e0, _, p0⟩ := DataW.trod_int Tryd.underlying3 h0
  obtain ⟨a1, e1, _, p1⟩ := DataW.trod_int Tryd.underlying3 h1
  obtain ⟨a2, e2, _, p2⟩ := DataW.trod_int Tryd.underlying22 h2
  obtain ⟨a3, e3, _, p3⟩ := DataW.trod_int Tryd.underlying22 h3
  simp only [List.cons.injEq, and_true] at e0 e1 e2 e3
  subst e0 e1 e2 e3
  have q0 := bounds_i64 p0
  have q1 := bounds_i64 p1
  have q2 := bounds_u64 p2
  have q3 := bounds_u64 p3
  refine ⟨⟨a0, a1, a2.toNat, a3.toNat⟩, ?_, q0, q1, by show a2.toNat < _; omega, by show a3.toNat < _; omega⟩
  simp only [Int.toNat_of_nonneg (by omega : (0 : Int) ≤ a2), Int.toNat_of_nonneg (by omega : (0 : Int) ≤ a3)]
set_option maxHeartbeats 1000000 in
theorem open_dos {r : Reach} {b0 : Nat} {v : Value} {d : DataW H} {p : List MemPlace} (hv : Value.okWide Tryd.prog W r b0 25 v) (h : DataW.Trod enc Tryd.prog W 0 (fun _ => true) true 25 v d p) : ∃ ds, IsDos W v ds := by
  obtain ⟨A, l, c, rfl⟩ := WideShapes.okWide_slice Tryd.underlying25 hv
  obtain ⟨fuel, hf⟩ := h
  rcases Deep.open_slice Tryd.underlying25 hf with ⟨hcs, _⟩ | ⟨a, len, cap, m, n, D, Pl, hcs, _, hl, hm, hmm, _, hi⟩
  · simp [Value.cells] at hcs
    obtain ⟨rfl, rfl, rfl⟩ := hcs
    exact ⟨[], none, 0, rfl, Nat.le_refl _, Nat.zero_le _, fun h => by simp at h⟩
  · simp [Value.cells] at hcs
    obtain ⟨rfl, rfl, rfl⟩ := hcs
    have hmc : m = c := by simpa using hmm
    subst hmc
    have hall : ∀ j, ∃ s : Dq, j < l → ∃ x3 x5 x6 x7, (∀ i, i < 8 → W.cell? ((a.add (j * 8)).add i) = [.int .i64 s.kind, .bool s.side, .int .u8 s.at_, x3, .int .i64 s.msg.kind, x5, x6, x7][i]?) ∧ Tx W x3 s.bytes ∧ MsgV W x5 x6 x7 s.msg ∧ (0 ≤ s.at_ ∧ s.at_ ≤ 255) ∧ (-9223372036854775808 ≤ s.kind ∧ s.kind ≤ 9223372036854775807) := fun j => by
      by_cases hj : j < l
      · obtain ⟨cs, hc, ht⟩ := hi j (by omega)
        obtain ⟨_, hlen, hat⟩ := World.cells?_some hc
        have h8 : Tryd.prog.cellsOf 48 = 8 := by kernel_rfl
        rw [h8] at hlen hat
        obtain ⟨ys, k, _, _, _, hlen2, hel2⟩ := DataW.trod_struct Tryd.underlying48 ht
        have k3 : Tryd.prog.cellsOf 3 = 1 := by kernel_rfl
        have k4 : Tryd.prog.cellsOf 4 = 1 := by kernel_rfl
        have k5 : Tryd.prog.cellsOf 5 = 1 := by kernel_rfl
        have k42 : Tryd.prog.cellsOf 42 = 1 := by kernel_rfl
        have k46 : Tryd.prog.cellsOf 46 = 4 := by kernel_rfl
        have k43 : Tryd.prog.cellsOf 43 = 1 := by kernel_rfl
        have k44 : Tryd.prog.cellsOf 44 = 1 := by kernel_rfl
        match cs, hlen with
        | [x0, x1, x2, x3, x4, x5, x6, x7], _ =>
          match ys, hlen2 with
          | [z0, z1, z2, z3, z4], _ =>
            have f0 : DataW.trod enc Tryd.prog W 0 (fun _ => true) true k 3 [x0] = some z0 := by simpa [k3] using hel2 0 _ rfl
            have f1 : DataW.trod enc Tryd.prog W 0 (fun _ => true) true k 4 [x1] = some z1 := by simpa [k4] using hel2 1 _ rfl
            have f2 : DataW.trod enc Tryd.prog W 0 (fun _ => true) true k 5 [x2] = some z2 := by simpa [k5] using hel2 2 _ rfl
            have f3 : DataW.trod enc Tryd.prog W 0 (fun _ => true) true k 42 [x3] = some z3 := by simpa [k42] using hel2 3 _ rfl
            have f4 : DataW.trod enc Tryd.prog W 0 (fun _ => true) true k 46 [x4, x5, x6, x7] = some z4 := by simpa [k46] using hel2 4 _ rfl
            obtain ⟨a0, e0, _, p0⟩ := DataW.trod_int Tryd.underlying3 f0
            obtain ⟨a1, e1, _⟩ := DataW.trod_bool Tryd.underlying4 f1
            obtain ⟨a2, e2, _, p2⟩ := DataW.trod_int Tryd.underlying5 f2
            obtain ⟨bs, hbs⟩ := open_tx f3
            obtain ⟨y0, y1, y2, y3, n', _, _, h0, h1, h2, h3⟩ := Joins.trod_struct4 Tryd.underlying46 f4
            simp only [k3, k42, k43, k44, List.drop_zero, List.drop_succ_cons, List.take_succ_cons, List.take_zero] at h0 h1 h2 h3
            obtain ⟨mk, e4, _, p4⟩ := DataW.trod_int Tryd.underlying3 h0
            obtain ⟨vs, hvs⟩ := open_ns h1
            obtain ⟨al, hal⟩ := open_as h2
            obtain ⟨zs, hzs⟩ := open_tx h3
            simp only [List.cons.injEq, and_true] at e0 e1 e2 e4
            subst e0 e1 e2 e4
            have q0 := bounds_i64 p0
            have q2 := wf_u8 p2
            have q4 := bounds_i64 p4
            exact ⟨⟨a0, a1, a2, bs, ⟨mk, vs, al, zs⟩⟩, fun _ => ⟨x3, x5, x6, x7, hat, hbs, ⟨hvs, hal, hzs, q4⟩, q2, q0⟩⟩
      · exact ⟨default, fun h => absurd h hj⟩
    obtain ⟨f, hf⟩ := Classical.axiomOfChoice hall
    refine ⟨(List.range l).map f, some a, m, by simp, by simpa using hl, hm, fun hpos => ?_⟩
    have hl0 : 0 < l := by simpa using hpos
    obtain ⟨b, off, spot⟩ := a
    obtain ⟨x3, x5, x6, x7, hat, hs⟩ := hf 0 hl0
    have h8 := World.cell?_spot (hat 0 (by omega))
    have hspot : spot = none := by simpa [Addr.add] using h8
    subst hspot
    have hb : b < W.heap.size := by
      have := lt_of_cell (hat 0 (by omega))
      simpa [Addr.add] using this
    refine ⟨b, off, rfl, hb, fun j hj => ?_⟩
    have hjl : j < l := by simpa using hj
    obtain ⟨x3, x5, x6, x7, hat, hs⟩ := hf j hjl
    have e : ∀ i, ((⟨b, off, none⟩ : Addr).add (j * 8)).add i = ⟨b, off + j * 8 + i, none⟩ := fun i => by rw [add_spot, add_spot]
    have hg : ((List.range l).map f).getD j default = f j := by simp [List.getD, hjl]
    rw [hg]
    have q : ∀ i, i < 8 → W.cell? ⟨b, off + j * 8 + i, none⟩ = [.int .i64 (f j).kind, .bool (f j).side, .int .u8 (f j).at_, x3, .int .i64 (f j).msg.kind, x5, x6, x7][i]? := fun i hi => by have := hat i hi; rwa [e] at this
    exact ⟨x3, x5, x6, x7, q 0 (by omega), q 1 (by omega), q 2 (by omega), q 3 (by omega), q 4 (by omega), q 5 (by omega), q 6 (by omega), q 7 (by omega), hs⟩
end
theorem DqAt.below {w w' : World} {b off : Nat} {d : Dq} (h : DqAt w b off d) (hb : Below w.heap.size w w') : DqAt w' b off d := by
  obtain ⟨x3, x5, x6, x7, h0, h1, h2, h3, h4, h5, h6, h7, h8, h9, h10⟩ := h
  have hl := lt_of_cell h0
  have c : ∀ i, w'.cell? ⟨b, i, none⟩ = w.cell? ⟨b, i, none⟩ := fun i => hb.cell (p := ⟨b, i, none⟩) hl
  exact ⟨x3, x5, x6, x7, by rw [c]; exact h0, by rw [c]; exact h1, by rw [c]; exact h2, by rw [c]; exact h3, by rw [c]; exact h4, by rw [c]; exact h5, by rw [c]; exact h6, by rw [c]; exact h7, h8.below hb, h9.below hb, h10⟩
theorem IsDos.below {w w' : World} {v : Value} {ds : List Dq} (h : IsDos w v ds) (hb : Below w.heap.size w w') : IsDos w' v ds := by
  obtain ⟨A, cap, rfl, h1, h2, h3⟩ := h
  refine ⟨A, cap, rfl, h1, h2, fun hp => ?_⟩
  obtain ⟨b, off, rfl, hbl, hc⟩ := h3 hp
  exact ⟨b, off, rfl, Nat.lt_of_lt_of_le hbl hb.size, fun j hj => (hc j hj).below hb⟩
end Go.Proofs.YtdiilgedicfekaaDoor
namespace Go.Proofs.YtdiilgedicfekaaDoor
open Go.RowKit Go.Maps
set_option linter.unusedVariables false
set_option maxRecDepth 100000

/-- New of what came in: a handshake, or Arg -/
theorem new_two (own oth : Int) (non : Nat) : ∃ (s : Sk) (c : Int), (∀ V, Calls Tryd.prog 11 #[.int .i64 own, .int .i64 oth, .int .u64 (non : Int)] V fun e w' => e = .returned (.tuple #[.agg #[.int .i64 s.st, .int .i64 s.own, .int .i64 s.oth, .int .u64 (s.non : Int), .int .u64 (s.ech : Int)], .int .i64 c]) ∧ Below V.heap.size V w') ∧
    ((c = 0 ∧ s = newS own oth non ∧ s.Ok) ∨ (c = 1 ∧ s = noS ∧ (newS own oth non).may = false)) := by
  cases h : (newS own oth non).may with
  | true =>
    refine ⟨newS own oth non, 0, fun V => ?_, .inl ⟨rfl, rfl, .of h (by simp [newS]) (by simp [newS])⟩⟩
    have := snew_any own oth non V
    rw [h] at this
    exact this
  | false =>
    refine ⟨noS, 1, fun V => ?_, .inr ⟨rfl, rfl, rfl⟩⟩
    have := snew_any own oth non V
    rw [h] at this
    exact this
theorem Sd.rebase {w V V' : World} {nb : Nat} {L : List Item} (h : Sd V nb L none [] V') (hb : Below w.heap.size w V) (hT : Tb w) (os : List (Nat × Obj)) (ho : ∀ p ∈ os, V.heap[p.1]? = some p.2) : Sd w nb L none os V' := by
  obtain ⟨S1, S2, a1, a2, a3, a4, a5, a6⟩ := h.ex
  have hs := hb.size
  exact ⟨⟨S1, fun _ => False, fun b hb' => ⟨by have := (a1 b hb').1; omega, (a1 b hb').2⟩, fun _ e => e.elim, fun _ _ e => e, a4, trivial, fun p hp => ⟨fun hs1 => by have := (a1 _ hs1).1; have := (Array.getElem?_eq_some_iff.1 (ho p hp)).1; omega, id⟩⟩,
    fun p hp => (h.low.block _ (Array.getElem?_eq_some_iff.1 (ho p hp)).1).trans (ho p hp), hb.trans (h.low.mono hs), hT⟩
/-- both are in their boxes, and the notary is made -/
theorem Tw2.start {w V V' : World} {nb ba bb : Nat} {a b : Sk} (h : Sd V nb [] none [] V') (hb : Below w.heap.size w V) (hT : Tb w) (ha : V.heap[ba]? = some (sko a)) (hb2 : V.heap[bb]? = some (sko b)) (hw : w.heap.size ≤ ba) (hab : ba < bb) : Tw2 w nb [] none ba bb (bb + 1) a b [] V' :=
  ⟨h.rebase hb hT _ (fun p hp => by
    simp only [List.mem_cons, List.not_mem_nil, or_false] at hp
    rcases hp with rfl | rfl
    · exact ha
    · exact hb2), hw, by omega, by omega, by omega, by omega, .inr rfl, by simp⟩
section
variable {w0 : World} {nb : Nat} {L : List Item} {R : Option (Nat × List Item)} {V V' : World} {ba bb Z : Nat} {a b : Sk} {hs : List (Nat × Obj)}
theorem Tw2.subh {hs' : List (Nat × Obj)} (h : Tw2 w0 nb L R ba bb Z a b hs V) (hh : ∀ p ∈ hs', p ∈ hs) : Tw2 w0 nb L R ba bb Z a b hs' V :=
  ⟨h.sd.sub (fun p hp => by
    simp only [List.mem_cons] at hp ⊢
    rcases hp with h | h | h
    · simp [h]
    · simp [h]
    · exact .inr (.inr (hh p h))), h.la, h.lb, h.ab, h.za, h.zb, h.zm, fun p hp => h.hz p (hh p hp)⟩
theorem Tw2.box {k : Nat} (h : Tw2 w0 nb L R ba bb Z a b hs V) (s : Sk) (hk : k = V.heap.size) : Tw2 w0 nb L R ba bb Z a b ((k, sko s) :: hs) (V.alloc (.cells #[.int .i64 s.st, .int .i64 s.own, .int .i64 s.oth, .int .u64 (s.non : Int), .int .u64 (s.ech : Int)] 29)) :=
  ⟨(h.sd.box _ _ hk).sub (fun p hp => by
    simp only [List.mem_cons] at hp ⊢
    rcases hp with h | h | h | h <;> simp [h]), h.la, h.lb, h.ab, h.za, h.zb, h.zm, fun p hp => by
      rcases List.mem_cons.1 hp with rfl | hp
      · have := h.zv; simp only; omega
      · exact h.hz p hp⟩
theorem Tw2.five {k : Nat} {s : Sk} (h : Tw2 w0 nb L R ba bb Z a b hs V) (hm : (k, sko s) ∈ hs) : (V.cell? ⟨k, 0, none⟩ = some (.int .i64 s.st) ∧ V.frozen? ⟨k, 0, none⟩ = false) ∧ (V.cell? ⟨k, 1, none⟩ = some (.int .i64 s.own) ∧ V.frozen? ⟨k, 1, none⟩ = false) ∧ (V.cell? ⟨k, 2, none⟩ = some (.int .i64 s.oth) ∧ V.frozen? ⟨k, 2, none⟩ = false) ∧ (V.cell? ⟨k, 3, none⟩ = some (.int .u64 (s.non : Int)) ∧ V.frozen? ⟨k, 3, none⟩ = false) ∧ (V.cell? ⟨k, 4, none⟩ = some (.int .u64 (s.ech : Int)) ∧ V.frozen? ⟨k, 4, none⟩ = false) ∧ k < V.heap.size :=
  Go.Proofs.YtdiilgedicfekaaDoor.five (h.sd.held (k, sko s) (by simp [hm]))
end
end Go.Proofs.YtdiilgedicfekaaDoor
namespace Go.Proofs.YtdiilgedicfekaaDoor
open Go.RowKit Go.Maps
set_option linter.unusedVariables false
set_option maxRecDepth 100000

theorem noGuardSk : Tryd.prog.eqGuardType Tryd.prog.depth 29 = false := by kernel_rfl
theorem eql_sk (a b c : Int) (d e : Int) (W : World) : (binOp .eql 29 (.agg #[.int .i64 a, .int .i64 b, .int .i64 c, .int .u64 d, .int .u64 e]) (.agg #[.int .i64 a, .int .i64 b, .int .i64 c, .int .u64 d, .int .u64 e])).run Tryd.prog W = .ok (.bool true) W := by
  have hm := noGuardSk
  go_simp
theorem neq_sk (a b c : Int) (d e : Int) (W : World) : (binOp .neq 29 (.agg #[.int .i64 a, .int .i64 b, .int .i64 c, .int .u64 d, .int .u64 e]) (.agg #[.int .i64 a, .int .i64 b, .int .i64 c, .int .u64 d, .int .u64 e])).run Tryd.prog W = .ok (.bool false) W := by
  have hm := noGuardSk
  go_simp
theorem neq_st (s : ByteArray) (W : World) : (binOp .neq 9 (.string s) (.string s)).run Tryd.prog W = .ok (.bool false) W := by
  go_simp

def stA (s : Sk) : Sk := { s with st := 1 }
def stB (s : Sk) (v : Nat) : Sk := { s with st := 2, ech := v }
theorem stA_ok {s : Sk} (h : s.Ok) : (stA s).Ok := ⟨by simp [stA], by simp [stA], h.o1, h.o2, h.t1, h.t2, h.ne, h.n1, h.n2, h.e2⟩
theorem stB_ok {s : Sk} (h : s.Ok) {v : Nat} (hv : v ≤ 9223372036854775807) : (stB s v).Ok := ⟨by simp [stB], by simp [stB], h.o1, h.o2, h.t1, h.t2, h.ne, h.n1, h.n2, hv⟩
/-- what ShakeAgain goes by -/
theorem again_facts {A B : Int} {NA NB : Nat} (oa : (newS A B NA).Ok) (ob : (newS B A NB).Ok) : ∃ x y L1 L2, callO (newS A B NA) [] = ⟨stA (newS A B NA), x, L1⟩ ∧ hearO (newS B A NB) L1 x = ⟨stB (newS B A NB) NA, y, L2⟩ ∧
    hearO (stB (newS B A NB) NA) L2 x = ⟨stB (newS B A NB) NA, y, L2⟩ ∧ againO (stB (newS B A NB) NA) L2 = ⟨stB (newS B A NB) NA, y, L2⟩ ∧ againO (stA (newS A B NA)) L2 = ⟨stA (newS A B NA), x, L2⟩ ∧ L1.length ≤ 2 ∧ L2.length = 2 ∧ (0 < x.length ∧ x.length ≤ 1200) ∧ (0 < y.length ∧ y.length ≤ 1200) ∧ (stA (newS A B NA)).Ok ∧ (stB (newS B A NB) NA).Ok := by
  have o1 := stA_ok oa
  have o2 := stB_ok ob (v := NA) oa.n2
  have hxa : helloX (stA (newS A B NA)) = helloX (newS A B NA) := rfl
  have l1 : mintL [] (helloX (newS A B NA)) = [helloX (newS A B NA)] := by simp [mintL]
  have hne : answerX (stB (newS B A NB) NA) [] ≠ helloX (newS A B NA) := fun e => oa.ne (congrArg Prod.fst e).symm
  have l2 : mintL [helloX (newS A B NA)] (answerX (stB (newS B A NB) NA) []) = [helloX (newS A B NA), answerX (stB (newS B A NB) NA) []] := by simp [mintL, hne]
  have e1 : helloL [] (newS A B NA) = [helloX (newS A B NA)] := l1
  have e2 : answerL [helloX (newS A B NA)] (stB (newS B A NB) NA) [] = [helloX (newS A B NA), answerX (stB (newS B A NB) NA) []] := l2
  have et : tagL [] (helloX (newS A B NA)) = tagL [helloX (newS A B NA), answerX (stB (newS B A NB) NA) []] (helloX (newS A B NA)) := by simp [tagL]
  have et2 : tagL [helloX (newS A B NA), answerX (stB (newS B A NB) NA) []] (answerX (stB (newS B A NB) NA) []) = tagL [helloX (newS A B NA)] (answerX (stB (newS B A NB) NA) []) := by
    have := tag_again [helloX (newS A B NA)] (answerX (stB (newS B A NB) NA) [])
    rwa [l2] at this
  have em : mintL [helloX (newS A B NA), answerX (stB (newS B A NB) NA) []] (answerX (stB (newS B A NB) NA) []) = [helloX (newS A B NA), answerX (stB (newS B A NB) NA) []] := by simp [mintL]
  have em2 : mintL [helloX (newS A B NA), answerX (stB (newS B A NB) NA) []] (helloX (newS A B NA)) = [helloX (newS A B NA), answerX (stB (newS B A NB) NA) []] := by simp [mintL]
  refine ⟨helloB [] (newS A B NA), answerB [helloX (newS A B NA)] (stB (newS B A NB) NA) [], [helloX (newS A B NA)], [helloX (newS A B NA), answerX (stB (newS B A NB) NA) []], ?_, ?_, ?_, ?_, ?_, by simp, rfl, sent_len oa (by simp), sent_len2 o2 (by simp) (.inl rfl), o1, o2⟩
  · refine (if_pos rfl).trans ?_
    rw [e1]
    rfl
  · rw [helloB_eq, hear_hello oa rfl rfl (by rw [← l1]; exact Mt.new _ _) (by simp)]
    unfold helloO
    rw [if_pos (.inl rfl)]
    rw [← e2]
    rfl
  · rw [helloB_eq, hear_hello oa rfl rfl ⟨by simp [tagL], by simp [tagL]⟩ (by simp)]
    unfold helloO
    rw [if_neg (by simp [stB, newS]), if_pos (by simp [Sk.holds, stB, newS]; rfl), answerL_eq, em, answerB_eq, answerB_eq, et2]
  · unfold againO
    rw [if_neg (by simp [stB, newS])]
    refine (if_pos rfl).trans ?_
    rw [answerL_eq, em, answerB_eq, answerB_eq, et2]
  · refine (if_pos rfl).trans ?_
    rw [helloL_eq, hxa, em2, helloB_eq, helloB_eq, hxa, ← et]
    rfl
end Go.Proofs.YtdiilgedicfekaaDoor
