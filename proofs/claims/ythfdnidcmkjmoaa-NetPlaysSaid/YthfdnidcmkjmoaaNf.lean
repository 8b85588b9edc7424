/-
  What NetAll's walk is told: rows that are sent, and what is sent meanwhile; a net whose iterator's blocks are kept. Conditions: as each states.
-/
import Derived.Test.YthfdnidcmkjmoaaNa
import Derived.Test.YthfdnidcmkjmoaaNi
namespace Go.Proofs.Ythfdnidcmkjmoaa
open Go.RowKit
set_option linter.unusedVariables false

/-- the datagrams of rows, those from number i on, n of them; and those without bytes that come behind k of them -/
def aD (ds : List (List Int)) (j : Nat) : Dg := ⟨(j : Int) + 1, a11, a11, ds.getD j default⟩
def aM (ds : List (List Int)) (i n : Nat) : List Dg := (List.range' i n).map (aD ds)
def eM (k n : Nat) : List Dg := (List.range n).map fun (j : Nat) => ⟨(k : Int) + (j : Int) + 1, a11, a11, []⟩
theorem aM_len (ds : List (List Int)) (i n : Nat) : (aM ds i n).length = n := by simp [aM]
theorem eM_len (k n : Nat) : (eM k n).length = n := by simp [eM]
def Short (ds : List (List Int)) (n : Nat) : Prop := ∀ j, j < n → (ds.getD j default).length ≤ 1200
theorem Short.zero (ds : List (List Int)) : Short ds 0 := fun j h => by omega
theorem Short.succ {ds : List (List Int)} {n : Nat} (h : Short ds n) (hn : (ds.getD n default).length ≤ 1200) : Short ds (n + 1) := fun j hj => by
  rcases Nat.lt_or_ge j n with h' | h'
  · exact h j h'
  · obtain rfl : j = n := by omega
    exact hn
theorem aM_ok {ds : List (List Int)} {i n k m : Nat} (h : Short ds k) (hin : i + n ≤ k) (hk : k ≤ 100) (hm : m ≤ 300) (last : Int) (hl : 0 ≤ last ∧ last ≤ 1000) : OkD (aM ds i n ++ eM k m) last := by
  refine ⟨by rw [List.length_append, aM_len, eM_len]; omega, fun d hd => ?_, by omega, by omega⟩
  rcases List.mem_append.1 hd with hd | hd
  · simp only [aM, List.mem_map, List.mem_range'_1] at hd
    obtain ⟨j, hj, rfl⟩ := hd
    have := h j (by omega)
    simp only [aD]; omega
  · simp only [eM, List.mem_map, List.mem_range] at hd
    obtain ⟨j, _, rfl⟩ := hd
    simp
theorem aM_send {ds : List (List Int)} {n : Nat} (hn : n < 100) (h : (ds.getD n default).length ≤ 1200) : sendN (aM ds 0 n) n a11 a11 (ds.getD n default) = (((n : Int) + 1, 0), aM ds 0 (n + 1), (n : Int) + 1) := by
  unfold sendN putN
  rw [if_pos ⟨rfl, rfl, h⟩, aM_len, if_pos (by omega)]
  have e : aM ds 0 (n + 1) = aM ds 0 n ++ [aD ds n] := by simp [aM, List.range'_concat]
  rw [e]
  rfl
theorem eM_send {ds : List (List Int)} {k m : Nat} (hk : k ≤ 100) (hm : m < 100) : sendN (aM ds 0 k ++ eM k m) ((k : Int) + (m : Int)) a11 a11 [] = (((k : Int) + (m : Int) + 1, 0), aM ds 0 k ++ eM k (m + 1), (k : Int) + (m : Int) + 1) := by
  unfold sendN putN
  rw [if_pos ⟨rfl, rfl, by simp⟩, List.length_append, aM_len, eM_len, if_pos (by omega)]
  have e : eM k (m + 1) = eM k m ++ [⟨(k : Int) + (m : Int) + 1, a11, a11, []⟩] := by simp [eM, List.range_succ]
  rw [e, List.append_assoc]
theorem aM_take {ds : List (List Int)} {i n k m : Nat} (hi : i + (n + 1) = k) : takeN (aM ds i (n + 1) ++ eM k m) ((i : Int) + 1) = ((aD ds i, 0), aM ds (i + 1) n ++ eM k m) := by
  have e : aM ds i (n + 1) = aD ds i :: aM ds (i + 1) n := by simp [aM, List.range'_succ]
  have hf : findN (aM ds i (n + 1) ++ eM k m) ((i : Int) + 1) = some 0 := findN_hit (d := aD ds i) (by rw [e]; rfl) rfl (fun j hj => by omega)
  unfold takeN
  rw [hf, e]
  rfl

/-- a block that a Send doesn't turn -/
def Gd (V : World) (nb : Nat) (kv : Value) (L : List Md) (g : Nat) : Prop := (∃ C t, V.heap[g]? = some (.cells C t (0, 0)) ∧ t ≠ 43 ∧ t ≠ 59) ∨ (g < V.heap.size ∧ ¬ FootN nb kv L g)
/-- a net stands; objects are held; and these blocks are as they were at W0 -/
structure Pg (w0 : World) (nb : Nat) (last : Int) (M : List Dg) (os : List (Nat × Obj)) (gs : List Nat) (W0 V : World) : Prop where
  bo : ∃ kv L, Na V 59 nb last kv L ∧ L.map Md.d = M ∧ (∀ k, FootN nb kv L k → w0.heap.size ≤ k) ∧ (∀ p ∈ os, ¬ FootN nb kv L p.1) ∧ ∀ g ∈ gs, Gd V nb kv L g
  held : ∀ p ∈ os, V.heap[p.1]? = some p.2
  low : Below w0.heap.size w0 V
  same : ∀ g ∈ gs, V.heap[g]? = W0.heap[g]?
  size : W0.heap.size ≤ V.heap.size
section
variable {w0 W0 V V' : World} {nb : Nat} {last last' : Int} {M M' : List Dg} {os : List (Nat × Obj)} {gs : List Nat}
theorem Pg.pn (h : Pg w0 nb last M os gs W0 V) : Pn w0 nb last M os V := by
  obtain ⟨kv, L, h1, h2, h3, h4, h5⟩ := h.bo
  exact ⟨⟨kv, L, h1, h2, h3, h4⟩, h.held, h.low⟩
theorem Gd.lt {kv : Value} {L : List Md} {g : Nat} (h : Gd V nb kv L g) : g < V.heap.size := by
  rcases h with ⟨C, t, e, _⟩ | ⟨h, _⟩
  · exact (Array.getElem?_eq_some_iff.1 e).1
  · exact h
theorem Gd.top {kv : Value} {L : List Md} {g : Nat} (hn : Na V 59 nb last kv L) (h : Gd V nb kv L g) : ¬ Top nb kv g := by
  rcases h with ⟨C, t, e, h1, h2⟩ | ⟨_, h⟩
  · rintro (rfl | h3)
    · exact clash hn.top e (Ne.symm h2)
    · obtain ⟨C', e'⟩ := own_obj hn.row h3
      exact clash e' e (Ne.symm h1)
  · exact fun h3 => h (.inl h3)
theorem Pg.below (h : Pg w0 nb last M os gs W0 V) (hb : Below V.heap.size V V') : Pg w0 nb last M os gs W0 V' := by
  obtain ⟨kv, L, h1, h2, h3, h4, h5⟩ := h.bo
  refine ⟨⟨kv, L, h1.below hb, h2, h3, h4, fun g hg => ?_⟩, fun p hp => (hb.block _ (h.pn.lt hp)).trans (h.held p hp), h.low.trans (hb.mono h.low.size), fun g hg => (hb.block g (h5 g hg).lt).trans (h.same g hg), Nat.le_trans h.size hb.size⟩
  rcases h5 g hg with ⟨C, t, e, h6⟩ | ⟨h6, h7⟩
  · exact .inl ⟨C, t, (hb.block g (Array.getElem?_eq_some_iff.1 e).1).trans e, h6⟩
  · exact .inr ⟨Nat.lt_of_lt_of_le h6 hb.size, h7⟩
/-- a block that is none of the net's, nor kept, is turned: what is held of it is forgotten, and the rest stands -/
theorem Pg.turned {S : Nat → Prop} (h : Pg w0 nb last M os gs W0 V) (hk : Keeps S V V') (h1 : ∀ k, S k → w0.heap.size ≤ k) (h2 : ∀ kv L, Na V 59 nb last kv L → (∀ p ∈ os, ¬ FootN nb kv L p.1) → ∀ k, FootN nb kv L k → ¬ S k) (h3 : ∀ g ∈ gs, ¬ S g) (os' : List (Nat × Obj)) (h4 : ∀ p ∈ os', (p ∈ os ∧ ¬ S p.1) ∨ (V'.heap[p.1]? = some p.2 ∧ ∃ q ∈ os, q.1 = p.1)) :
    Pg w0 nb last M os' gs W0 V' := by
  obtain ⟨kv, L, k1, k2, k3, k4, k5⟩ := h.bo
  refine ⟨⟨kv, L, k1.keeps hk (h2 kv L k1 k4), k2, k3, fun p hp => ?_, fun g hg => ?_⟩, fun p hp => ?_, h.low.trans (hk.below h1 h.low.size), fun g hg => (hk.block g (k5 g hg).lt (h3 g hg)).trans (h.same g hg), Nat.le_trans h.size hk.size⟩
  · rcases h4 p hp with ⟨h5, _⟩ | ⟨_, q, hq, e⟩
    · exact k4 p h5
    · rw [← e]; exact k4 q hq
  · rcases k5 g hg with ⟨C, t, e, h6⟩ | ⟨h6, h7⟩
    · exact .inl ⟨C, t, (hk.block g (Array.getElem?_eq_some_iff.1 e).1 (h3 g hg)).trans e, h6⟩
    · exact .inr ⟨Nat.lt_of_lt_of_le h6 hk.size, h7⟩
  · rcases h4 p hp with ⟨h5, h6⟩ | ⟨h5, _⟩
    · exact (hk.block _ (h.pn.lt h5) h6).trans (h.held p h5)
    · exact h5
theorem Pg.sub {os' : List (Nat × Obj)} (h : Pg w0 nb last M os gs W0 V) (hs : ∀ p ∈ os', p ∈ os) : Pg w0 nb last M os' gs W0 V := by
  obtain ⟨kv, L, h1, h2, h3, h4, h5⟩ := h.bo
  exact ⟨⟨kv, L, h1, h2, h3, fun p hp => h4 p (hs p hp), h5⟩, fun p hp => h.held p (hs p hp), h.low, h.same, h.size⟩
/-- a held block's cell is turned -/
theorem Pg.store {b j : Nat} {C : Array Value} {t : TypeId} {v : Value} (h : Pg w0 nb last M ((b, Obj.cells C t (0, 0)) :: os) gs W0 V) (ho : ∀ p ∈ os, p.1 ≠ b) (hb : w0.heap.size ≤ b) (hg : b ∉ gs) :
    Pg w0 nb last M ((b, Obj.cells (C.setIfInBounds j v) t (0, 0)) :: os) gs W0 (V.setCell ⟨b, j, none⟩ v) := by
  refine h.turned (S := fun k => k = b) (Keeps.set (S := fun k => k = b) (Keeps.refl _ _) b j v rfl) (fun k e => by rw [e]; exact hb) (fun kv L _ hf k hk e => by subst e; exact hf _ List.mem_cons_self hk) (fun g hgs e => hg (e ▸ hgs)) _ (fun p hp => ?_)
  rcases List.mem_cons.1 hp with rfl | hp
  · exact .inr ⟨heap_setCell_same V b j C t v (h.held (b, Obj.cells C t (0, 0)) (by simp)), _, List.mem_cons_self, rfl⟩
  · exact .inl ⟨List.mem_cons_of_mem _ hp, ho p hp⟩
/-- a block just laid is held -/
theorem Pg.fresh {g : Nat} {o : Obj} (h : Pg w0 nb last M os gs W0 V) (hb : Below V.heap.size V V') (hg : V'.heap[g]? = some o) (hge : V.heap.size ≤ g) : Pg w0 nb last M ((g, o) :: os) gs W0 V' := by
  have h2 := h.below hb
  obtain ⟨kv, L, h1, h3, h4, h5, h6⟩ := h.bo
  obtain ⟨kv2, L2, k1, k3, k4, k5, k6⟩ := h2.bo
  refine ⟨⟨kv, L, h1.below hb, h3, h4, fun p hp => ?_, fun g' hg' => ?_⟩, fun p hp => ?_, h2.low, h2.same, h2.size⟩
  · rcases List.mem_cons.1 hp with rfl | hp
    · exact fun hf => by have := h1.foot_lt hf; simp only at this; omega
    · exact h5 p hp
  · rcases h6 g' hg' with ⟨C, t, e, h7⟩ | ⟨h7, h8⟩
    · exact .inl ⟨C, t, (hb.block g' (Array.getElem?_eq_some_iff.1 e).1).trans e, h7⟩
    · exact .inr ⟨Nat.lt_of_lt_of_le h7 hb.size, h8⟩
  · rcases List.mem_cons.1 hp with rfl | hp
    · exact hg
    · exact h2.held p hp
/-- what is no cells is turned -/
theorem Pg.put {d : Nat} {o o' : Obj} (h : Pg w0 nb last M os gs W0 V) (hd : V.heap[d]? = some o') (ho : o'.isCells = false) (hdw : w0.heap.size ≤ d) (hos : ∀ p ∈ os, p.1 ≠ d) (hgs : d ∉ gs) : Pg w0 nb last M os gs W0 (V.putObj d o) := by
  have hg := grownBy_putObj' V d o
  refine h.turned (S := fun k => k = d) ⟨hg.os, hg.tape, hg.output, hg.size, fun k hk hn => hg.block k hk (fun e => hn (by cases e; rfl))⟩ (fun k e => by rw [e]; exact hdw) (fun kv L h1 _ k hk e => ?_) (fun g hgs' e => hgs (e ▸ hgs')) os (fun p hp => .inl ⟨hp, hos p hp⟩)
  subst e
  have : ∃ C t, V.heap[k]? = some (.cells C t (0, 0)) := by
    rcases hk with (rfl | hk) | ⟨m, hm, hk⟩
    · exact ⟨_, _, h1.top⟩
    · obtain ⟨C, e⟩ := own_obj h1.row hk; exact ⟨C, _, e⟩
    · obtain ⟨C, e⟩ := own_obj (h1.mds m hm).row hk; exact ⟨C, _, e⟩
  obtain ⟨C, t, e⟩ := this
  rw [hd] at e
  cases e
  cases ho
theorem send_g (h : Pg w0 nb last M os gs W0 V) (hM : OkD M last) (f t : A2) (hf : isA f) (ht : isA t) (A : Option Addr) (n c : Nat) (b : List Int) (hb : Bts V A n b) (hnil : A = none → n = 0 ∧ c = 0) (hn : n ≤ 1000000) :
    Calls Try.prog 10 #[.pointer (some ⟨nb, 0, none⟩), adr f, adr t, .slice A n c] V fun e V' => e = .returned (twoV (sendN M last f t b).1) ∧ Pg w0 nb (sendN M last f t b).2.2 (sendN M last f t b).2.1 os gs W0 V' ∧ ∃ kv, (∀ g ∈ gs, ¬ Top nb kv g) ∧ (∀ p ∈ os, ¬ Top nb kv p.1) ∧ Keeps (Top nb kv) V V' ∧ (∀ k, Top nb kv k → ∃ C t, V.heap[k]? = some (.cells C t (0, 0))) := by
  obtain ⟨kv, L, h1, h2, h3, h4, h5⟩ := h.bo
  subst h2
  refine (send_n h1 f t hf ht A n c b hb hnil hn hM.lo hM.hi (OkD.ofL (kv := kv) hM).1).mono fun e V' hr => ?_
  obtain ⟨e1, kv', L', hm, hL⟩ := hr
  have hp := h.pn.moved (e := e) h3 h4 hm hL
  refine ⟨e1, ⟨⟨kv', L', hm.na, hL, fun k hk => (hm.foot k hk).elim (h3 k) (fun e => Nat.le_trans h.low.size e), fun p hp hf => (hm.foot _ hf).elim (h4 p hp) (fun e => by have := h.pn.lt hp; omega), fun g hg => ?_⟩, hp.held, hp.low, fun g hg => (hm.keeps.block g (h5 g hg).lt ((h5 g hg).top h1)).trans (h.same g hg), Nat.le_trans h.size hm.keeps.size⟩,
    kv, fun g hg => (h5 g hg).top h1, fun p hp hf => h4 p hp (.inl hf), hm.keeps, fun k hk => ?_⟩
  · rcases h5 g hg with ⟨C, t, e, h6⟩ | ⟨h6, h7⟩
    · exact .inl ⟨C, t, (hm.keeps.block g (Array.getElem?_eq_some_iff.1 e).1 ((h5 g hg).top h1)).trans e, h6⟩
    · refine .inr ⟨Nat.lt_of_lt_of_le h6 hm.keeps.size, fun hf => ?_⟩
      rcases hm.foot g hf with h8 | h8
      · exact h7 h8
      · omega
  · rcases hk with rfl | hk
    · exact ⟨_, _, h1.top⟩
    · obtain ⟨C, e⟩ := own_obj h1.row hk; exact ⟨C, _, e⟩
/-- All: the iterator, and the blocks that it keeps -/
theorem all_p (h : Pn w0 nb last M os V) (hM : OkD M last) :
    Calls Try.prog 19 #[.pointer (some ⟨nb, 0, none⟩)] V fun e V' => ∃ b2 kv2 L, e = .returned (.func (.func 32) #[] #[.pointer (some ⟨b2, 0, none⟩)]) ∧ L.map Md.d = M ∧ Snp V' b2 kv2 L ∧ Pg w0 nb last M os (blks b2 kv2 L) V' V' ∧ (∀ p ∈ os, p.1 ∉ blks b2 kv2 L) ∧ Below V.heap.size V V' := by
  obtain ⟨kv, L, h1, h2, h3, h4⟩ := h.bo
  subst h2
  refine (all_n h1 (OkD.ofL (kv := kv) hM).1).mono fun e V' hr => ?_
  obtain ⟨b2, kv2, rfl, hS, hb2, hkv2, hB, C, hC⟩ := hr
  have h1' := h1.below hB
  have hp := h.below hB
  refine ⟨b2, kv2, L, rfl, rfl, hS, ⟨⟨kv, L, h1', rfl, h3, h4, ?_⟩, hp.held, hp.low, fun _ _ => rfl, Nat.le_refl _⟩, fun p hp' hg => ?_, hB⟩
  · refine blks_all ?_ (fun g hg => ?_) (fun m hm g hg => ?_)
    · exact .inl ⟨C, _, hC, by decide, by decide⟩
    · obtain ⟨C', e⟩ := own_obj hS.row hg
      refine .inr ⟨(Array.getElem?_eq_some_iff.1 e).1, fun hf => ?_⟩
      have := h1.foot_lt hf
      have := hkv2 g hg
      omega
    · obtain ⟨C', e⟩ := own_obj (h1'.mds m hm).row hg
      exact .inl ⟨C', _, e, by decide, by decide⟩
  · have hl := h.lt hp'
    refine absurd hg (fun hg => blks_all (b2 := b2) (kv := kv2) (L := L) (p := fun g => g ≠ p.1) (by omega) (fun g hg e => by have := hkv2 g hg; omega) (fun m hm g hg e => h4 p hp' (.inr ⟨m, hm, by rw [← e]; exact hg⟩)) _ hg rfl)
/-- .. as the loop's own records grow -/
theorem Pg.own {row : Option Nat} (h : Pg w0 nb last M os gs W0 V) (hg : V.grownBy V' row) (hr : ∀ r, row = some r → W0.heap.size ≤ r ∧ ∃ o, V.heap[r]? = some o ∧ o.isCells = false) (hos : ∀ p ∈ os, p.1 < W0.heap.size) (hgs : ∀ g ∈ gs, g < W0.heap.size) (hw : w0.heap.size ≤ W0.heap.size) : Pg w0 nb last M os gs W0 V' := by
  refine h.turned (S := fun k => row = some k) ⟨hg.os, hg.tape, hg.output, hg.size, fun k hk hn => hg.block k hk (fun e => hn (by rw [← e]))⟩ (fun k e => Nat.le_trans hw (hr k e).1) (fun kv L h1 _ k hk e => ?_) (fun g hg e => by have := hgs g hg; have := (hr g e).1; omega) os (fun p hp => .inl ⟨hp, fun e => by have := hos p hp; have := (hr _ e).1; omega⟩)
  obtain ⟨_, o, e1, e2⟩ := hr k e
  have : ∃ C t, V.heap[k]? = some (.cells C t (0, 0)) := by
    rcases hk with (rfl | hk) | ⟨m, hm, hk⟩
    · exact ⟨_, _, h1.top⟩
    · obtain ⟨C, e⟩ := own_obj h1.row hk; exact ⟨C, _, e⟩
    · obtain ⟨C, e⟩ := own_obj (h1.mds m hm).row hk; exact ⟨C, _, e⟩
  obtain ⟨C, t, e3⟩ := this
  rw [e3] at e1
  cases e1
  cases e2
end
theorem Kept.keeps {S : Nat → Prop} {gs : List Nat} {B : Nat} {V V' : World} (hk : Keeps S V V') (hl : ∀ g ∈ gs, g < V.heap.size) (hgs : ∀ g ∈ gs, ¬ S g) (hc : ∀ k, S k → k < V.heap.size → ∃ o, V.heap[k]? = some o ∧ o.isCells = true) : Kept gs false B V V' :=
  ⟨hk.size, fun g hg => hk.block g (hl g hg) (hgs g hg), fun k o _ h2 h3 => (hk.block k (Array.getElem?_eq_some_iff.1 h2).1 (fun hS => by
    obtain ⟨o', h5, h6⟩ := hc k hS (Array.getElem?_eq_some_iff.1 h2).1
    rw [h2] at h5; cases h5
    rcases h3 with h3 | h3
    · cases h3
    · rw [h6] at h3; cases h3)).trans h2⟩
theorem Kept.of_below {gs : List Nat} {B : Nat} {V V' : World} (hb : Below V.heap.size V V') (hl : ∀ g ∈ gs, g < V.heap.size) : Kept gs false B V V' :=
  ⟨hb.size, fun g hg => hb.block g (hl g hg), fun k o _ h2 _ => (hb.block k (Array.getElem?_eq_some_iff.1 h2).1).trans h2⟩
/-- the bytes that are handed over, held -/
def OwnZ (A : Option Addr) (n : Nat) (w0 : Nat) (gs : List Nat) (ro os9 : List (Nat × Obj)) : Prop := 0 < n → ∃ g C, A = some ⟨g, 0, none⟩ ∧ os9 = [(g, .cells C 5 (0, 0))] ∧ w0 ≤ g ∧ g ∉ gs ∧ (∀ p ∈ ro, p.1 ≠ g) ∧ ∀ x, x < n → ∃ z, C[x]? = some (.int .u8 z)
theorem Pg.handed {w0 W0 V0 V1 : World} {nb : Nat} {last : Int} {M : List Dg} {os : List (Nat × Obj)} {gs : List Nat} {L : List Md} {pre : List Md} {z : Md} {d g : Nat} {o o' : Obj} (h : Pg w0 nb last M os gs W0 V0) (hb : Below V0.heap.size V0 V1) (hok : OkM L pre z V0 V1)
    (hd : V1.heap[d]? = some o') (ho : o'.isCells = false) (hBd : W0.heap.size ≤ d) (hos : ∀ p ∈ os, p.1 < W0.heap.size) (hgs : ∀ g ∈ gs, g < W0.heap.size) (hw : w0.heap.size ≤ W0.heap.size) (hg : V1.heap.size = g) (cs : Array Value) (t : TypeId) :
    ∃ os9, Pg w0 nb last M (os9 ++ (g, .cells cs t (0, 0)) :: os) gs W0 ((V1.alloc (.cells cs t)).putObj d o) ∧ OwnZ z.A z.d.b.length w0.heap.size gs ((g, .cells cs t (0, 0)) :: os) os9 ∧ W0.heap.size ≤ g ∧ ∀ p ∈ os, p.1 ≠ g := by
  subst hg
  have hdl := (Array.getElem?_eq_some_iff.1 hd).1
  have hWV : W0.heap.size ≤ V1.heap.size := Nat.le_trans h.size hb.size
  have hd2 : (V1.alloc (.cells cs t)).heap[d]? = some o' := (Below.heap_alloc _ _ _ hdl).trans hd
  have hbx : Below V1.heap.size V1 (V1.alloc (.cells cs t)) := (Below.refl _ _).alloc (Nat.le_refl _) _
  refine (fun ⟨os9, a, b⟩ => ⟨os9, a, b, hWV, fun p hp => by have := hos p hp; omega⟩ : (∃ os9, Pg w0 nb last M (os9 ++ (V1.heap.size, .cells cs t (0, 0)) :: os) gs W0 ((V1.alloc (.cells cs t)).putObj d o) ∧ OwnZ z.A z.d.b.length w0.heap.size gs ((V1.heap.size, .cells cs t (0, 0)) :: os) os9) → _) ?_
  rcases hok.2.1.row.2 with ⟨e1, e2⟩ | ⟨g, cap, cur, e1, e2, e3, e4, e5, e6, e7⟩
  · exact ⟨[], ((h.below hb).fresh hbx (World.alloc_heap_new V1 _) (Nat.le_refl _)).put hd2 ho (Nat.le_trans hw hBd) (fun p hp => by
      rcases List.mem_cons.1 hp with rfl | hp
      · simp only; omega
      · have := hos p hp; omega) (fun hg => by have := hgs _ hg; omega), fun h => by omega⟩
  · have hge := hok.2.2 g (by rw [e1]; rfl)
    have hgW : W0.heap.size ≤ g := Nat.le_trans h.size hge
    have hdg : d ≠ g := fun e => by rw [e, e3] at hd; cases hd; cases ho
    have hgl := (Array.getElem?_eq_some_iff.1 e3).1
    refine ⟨[(g, .cells cur 5 (0, 0))], Pg.sub ((((h.fresh hb e3 hge)).fresh hbx (World.alloc_heap_new V1 _) (Nat.le_refl _)).put hd2 ho (Nat.le_trans hw hBd) (fun p hp => ?_) (fun hg => by have := hgs _ hg; omega)) (fun p hp => ?_), fun hpos => ⟨g, cur, ?_, rfl, Nat.le_trans hw hgW, fun hg => by have := hgs _ hg; omega, fun p hp => ?_, fun x hx => ?_⟩⟩
    · rcases List.mem_cons.1 hp with rfl | hp
      · simp only; omega
      · rcases List.mem_cons.1 hp with rfl | hp
        · exact fun e => hdg e.symm
        · have := hos p hp; omega
    · simp only [List.cons_append, List.nil_append, List.mem_cons] at hp ⊢
      rcases hp with h | h | h
      · exact .inr (.inl h)
      · exact .inl h
      · exact .inr (.inr h)
    · unfold Md.v at e1
      simp only [Value.slice.injEq] at e1
      exact e1.1
    · rcases List.mem_cons.1 hp with rfl | hp
      · simp only; omega
      · have := hos p hp; omega
    · have h2 := B_at z.d.b x hx
      rw [← e7, List.getElem?_take_of_lt (by omega)] at h2
      exact ⟨_, by simpa using h2⟩
theorem foot_kindA {V : World} {nb : Nat} {last : Int} {kv : Value} {L : List Md} (h : Na V 59 nb last kv L) {k : Nat} (hk : FootN nb kv L k) : ∃ C t, V.heap[k]? = some (.cells C t (0, 0)) ∧ t ≠ 3 := by
  rcases hk with (rfl | hk) | ⟨m, hm, hk⟩
  · exact ⟨_, _, h.top, by decide⟩
  · obtain ⟨C, e⟩ := own_obj h.row hk; exact ⟨C, _, e, by decide⟩
  · obtain ⟨C, e⟩ := own_obj (h.mds m hm).row hk; exact ⟨C, _, e, by decide⟩
end Go.Proofs.Ythfdnidcmkjmoaa
