/-
  What NetOnce's walk is told: a net that stands, and beside it a row of numbers, which is one's own; the net of a datagram and its copies, and of others. Conditions: as each states.
-/
import Derived.Test.YthfdnidcmkjmoaaNa
namespace Go.Proofs.Ythfdnidcmkjmoaa
open Go.RowKit
set_option linter.unusedVariables false

def intsV (ps : List Int) : List Value := ps.map (Value.int .i64)
section
variable {w0 V V' : World} {nb : Nat} {last last' : Int} {M M' : List Dg} {os : List (Nat × Obj)} {sv : Value} {ps : List Int}
/-- a net, and a row of numbers, whose block is none of those held -/
structure Pq (w0 : World) (nb : Nat) (last : Int) (M : List Dg) (os : List (Nat × Obj)) (sv : Value) (ps : List Int) (V : World) : Prop where
  pl : Pn w0 nb last M os V
  row : V.ownsRow w0.heap.size 3 1 sv ps.length (intsV ps)
  own : ∀ p ∈ os, ¬ sv.ownBlock = some p.1
theorem foot_kind {kv : Value} {L : List Md} (h : Na V 59 nb last kv L) {k : Nat} (hk : FootN nb kv L k) : ∃ C t, V.heap[k]? = some (.cells C t (0, 0)) ∧ t ≠ 3 := by
  rcases hk with (rfl | hk) | ⟨m, hm, hk⟩
  · exact ⟨_, _, h.top, by decide⟩
  · obtain ⟨C, e⟩ := own_obj h.row hk; exact ⟨C, _, e, by decide⟩
  · obtain ⟨C, e⟩ := own_obj (h.mds m hm).row hk; exact ⟨C, _, e, by decide⟩
theorem Pn.keep3 {S : Nat → Prop} (h : Pn w0 nb last M os V) (hk : Keeps S V V') (h3 : ∀ k, S k → ∃ C, V.heap[k]? = some (.cells C 3 (0, 0))) (ho : ∀ p ∈ os, ¬ S p.1) (hb : ∀ k, S k → w0.heap.size ≤ k) : Pn w0 nb last M os V' := by
  obtain ⟨kv, L, h1, h2, h4, h5⟩ := h.bo
  refine ⟨⟨kv, L, h1.keeps hk (fun k hf hs => ?_), h2, h4, h5⟩, fun p hp => (hk.block _ (h.lt hp) (ho p hp)).trans (h.held p hp), h.low.trans (hk.below hb h.low.size)⟩
  obtain ⟨C, t, e1, e2⟩ := foot_kind h1 hf
  obtain ⟨C', e3⟩ := h3 k hs
  rw [e1] at e3
  simp only [Option.some.injEq, Obj.cells.injEq] at e3
  exact e2 e3.2.1
theorem Pq.below (h : Pq w0 nb last M os sv ps V) (hb : Below V.heap.size V V') : Pq w0 nb last M os sv ps V' :=
  ⟨h.pl.below hb, own_at h.row (fun g hg => by obtain ⟨C, e⟩ := own_obj h.row hg; exact hb.block g (Array.getElem?_eq_some_iff.1 e).1), h.own⟩
/-- with its row among what is held -/
theorem Pq.held (h : Pq w0 nb last M os sv ps V) {g : Nat} {C : Array Value} (hg : V.heap[g]? = some (.cells C 3 (0, 0))) : Pn w0 nb last M ((g, .cells C 3 (0, 0)) :: os) V :=
  h.pl.hold hg (fun kv L h1 _ _ hf => by
    obtain ⟨C', t, e1, e2⟩ := foot_kind h1 hf
    rw [hg] at e1
    simp only [Option.some.injEq, Obj.cells.injEq] at e1
    exact e2 e1.2.1.symm)
theorem copy_q (h : Pq w0 nb last M os sv ps V) (hM : OkD M last) (no : Int) :
    Calls Try.prog 12 #[.pointer (some ⟨nb, 0, none⟩), .int .i64 no] V fun e V' => e = .returned (twoV (copyN M last no).1) ∧ Pq w0 nb (copyN M last no).2.2 (copyN M last no).2.1 os sv ps V' := by
  rcases h.row.2 with ⟨e1, e2⟩ | ⟨g, cap, cur, e1, e2, e3, e4⟩
  · exact (copy_p h.pl hM no).mono fun e V' hr => ⟨hr.1, hr.2, ⟨h.row.1, .inl ⟨e1, e2⟩⟩, h.own⟩
  · refine (copy_p (h.held e3) hM no).mono fun e V' hr => ⟨hr.1, hr.2.sub (fun p hp => List.mem_cons_of_mem _ hp), ?_, h.own⟩
    exact ⟨h.row.1, .inr ⟨g, cap, cur, e1, e2, hr.2.held (g, .cells cur 3 (0, 0)) (by simp), e4⟩⟩
theorem info3 : (Try.prog.info? 3).map (fun i => (i.zero, i.size, i.bytes)) = some (some (.int .i64 0), 1, 8) := by kernel_rfl
theorem app_q (h : Pq w0 nb last M os sv ps V) (p : Int) (hl : ps.length ≤ 1000) :
    ∃ sv' V', (∀ ty, (Builtin.append_ #[51, 51] ty #[sv, .slice (some ⟨V.heap.size, 0, none⟩) 1 1]).run Try.prog (V.alloc (.cells #[.int .i64 p] 3)) = .ok sv' V') ∧ (∃ A c, sv' = .slice A (ps ++ [p]).length c) ∧ Pq w0 nb last M os sv' (ps ++ [p]) V' := by
  obtain ⟨i0, hi0, hz0, hz1, hz2⟩ := info_parts info3
  have h1 := h.below ((Below.refl _ V).alloc (Nat.le_refl _) (.cells #[.int .i64 p] 3))
  have hB : w0.heap.size ≤ V.heap.size := h.pl.low.size
  have hc : ∀ j u, [Value.int .i64 p][j]? = some u → (V.alloc (.cells #[.int .i64 p] 3)).cell? ((⟨V.heap.size, 0, none⟩ : Addr).add j) = some u := by
    intro j u hj
    rw [addG_at, Nat.zero_add, (cells_of (World.alloc_heap_new V _) j).1]
    simpa using hj
  have hrun := fun ty => run_append_own_at (P := Try.prog) (V.alloc (.cells #[.int .i64 p] 3)) w0.heap.size 51 ty 3 i0 _ 1 8 Try.underlying51 hi0 hz0 hz1 hz2 rfl (by decide) sv ps.length (intsV ps) h1.row ⟨V.heap.size, 0, none⟩ 1 1 [Value.int .i64 p] rfl hc (by simp [Value.oneCell']) (by unfold maxLen; omega) (by omega) (by simp; omega)
  obtain ⟨v', w', r0, r1, r2, r3, r4⟩ := hrun 51
  have hr1 : w'.ownsRow w0.heap.size 3 1 v' (ps ++ [p]).length (intsV (ps ++ [p])) := by
    have e1 : intsV (ps ++ [p]) = intsV ps ++ [Value.int .i64 p] := by simp [intsV]
    rw [List.length_append, e1]; exact r1
  refine ⟨v', w', fun ty => ?_, ?_, ?_, hr1, fun q hq e => ?_⟩
  · rw [← r0]; rfl
  · rcases hr1.2 with ⟨e, e0⟩ | ⟨g, cap, cur, e, _⟩
    · rw [e0]; exact ⟨_, _, e⟩
    · exact ⟨_, _, e⟩
  · exact Pn.keep3 (S := fun k => sv.ownBlock = some k) h1.pl ⟨r2.os, r2.tape, r2.output, r2.size, fun k hk hn => r2.block k hk (fun e => hn (by rw [← e]))⟩ (fun k hk => own_obj h1.row hk) (fun q hq => h1.own q hq) (fun k hk => (h1.row.lt k hk).1)
  · rcases r4 with r4 | r4
    · rw [r4] at e; exact h.own q hq e
    · rw [r4] at e
      simp only [Option.some.injEq] at e
      have := h.pl.lt hq
      simp at e
      omega
/-- a literal row of one number -/
theorem Pq.lit (h : Pn w0 nb last M os V) (p : Int) {k : Nat} (hk : k = V.heap.size) : Pq w0 nb last M os (.slice (some ⟨k, 0, none⟩) 1 1) [p] (V.alloc (.cells #[.int .i64 p] 3)) := by
  subst hk
  refine ⟨h.alloc _, World.ownsRow_lit V #[.int .i64 p] 1 h.low.size (by unfold maxLen; omega) rfl, fun q hq e => ?_⟩
  have := h.lt hq
  simp [Value.ownBlock] at e
  omega
/-- the row held, and read -/
theorem Pq.fix (h : Pq w0 nb last M os sv ps V) : ∃ A c os1, sv = .slice A ps.length c ∧ ps.length ≤ c ∧ c ≤ maxLen ∧ Pn w0 nb last M (os1 ++ os) V ∧ (∀ q ∈ os1, sv.ownBlock = some q.1) ∧ ∀ j p, ps[j]? = some p → ∃ g, A = some ⟨g, 0, none⟩ ∧ ∀ W : World, (∀ q ∈ os1, W.heap[q.1]? = some q.2) → W.cell? ⟨g, j, none⟩ = some (.int .i64 p) ∧ g < W.heap.size := by
  rcases h.row.2 with ⟨e1, e2⟩ | ⟨g, cap, cur, e1, e2, e3, e4, e5, e6, e7⟩
  · have : ps = [] := List.eq_nil_of_length_eq_zero e2
    subst this
    exact ⟨none, 0, [], e1, Nat.le_refl _, Nat.zero_le _, h.pl, by simp, fun j p hj => by simp at hj⟩
  · refine ⟨_, cap, [(g, .cells cur 3 (0, 0))], e1, e4, e5, h.held e3, by intro q hq; simp at hq; subst hq; rw [e1]; rfl, fun j p hj => ⟨g, rfl, fun W hW => ?_⟩⟩
    have hg := hW (g, .cells cur 3 (0, 0)) (by simp)
    have hjl := (List.getElem?_eq_some_iff.1 hj).1
    refine ⟨?_, (Array.getElem?_eq_some_iff.1 hg).1⟩
    rw [(cells_of hg j).1]
    have h2 : (intsV ps)[j]? = some (.int .i64 p) := by unfold intsV; rw [List.getElem?_map, hj]; rfl
    rw [← e7, List.getElem?_take_of_lt (by omega)] at h2
    simpa using h2
end
theorem DnAt.below {w W : World} {b off : Nat} {d : Dn} (h : DnAt w b off d) (hb : Below w.heap.size w W) : DnAt W b off d := by
  obtain ⟨xs, ⟨u, rfl, h0, h1⟩, h3⟩ := h
  have hl := World.block_lt_of_cell? w _ ((h3 0 (by omega)).trans (by rfl))
  exact ⟨_, ⟨u, rfl, h0.below hb, h1⟩, fun i hi => (hb.cell (p := ⟨b, off + i, none⟩) hl).trans (h3 i hi)⟩
theorem IsDos.below {w W : World} {v : Value} {ds : List Dn} (h : IsDos w v ds) (hb : Below w.heap.size w W) : IsDos W v ds := by
  obtain ⟨A, c, rfl, h1, h2, h3⟩ := h
  refine ⟨A, c, rfl, h1, h2, fun h => ?_⟩
  obtain ⟨b, off, rfl, h4, h5⟩ := h3 h
  exact ⟨b, off, rfl, Nat.lt_of_lt_of_le h4 hb.size, fun j hj => (h5 j hj).below hb⟩
/-- a block laid since is held -/
theorem Pn.fresh {w0 V1 V2 : World} {nb : Nat} {last : Int} {M : List Dg} {os : List (Nat × Obj)} (h : Pn w0 nb last M os V1) (hb : Below V1.heap.size V1 V2) {g : Nat} {o : Obj} (hg : V2.heap[g]? = some o) (hge : V1.heap.size ≤ g) : Pn w0 nb last M ((g, o) :: os) V2 := by
  have h2 := h.below hb
  obtain ⟨kv, L, h1, h3, h4, h5⟩ := h.bo
  refine ⟨⟨kv, L, h1.below hb, h3, h4, fun p hp => ?_⟩, fun p hp => ?_, h2.low⟩
  · rcases List.mem_cons.1 hp with rfl | hp
    · exact fun hf => by have := h1.foot_lt hf; simp only at this; omega
    · exact h5 p hp
  · rcases List.mem_cons.1 hp with rfl | hp
    · exact hg
    · exact h2.held p hp
/-- one's own bytes, held: they can be read, and written over -/
def OwnB (w0 : World) (A : Option Addr) (b : List Int) (os1 : List (Nat × Obj)) : Prop :=
  (∀ W : World, (∀ p ∈ os1, W.heap[p.1]? = some p.2) → Bts W A b.length b) ∧ (0 < b.length → ∃ g C, A = some ⟨g, 0, none⟩ ∧ os1 = [(g, .cells C 5 (0, 0))] ∧ w0.heap.size ≤ g ∧ ∀ x, x < b.length → ∃ z, C[x]? = some (.int .u8 z))
theorem Pn.ownB {w0 V1 V2 : World} {nb : Nat} {last : Int} {M : List Dg} {os : List (Nat × Obj)} {A : Option Addr} {n c : Nat} {b : List Int} (h : Pn w0 nb last M os V1) (hb : Below V1.heap.size V1 V2) (hr : V2.ownsRow V1.heap.size 5 1 (.slice A n c) n (B b)) (hbd : ∀ z ∈ b, 0 ≤ z ∧ z ≤ 255) (hn : b.length = n) :
    ∃ os1, Pn w0 nb last M (os1 ++ os) V2 ∧ OwnB w0 A b os1 ∧ ∀ p ∈ os1, V1.heap.size ≤ p.1 := by
  subst hn
  rcases hr.2 with ⟨e1, e2⟩ | ⟨g, cap, cur, e1, e2, e3, e4, e5, e6, e7⟩
  · have : b = [] := List.eq_nil_of_length_eq_zero e2
    subst this
    exact ⟨[], h.below hb, ⟨fun W _ => ⟨rfl, by simp, fun h => by simp at h⟩, fun h => by simp at h⟩, by simp⟩
  · simp only [Value.slice.injEq] at e1
    obtain ⟨rfl, -, rfl⟩ := e1
    refine ⟨[(g, .cells cur 5 (0, 0))], h.fresh hb e3 e2, ⟨fun W hW => ?_, fun hpos => ⟨g, cur, rfl, rfl, Nat.le_trans h.low.size e2, fun x hx => ?_⟩⟩, by simpa using e2⟩
    · have hrow : W.ownsRow 0 5 1 (.slice (some ⟨g, 0, none⟩) b.length c) b.length (B b) := ⟨hr.1, .inr ⟨g, c, cur, rfl, Nat.zero_le _, hW (g, .cells cur 5 (0, 0)) (by simp), e4, e5, e6, e7⟩⟩
      obtain ⟨A', c', e8, -, -, h9⟩ := own_form hrow hbd
      simp only [Value.slice.injEq, true_and] at e8
      obtain ⟨e8, -⟩ := e8
      rw [← e8] at h9
      exact h9
    · have h2 := B_at b x hx
      rw [← e7, List.getElem?_take_of_lt (by omega)] at h2
      exact ⟨_, by simpa using h2⟩
/-- a Take, whose bytes are held -/
theorem take_q {w0 V : World} {nb : Nat} {last : Int} {M : List Dg} {os : List (Nat × Obj)} (h : Pn w0 nb last M os V) (hM : OkD M last) (no : Int) :
    Calls Try.prog 16 #[.pointer (some ⟨nb, 0, none⟩), .int .i64 no] V fun e V' => ∃ A c osb, e = .returned (takeV (takeN M no).1.1 (.slice A (takeN M no).1.1.b.length c) (takeN M no).1.2) ∧ Pn w0 nb last (takeN M no).2 (osb ++ os) V' ∧
      ∀ W : World, (∀ p ∈ osb, W.heap[p.1]? = some p.2) → Bts W A (takeN M no).1.1.b.length (takeN M no).1.1.b := by
  refine (take_p h hM no).mono fun e V' hr => ?_
  obtain ⟨v, e1, hp, hR, hB⟩ := hr
  obtain ⟨A, c, rfl, h1, h2, h3, h4⟩ := hR.parts
  rcases hR.2.1.2 with ⟨e2, e3⟩ | ⟨g, cap, cur, e2, e3, e4, e5, e6, e7, e8⟩
  · refine ⟨A, c, [], e1, hp, fun W _ => ?_⟩
    rw [List.eq_nil_of_length_eq_zero e3]
    exact ⟨rfl, by simp, fun h => by simp at h⟩
  · simp only [Value.slice.injEq] at e2
    obtain ⟨rfl, -, rfl⟩ := e2
    refine ⟨_, c, [(g, .cells cur 5 (0, 0))], e1, (hB g rfl).2 _ e4, fun W hW => ?_⟩
    have hrow : W.ownsRow 0 5 1 (.slice (some ⟨g, 0, none⟩) (takeN M no).1.1.b.length c) (takeN M no).1.1.b.length (B (takeN M no).1.1.b) := ⟨hR.2.1.1, .inr ⟨g, c, cur, rfl, Nat.zero_le _, hW (g, .cells cur 5 (0, 0)) (by simp), e5, e6, e7, e8⟩⟩
    obtain ⟨A', c', e9, -, -, h9⟩ := own_form hrow hR.2.2
    simp only [Value.slice.injEq, true_and] at e9
    obtain ⟨e9, -⟩ := e9
    rw [← e9] at h9
    exact h9
def a12 : A2 := (1, 2)
def a34 : A2 := (3, 4)
theorem a12_is : isA a12 := ⟨⟨by decide, by decide⟩, by decide, by decide⟩
theorem a34_is : isA a34 := ⟨⟨by decide, by decide⟩, by decide, by decide⟩
/-- a datagram, and its copies: those numbered from i on, n of them -/
def dgC (b : List Int) (j : Nat) : Dg := ⟨(j : Int) + 1, a12, a34, b⟩
def cM (b : List Int) (i n : Nat) : List Dg := (List.range' i n).map (dgC b)
def nos (n : Nat) : List Int := (List.range n).map fun (j : Nat) => (j : Int) + 1
theorem cM_len (b : List Int) (i n : Nat) : (cM b i n).length = n := by simp [cM]
theorem nos_len (n : Nat) : (nos n).length = n := by simp [nos]
theorem nos_at {n j : Nat} (h : j < n) : (nos n)[j]? = some ((j : Int) + 1) := by simp [nos, h]
theorem nos_succ (n : Nat) : nos (n + 1) = nos n ++ [(n : Int) + 1] := by simp [nos, List.range_succ]
theorem cM_ok {b : List Int} {n : Nat} (hb : b.length ≤ 1200) (hn : n ≤ 300) : OkD (cM b 0 n) n := ⟨by rw [cM_len]; omega, by intro d hd; simp [cM] at hd; obtain ⟨j, _, rfl⟩ := hd; simp [dgC]; omega, by omega, by omega⟩
theorem cM_first {b : List Int} (hb : b.length ≤ 1200) : sendN [] 0 a12 a34 b = ((1, 0), cM b 0 1, 1) := by
  unfold sendN putN
  rw [if_pos ⟨rfl, rfl, hb⟩]
  simp [cM, dgC]
theorem cM_copy {b : List Int} {n : Nat} (hn : 0 < n) (hn3 : n < 300) : copyN (cM b 0 n) n 1 = (((n : Int) + 1, 0), cM b 0 (n + 1), (n : Int) + 1) := by
  have hf : findN (cM b 0 n) 1 = some 0 := findN_hit (d := dgC b 0) (by simp [cM, hn]) rfl (fun j hj => by omega)
  unfold copyN
  rw [hf]
  have hg : (cM b 0 n).getD 0 default = dgC b 0 := by simp [cM, List.getD, hn]
  simp only [hg]
  unfold putN
  rw [cM_len, if_pos hn3]
  have e : cM b 0 (n + 1) = cM b 0 n ++ [dgC b n] := by simp [cM, List.range'_concat]
  rw [e]
  rfl
/-- the others -/
structure Oth (n k : Nat) (R : List Dg) (last : Int) : Prop where
  no : ∀ d ∈ R, (n : Int) < d.no
  sm : ∀ d ∈ R, d.b.length ≤ 1000000
  len : R.length ≤ k
  lo : (n : Int) ≤ last
  hi : last ≤ (n : Int) + k
theorem Oth.nil (n : Nat) : Oth n 0 [] n := ⟨by simp, by simp, by simp, by omega, by omega⟩
theorem Oth.ok {n k i : Nat} {R : List Dg} {last : Int} {b : List Int} (h : Oth n k R last) (hb : b.length ≤ 1200) (hn : n ≤ 100) (hk : k ≤ 800) (m : Nat) (hm : m ≤ 100) : OkD (cM b i m ++ R) last := by
  refine ⟨by rw [List.length_append, cM_len]; have := h.len; omega, fun d hd => ?_, by have := h.lo; omega, by have := h.hi; omega⟩
  rcases List.mem_append.1 hd with hd | hd
  · simp [cM] at hd; obtain ⟨j, _, rfl⟩ := hd; simp [dgC]; omega
  · exact h.sm d hd
theorem Oth.more {n k : Nat} {R : List Dg} {last : Int} (h : Oth n k R last) : Oth n (k + 1) R last := ⟨h.no, h.sm, by have := h.len; omega, h.lo, by have := h.hi; omega⟩
theorem Oth.mono {n k k' : Nat} {R : List Dg} {last : Int} (h : Oth n k R last) (hk : k ≤ k') : Oth n k' R last := ⟨h.no, h.sm, by have := h.len; omega, h.lo, by have := h.hi; omega⟩
theorem Oth.send {n k : Nat} {R : List Dg} {last : Int} {b : List Int} (h : Oth n k R last) (f t : A2) (z : List Int) (hz : z.length ≤ 1300) : ∃ R' last', (sendN (cM b 0 n ++ R) last f t z).2.1 = cM b 0 n ++ R' ∧ (sendN (cM b 0 n ++ R) last f t z).2.2 = last' ∧ Oth n (k + 1) R' last' := by
  unfold sendN putN
  split
  · split
    · refine ⟨R ++ [⟨last + 1, f, t, z⟩], last + 1, by simp, rfl, ?_⟩
      refine ⟨fun d hd => ?_, fun d hd => ?_, by rw [List.length_append]; have := h.len; simp; omega, by have := h.lo; omega, by have := h.hi; omega⟩
      · rcases List.mem_append.1 hd with hd | hd
        · exact h.no d hd
        · rw [List.mem_singleton.1 hd]; have := h.lo; simp only; omega
      · rcases List.mem_append.1 hd with hd | hd
        · exact h.sm d hd
        · rw [List.mem_singleton.1 hd]; simp only; omega
    · exact ⟨R, last, rfl, rfl, h.more⟩
  · exact ⟨R, last, rfl, rfl, h.more⟩
/-- the next copy is taken, and isn't there then -/
theorem cM_take {n k i m : Nat} {R : List Dg} {last : Int} {b : List Int} (h : Oth n k R last) (hi : i + (m + 1) = n) :
    takeN (cM b i (m + 1) ++ R) ((i : Int) + 1) = ((dgC b i, 0), cM b (i + 1) m ++ R) ∧ takeN (cM b (i + 1) m ++ R) ((i : Int) + 1) = ((default, 5), cM b (i + 1) m ++ R) := by
  have e : cM b i (m + 1) = dgC b i :: cM b (i + 1) m := by simp [cM, List.range'_succ]
  constructor
  · have hf : findN (cM b i (m + 1) ++ R) ((i : Int) + 1) = some 0 := findN_hit (d := dgC b i) (by rw [e]; rfl) rfl (fun j hj => by omega)
    unfold takeN
    rw [hf, e]
    rfl
  · have hf : findN (cM b (i + 1) m ++ R) ((i : Int) + 1) = none := findN_miss (fun j hj y hy => by
      rcases List.mem_append.1 (List.mem_of_getElem? hy) with hd | hd
      · simp [cM] at hd
        obtain ⟨q, hq, rfl⟩ := hd
        simp [dgC]; omega
      · have := h.no y hd
        omega)
    unfold takeN
    rw [hf]
/-- a net that is filled -/
theorem fill_send {M : List Dg} {last : Int} (h : M.length < 300) : sendN M last a12 a34 [] = ((last + 1, 0), M ++ [⟨last + 1, a12, a34, []⟩], last + 1) := by
  unfold sendN putN
  rw [if_pos ⟨rfl, rfl, by simp⟩, if_pos h]
theorem full_send {M : List Dg} {last : Int} (h : M.length = 300) : sendN M last a12 a34 [] = ((0, 10), M, last) := by
  unfold sendN putN
  rw [if_pos ⟨rfl, rfl, by simp⟩, if_neg (by omega)]
theorem full_copy {M : List Dg} {last : Int} (h : M.length = 300) : copyN M last (atN M 0) = ((0, 10), M, last) := by
  have h0 : 0 < M.length := by omega
  have hat : atN M 0 = M[0].no := by
    unfold atN
    rw [if_neg (by omega)]
    simp [List.getD, h0]
  have hf : findN M (atN M 0) = some 0 := findN_hit (d := M[0]) (List.getElem?_eq_getElem h0) hat.symm (fun j hj => by omega)
  unfold copyN
  rw [hf]
  unfold putN
  simp only
  rw [if_neg (by omega)]
end Go.Proofs.Ythfdnidcmkjmoaa
