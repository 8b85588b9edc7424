/-
  Words for NatBack: what the steps ahead leave, what Out then answers, who comes back in. Conditions: as each lemma states.
  Words for NatBack's end: who was seen comes in; one of host 77, to whom nothing was sent, just where the box filters by nothing; what All tells rises by ports. Conditions: as each lemma states.
  Contracts of gate's isAsked, and of what it calls: is one of the bindings that are told one's, and was it asked for. Conditions: the slice reads as bindings.
  The numbers by which bindings were asked for, as a map: whose, and which number; what setting, striking and clearing leave. Conditions: as each lemma states.
  Contracts of gate's forget, but for the box: the closure, and maps.DeleteFunc with it. Conditions: the map and the bindings that are told stand in memory.
  A gateway in memory: its block, its map of numbers, its box, and the objects that a law holds; Epoch, forget. Conditions: the gateway stands.
-/
import Derived.Test.YtemlnkcokeckmaaMh13
import Derived.Deep.QuietTactic
import Derived.BigQuiet
import Derived.Maps.OwnSet
import Derived.Maps.RangeWalk
import Derived.Maps.Ext
import Derived.DeepKeys4
import Derived.Lib.SlMapFilter
import Derived.Laws.IdiomRangeMap
import Derived.Deep.LoopGhost
import Derived.Test.YtemlnkcokeckmaaMh12
namespace Go.Proofs.Ytemlnkcokeckmaa
open Go.RowKit
set_option linter.unusedVariables false

theorem seeL_mem {l : List A2} {b c : A2} (h : c ∈ seeL l b) : c ∈ l ∨ c = b := by
  unfold seeL at h
  rcases List.mem_append.1 h with h | h
  · refine .inl ?_
    have h2 : c ∈ l.filter (fun p => !decide (p = b)) := by
      unfold cut16 at h
      split at h
      · exact List.mem_of_mem_drop h
      · exact h
    exact (List.mem_filter.1 h2).1
  · exact .inr (by simpa using h)
theorem seeL_new (l : List A2) (b : A2) : b ∈ seeL l b := by unfold seeL; simp
/-- what the steps ahead leave: a has asked for nothing; whoever is seen is one of sn -/
structure Bkp (x : Bx) (a : A2) (sn : List A2) (M : List Bn) : Prop where
  ok : Okb x M
  seen : ∀ d ∈ M, ∀ c ∈ d.seen, c ∈ sn
  none : ∀ d ∈ M, d.inn = a → d.asked = false
section
variable {x : Bx} {M : List Bn} {now t : Int} {a b c : A2} {sn : List A2}
theorem Bkp.live (h : Bkp x a sn M) (t : Int) : Bkp x a sn (liveM M t) :=
  ⟨h.ok.live t, fun d hd => h.seen d (List.mem_filter.1 hd).1, fun d hd => h.none d (List.mem_filter.1 hd).1⟩
theorem Bkp.out (h : Bkp x a sn M) (hx : x.lo ≤ x.hi) (hb : b ∈ sn) : Bkp x a sn (outS x now M t c b).2.2.2 := by
  refine ⟨h.ok.out hx, fun d hd => ?_, fun d hd => ?_⟩
  all_goals unfold outS at hd
  all_goals split at hd
  · unfold outM at hd
    split at hd
    · split at hd
      · rcases mem_updF hd with hd | ⟨e, he, rfl⟩
        · exact (h.live t).seen d hd
        · intro f hf
          rcases seeL_mem hf with hf | rfl
          · exact (h.live t).seen e he f hf
          · exact hb
      · split at hd
        · rcases List.mem_append.1 hd with hd | hd
          · exact (h.live t).seen d hd
          · simp only [List.mem_singleton] at hd
            rw [hd]
            intro f hf
            rcases seeL_mem hf with hf | rfl
            · simp [newB] at hf
            · exact hb
        · exact (h.live t).seen d hd
    · exact (h.live t).seen d hd
  · exact h.seen d hd
  · unfold outM at hd
    split at hd
    · split at hd
      · rcases mem_updF hd with hd | ⟨e, he, rfl⟩
        · exact (h.live t).none d hd
        · exact (h.live t).none e he
      · split at hd
        · rcases List.mem_append.1 hd with hd | hd
          · exact (h.live t).none d hd
          · simp only [List.mem_singleton] at hd
            rw [hd]
            intro _; rfl
        · exact (h.live t).none d hd
    · exact (h.live t).none d hd
  · exact h.none d hd
theorem Bkp.ask {s u : Int} (h : Bkp x a sn M) (hx : x.lo ≤ x.hi) (hc : ¬ c = a) : Bkp x a sn (askS x now M t c s u).2.2.2 := by
  refine ⟨h.ok.ask hx, fun d hd => ?_, fun d hd => ?_⟩
  all_goals unfold askS at hd
  all_goals split at hd
  · unfold askM at hd
    split at hd
    · split at hd
      · rcases mem_updF hd with hd | ⟨e, he, rfl⟩
        · exact (h.live t).seen d hd
        · exact (h.live t).seen e he
      · split at hd
        · rcases List.mem_append.1 hd with hd | hd
          · exact (h.live t).seen d hd
          · simp only [List.mem_singleton] at hd
            rw [hd]
            intro f hf
            simp [askB] at hf
        · exact (h.live t).seen d hd
    · exact (h.live t).seen d hd
  · exact h.seen d hd
  · unfold askM at hd
    split at hd
    · split at hd
      · rcases mem_updF hd with hd | ⟨e, he, rfl⟩
        · exact (h.live t).none d hd
        · exact (h.live t).none e he
      · split at hd
        · rcases List.mem_append.1 hd with hd | hd
          · exact (h.live t).none d hd
          · simp only [List.mem_singleton] at hd
            rw [hd]
            intro he
            exact absurd he hc
        · exact (h.live t).none d hd
    · exact (h.live t).none d hd
  · exact h.none d hd
/-- one whose port is d's is d -/
theorem Okb.one (h : Okb x M) {d e : Bn} (hd : d ∈ M) (he : e ∈ M) (hp : e.port = d.port) : e = d := by
  obtain ⟨i, hi, rfl⟩ := List.getElem_of_mem hd
  obtain ⟨j, hj, rfl⟩ := List.getElem_of_mem he
  have h1 := (List.nodup_iff_pairwise_ne.1 h.ports)
  rw [List.pairwise_map] at h1
  have hP := List.pairwise_iff_getElem.1 h1
  rcases Nat.lt_trichotomy i j with h2 | rfl | h2
  · exact absurd hp.symm (hP i j hi hj h2)
  · rfl
  · exact absurd hp (hP j i hj hi h2)
/-- what In answers at a binding's port -/
theorem bk_in (h : Okb x M) {d : Bn} (hd : d ∈ M) (hg : goes now t = true) (hb : mayA b = true) (hu : t < d.until_) :
    inS x now M t d.port b = if letsB d b x.filter = true then (d.inn, 0, t, liveM M t) else ((0, 0), 8, t, liveM M t) := by
  have hl : d ∈ liveM M t := List.mem_filter.2 ⟨hd, by simp; omega⟩
  unfold inS
  rw [if_pos hg]
  unfold inM
  rw [if_pos hb]
  by_cases hc : letsB d b x.filter = true
  · have h1 : (liveM M t).find? (comesF x d.port b) = some d := by
      cases hf : (liveM M t).find? (comesF x d.port b) with
      | none =>
        rw [List.find?_eq_none] at hf
        exact absurd (by simp [comesF, hc]) (hf d hl)
      | some e =>
        have h2 := List.find?_some hf
        have h3 := List.mem_of_find?_eq_some hf
        unfold comesF at h2
        rw [Bool.and_eq_true, decide_eq_true_eq] at h2
        rw [(h.live t).one hl h3 h2.1]
    rw [h1, if_pos hc]
  · have h1 : (liveM M t).find? (comesF x d.port b) = none := by
      rw [List.find?_eq_none]
      intro e he h2
      unfold comesF at h2
      rw [Bool.and_eq_true, decide_eq_true_eq] at h2
      rw [(h.live t).one hl he h2.1] at h2
      exact hc h2.2
    rw [h1, if_neg hc]
/-- what Out answers one who has asked for nothing -/
theorem bk_out (h : Bkp x a sn M) (hx : x.lo ≤ x.hi) (hg : goes now t = true) (hl : t + x.life ≤ 1099511627776) :
    (outS x now M t a b = ((0, 0), 1, t, liveM M t) ∨ outS x now M t a b = ((0, 0), 10, t, liveM M t)) ∨
    (mayA b = true ∧ ∃ M' d, outS x now M t a b = ((x.host, d.port), 0, t, M') ∧ d ∈ M' ∧ d.inn = a ∧ d.asked = false ∧ d.until_ = t + x.life ∧ b ∈ d.seen ∧ (∀ c ∈ d.seen, c ∈ sn ∨ c = b)) := by
  have hL := h.live t
  unfold outS
  rw [if_pos hg]
  generalize liveM M t = L at *
  unfold outM
  by_cases hm : mayA a = true ∧ mayA b = true
  · rw [if_pos hm]
    cases hf : L.find? (wayF x L a b) with
    | some d =>
      refine .inr ⟨hm.2, updF (wayF x L a b) (sentB x t b) L, sentB x t b d, rfl, ?_⟩
      have hd := List.mem_of_find?_eq_some hf
      have hfd := List.find?_some hf
      have hda : d.inn = a := by
        unfold wayF at hfd
        split at hfd
        · unfold askF at hfd; rw [Bool.and_eq_true, decide_eq_true_eq] at hfd; exact hfd.1
        · unfold toF at hfd; rw [Bool.and_eq_true, decide_eq_true_eq] at hfd; exact hfd.1
      have has := hL.none d hd hda
      obtain ⟨_, ls, rs, rfl, hls⟩ := List.find?_eq_some_iff_append.1 hf
      refine ⟨?_, hda, has, ?_, seeL_new _ _, fun c hc => ?_⟩
      · rw [updF_at (fun c hc => by simpa using hls c hc) hfd]; simp
      · show (if d.asked = true then d.until_ else min (t + x.life) 1099511627776) = _
        rw [has, if_neg (by simp), Int.min_eq_left hl]
      · rcases seeL_mem hc with hc | hc
        · exact .inl (hL.seen d hd c hc)
        · exact .inr hc
    | none =>
      cases hp : addM x L a.2 with
      | none => exact .inl (.inr rfl)
      | some p =>
        refine .inr ⟨hm.2, _, sentB x t b (newB x a b p), rfl, by simp, rfl, rfl, ?_, seeL_new _ _, fun c hc => ?_⟩
        · show (if (false : Bool) = true then (0 : Int) else min (t + x.life) 1099511627776) = _
          rw [if_neg (by simp), Int.min_eq_left hl]
        · rcases seeL_mem hc with hc | hc
          · simp [newB] at hc
          · exact .inr hc
  · rw [if_neg hm]
    exact .inl (.inl rfl)
end
end Go.Proofs.Ytemlnkcokeckmaa
namespace Go.Proofs.Ytemlnkcokeckmaa
open Go.RowKit
set_option linter.unusedVariables false

theorem lets_seen {d : Bn} {b : A2} {f : Int} (h : b ∈ d.seen) : letsB d b f = true := by
  unfold letsB
  rw [Bool.or_eq_true]
  exact .inr (List.any_eq_true.2 ⟨b, h, by simp⟩)
theorem lets77 {d : Bn} {b : A2} {f : Int} (ha : d.asked = false) (hb : b ∈ d.seen) (hn : ∀ c ∈ d.seen, c.1 ≠ 77) : letsB d (77, 1) f = decide (f = 0) := by
  unfold letsB
  rw [ha, Bool.false_or, Bool.eq_iff_iff, List.any_eq_true, decide_eq_true_eq]
  constructor
  · rintro ⟨c, hc, h⟩
    rw [decide_eq_true_eq] at h
    unfold partA at h
    by_cases h0 : f = 0
    · exact h0
    · rw [if_neg h0, if_neg h0] at h
      by_cases h1 : f = 1
      · rw [if_pos h1, if_pos h1] at h
        simp only [Prod.mk.injEq, and_true] at h
        exact absurd h (hn c hc)
      · rw [if_neg h1, if_neg h1] at h
        exact absurd (by rw [h]) (hn c hc)
  · intro h
    exact ⟨b, hb, by rw [decide_eq_true_eq]; unfold partA; rw [if_pos h, if_pos h]⟩
section
variable {x : Bx} {M l : List Bn}
theorem all_rise (hok : Okb x M) (hp : l.Perm M) (hr : RiseP l) (i j : Nat) (b c : Bn) (hij : i < j) (h1 : l[i]? = some b) (h2 : l[j]? = some c) : b.port < c.port := by
  have h3 := hr i j b c hij h1 h2
  have hnd : (l.map Bn.port).Nodup := (hp.map _).nodup_iff.2 hok.ports
  rcases Int.lt_or_eq_of_le h3 with h | h
  · exact h
  · exfalso
    obtain ⟨hi, rfl⟩ := List.getElem?_eq_some_iff.1 h1
    obtain ⟨hj, rfl⟩ := List.getElem?_eq_some_iff.1 h2
    have h4 := List.nodup_iff_pairwise_ne.1 hnd
    rw [List.pairwise_map] at h4
    exact List.pairwise_iff_getElem.1 h4 i j hi hj hij h
theorem all_one (hok : Okb x M) (hp : l.Perm M) {d e : Bn} (hd : d ∈ M) (he : e ∈ l) (h : e.port = d.port) : e = d := hok.one hd (hp.mem_iff.1 he) h
end
theorem bs_at {V : World} {A : Option Addr} {n c : Nat} {l : List Bn} (h : IsBs V (.slice A n c) l) {j : Nat} {e : Bn} (he : l[j]? = some e) :
    ∃ b, A = some ⟨b, 0, none⟩ ∧ V.cell? ⟨b, j * 7 + 4, none⟩ = some (.int .i64 e.port) ∧ V.cell? ⟨b, j * 7 + 6, none⟩ = some (.bool e.asked) := by
  obtain ⟨A', c', e1, _, _, h4⟩ := h
  cases e1
  have hj := (List.getElem?_eq_some_iff.1 he).1
  obtain ⟨b, rfl, _, h5⟩ := h4 (by omega)
  exact ⟨b, rfl, (h5 j e he 4 (by omega)).trans rfl, (h5 j e he 6 (by omega)).trans rfl⟩
theorem neq_adr (p q : A2) (W : World) : (binOp .neq 38 (.agg #[.int .u32 p.1, .int .i64 p.2]) (.agg #[.int .u32 q.1, .int .i64 q.2])).run Try.prog W = .ok (.bool (!decide (p = q))) W := by
  have hm := noGuard38
  obtain ⟨p1, p2⟩ := p
  obtain ⟨q1, q2⟩ := q
  dsimp only
  by_cases h1 : p1 = q1
  · subst h1
    by_cases h2 : p2 = q2
    · subst h2
      have e : (!decide (((p1, p2) : A2) = (p1, p2))) = false := by simp
      rw [e]
      go_simp
    · have e : (!decide (((p1, p2) : A2) = (p1, q2))) = true := by simp [h2]
      rw [e]
      go_simp
  · have e : (!decide (((p1, p2) : A2) = (q1, q2))) = true := by simp [h1]
    rw [e]
    go_simp
/-- was anything sent to host 77, so far -/
def sent77 (b : A2) (s : List A2) : Bool := (b.1 == 77) || s.any (fun c => c.1 == 77)
theorem sent77_snoc (b : A2) (s : List A2) (c : A2) : sent77 b (s ++ [c]) = (sent77 b s || (c.1 == 77)) := by
  unfold sent77
  rw [List.any_append]
  simp [Bool.or_assoc]
theorem sent77_no {b : A2} {s : List A2} (h : sent77 b s = false) : b.1 ≠ 77 ∧ ∀ c ∈ s, c.1 ≠ 77 := by
  unfold sent77 at h
  rw [Bool.or_eq_false_iff] at h
  refine ⟨by simpa using h.1, fun c hc e => ?_⟩
  have := List.any_eq_false.1 h.2 c hc
  simp [e] at this
/-- none of a box's blocks holds bindings that are told -/
theorem foot_ty {V : World} {nb : Nat} {x : Bx} {now : Int} {kv : Value} {L : List Nd} (h : Na V nb x now kv L) {k : Nat} (hk : Foot nb kv L k) {C : Array Value} (hC : V.heap[k]? = some (.cells C 54 (0, 0))) : False := by
  rcases hk with rfl | hk | ⟨d, hd, rfl | hk⟩
  · rw [h.top] at hC
    simp at hC
  · obtain ⟨C', hC'⟩ := own_obj h.row hk
    rw [hC'] at hC
    simp at hC
  · rw [(h.nds d hd).own] at hC
    simp at hC
  · obtain ⟨C', hC'⟩ := own_obj (h.nds d hd).row hk
    rw [hC'] at hC
    simp at hC
theorem hold_bs {w0 V : World} {nb : Nat} {x : Bx} {now : Int} {M : List Bn} {os : List (Nat × Obj)} {v : Value} {l : List Bn} (h : Pl w0 nb x now M os V) (hb : IsBs V v l) :
    ∃ OB, Pl w0 nb x now M (OB ++ os) V ∧ ∀ now' M' W, Pl w0 nb x now' M' (OB ++ os) W → IsBs W v l := by
  have hb2 := hb
  obtain ⟨A, c, rfl, h1, h2, h3⟩ := hb
  rcases Nat.eq_zero_or_pos l.length with h0 | h0
  · exact ⟨[], h, fun _ _ W _ => ⟨A, c, rfl, h1, h2, fun hh => by omega⟩⟩
  · obtain ⟨b, rfl, ⟨C, hC⟩, h4⟩ := h3 h0
    refine ⟨[(b, .cells C 54 (0, 0))], ?_, fun _ _ W hW => ⟨_, c, rfl, h1, h2, fun _ => ⟨b, rfl, ⟨C, hW.held (b, .cells C 54 (0, 0)) (by simp)⟩, fun j d hj i hi => ?_⟩⟩⟩
    · obtain ⟨kv, L, g1, g2, g3, g4⟩ := h.bo
      refine ⟨⟨kv, L, g1, g2, g3, fun p hp => ?_⟩, fun p hp => ?_, h.low⟩
      · rcases List.mem_cons.1 (show p ∈ (b, Obj.cells C 54 (0, 0)) :: os from hp) with rfl | hp
        · exact fun hf => foot_ty g1 hf hC
        · exact g4 p hp
      · rcases List.mem_cons.1 (show p ∈ (b, Obj.cells C 54 (0, 0)) :: os from hp) with rfl | hp
        · exact hC
        · exact h.held p hp
    · have hw : W.heap[b]? = some (.cells C 54 (0, 0)) := hW.held (b, .cells C 54 (0, 0)) (by simp)
      exact (World.cell?_of_block (w := V) (a := ⟨b, j * 7 + i, none⟩) (hw.trans hC.symm)).trans (h4 j d hj i hi)
end Go.Proofs.Ytemlnkcokeckmaa
namespace Go.Proofs.Ytemlnkcokeckmaa
open Go.RowKit
attribute [local go_sem] Oper.semAt_some
set_option linter.unusedVariables false
set_option linter.unusedSimpArgs false

def bnV (b : Bn) : Value := .agg #[.int .u32 b.inn.1, .int .i64 b.inn.2, .int .u32 b.to.1, .int .i64 b.to.2, .int .i64 b.port, .int .i64 b.until_, .bool b.asked]
theorem ga_ret {a b : Bool} (h : a = b) : Ending.returned (.bool a) = .returned (.bool b) := by rw [h]
set_option maxHeartbeats 1000000 in
theorem asked_one (b : Bn) (cb : Nat) (a : A2) (W : World) (h0 : W.cell? ⟨cb, 0, none⟩ = some (.int .u32 a.1)) (h1 : W.cell? ⟨cb, 1, none⟩ = some (.int .i64 a.2)) :
    Calls Try.prog 119 #[bnV b, .pointer (some ⟨cb, 0, none⟩)] W fun e w' => e = .returned (.bool (askF a b)) ∧ Below W.heap.size W w' := by
  have hl := World.block_lt_of_cell? W _ h0
  dsimp only at hl
  have hm := noGuard38
  have HB : Hid (∀ C : Obj, Below W.heap.size W (W.alloc C)) := Lib.hid (fun C => (Below.refl _ W).alloc (Nat.le_refl _) _)
  obtain ⟨⟨i1, i2⟩, ⟨t1, t2⟩, p, u, s, sn⟩ := b
  obtain ⟨a1, a2⟩ := a
  unfold bnV
  dsimp only at h0 h1 ⊢
  cases s with
  | false =>
    have HR : Hid (askF (a1, a2) ⟨(i1, i2), (t1, t2), p, u, false, sn⟩ = false) := Lib.hid (by simp [askF])
    go_enter Try.func119, Try.ntmps119
    go_wp2
    go_ret
    exact ⟨ga_ret HR.out.symm, HB.out _⟩
  | true =>
    by_cases e1 : i1 = a1
    · subst e1
      by_cases e2 : i2 = a2
      · subst e2
        have HR : Hid (askF (i1, i2) ⟨(i1, i2), (t1, t2), p, u, true, sn⟩ = true) := Lib.hid (by simp [askF])
        go_enter Try.func119, Try.ntmps119
        go_wp2
        go_ret
        exact ⟨ga_ret HR.out.symm, HB.out _⟩
      · have HR : Hid (askF (i1, a2) ⟨(i1, i2), (t1, t2), p, u, true, sn⟩ = false) := Lib.hid (by simp [askF, e2])
        go_enter Try.func119, Try.ntmps119
        go_wp2
        go_ret
        exact ⟨ga_ret HR.out.symm, HB.out _⟩
    · have HR : Hid (askF (a1, a2) ⟨(i1, i2), (t1, t2), p, u, true, sn⟩ = false) := Lib.hid (by simp [askF, e1])
      go_enter Try.func119, Try.ntmps119
      go_wp2
      go_ret
      exact ⟨ga_ret HR.out.symm, HB.out _⟩
/-- the place of the first that was asked for, or -1 -/
def GaIdx (a : A2) (l : List Bn) (r : Int) : Prop := (l.any (askF a) = true ∧ 0 ≤ r) ∨ (l.any (askF a) = false ∧ r = -1)
set_option maxHeartbeats 2000000 in
theorem ga_index (cb : Nat) (a : A2) (v : Value) (l : List Bn) (w : World) (hv : IsBs w v l) (hbig : l.length ≤ 1000) (h0 : w.cell? ⟨cb, 0, none⟩ = some (.int .u32 a.1)) (h1 : w.cell? ⟨cb, 1, none⟩ = some (.int .i64 a.2)) :
    Calls Try.prog 127 #[v, .func (.func 119) #[] #[.pointer (some ⟨cb, 0, none⟩)]] w fun e w' => ∃ r, e = .returned (.int .i64 r) ∧ GaIdx a l r ∧ Below w.heap.size w w' := by
  obtain ⟨A, c, rfl, hlc, hcm, hat⟩ := hv
  unfold maxLen at hcm
  have hl := World.block_lt_of_cell? w _ h0
  dsimp only at hl
  have HAT := Lib.hid hat; clear hat
  have HP := Lib.hid (fun (b : Bn) (W : World) (h : Below w.heap.size w W) => asked_one b cb a W ((h.cell (p := ⟨cb, 0, none⟩) hl).trans h0) ((h.cell (p := ⟨cb, 1, none⟩) hl).trans h1))
  clear h0 h1 hl
  unfold bnV at HP
  go_enter Try.func127, Try.ntmps127
  go_wp2
  go_loopg [5, 8] l.length (fun gg _ s8 wr => ∃ kk : Nat, kk ≤ l.length ∧ l.length - kk ≤ gg ∧ s8 = .int .i64 kk ∧ Hid (Below w.heap.size w wr) ∧ Hid (∀ j, j < kk → ∀ y, l[j]? = some y → askF a y = false))
  case atStart => exact ⟨0, Nat.zero_le _, by omega, rfl, Lib.hid (Below.refl _ _), Lib.hid (fun j hj => absurd hj (Nat.not_lt_zero _))⟩
  case round =>
    obtain ⟨kk, hkk, hg, rfl, HB, AA⟩ := hrel
    by_cases hlt : kk < l.length
    · have hltz : (kk : Int) < (l.length : Int) := by omega
      obtain ⟨b, hpk⟩ : ∃ b, l[kk]? = some b := ⟨_, List.getElem?_eq_getElem hlt⟩
      obtain ⟨g, rfl, -, hc⟩ := HAT.out (by omega)
      have hc7 := hc kk b hpk
      have k0 : w.cell? ⟨g, kk * 7, none⟩ = some (.int .u32 b.inn.1) := hc7 0 (by omega)
      have l1 := World.block_lt_of_cell? w _ k0
      have d0 : wr.cell? ⟨g, kk * 7, none⟩ = some (.int .u32 b.inn.1) := (HB.out.cell (p := ⟨g, kk * 7, none⟩) l1).trans k0
      have d1 : wr.cell? ⟨g, kk * 7 + 1, none⟩ = some (.int .i64 b.inn.2) := (HB.out.cell (p := ⟨g, kk * 7 + 1, none⟩) l1).trans (hc7 1 (by omega))
      have d2 : wr.cell? ⟨g, kk * 7 + 2, none⟩ = some (.int .u32 b.to.1) := (HB.out.cell (p := ⟨g, kk * 7 + 2, none⟩) l1).trans (hc7 2 (by omega))
      have d3 : wr.cell? ⟨g, kk * 7 + 3, none⟩ = some (.int .i64 b.to.2) := (HB.out.cell (p := ⟨g, kk * 7 + 3, none⟩) l1).trans (hc7 3 (by omega))
      have d4 : wr.cell? ⟨g, kk * 7 + 4, none⟩ = some (.int .i64 b.port) := (HB.out.cell (p := ⟨g, kk * 7 + 4, none⟩) l1).trans (hc7 4 (by omega))
      have d5 : wr.cell? ⟨g, kk * 7 + 5, none⟩ = some (.int .i64 b.until_) := (HB.out.cell (p := ⟨g, kk * 7 + 5, none⟩) l1).trans (hc7 5 (by omega))
      have d6 : wr.cell? ⟨g, kk * 7 + 6, none⟩ = some (.bool b.asked) := (HB.out.cell (p := ⟨g, kk * 7 + 6, none⟩) l1).trans (hc7 6 (by omega))
      have hcall := HP.out b wr HB.out
      have HPK := Lib.hid hpk
      clear hpk hc hc7 k0 l1
      cases hq : askF a b with
      | true =>
        rw [hq] at hcall
        have HR : Hid (l.any (askF a) = true) := Lib.hid (List.any_eq_true.2 ⟨b, List.mem_of_getElem? HPK.out, hq⟩)
        clear hq
        go_wp2_with (go_at_call 119; refine hcall.mono ?_; rintro e w' ⟨rfl, hb⟩; have HB2 := Lib.hid hb; clear hb)
        go_ret
        exact ⟨_, rfl, .inl ⟨HR.out, by omega⟩, HB.out.trans (HB2.out.mono HB.out.size)⟩
      | false =>
        rw [hq] at hcall
        have HQ := Lib.hid hq; clear hq
        go_wp2_with (go_at_call 119; refine hcall.mono ?_; rintro e w' ⟨rfl, hb⟩; have HB2 := Lib.hid hb; clear hb)
        go_roundg (l.length - (kk + 1))
        case measure => omega
        case rel =>
          refine ⟨kk + 1, by omega, by omega, by go_num, Lib.hid (HB.out.trans (HB2.out.mono HB.out.size)), Lib.hid (fun j hj y hy => ?_)⟩
          by_cases e : j = kk
          · subst e
            rw [HPK.out] at hy; cases hy; exact HQ.out
          · exact AA.out j (by omega) y hy
    · have hltz : ¬ (kk : Int) < (l.length : Int) := by omega
      obtain rfl : kk = l.length := by omega
      have HR : Hid (l.any (askF a) = false) := Lib.hid (by
        rw [List.any_eq_false]
        intro y hy
        obtain ⟨j, hj, rfl⟩ := List.mem_iff_getElem.1 hy
        rw [AA.out j hj _ (List.getElem?_eq_getElem hj)]
        simp)
      go_wp2
      go_ret
      exact ⟨_, rfl, .inr ⟨HR.out, rfl⟩, HB.out⟩
set_option maxHeartbeats 1000000 in
theorem ga_contains (cb : Nat) (a : A2) (v : Value) (l : List Bn) (w : World) (hv : IsBs w v l) (hbig : l.length ≤ 1000) (h0 : w.cell? ⟨cb, 0, none⟩ = some (.int .u32 a.1)) (h1 : w.cell? ⟨cb, 1, none⟩ = some (.int .i64 a.2)) :
    Calls Try.prog 118 #[v, .func (.func 119) #[] #[.pointer (some ⟨cb, 0, none⟩)]] w fun e w' => e = .returned (.bool (l.any (askF a))) ∧ Below w.heap.size w w' := by
  have hI := ga_index cb a v l w hv hbig h0 h1
  clear h0 h1 hv
  unfold GaIdx at hI
  generalize l.any (askF a) = r at *
  go_enter Try.func118, Try.ntmps118
  go_wp2_with fail
  refine hI.mono ?_
  rintro e w' ⟨i, rfl, hi, hb⟩
  have HB := Lib.hid hb; clear hb hI
  rcases hi with ⟨rfl, hi⟩ | ⟨rfl, rfl⟩
  · go_wp2
    go_ret
    exact ⟨rfl, HB.out⟩
  · go_wp2
    go_ret
    exact ⟨rfl, HB.out⟩
/-- isAsked -/
theorem isAsked_any (a : A2) (v : Value) (l : List Bn) (w : World) (hv : IsBs w v l) (hbig : l.length ≤ 1000) :
    Calls Try.prog 96 #[v, adr a] w fun e w' => e = .returned (.bool (l.any (askF a))) ∧ Below w.heap.size w w' := by
  have hb0 : ∀ C : Obj, Below w.heap.size w (w.alloc C) := fun C => (Below.refl _ w).alloc (Nat.le_refl _) _
  have hn : (w.alloc (.cells #[.int .u32 a.1, .int .i64 a.2] 38)).heap[w.heap.size]? = some (.cells #[.int .u32 a.1, .int .i64 a.2] 38 (0, 0)) := World.alloc_heap_new w _
  have hv' : IsBs (w.alloc (.cells #[.int .u32 a.1, .int .i64 a.2] 38)) v l := by
    obtain ⟨A, c, rfl, h1, h2, h3⟩ := hv
    refine ⟨A, c, rfl, h1, h2, fun h => ?_⟩
    obtain ⟨b, rfl, ⟨C, hC⟩, h4⟩ := h3 h
    have hlt := (Array.getElem?_eq_some_iff.1 hC).1
    exact ⟨b, rfl, ⟨C, ((hb0 _).block _ hlt).trans hC⟩, fun j d hd i hi => ((hb0 _).cell (p := ⟨b, j * 7 + i, none⟩) hlt).trans (h4 j d hd i hi)⟩
  have hI := ga_contains w.heap.size a v l _ hv' hbig (cells_of hn 0).1 (cells_of hn 1).1
  have HB := Lib.hid hb0
  clear hv' hn hv hb0
  generalize l.any (askF a) = r at *
  unfold adr
  go_enter Try.func96, Try.ntmps96
  go_wp2_with fail
  refine hI.mono ?_
  rintro e w' ⟨rfl, hb⟩
  have HB2 := Lib.hid ((HB.out _).trans (hb.mono (by simp)))
  clear hb hI
  go_wp2
  go_ret
  exact ⟨rfl, HB2.out⟩
end Go.Proofs.Ytemlnkcokeckmaa
namespace Go.Proofs.Ytemlnkcokeckmaa
open Go.RowKit Go.Maps
set_option linter.unusedVariables false
set_option linter.unusedSimpArgs false

theorem laidOutG : laidOutB Try.prog = true := by kernel_rfl
theorem nTypes : Try.prog.types.size = 195 := by kernel_rfl
theorem lawA : Keyed Try.prog 38 := Keyed.of_law (deep_law_laid laidOutG (m := 20) (by omega) (by rw [nTypes]; decide) (by kernel_rfl) (by kernel_rfl))
theorem keyTA : Try.prog.keyType 38 = true := by kernel_rfl
theorem cellsOfA : Try.prog.cellsOf 38 = 2 := by kernel_rfl
theorem cellsOfI : Try.prog.cellsOf 3 = 1 := by kernel_rfl
theorem cellsOfU : Try.prog.cellsOf 22 = 1 := by kernel_rfl
/-- an address as a key -/
def keyA (a : A2) : Lit := .string (keyBytes [.int .u32 a.1, .int .i64 a.2])
theorem isA_u32 {a : A2} (h : isA a) : (Lit.int .u32 a.1).wf = true := by
  obtain ⟨⟨h1, h2⟩, _⟩ := h
  simp [Lit.wf, IntKind.min, IntKind.max, IntKind.signed, IntKind.bits]
  omega
theorem isA_i64 {a : A2} (h : isA a) : (Lit.int .i64 a.2).wf = true := by
  obtain ⟨_, h1, h2⟩ := h
  simp [Lit.wf, IntKind.min, IntKind.max, IntKind.signed, IntKind.bits]
  omega
theorem keyA_mk {a : A2} (h : isA a) : keyOf Try.prog 38 (adr a) = some (keyA a) := by
  have h1 := isA_u32 h
  have h2 := isA_i64 h
  unfold keyOf adr keyA
  simp only [Try.underlying38]
  rw [if_pos (by simp [keyTA, Value.formed, Try.underlying38, cellsOfA]), nTypes]
  unfold Program.keyLits
  simp only [Try.underlying38, Value.cells]
  rw [if_pos (by rw [cellsOfA]; exact ⟨rfl, by kernel_rfl⟩)]
  have e1 : Try.prog.keyLits 195 22 [.int .u32 a.1] = some [.int .u32 a.1] := by simp only [Program.keyLits, Try.underlying22]; exact if_pos ⟨trivial, h1⟩
  have e2 : Try.prog.keyLits 195 3 [.int .i64 a.2] = some [.int .i64 a.2] := by simp only [Program.keyLits, Try.underlying3]; exact if_pos ⟨trivial, h2⟩
  simp only [List.mapM_cons, List.mapM_nil, List.drop_zero, cellsOfI, cellsOfU, List.drop_succ_cons, List.take_succ_cons, List.take_zero, e1, e2]
  rfl
theorem keyA_inj {a b : A2} (ha : isA a) (hb : isA b) (h : keyA a = keyA b) : a = b := by
  have h1 := keyA_mk ha
  rw [h] at h1
  have := lawA.inj h1 (keyA_mk hb)
  simp [adr] at this
  exact Prod.ext this.1 this.2
theorem keyA_lit {a : A2} (h : isA a) : WideAt.IsKeyLit (keyA a) := lawA.key (keyA_mk h)
/-- whose, and which number -/
abbrev Nf := A2 → Option Int
structure Nn (D : DataW Unit) (f : Nf) : Prop where
  has : ∀ a, isA a → Maps.has D (keyA a) = (f a).isSome
  val : ∀ a v, isA a → f a = some v → ∀ z, D.atKey (keyA a) z = .lit (.int .u64 v)
def f0 : Nf := fun _ => none
def putF (f : Nf) (a : A2) (v : Int) : Nf := fun b => if b = a then some v else f b
def delF (f : Nf) (a : A2) : Nf := fun b => if b = a then none else f b
/-- those that are struck for whom p says so -/
def cutF (f : Nf) (p : A2 → Bool) : Nf := fun b => if p b = true then none else f b
theorem Nn.nil : Nn (.map []) f0 := ⟨fun a _ => rfl, fun a v _ h => by cases h⟩
theorem Nn.put {D : DataW Unit} {f : Nf} (h : Nn D f) (hm : IsMap D) {a : A2} (ha : isA a) (v : Int) : Nn (D.put (keyA a) (.lit (.int .u64 v))) (putF f a v) := by
  refine ⟨fun b hb => ?_, fun b u hb hu z => ?_⟩
  · by_cases e : b = a
    · subst e
      rw [has_put_same hm (keyA_lit ha)]
      simp [putF]
    · rw [has_put_other (fun e2 => e (keyA_inj hb ha e2)), h.has b hb]
      simp [putF, e]
  · by_cases e : b = a
    · subst e
      simp [putF] at hu
      rw [atKey_put_same hm (keyA_lit ha), hu]
    · simp only [putF, if_neg e] at hu
      rw [atKey_put_other (fun e2 => e (keyA_inj hb ha e2))]
      exact h.val b u hb hu z
theorem Nn.del {D : DataW Unit} {f : Nf} (h : Nn D f) {a : A2} (ha : isA a) : Nn (D.del (keyA a)) (delF f a) := by
  refine ⟨fun b hb => ?_, fun b u hb hu z => ?_⟩
  · by_cases e : b = a
    · subst e
      rw [has_del_same]
      simp [delF]
    · rw [has_del_other (fun e2 => e (keyA_inj hb ha e2)), h.has b hb]
      simp [delF, e]
  · by_cases e : b = a
    · subst e
      simp [delF] at hu
    · simp only [delF, if_neg e] at hu
      rw [atKey_del_other (fun e2 => e (keyA_inj hb ha e2))]
      exact h.val b u hb hu z
open Classical in
/-- the same on keys -/
noncomputable def pdA (p : A2 → Bool) (kl : Lit) (_ : DataW Unit) : Bool := decide (∃ a, isA a ∧ keyA a = kl ∧ p a = true)
open Classical in
theorem pdA_key {p : A2 → Bool} {a : A2} (ha : isA a) (d : DataW Unit) : pdA p (keyA a) d = p a := by
  unfold pdA
  cases hp : p a with
  | true => exact decide_eq_true ⟨a, ha, rfl, hp⟩
  | false =>
    refine decide_eq_false ?_
    rintro ⟨b, hb, hk, hpb⟩
    rw [keyA_inj hb ha hk] at hpb
    rw [hp] at hpb
    cases hpb
theorem Nn.cut {es : List (Lit × DataW Unit)} {f : Nf} (h : Nn (.map es) f) (hap : es.Pairwise (fun p q => p.1 ≠ q.1)) (p : A2 → Bool) : Nn (Lib.deleteFuncD (pdA p) (.map es)) (cutF f p) := by
  have hk : ∀ a, isA a → ∀ q ∈ es, q.1.sameKey (keyA a) = true → q.1 = keyA a := fun a ha q _ hq => WideAt.sameKey_eq hq
  refine ⟨fun a ha => ?_, fun a v ha hv z => ?_⟩
  · have h1 := h.has a ha
    show (es.filter fun q => !pdA p q.1 q.2).any (fun q => q.1.sameKey (keyA a)) = (cutF f p a).isSome
    unfold cutF
    cases hp : p a with
    | true =>
      simp only [if_true, Option.isSome_none]
      rw [List.any_eq_false]
      intro q hq hs
      obtain ⟨hq1, hq2⟩ := List.mem_filter.1 hq
      have e := hk a ha q hq1 hs
      rw [e, pdA_key ha, hp] at hq2
      simp at hq2
    | false =>
      simp only [Bool.false_eq_true, if_false]
      rw [← h1]
      show _ = es.any (fun q => q.1.sameKey (keyA a))
      rw [Bool.eq_iff_iff, List.any_eq_true, List.any_eq_true]
      constructor
      · rintro ⟨q, hq, hs⟩
        exact ⟨q, (List.mem_filter.1 hq).1, hs⟩
      · rintro ⟨q, hq, hs⟩
        refine ⟨q, List.mem_filter.2 ⟨hq, ?_⟩, hs⟩
        rw [hk a ha q hq hs, pdA_key ha, hp]
        rfl
  · unfold cutF at hv
    cases hp : p a with
    | true => rw [hp, if_pos rfl] at hv; cases hv
    | false =>
      rw [hp, if_neg (by simp)] at hv
      have h1 : Maps.has (.map es) (keyA a) = true := by rw [h.has a ha, hv]; rfl
      obtain ⟨q, hq, hs⟩ := List.any_eq_true.1 (show es.any (fun q => q.1.sameKey (keyA a)) = true from h1)
      have e := hk a ha q hq hs
      have h2 := h.val a v ha hv .nil
      have h3 : (DataW.map es).atKey (keyA a) .nil = q.2 := WideAt.atKey_mem .nil (keyA_lit ha) hap (by rw [← e]; exact hq)
      rw [h3] at h2
      refine WideAt.atKey_mem z (keyA_lit ha) (hap.filter _) (List.mem_filter.2 ⟨?_, ?_⟩)
      · rw [← e, ← h2]; exact hq
      · simp only [pdA_key ha, hp, Bool.not_false]
theorem ite_some_inv {α : Type} {c : Prop} {i : Decidable c} {a : Option α} {x : α} (h : (@ite _ c i a none) = some x) : a = some x := by
  split at h
  · exact h
  · cases h
theorem keyLits_int {P : Program} {d : Nat} {t : TypeId} {q : IntKind} {c : Value} {l : List Lit} (ht : P.underlying t = some (.int q)) (h : P.keyLits (d + 1) t [c] = some l) : ∃ n, c = .int q n ∧ (Lit.int q n).wf = true := by
  unfold Program.keyLits at h
  simp only [ht] at h
  cases c <;> simp at h
  rename_i q' n
  obtain ⟨⟨rfl, h2⟩, _⟩ := h
  exact ⟨n, rfl, h2⟩
set_option maxRecDepth 100000 in
theorem keyA_inv {key : Value} {kl : Lit} (h : keyOf Try.prog 38 key = some kl) : ∃ a : A2, key = adr a ∧ isA a ∧ kl = keyA a := by
  have h0 := h
  unfold keyOf at h
  simp only [Try.underlying38] at h
  split at h
  · rename_i hf
    simp only [Bool.and_eq_true] at hf
    have hfm := hf.2
    rw [nTypes] at h
    unfold Program.keyLits at h
    simp only [Try.underlying38] at h
    obtain ⟨cs, rfl, hsz⟩ : ∃ cs, key = .agg cs ∧ cs.size = 2 := by
      unfold Value.formed at hfm
      simp only [Try.underlying38, cellsOfA] at hfm
      cases key <;> simp at hfm
      rename_i cs
      exact ⟨cs, rfl, hfm⟩
    obtain ⟨c0, c1, rfl⟩ : ∃ c0 c1, cs = #[c0, c1] := by
      have hl : cs.toList.length = 2 := by simpa using hsz
      match hm : cs.toList, hl with
      | [c0, c1], _ => exact ⟨c0, c1, by rw [← Array.toArray_toList (xs := cs), hm]⟩
    simp only [Value.cells] at h
    obtain ⟨ls, h1, h2⟩ := Option.map_eq_some_iff.1 h
    have h := ite_some_inv h1
    · simp only [List.mapM_cons, List.mapM_nil, List.drop_zero, cellsOfI, cellsOfU, List.drop_succ_cons, List.take_succ_cons, List.take_zero] at h
      cases e1 : Try.prog.keyLits 195 22 [c0] with
      | none => simp [e1] at h
      | some l1 =>
        cases e2 : Try.prog.keyLits 195 3 [c1] with
        | none => simp [e1, e2] at h
        | some l2 =>
          have g1 := keyLits_int Try.underlying22 e1
          have g2 := keyLits_int Try.underlying3 e2
          obtain ⟨x, rfl, hx⟩ := g1
          obtain ⟨y, rfl, hy⟩ := g2
          have ha : isA (x, y) := by
            simp [Lit.wf, IntKind.min, IntKind.max, IntKind.signed, IntKind.bits] at hx hy
            refine ⟨⟨?_, ?_⟩, ?_, ?_⟩ <;> (simp only; omega)
          exact ⟨(x, y), rfl, ha, Option.some.inj (h0.symm.trans (keyA_mk ha))⟩
  · cases h
end Go.Proofs.Ytemlnkcokeckmaa
namespace Go.Proofs.Ytemlnkcokeckmaa
open Go.RowKit Go.Maps
set_option linter.unusedVariables false
set_option linter.unusedSimpArgs false

theorem isBs_kept {w w' : World} {u : Value} {l : List Bn} (h : IsBs w u l) (hk : ∀ (b : Nat) (C : Array Value), w.heap[b]? = some (Obj.cells C 54 (0, 0)) → w'.heap[b]? = w.heap[b]?) : IsBs w' u l := by
  obtain ⟨A, c, rfl, h1, h2, h3⟩ := h
  refine ⟨A, c, rfl, h1, h2, fun h => ?_⟩
  obtain ⟨b, rfl, ⟨C, hC⟩, h4⟩ := h3 h
  have e := hk b C hC
  have hC' := e.trans hC
  refine ⟨b, rfl, ⟨C, hC'⟩, fun j d hd i hi => ?_⟩
  rw [(cells_of hC' _).1, ← (cells_of hC _).1]
  exact h4 j d hd i hi
theorem isBs_below {w w' : World} {u : Value} {l : List Bn} (h : IsBs w u l) (hb : Below w.heap.size w w') : IsBs w' u l := isBs_kept h (fun b C hC => hb.block b (Array.getElem?_eq_some_iff.1 hC).1)
set_option maxHeartbeats 1000000 in
/-- the closure of forget: is it not one of those that were asked for -/
theorem forget_one (a : A2) (v : Int) (ab : Nat) (u : Value) (l : List Bn) (W : World) (hc : W.heap[ab]? = some (.cells #[u] 48 (0, 0))) (hu : IsBs W u l) (hbig : l.length ≤ 1000) :
    Calls Try.prog 95 #[adr a, .int .u64 v, .pointer (some ⟨ab, 0, none⟩)] W fun e w' => e = .returned (.bool (!l.any (askF a))) ∧ Below W.heap.size W w' := by
  have hl := (Array.getElem?_eq_some_iff.1 hc).1
  have hb0 : Below W.heap.size W (W.alloc (.cells #[.int .u32 a.1, .int .i64 a.2] 38)) := (Below.refl _ W).alloc (Nat.le_refl _) _
  have c0 : W.cell? ⟨ab, 0, none⟩ = some u := (cells_of hc 0).1
  have hI := isAsked_any a u l _ (isBs_below hu hb0) hbig
  have HB := Lib.hid hb0
  have hu1 : ∃ A n c, u = .slice A n c := by obtain ⟨A, c, e, _⟩ := hu; exact ⟨_, _, _, e⟩
  clear hu hc hb0
  generalize l.any (askF a) = r at *
  obtain ⟨A, n, c, rfl⟩ := hu1
  unfold adr at hI ⊢
  go_enter Try.func95, Try.ntmps95
  go_wp2_with fail
  refine hI.mono ?_
  rintro e w' ⟨rfl, hb⟩
  have HB2 := Lib.hid (HB.out.trans (hb.mono (by simp)))
  clear hb hI
  go_wp2
  go_ret
  exact ⟨rfl, HB2.out⟩
theorem grown_keeps {a b : World} {r : Option Nat} (h : a.grownBy b r) {k : Nat} {o : Obj} (hk : a.heap[k]? = some o) (hn : r ≠ some k) : b.heap[k]? = some o :=
  (h.block k (Array.getElem?_eq_some_iff.1 hk).1 (fun e => hn e.symm)).trans hk
theorem below_grown {a b : World} (h : Below a.heap.size a b) : a.grownBy b none := ⟨h.os, h.tape, h.output, h.size, fun i hi _ => h.block i hi⟩
set_option maxRecDepth 100000 in
set_option maxHeartbeats 4000000 in
/-- maps.DeleteFunc with that closure -/
theorem df_any (nm ab : Nat) (u : Value) (l : List Bn) (n : Nat) (D : DataW Unit) (f : Nf) (w : World) (hown : w.ownsMap Try.prog 38 (plainElem Try.prog 62) nm n D) (hf : Nn D f) (hc : w.heap[ab]? = some (.cells #[u] 48 (0, 0))) (hu : IsBs w u l) (hbig : l.length ≤ 1000) :
    Calls Try.prog 94 #[.map (some nm), .func (.func 95) #[] #[.pointer (some ⟨ab, 0, none⟩)]] w fun e w' => e = .returned (.tuple #[]) ∧ ∃ D', w'.ownsMap Try.prog 38 (plainElem Try.prog 62) nm n D' ∧ Nn D' (cutF f (fun a => !l.any (askF a))) ∧ w.grownBy w' (some nm) := by
  obtain ⟨es0, rfl, hap, hkeys⟩ := hown.entries lawA
  have hown0 := hown
  obtain ⟨o, clk, hobj, -⟩ := hown
  have hnab : nm ≠ ab := fun e => by rw [e, hc] at hobj; cases hobj
  have hcut := hf.cut hap (fun a => !l.any (askF a))
  have HCUT := Lib.hid hcut
  have HD : Aside (∀ (W : World) (a : A2) (v : Int), w.grownBy W (some nm) → Calls Try.prog 95 #[adr a, .int .u64 v, .pointer (some ⟨ab, 0, none⟩)] W fun e w' => e = .returned (.bool (!l.any (askF a))) ∧ W.grownBy w' none) := fun W a v hg =>
    (forget_one a v ab u l W (grown_keeps hg hc (by simpa using hnab)) (isBs_kept hu (fun b C hC => hg.block b (Array.getElem?_eq_some_iff.1 hC).1 (fun e => by cases e; rw [hC] at hobj; cases hobj))) hbig).mono fun e w' hq => ⟨hq.1, below_grown hq.2⟩
  have hrk : ∀ (v : Value) (y : DataW Unit × List MemPlace), plainElem Try.prog 62 v = some y → ∃ c : Int, v = .int .u64 c := fun v y hv => by obtain ⟨c, rfl, _⟩ := plainElem_int_inv Try.underlying62 hv; exact ⟨c, rfl⟩
  have hik : ∀ (key : Value) (kl : Lit), keyOf Try.prog 38 key = some kl → ∃ a : A2, key = adr a := fun key kl h => by obtain ⟨a, rfl, _⟩ := keyA_inv h; exact ⟨a, rfl⟩
  clear hc hu hcut hobj hnab
  go_enter Try.func94, Try.ntmps94
  go_wp2_with (first
    | (at_range; refine wpList_range_own _ rfl _ 114 rfl 38 62 lawA Try.underlying114 (plainElem Try.prog 62) nm n _ rfl hown0 ?_; intro w0 hrg0 hg0 hs0)
    | go_in)
  go_frame
  go_loopw [4, 5] (fun _ _ wr => ∃ (left : Lit → Bool) (cnt : Nat), wr.ranges Try.prog 38 (plainElem Try.prog 62) nm w.heap.size n (Fk (pdA (fun a => !l.any (askF a))) es0 left) left cnt ∧ w.grownBy wr (some nm))
    (fun _ _ wr => wr.rangeLeft nm w.heap.size)
  case atStart => exact ⟨_, _, by rw [Fk_start hkeys]; exact hrg0, hg0.but _⟩
  case round =>
    obtain ⟨left, cnt, hrg, hgw⟩ := hrel
    go_wp2_with (first
      | (at_next; refine wpList_next_ranges _ rfl _ rfl 38 lawA (plainElem Try.prog 62) adr (Value.int .u64) hik hrk nm w.heap.size n _ _ _ rfl hrg ?_ ?_)
      | go_in)
    · intro _ hl0
      go_wp2
      go_end0
      exact ⟨rfl, Lib.deleteFuncD (pdA (fun a => !l.any (askF a))) (.map es0), by rw [← Fk_end hl0]; exact hrg.owns, HCUT.out, hgw⟩
    · intro x1 x2 c kl yd yp w1 cnt1 hkey hlx hv hat hrg1 hlt hg1 hs1 hen
      have hgw1 := hgw.andThen hg1 (fun j hj => by cases hj; exact Or.inl (Nat.le_refl _))
      have hpd : pdA (fun a => !l.any (askF a)) kl yd = !l.any (askF (x1, x2)) := by
        obtain ⟨a', e1, e2, rfl⟩ := keyA_inv hkey
        have e3 : (x1, x2) = a' := by simp [adr] at e1; exact Prod.ext e1.1 e1.2
        rw [e3]
        exact pdA_key e2 _
      have hnew := World.alloc_heap_new w1 (.cells #[.int .u32 x1, .int .i64 x2] 38)
      have hga := World.grownBy_alloc w1 (.cells #[.int .u32 x1, .int .i64 x2] 38) none
      have hgw2 := hgw1.andThen hga (fun j hj => by cases hj)
      have hcl := HD.out _ (x1, x2) c hgw2
      have hrgA := hrg1.kept hga (by simp) (by simp)
      have HEN := Lib.hid hen
      have hbl := hrg1.owns.lt
      have hrl := hrg1.lt
      cases hp : l.any (askF (x1, x2)) with
      | true =>
        rw [hp] at hcl hpd
        simp only [Bool.not_true] at hcl hpd
        simp only [adr] at hcl hen hkey ⊢
        go_wp2_with (first
          | (go_at_call 95; refine hcl.mono ?_; rintro e w2 ⟨rfl, hg2⟩)
          | go_in)
        have hrg2 := hrgA.kept hg2 (by simp) (by simp)
        go_roundw
        case rel => exact ⟨_, cnt1, by rw [← Fk_stays hap (lawA.key hkey) hlx hpd hat]; exact hrg2, hgw2.andThen hg2 (fun j hj => by cases hj)⟩
        case measure => rw [hrg2.left_eq, hrg.left_eq]; exact hlt
      | false =>
        rw [hp] at hcl hpd
        simp only [Bool.not_false] at hcl hpd
        have hkey' := hkey
        simp only [adr] at hcl hen hkey ⊢
        go_wp2_with (first
          | (go_at_call 95; refine hcl.mono ?_; rintro e w2 ⟨rfl, hg2⟩; have hrg2 := hrgA.kept hg2 (by simp) (by simp); have hn2 := grown_keeps hg2 hnew (by simp); rw [hs1] at hn2; have k0 := (cells_of hn2 0).1; have k1 := (cells_of hn2 1).1; have kl2 := (Array.getElem?_eq_some_iff.1 hn2).1)
          | (at_delete; refine wpList_delete_ranges _ rfl _ _ 114 38 rfl 62 lawA Try.underlying114 (plainElem Try.prog 62) nm w.heap.size n _ _ _ rfl hrg2 _ _ rfl hkey ?_; intro w3 cnt3 hrg3 hle hturn; go_frame)
          | go_in)
        rw [strike_twice] at hrg3
        go_roundw
        case rel => exact ⟨_, cnt3, by rw [← Fk_struck hap (lawA.key hkey) hlx hpd hat]; exact hrg3, (hgw2.andThen hg2 (fun j hj => by cases hj)).andThen hturn.grown (fun j hj => by cases hj; exact Or.inr rfl)⟩
        case measure => rw [hrg3.left_eq, hrg.left_eq]; omega
end Go.Proofs.Ytemlnkcokeckmaa
namespace Go.Proofs.Ytemlnkcokeckmaa
open Go.RowKit Go.Maps
set_option linter.unusedVariables false
set_option linter.unusedSimpArgs false

def gCells (nb : Nat) (most since : Int) (av : Value) (nm : Nat) : Array Value := #[.pointer (some ⟨nb, 0, none⟩), .int .i64 most, .int .i64 since, av, .map (some nm)]
/-- a gateway gb of the box nb, with its map of numbers nm (no more than c of them); these objects are held -/
structure Gm (w0 : World) (gb nb nm : Nat) (x : Bx) (most since : Int) (av : Value) (f : Nf) (c : Nat) (now : Int) (M : List Bn) (os : List (Nat × Obj)) (V : World) : Prop where
  pl : ∃ o, Pl w0 nb x now M ((gb, .cells (gCells nb most since av nm) 117 (0, 0)) :: (nm, o) :: os) V
  map : ∃ D, V.ownsMap Try.prog 38 (plainElem Try.prog 62) nm c D ∧ Nn D f
  gb0 : w0.heap.size ≤ gb
  nm0 : w0.heap.size ≤ nm
  ne : gb ≠ nm ∧ ∀ p ∈ os, p.1 ≠ gb ∧ p.1 ≠ nm
theorem map_keptG {w w' : World} {b n : Nat} {D : DataW Unit} (h : w.ownsMap Try.prog 38 (plainElem Try.prog 62) b n D) (hb : w'.heap[b]? = w.heap[b]?) : w'.ownsMap Try.prog 38 (plainElem Try.prog 62) b n D := by
  obtain ⟨es, clock, h1, h2⟩ := h
  exact ⟨es, clock, hb.trans h1, h2⟩
theorem Pl.swap {w0 V V' : World} {nb : Nat} {x : Bx} {now : Int} {M : List Bn} {os os' : List (Nat × Obj)} {S : Nat → Prop} (h : Pl w0 nb x now M os V) (hk : Keeps S V V') (hS : ∀ k, S k → w0.heap.size ≤ k ∧ ∃ p ∈ os, p.1 = k) (ho : ∀ p ∈ os', V'.heap[p.1]? = some p.2 ∧ ∃ q ∈ os, q.1 = p.1) : Pl w0 nb x now M os' V' := by
  obtain ⟨kv, L, h1, h2, h3, h4⟩ := h.bo
  refine ⟨⟨kv, L, h1.keeps hk (fun k hf hs => ?_), h2, h3, fun p hp hf => ?_⟩, fun p hp => (ho p hp).1, h.low.trans (hk.below (fun k hs => (hS k hs).1) h.low.size)⟩
  · obtain ⟨_, p, hp, rfl⟩ := hS k hs
    exact h4 p hp hf
  · obtain ⟨_, q, hq, e⟩ := ho p hp
    exact h4 q hq (by rw [e]; exact hf)
section
variable {w0 V V' : World} {gb nb nm : Nat} {x : Bx} {most since now now' : Int} {av : Value} {f f' : Nf} {c c' : Nat} {M M' : List Bn} {os : List (Nat × Obj)}
theorem Gm.low (h : Gm w0 gb nb nm x most since av f c now M os V) : Below w0.heap.size w0 V := by obtain ⟨o, hp⟩ := h.pl; exact hp.low
theorem Gm.lt (h : Gm w0 gb nb nm x most since av f c now M os V) {p : Nat × Obj} (hp : p ∈ os) : p.1 < V.heap.size := by obtain ⟨o, hq⟩ := h.pl; exact hq.lt (by simp [hp])
theorem Gm.held (h : Gm w0 gb nb nm x most since av f c now M os V) {p : Nat × Obj} (hp : p ∈ os) : V.heap[p.1]? = some p.2 := by obtain ⟨o, hq⟩ := h.pl; exact hq.held p (by simp [hp])
theorem Gm.cellsOf {b : Nat} {C : Array Value} {t : TypeId} (h : Gm w0 gb nb nm x most since av f c now M os V) (hp : (b, Obj.cells C t (0, 0)) ∈ os) (j : Nat) : V.cell? ⟨b, j, none⟩ = C[j]? ∧ V.frozen? ⟨b, j, none⟩ = false := cells_of (h.held hp) j
theorem Gm.top (h : Gm w0 gb nb nm x most since av f c now M os V) : V.heap[gb]? = some (.cells (gCells nb most since av nm) 117 (0, 0)) := by obtain ⟨o, hp⟩ := h.pl; exact hp.held (gb, _) (by simp)
theorem Gm.cells (h : Gm w0 gb nb nm x most since av f c now M os V) : (V.cell? ⟨gb, 0, none⟩ = some (.pointer (some ⟨nb, 0, none⟩)) ∧ V.cell? ⟨gb, 1, none⟩ = some (.int .i64 most) ∧ V.cell? ⟨gb, 2, none⟩ = some (.int .i64 since) ∧ V.cell? ⟨gb, 3, none⟩ = some av ∧ V.cell? ⟨gb, 4, none⟩ = some (.map (some nm))) ∧ (∀ j, V.frozen? ⟨gb, j, none⟩ = false) ∧ gb < V.heap.size := by
  have h0 := fun j => (cells_of h.top j).1
  exact ⟨⟨h0 0, h0 1, h0 2, h0 3, h0 4⟩, fun j => (cells_of h.top j).2, (Array.getElem?_eq_some_iff.1 h.top).1⟩
theorem Gm.below (h : Gm w0 gb nb nm x most since av f c now M os V) (hb : Below V.heap.size V V') : Gm w0 gb nb nm x most since av f c now M os V' := by
  obtain ⟨o, hp⟩ := h.pl
  obtain ⟨D, hD, hN⟩ := h.map
  exact ⟨⟨o, hp.below hb⟩, ⟨D, map_keptG hD (hb.block _ hD.lt), hN⟩, h.gb0, h.nm0, h.ne⟩
theorem Gm.drewN (h : Gm w0 gb nb nm x most since av f c now M os V) (q : Nat) : Gm w0 gb nb nm x most since av f c now M os (V.drewN q) := h.below (below_drw (Below.refl _ V) q)
theorem Gm.alloc (h : Gm w0 gb nb nm x most since av f c now M os V) (o : Obj) : Gm w0 gb nb nm x most since av f c now M os (V.alloc o) := h.below ((Below.refl _ V).alloc (Nat.le_refl _) o)
theorem Gm.sub {os' : List (Nat × Obj)} (h : Gm w0 gb nb nm x most since av f c now M os V) (hs : ∀ p ∈ os', p ∈ os) : Gm w0 gb nb nm x most since av f c now M os' V := by
  obtain ⟨o, hp⟩ := h.pl
  refine ⟨⟨o, hp.sub (fun p hq => ?_)⟩, h.map, h.gb0, h.nm0, h.ne.1, fun p hq => h.ne.2 p (hs p hq)⟩
  rcases List.mem_cons.1 hq with rfl | hq
  · simp
  · rcases List.mem_cons.1 hq with rfl | hq
    · simp
    · simp [hs p hq]
/-- one more object is held -/
theorem Gm.more {p : Nat × Obj} (h : Gm w0 gb nb nm x most since av f c now M os V) (hv : V.heap[p.1]? = some p.2) (hf : ∀ kv L, Na V nb x now kv L → ¬ Foot nb kv L p.1) (h1 : p.1 ≠ gb) (h2 : p.1 ≠ nm) : Gm w0 gb nb nm x most since av f c now M (p :: os) V := by
  obtain ⟨o, hp⟩ := h.pl
  obtain ⟨kv, L, e1, e2, e3, e4⟩ := hp.bo
  have hin : ∀ q, q ∈ (gb, Obj.cells (gCells nb most since av nm) 117 (0, 0)) :: (nm, o) :: p :: os → q = p ∨ q ∈ (gb, Obj.cells (gCells nb most since av nm) 117 (0, 0)) :: (nm, o) :: os := fun q hq => by
    simp only [List.mem_cons] at hq ⊢
    rcases hq with h | h | h | h
    · exact .inr (.inl h)
    · exact .inr (.inr (.inl h))
    · exact .inl h
    · exact .inr (.inr (.inr h))
  refine ⟨⟨o, ⟨kv, L, e1, e2, e3, fun q hq => ?_⟩, fun q hq => ?_, hp.low⟩, h.map, h.gb0, h.nm0, h.ne.1, fun q hq => ?_⟩
  · rcases hin q hq with rfl | hq
    · exact hf kv L e1
    · exact e4 q hq
  · rcases hin q hq with rfl | hq
    · exact hv
    · exact hp.held q hq
  · rcases List.mem_cons.1 hq with rfl | hq
    · exact ⟨h1, h2⟩
    · exact h.ne.2 q hq
theorem Pl.fresh {k : Nat} {o : Obj} (h : Pl w0 nb x now M os V) (hb : Below V.heap.size V V') (hk : V.heap.size ≤ k) (ho : V'.heap[k]? = some o) : Pl w0 nb x now M ((k, o) :: os) V' := by
  obtain ⟨kv, L, g1, g2, g3, g4⟩ := h.bo
  refine ⟨⟨kv, L, g1.below hb, g2, g3, fun p hp => ?_⟩, fun p hp => ?_, (h.below hb).low⟩
  · rcases List.mem_cons.1 hp with rfl | hp
    · intro hf
      have := g1.foot_lt hf
      dsimp only at this
      omega
    · exact g4 p hp
  · rcases List.mem_cons.1 hp with rfl | hp
    · exact ho
    · exact (h.below hb).held p hp
theorem Gm.fresh {k : Nat} {o : Obj} (h : Gm w0 gb nb nm x most since av f c now M os V) (hb : Below V.heap.size V V') (hk : V.heap.size ≤ k) (ho : V'.heap[k]? = some o) : Gm w0 gb nb nm x most since av f c now M ((k, o) :: os) V' := by
  have h1 := h.cells.2.2
  have hB := h.below hb
  obtain ⟨D, hD, _⟩ := h.map
  have h2 := hD.lt
  obtain ⟨o', hp⟩ := h.pl
  refine ⟨⟨o', (hp.fresh hb hk ho).sub (fun q hq => ?_)⟩, hB.map, h.gb0, h.nm0, h.ne.1, fun q hq => ?_⟩
  · simp only [List.mem_cons] at hq ⊢
    rcases hq with h | h | h | h
    · exact .inr (.inl h)
    · exact .inr (.inr (.inl h))
    · exact .inl h
    · exact .inr (.inr (.inr h))
  · rcases List.mem_cons.1 hq with rfl | hq
    · exact ⟨by dsimp only; omega, by dsimp only; omega⟩
    · exact h.ne.2 q hq
theorem Gm.box {k : Nat} (h : Gm w0 gb nb nm x most since av f c now M os V) (cs : Array Value) (t : TypeId) (hk : k = V.heap.size) : Gm w0 gb nb nm x most since av f c now M ((k, .cells cs t (0, 0)) :: os) (V.alloc (.cells cs t)) :=
  h.fresh ((Below.refl _ V).alloc (Nat.le_refl _) _) (by omega) (by rw [hk]; exact World.alloc_heap_new V _)
/-- a call of the box -/
theorem Gm.prog {g : Nat} {args : Array Value} {E : Ending → World → Prop} (h : Gm w0 gb nb nm x most since av f c now M os V) (hc : ∀ os', Pl w0 nb x now M os' V → Calls Try.prog g args V fun e V' => E e V' ∧ Pl w0 nb x now' M' os' V') :
    Calls Try.prog g args V fun e V' => E e V' ∧ Gm w0 gb nb nm x most since av f c now' M' os V' := by
  obtain ⟨o, hp⟩ := h.pl
  obtain ⟨D, hD, hN⟩ := h.map
  refine (hc _ hp).mono fun e V' hr => ⟨hr.1, ⟨⟨o, hr.2⟩, ⟨D, map_keptG hD ?_, hN⟩, h.gb0, h.nm0, h.ne⟩⟩
  exact (hr.2.held (nm, o) (by simp)).trans (hp.held (nm, o) (by simp)).symm
/-- the map of numbers has turned -/
theorem Gm.turn {D' : DataW Unit} (h : Gm w0 gb nb nm x most since av f c now M os V) (hg : V.grownBy V' (some nm)) (hD : V'.ownsMap Try.prog 38 (plainElem Try.prog 62) nm c' D') (hN : Nn D' f') : Gm w0 gb nb nm x most since av f' c' now M os V' := by
  obtain ⟨o, hp⟩ := h.pl
  have hD' := hD
  obtain ⟨es, clk, hob, -⟩ := hD'
  refine ⟨⟨.map es clk, hp.swap (S := fun k => k = nm) (.grown hg (fun g e => by cases e; rfl)) (fun k hk => ?_) (fun p hq => ?_)⟩, ⟨D', hD, hN⟩, h.gb0, h.nm0, h.ne⟩
  · subst hk
    exact ⟨h.nm0, (k, o), by simp, rfl⟩
  · rcases List.mem_cons.1 hq with rfl | hq
    · exact ⟨grown_keeps hg (hp.held (gb, _) List.mem_cons_self) (fun e => h.ne.1 (Option.some.inj e).symm), (gb, _), List.mem_cons_self, rfl⟩
    · rcases List.mem_cons.1 hq with rfl | hq
      · exact ⟨hob, (nm, o), by simp, rfl⟩
      · exact ⟨grown_keeps hg (hp.held p (by simp [hq])) (fun e => (h.ne.2 p hq).2 (by cases e; rfl)), p, by simp [hq], rfl⟩
/-- the gateway's own time is another -/
theorem Gm.born (h : Gm w0 gb nb nm x most since av f c now M os V) (s : Int) : Gm w0 gb nb nm x most s av f c now M os (V.setCell ⟨gb, 2, none⟩ (.int .i64 s)) := by
  obtain ⟨o, hp⟩ := h.pl
  obtain ⟨D, hD, hN⟩ := h.map
  have hk : Keeps (fun k => k = gb) V (V.setCell ⟨gb, 2, none⟩ (.int .i64 s)) := Keeps.set (S := fun k => k = gb) (Keeps.refl _ _) gb 2 _ rfl
  refine ⟨⟨o, hp.swap hk (fun k hk => ?_) (fun p hq => ?_)⟩, ⟨D, map_keptG hD (hk.block _ hD.lt (fun e => h.ne.1 e.symm)), hN⟩, h.gb0, h.nm0, h.ne⟩
  · subst hk
    exact ⟨h.gb0, (k, _), List.mem_cons_self, rfl⟩
  · rcases List.mem_cons.1 hq with rfl | hq
    · exact ⟨heap_setCell_same V gb 2 _ 117 _ h.top, (gb, _), List.mem_cons_self, rfl⟩
    · rcases List.mem_cons.1 hq with rfl | hq
      · exact ⟨(heap_setCell_other V ⟨gb, 2, none⟩ nm _ (fun e => h.ne.1 e.symm)).trans (hp.held (nm, o) (by simp)), (nm, o), by simp, rfl⟩
      · exact ⟨(heap_setCell_other V ⟨gb, 2, none⟩ p.1 _ (fun e => (h.ne.2 p hq).1 e)).trans (hp.held p (by simp [hq])), p, by simp [hq], rfl⟩
/-- a held block's cell is turned -/
theorem Gm.store {b j : Nat} {C : Array Value} {t : TypeId} {v : Value} (h : Gm w0 gb nb nm x most since av f c now M ((b, Obj.cells C t (0, 0)) :: os) V) (ho : ∀ p ∈ os, p.1 ≠ b) (hb : w0.heap.size ≤ b) :
    Gm w0 gb nb nm x most since av f c now M ((b, Obj.cells (C.setIfInBounds j v) t (0, 0)) :: os) (V.setCell ⟨b, j, none⟩ v) := by
  obtain ⟨o, hp⟩ := h.pl
  obtain ⟨D, hD, hN⟩ := h.map
  have hne := h.ne.2 (b, Obj.cells C t (0, 0)) (by simp)
  dsimp only at hne
  have hk : Keeps (fun k => k = b) V (V.setCell ⟨b, j, none⟩ v) := Keeps.set (S := fun k => k = b) (Keeps.refl _ _) b j v rfl
  refine ⟨⟨o, hp.swap hk (fun k hk => ?_) (fun p hq => ?_)⟩, ⟨D, map_keptG hD (hk.block _ hD.lt (fun e => hne.2 e.symm)), hN⟩, h.gb0, h.nm0, h.ne.1, fun p hq => ?_⟩
  · subst hk
    exact ⟨hb, (k, Obj.cells C t (0, 0)), by simp, rfl⟩
  · rcases List.mem_cons.1 hq with rfl | hq
    · exact ⟨(heap_setCell_other V ⟨b, j, none⟩ gb _ (fun e => hne.1 e.symm)).trans h.top, (gb, _), by simp, rfl⟩
    · rcases List.mem_cons.1 hq with rfl | hq
      · exact ⟨(heap_setCell_other V ⟨b, j, none⟩ nm _ (fun e => hne.2 e.symm)).trans (hp.held (nm, o) (by simp)), (nm, o), by simp, rfl⟩
      · rcases List.mem_cons.1 hq with rfl | hq
        · exact ⟨heap_setCell_same V b j C t v (h.held (p := (b, Obj.cells C t (0, 0))) (by simp)), (b, Obj.cells C t (0, 0)), by simp, rfl⟩
        · exact ⟨(heap_setCell_other V ⟨b, j, none⟩ p.1 _ (fun e => ho p hq e)).trans (h.held (p := p) (by simp [hq])), p, by simp [hq], rfl⟩
  · rcases List.mem_cons.1 hq with rfl | hq
    · exact hne
    · exact h.ne.2 p (by simp [hq])
end
/-- how long the gateway is up -/
def epoV (since now : Int) : Int := if now < since then 0 else min (now - since) 4294967295
set_option maxHeartbeats 1000000 in
theorem epoch_any {V : World} {gb nb nm : Nat} {most since : Int} {av : Value} (t : Int) (h : V.heap[gb]? = some (.cells (gCells nb most since av nm) 117 (0, 0))) (h0 : 0 ≤ since) (h1 : since ≤ 1099511627776000) (h2 : t ≤ 1099511627776000) (h3 : -1099511627776000 ≤ t) :
    Calls Try.prog 58 #[.pointer (some ⟨gb, 0, none⟩), .int .i64 t] V fun e V' => e = .returned (.int .i64 (epoV since t)) ∧ V = V' := by
  have c2 : V.cell? ⟨gb, 2, none⟩ = some (.int .i64 since) := (cells_of h 2).1
  have hl := (Array.getElem?_eq_some_iff.1 h).1
  clear h
  by_cases hlt : t < since
  · have HR : Hid (epoV since t = 0) := Lib.hid (by unfold epoV; rw [if_pos hlt])
    go_enter Try.func58, Try.ntmps58
    go_wp2
    go_ret
    exact ⟨ret_i HR.out.symm, rfl⟩
  · have hge : since ≤ t := by omega
    have hw1 : IntKind.u64.wrap t = t := by show t % 18446744073709551616 = t; omega
    have hw2 : IntKind.u64.wrap since = since := by show since % 18446744073709551616 = since; omega
    have HR : Hid (epoV since t = min (t - since) 4294967295) := Lib.hid (by unfold epoV; rw [if_neg hlt])
    go_enter Try.func58, Try.ntmps58
    go_wp2
    go_ret
    exact ⟨ret_i HR.out.symm, rfl⟩
end Go.Proofs.Ytemlnkcokeckmaa
