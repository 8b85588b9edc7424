/-
  Words for WorldBack: what is sent back at once comes to where it came from. Conditions: as each lemma states.
-/
import Derived.Test.YtidhdgcmagpkgaaWj
namespace Go.Proofs.Ytidhdgcmagpkgaa
open Go.RowKit
set_option linter.unusedVariables false
set_option linter.unusedSimpArgs false

theorem goes_t {now t : Int} (h1 : now ≤ t) (h2 : t ≤ 1099511627776) : goes now t = true := by
  unfold goes
  rw [Bool.and_eq_true, decide_eq_true_eq, decide_eq_true_eq]
  exact ⟨h1, h2⟩
theorem in_code {b : Bp} {t p : Int} {f : A2} (h1 : b.now ≤ t) (h2 : t ≤ 1099511627776) (hf : mayA f = true) : ¬ (inP b t p f).1.2 = 1 ∧ (inP b t p f).2.now = t := by
  show ¬ (inS b.x b.now b.M t p f).2.1 = 1 ∧ (inS b.x b.now b.M t p f).2.2.1 = t
  unfold inS
  rw [if_pos (goes_t h1 h2)]
  refine ⟨?_, rfl⟩
  show ¬ (inM b.x (liveM b.M t) p f).2 = 1
  unfold inM
  rw [if_pos hf]
  split <;> simp
theorem out_code {b : Bp} {t : Int} {f g : A2} (h1 : b.now ≤ t) (h2 : t ≤ 1099511627776) (hf : mayA f = true) (hg : mayA g = true) : ¬ (outP b t f g).1.2 = 1 ∧ (outP b t f g).2.now = t := by
  show ¬ (outS b.x b.now b.M t f g).2.1 = 1 ∧ (outS b.x b.now b.M t f g).2.2.1 = t
  unfold outS
  rw [if_pos (goes_t h1 h2)]
  refine ⟨?_, rfl⟩
  show ¬ (outM b.x (liveM b.M t) t f g).2.1 = 1
  unfold outM
  rw [if_pos ⟨hf, hg⟩]
  split
  · simp
  · split <;> simp
/-- boxes as they may be, none of a later time -/
def OkT (t : Int) (bs : List Bp) : Prop := ∀ b ∈ bs, OkP b ∧ b.now ≤ t
theorem OkT.set {t : Int} {bs : List Bp} {b : Bp} (h : OkT t bs) (hb : OkP b ∧ b.now ≤ t) (k : Nat) : OkT t (bs.set k b) := fun c hc => (List.mem_or_eq_of_mem_set hc).elim (h c) (fun e => e ▸ hb)
theorem set_x {bs : List Bp} {b c : Bp} {k : Nat} (h : bs[k]? = some b) (hx : c.x = b.x) : (bs.set k c).map Bp.x = bs.map Bp.x := by
  rw [List.map_set]
  refine List.ext_getElem? fun j => ?_
  rw [List.getElem?_set]
  split
  · rename_i e
    subst e
    rw [if_pos (by simpa using (List.getElem?_eq_some_iff.1 h).1), List.getElem?_map, h, hx]; rfl
  · rfl
/-- what is kept on a way -/
structure FolK (t : Int) (bs : List Bp) (R : (Int × A2 × A2 × Int) × List Bp) : Prop where
  code : ¬ R.1.2.2.2 = 1
  ok : OkT t R.2
  f : isA R.1.2.1
  g : isA R.1.2.2.1
  x : R.2.map Bp.x = bs.map Bp.x
theorem folM_k {S H : List St} {t : Int} (ht : t ≤ 1099511627776) : ∀ (n : Nat) (bs : List Bp) (f g : A2) (a l : Int) (ent : Bool), OkT t bs → isA f → mayA f = true → isA g → mayA g = true → FolK t bs (folM S H t n bs f g a l ent)
  | 0, bs, f, g, a, l, ent, h, _, _, _, _ => ⟨by simp [folM, noWay], h, isA_0, isA_0, rfl⟩
  | n + 1, bs, f, g, a, l, ent, h, hf, hmf, hg, hmg => by
    rw [folM]
    split
    · exact ⟨by simp, h, hf, hg, rfl⟩
    · split
      · split
        · exact ⟨by simp [noWay], h, isA_0, isA_0, rfl⟩
        · rename_i b hb
          have hb1 := h b (List.mem_of_getElem? hb)
          obtain ⟨c1, c2⟩ := in_code (p := g.2) hb1.2 ht hmf
          obtain ⟨i1, i2, i3, i4⟩ := in_ok (t := t) (p := g.2) (f := f) hb1.1
          have hset := h.set (b := (inP b t g.2 f).2) ⟨i1, by rw [c2]; exact Int.le_refl _⟩ (idxS S (g.1, a)).toNat
          have hsx := set_x hb i4
          split
          · rename_i h0
            have r := folM_k (S := S) (H := H) ht n _ f _ (idxS S (g.1, a)) l true hset hf hmf i2 (i3 h0)
            exact ⟨r.code, r.ok, r.f, r.g, r.x.trans hsx⟩
          · exact ⟨c1, hset, isA_0, isA_0, hsx⟩
      · split
        · split
          · exact ⟨by simp [noWay], h, isA_0, isA_0, rfl⟩
          · rename_i b hb
            have hb1 := h b (List.mem_of_getElem? hb)
            obtain ⟨c1, c2⟩ := out_code (f := f) (g := g) hb1.2 ht hmf hmg
            obtain ⟨i1, i2, i3, i4⟩ := out_ok (t := t) (g := g) hb1.1 hf hmf
            have hset := h.set (b := (outP b t f g).2) ⟨i1, by rw [c2]; exact Int.le_refl _⟩ a.toNat
            have hsx := set_x hb i4
            split
            · rename_i h0
              have r := folM_k (S := S) (H := H) ht n _ _ g (getS S a).2 a ent hset i2 (i3 h0) hg hmg
              exact ⟨r.code, r.ok, r.f, r.g, r.x.trans hsx⟩
            · exact ⟨c1, hset, isA_0, isA_0, hsx⟩
        · exact ⟨by simp [noWay], h, isA_0, isA_0, rfl⟩
theorem OkPlan.step {S H : List St} {bs bs' : List Bp} {t : Int} (h : OkPlan S H bs) (hT : OkT t bs') (hx : bs'.map Bp.x = bs.map Bp.x) : OkPlan S H bs' :=
  ⟨h.s16, h.h16, by have := congrArg List.length hx; simp at this; rw [this]; exact h.len, fun b hb => (hT b hb).1, h.okS, h.okH, h.h1, h.s1, h.sh, fun i b s hi hs => by
    have e : (bs'.map Bp.x)[i]? = some b.x := by rw [List.getElem?_map, hi]; rfl
    rw [hx, List.getElem?_map] at e
    cases hb : bs[i]? with
    | none => rw [hb] at e; cases e
    | some c =>
      rw [hb] at e
      have e2 : c.x = b.x := by simpa using e
      rw [← e2]
      exact h.hst i c s hb hs⟩
theorem seeL_new (l : List A2) (b : A2) : b ∈ seeL l b := by unfold seeL; simp
theorem lets_seen {d : Bn} {b : A2} {f : Int} (h : b ∈ d.seen) : letsB d b f = true := by
  unfold letsB
  rw [Bool.or_eq_true]
  exact .inr (List.any_eq_true.2 ⟨b, h, by simp⟩)
section
variable {x : Bx} {M : List Bn} {now t : Int} {a b c : A2}
/-- one whose port is d's is d -/
theorem Okb.one (h : Okb x M) {d e : Bn} (hd : d ∈ M) (he : e ∈ M) (hp : e.port = d.port) : e = d := by
  obtain ⟨i, hi, rfl⟩ := List.getElem_of_mem hd
  obtain ⟨j, hj, rfl⟩ := List.getElem_of_mem he
  have h1 := (List.nodup_iff_pairwise_ne.1 h.ports)
  rw [List.pairwise_map] at h1
  have hP := List.pairwise_iff_getElem.1 h1
  rcases Nat.lt_trichotomy i j with h2 | rfl | h2
  · exact absurd hp.symm (hP i j hi hj h2)
  · rfl
  · exact absurd hp (hP j i hj hi h2)
/-- what In answers at a binding's port -/
theorem bk_in (h : Okb x M) {d : Bn} (hd : d ∈ M) (hg : goes now t = true) (hb : mayA b = true) (hu : t < d.until_) :
    inS x now M t d.port b = if letsB d b x.filter = true then (d.inn, 0, t, liveM M t) else ((0, 0), 8, t, liveM M t) := by
  have hl : d ∈ liveM M t := List.mem_filter.2 ⟨hd, by simp; omega⟩
  unfold inS
  rw [if_pos hg]
  unfold inM
  rw [if_pos hb]
  by_cases hc : letsB d b x.filter = true
  · have h1 : (liveM M t).find? (comesF x d.port b) = some d := by
      cases hf : (liveM M t).find? (comesF x d.port b) with
      | none =>
        rw [List.find?_eq_none] at hf
        exact absurd (by simp [comesF, hc]) (hf d hl)
      | some e =>
        have h2 := List.find?_some hf
        have h3 := List.mem_of_find?_eq_some hf
        unfold comesF at h2
        rw [Bool.and_eq_true, decide_eq_true_eq] at h2
        rw [(h.live t).one hl h3 h2.1]
    rw [h1, if_pos hc]
  · have h1 : (liveM M t).find? (comesF x d.port b) = none := by
      rw [List.find?_eq_none]
      intro e he h2
      unfold comesF at h2
      rw [Bool.and_eq_true, decide_eq_true_eq] at h2
      rw [(h.live t).one hl he h2.1] at h2
      exact hc h2.2
    rw [h1, if_neg hc]
end
/-- a binding by which something has gone out at t lets in whom that was sent to, at once -/
theorem out_in {b b1 : Bp} {t : Int} {f g a : A2} (hb : OkP b) (hn : b.now ≤ t) (ht : t < 1099511627776) (hg : mayA g = true) (h : outP b t f g = ((a, 0), b1)) : a.1 = b.x.host ∧ b1.x = b.x ∧ (inP b1 t a.2 g).1 = (f, 0) := by
  obtain ⟨q1, q2, q3, q4, q5, q6, q7, q8⟩ := box2_parts hb.b2
  have hgo := goes_t hn (by omega : t ≤ 1099511627776)
  have hgo2 := goes_t (Int.le_refl t) (by omega : t ≤ 1099511627776)
  have hok : Okb b.x (outS b.x b.now b.M t f g).2.2.2 := hb.M.out q3
  unfold outP at h
  simp only [Prod.mk.injEq] at h
  obtain ⟨⟨h1, h2⟩, rfl⟩ := h
  refine ⟨?_, rfl, ?_⟩
  · rw [← h1]
    unfold outS at h2 ⊢
    rw [if_pos hgo] at h2 ⊢
    show (outM b.x (liveM b.M t) t f g).1.1 = _
    have h2 : (outM b.x (liveM b.M t) t f g).2.1 = 0 := h2
    unfold outM at h2 ⊢
    split at h2
    · rename_i hm
      rw [if_pos hm]
      split at h2
      · rfl
      · rename_i hd
        split at h2
        · rfl
        · simp at h2
    · simp at h2
  · show ((inS b.x (outS b.x b.now b.M t f g).2.2.1 (outS b.x b.now b.M t f g).2.2.2 t a.2 g).1, (inS b.x (outS b.x b.now b.M t f g).2.2.1 (outS b.x b.now b.M t f g).2.2.2 t a.2 g).2.1) = (f, 0)
    have key : ∃ d, d ∈ (outS b.x b.now b.M t f g).2.2.2 ∧ d.inn = f ∧ d.port = a.2 ∧ t < d.until_ ∧ g ∈ d.seen := by
      rw [← h1]
      unfold outS at h2 ⊢
      rw [if_pos hgo] at h2 ⊢
      show ∃ d, d ∈ (outM b.x (liveM b.M t) t f g).2.2 ∧ d.inn = f ∧ d.port = (outM b.x (liveM b.M t) t f g).1.2 ∧ t < d.until_ ∧ g ∈ d.seen
      have h2 : (outM b.x (liveM b.M t) t f g).2.1 = 0 := h2
      unfold outM at h2 ⊢
      split at h2
      · rename_i hm
        rw [if_pos hm]
        split at h2
        · rename_i d hd
          dsimp only
          have hfd := List.find?_some hd
          have hmem := List.mem_of_find?_eq_some hd
          have hlive : t < d.until_ := by
            have := (List.mem_filter.1 hmem).2
            simp at this
            omega
          have hda : d.inn = f := by
            unfold wayF at hfd
            split at hfd
            · unfold askF at hfd; rw [Bool.and_eq_true, decide_eq_true_eq] at hfd; exact hfd.1
            · unfold toF at hfd; rw [Bool.and_eq_true, decide_eq_true_eq] at hfd; exact hfd.1
          obtain ⟨_, ls, rs, e, hls⟩ := List.find?_eq_some_iff_append.1 hd
          refine ⟨sentB b.x t g d, ?_, hda, rfl, ?_, seeL_new _ _⟩
          · have hu : ∀ F : Bn → Bool, (∀ c ∈ ls, F c = false) → F d = true → sentB b.x t g d ∈ updF F (sentB b.x t g) (liveM b.M t) := fun F h1 h2 => by rw [e, updF_at h1 h2]; simp
            exact hu _ (fun c hc => by simpa using hls c hc) (by simpa using List.find?_some hd)
          · show t < if d.asked = true then d.until_ else min (t + b.x.life) 1099511627776
            split
            · exact hlive
            · omega
        · rename_i hd
          split at h2
          · rename_i p hp
            refine ⟨sentB b.x t g (newB b.x f g p), by simp, rfl, rfl, ?_, seeL_new _ _⟩
            show t < if false = true then (0 : Int) else min (t + b.x.life) 1099511627776
            rw [if_neg (by simp)]
            omega
          · simp at h2
      · simp at h2
    obtain ⟨d, d1, d2, d3, d4, d5⟩ := key
    have hnow : (outS b.x b.now b.M t f g).2.2.1 = t := by unfold outS; rw [if_pos hgo]
    rw [hnow, ← d3, bk_in hok d1 hgo2 hg d4, if_pos (lets_seen d5), d2]
/-- a place that is neither og, nor where og stands -/
def NotUp (S : List St) (og : Int) (c : Nat) : Prop := ¬ og = (c : Int) ∧ ∀ o : Nat, og = (o : Int) → ¬ (getS S (o : Int)).2 = (c : Int)
theorem fol_ent {S H : List St} {t og : Int} (hS : OkS S) : ∀ (n : Nat) (bs : List Bp) (f g : A2) (k : Nat) (l : Int), bs.length = S.length → (k : Int) < S.length → NotUp S og k → (folM S H t n bs f g k l true).1.2.2.2 = 0 →
    (folM S H t n bs f g k l true).1.2.1 = f ∧ ∃ (c j : Nat) (x : Int), NotUp S og c ∧ (folM S H t n bs f g k l true).1.1 = (j : Int) ∧ H[j]? = some (x, (c : Int))
  | 0, bs, f, g, k, l, _, _, _, h0 => by simp [folM, noWay] at h0
  | n + 1, bs, f, g, k, l, hlen, hkl, hu, h0 => by
    rcases idxS_cases H (g.1, (k : Int)) with ⟨e, _⟩ | ⟨j, e, hj⟩
    · rcases idxS_cases S (g.1, (k : Int)) with ⟨e2, _⟩ | ⟨j, e2, hj⟩
      · rw [folM_none e (.inl e2) (.inr rfl)] at h0
        simp [noWay] at h0
      · have hjl := (List.getElem?_eq_some_iff.1 hj).1
        by_cases hjk : (j : Int) = l
        · rw [folM_none e (.inr (e2.trans hjk)) (.inr rfl)] at h0
          simp [noWay] at h0
        · obtain ⟨b, hb⟩ : ∃ b, bs[j]? = some b := ⟨_, List.getElem?_eq_getElem (by omega)⟩
          have hE := folM_in (t := t) (m := n) (f := f) (ent := true) (H := H) e e2 hjk hb (inP b t g.2 f) rfl
          by_cases hc : (inP b t g.2 f).1.2 = 0
          · rw [if_pos hc] at hE
            rw [hE] at h0 ⊢
            refine fol_ent hS n _ f _ j l (by rw [List.length_set]; exact hlen) (by omega) ⟨fun e3 => ?_, fun o e3 e4 => ?_⟩ h0
            · exact hu.2 j e3 (by rw [getS_at hj])
            · subst e3
              rcases Nat.lt_or_ge o S.length with h9 | h9
              · obtain ⟨s, hs⟩ : ∃ s, S[o]? = some s := ⟨_, List.getElem?_eq_getElem h9⟩
                rw [getS_at hs] at e4
                rcases hS o s hs with h8 | ⟨i, h8, _, h7⟩
                · omega
                · have hij : i = j := by omega
                  subst hij
                  rw [getS_at hj] at h7
                  simp only at h7
                  omega
              · unfold getS at e4
                rw [Int.toNat_natCast, List.getElem?_eq_none h9] at e4
                have hj0 : j = 0 := by simp at e4; omega
                subst hj0
                rcases hS 0 _ hj with h8 | ⟨i, _, h7, _⟩
                · simp only at h8; omega
                · omega
          · rw [if_neg hc] at hE
            rw [hE] at h0
            exact absurd h0 hc
    · have hE := folM_host (S := S) (t := t) (m := n) (bs := bs) (f := f) (g := g) (l := l) (ent := true) (by show idxS H (g.1, (k : Int)) ≠ -1; rw [e]; omega)
      rw [hE]
      exact ⟨rfl, k, j, g.1, hu, e, hj⟩
theorem way_eq {S H : List St} {bs : List Bp} {t j q : Int} {f : A2} (ht : t ≤ 1099511627776) (h1 : mayA (ownA H j q) = true) (h2 : mayA f = true) : (wayM S H bs t t j q f).1 = (folM S H t 100 bs (ownA H j q) f (outerI H j) (-1) false).1 := by
  unfold wayM
  rw [if_pos ⟨Int.le_refl t, ht, h1, h2⟩]
theorem own_at_h {H : List St} {j : Nat} {x a q : Int} (hj : H[j]? = some (x, a)) : ownA H j q = (x, q) ∧ outerI H j = a := by
  have hb : inB (j : Int) H.length = true := by rw [inB_nat]; simpa using (List.getElem?_eq_some_iff.1 hj).1
  constructor
  · unfold ownA; rw [if_pos hb, getS_at hj]
  · unfold outerI; rw [if_pos hb, getS_at hj]
section
variable {S H : List St} {bs : List Bp} {t : Int}
/-- back through one box -/
theorem back_one (h : OkPlan S H bs) {k o : Nat} {hx so port p1 a l : Int} {g : A2} {b1 : Bp} (n : Nat) (hk : H[k]? = some (hx, (o : Int))) (ho : S[o]? = some (so, a)) (hl : ¬ (o : Int) = l) {bs1 : List Bp} (hb : bs1[o]? = some b1) (hin : (inP b1 t p1 g).1 = ((hx, port), 0)) (ent : Bool) :
    (folM S H t (n + 1 + 1) bs1 g (so, p1) a l ent).1 = ((k : Int), g, (hx, port), 0) := by
  have e1 : idxS H ((so, p1).1, a) = -1 := idxS_none (h.sh _ (List.mem_of_getElem? ho))
  have e2 : idxS S ((so, p1).1, a) = (o : Int) := idxS_some ho (fun j s hj hs e => by subst e; have := h.s1 j o _ hs ho; omega)
  have e3 : idxS H (hx, (o : Int)) = (k : Int) := idxS_some hk (fun j s hj hs e => by subst e; have := h.h1 j k _ hs hk; omega)
  rw [folM_in (t := t) (f := g) (g := (so, p1)) e1 e2 hl hb _ rfl]
  show (if (inP b1 t p1 g).1.2 = 0 then folM S H t (n + 1) (bs1.set o (inP b1 t p1 g).2) g (inP b1 t p1 g).1.1 o l true else (noWay (inP b1 t p1 g).1.2, bs1.set o (inP b1 t p1 g).2)).1 = _
  rw [hin, if_pos rfl]
  have e4 : idxS H ((hx, port).1, (o : Int)) ≠ -1 := by show idxS H (hx, (o : Int)) ≠ -1; rw [e3]; omega
  rw [folM_host e4]
  show (idxS H (hx, (o : Int)), _, _, _) = _
  rw [e3]
set_option maxHeartbeats 1000000 in
theorem way_back {now host port : Int} {g : A2} (h : OkPlan S H bs) (hT : OkT t bs) (hnow : now ≤ t) (ht : t < 1099511627776) (hp : W64 port) (R : (Int × A2 × A2 × Int) × List Bp × Int) (hR : wayM S H bs now t host port g = R) (h0 : R.1.2.2.2 = 0) :
    ∃ k j : Nat, host = k ∧ k < H.length ∧ R.1.1 = j ∧ j < H.length ∧ R.2.2 = t ∧ (outerI H host = -1 → R.1.2.1 = ownA H host port) ∧ ((outerI H j = -1 ∨ outerI H j = outerI H host) → (wayM S H R.2.1 t t j R.1.2.2.1.2 R.1.2.1).1 = (host, R.1.2.2.1, ownA H host port, 0)) := by
  have htm : t ≤ 1099511627776 := by omega
  unfold wayM at hR
  split at hR
  case isFalse => rw [← hR] at h0; simp [noWay] at h0
  rename_i hc
  obtain ⟨_, _, c3, c4⟩ := hc
  obtain ⟨k, rfl, hkl⟩ : ∃ k : Nat, host = k ∧ k < H.length := by
    cases hb : inB host H.length with
    | true => exact inB_t hb
    | false => exfalso; unfold ownA at c3; rw [hb, if_neg (by decide)] at c3; simp [mayA] at c3
  obtain ⟨⟨hx, og⟩, hk⟩ : ∃ s, H[k]? = some s := ⟨_, List.getElem?_eq_getElem hkl⟩
  obtain ⟨eo1, eo2⟩ := own_at_h (q := port) hk
  have hio : isA (ownA H k port) := own_is h.okH hp
  rw [eo1, eo2] at hR
  rw [eo1] at c3 hio ⊢
  rw [eo2]
  obtain ⟨F, hF⟩ : ∃ F, folM S H t 100 bs (hx, port) g og (-1) false = F := ⟨_, rfl⟩
  rw [hF] at hR
  subst hR
  dsimp only at h0 ⊢
  have hcode : ¬ F.1.2.2.2 = 1 := by omega
  rw [if_neg hcode]
  have hkk : idxS H (hx, og) = (k : Int) := idxS_some hk (fun j s hj hs e => by subst e; have := h.h1 j k _ hs hk; omega)
  have hhost := (h.okH _ (List.mem_of_getElem? hk)).2.2
  simp only at hhost
  rcases idxS_cases H (g.1, og) with ⟨e, _⟩ | ⟨j, e, hj⟩
  case inr =>
    -- it is next to it
    have hE := folM_host (S := S) (t := t) (m := 99) (bs := bs) (f := (hx, port)) (g := g) (l := -1) (ent := false) (by show idxS H (g.1, og) ≠ -1; rw [e]; omega)
    rw [show (100 : Nat) = 99 + 1 from rfl, hE] at hF
    subst hF
    obtain ⟨ej1, ej2⟩ := own_at_h (q := g.2) hj
    refine ⟨k, j, rfl, hkl, e, (List.getElem?_eq_some_iff.1 hj).1, rfl, fun _ => rfl, fun _ => ?_⟩
    dsimp only
    rw [way_eq htm (by rw [ej1]; exact c4) c3, ej1, ej2, show (100 : Nat) = 99 + 1 from rfl, folM_host (by show idxS H (hx, og) ≠ -1; rw [hkk]; omega)]
    show (idxS H (hx, og), _, _, _) = _
    rw [hkk]
  rcases idxS_cases S (g.1, og) with ⟨e2, _⟩ | ⟨j, e2, hj⟩
  case inr =>
    -- it comes into a box that stands next to it
    have hjl := (List.getElem?_eq_some_iff.1 hj).1
    obtain ⟨b, hb⟩ : ∃ b, bs[j]? = some b := ⟨_, List.getElem?_eq_getElem (by rw [h.len]; exact hjl)⟩
    have hE := folM_in (t := t) (m := 99) (f := (hx, port)) (ent := false) e e2 (by omega : ¬ (j : Int) = -1) hb (inP b t g.2 (hx, port)) rfl
    rw [show (100 : Nat) = 99 + 1 from rfl, hE] at hF
    by_cases hcc : (inP b t g.2 (hx, port)).1.2 = 0
    case neg => rw [if_neg hcc] at hF; subst hF; exact absurd h0 hcc
    rw [if_pos hcc] at hF
    subst hF
    have hup : NotUp S og j := by
      rcases h.okS j _ hj with h8 | ⟨i, h8, h7, _⟩
      · simp only at h8
        exact ⟨by omega, fun o ho => by omega⟩
      · simp only at h8
        refine ⟨by omega, fun o ho => ?_⟩
        have hoi : o = i := by omega
        subst hoi
        obtain ⟨s, hs⟩ : ∃ s, S[o]? = some s := ⟨_, List.getElem?_eq_getElem (by omega)⟩
        rw [getS_at hs]
        rcases h.okS o s hs with h6 | ⟨i2, h6, h5, _⟩ <;> omega
    obtain ⟨r1, c, j2, x, r2, r3, r4⟩ := fol_ent h.okS 99 _ (hx, port) _ j (-1) (by rw [List.length_set]; exact h.len) (by omega) hup h0
    obtain ⟨_, ej2⟩ := own_at_h (q := 0) r4
    refine ⟨k, j2, rfl, hkl, r3, (List.getElem?_eq_some_iff.1 r4).1, rfl, fun _ => r1, fun hor => ?_⟩
    rw [ej2] at hor
    rcases hor with h9 | h9
    · omega
    · exact absurd h9.symm r2.1
  -- it goes out
  rcases hhost with rfl | ⟨o, rfl, hol⟩
  · rw [show (100 : Nat) = 99 + 1 from rfl, folM_none e (.inl e2) (.inl rfl)] at hF
    subst hF
    simp [noWay] at h0
  obtain ⟨⟨so, q⟩, hs⟩ : ∃ s, S[o]? = some s := ⟨_, List.getElem?_eq_getElem hol⟩
  obtain ⟨b, hb⟩ : ∃ b, bs[o]? = some b := ⟨_, List.getElem?_eq_getElem (by rw [h.len]; exact hol)⟩
  have hbT := hT b (List.mem_of_getElem? hb)
  obtain ⟨⟨⟨⟨fa, p1⟩, ec⟩, b1⟩, hr⟩ : ∃ r, outP b t (hx, port) g = r := ⟨_, rfl⟩
  have hE := folM_out (S := S) (t := t) (m := 99) (f := (hx, port)) (g := g) (l := -1) e (.inl e2) hb _ hr
  rw [show (100 : Nat) = 99 + 1 from rfl, hE] at hF
  dsimp only at hF
  by_cases hcc : ec = 0
  case neg => rw [if_neg hcc] at hF; subst hF; exact absurd h0 hcc
  subst hcc
  rw [if_pos rfl, getS_at hs] at hF
  dsimp only at hF
  obtain ⟨i1, i2, i3⟩ := out_in hbT.1 hbT.2 ht c4 hr
  have hout := out_ok (t := t) (g := g) hbT.1 hio c3
  rw [hr] at hout
  obtain ⟨o1, o2, o3, o4⟩ := hout
  have hfa : fa = so := by have := h.hst o b _ hb hs; simp only at this i1; omega
  subst hfa
  have hb1 : (bs.set o b1)[o]? = some b1 := by rw [List.getElem?_set, if_pos rfl, if_pos (List.getElem?_eq_some_iff.1 hb).1]
  have hq : q = -1 ∨ ∃ p : Nat, q = p ∧ p < o ∧ (getS S (p : Int)).2 = -1 := h.okS o _ hs
  have hlen1 : (bs.set o b1).length = S.length := by rw [List.length_set]; exact h.len
  rcases idxS_cases H (g.1, q) with ⟨e3, _⟩ | ⟨j, e3, hj⟩
  case inr =>
    -- to a host next to the box
    have hE := folM_host (S := S) (t := t) (m := 98) (bs := bs.set o b1) (f := (fa, p1)) (g := g) (l := (o : Int)) (ent := false) (by show idxS H (g.1, q) ≠ -1; rw [e3]; omega)
    rw [show (99 : Nat) = 98 + 1 from rfl, hE] at hF
    subst hF
    obtain ⟨ej1, ej2⟩ := own_at_h (q := g.2) hj
    refine ⟨k, j, rfl, hkl, e3, (List.getElem?_eq_some_iff.1 hj).1, rfl, fun h9 => by omega, fun hor => ?_⟩
    rw [ej2] at hor
    have hq1 : q = -1 := by
      rcases hor with h9 | h9
      · exact h9
      · rcases hq with h8 | ⟨p, h8, h7, _⟩
        · exact h8
        · omega
    subst hq1
    dsimp only
    rw [way_eq htm (by rw [ej1]; exact c4) (o3 rfl), ej1, ej2]
    exact back_one h 98 hk hs (by omega) hb1 i3 false
  by_cases hbox : ∃ j : Nat, idxS S (g.1, q) = (j : Int) ∧ S[j]? = some (g.1, q) ∧ ¬ (j : Int) = (o : Int)
  · -- into another box next to that one
    obtain ⟨j, e4, hj, hjo⟩ := hbox
    have hjl := (List.getElem?_eq_some_iff.1 hj).1
    obtain ⟨b2, hb2⟩ : ∃ b, (bs.set o b1)[j]? = some b := ⟨_, List.getElem?_eq_getElem (by rw [hlen1]; exact hjl)⟩
    have hE := folM_in (t := t) (m := 98) (f := (fa, p1)) (ent := false) e3 e4 hjo hb2 (inP b2 t g.2 (fa, p1)) rfl
    rw [show (99 : Nat) = 98 + 1 from rfl, hE] at hF
    by_cases hcc : (inP b2 t g.2 (fa, p1)).1.2 = 0
    case neg => rw [if_neg hcc] at hF; subst hF; exact absurd h0 hcc
    rw [if_pos hcc] at hF
    subst hF
    have hup : NotUp S (o : Int) j := by
      refine ⟨fun h9 => hjo h9.symm, fun o' ho' => ?_⟩
      have : o' = o := by omega
      subst this
      rw [getS_at hs]
      rcases h.okS j _ hj with h8 | ⟨i, h8, h7, _⟩ <;> simp only at h8 ⊢ <;> omega
    obtain ⟨r1, c, j2, x, r2, r3, r4⟩ := fol_ent h.okS 98 _ (fa, p1) _ j (o : Int) (by rw [List.length_set]; exact hlen1) (by omega) hup h0
    obtain ⟨_, ej2⟩ := own_at_h (q := 0) r4
    refine ⟨k, j2, rfl, hkl, r3, (List.getElem?_eq_some_iff.1 r4).1, rfl, fun h9 => by omega, fun hor => ?_⟩
    rw [ej2] at hor
    rcases hor with h9 | h9
    · omega
    · exact absurd h9.symm r2.1
  have e4 : idxS S (g.1, q) = -1 ∨ idxS S (g.1, q) = (o : Int) := by
    rcases idxS_cases S (g.1, q) with ⟨e4, _⟩ | ⟨j, e4, hj⟩
    · exact .inl e4
    · exact .inr (Decidable.byContradiction fun h9 => hbox ⟨j, e4, hj, fun h8 => h9 (e4.trans h8)⟩)
  rcases hq with rfl | ⟨p, rfl, hpo, hpS⟩
  · rw [show (99 : Nat) = 98 + 1 from rfl, folM_none e3 e4 (.inl rfl)] at hF
    subst hF
    simp [noWay] at h0
  -- out by the box outside
  obtain ⟨⟨sp, sq⟩, hsp⟩ : ∃ s, S[p]? = some s := ⟨_, List.getElem?_eq_getElem (by omega)⟩
  rw [getS_at hsp] at hpS
  simp only at hpS
  subst hpS
  have hpn : ¬ o = p := by omega
  obtain ⟨bp, hbp⟩ : ∃ b, bs[p]? = some b := ⟨_, List.getElem?_eq_getElem (by rw [h.len]; omega)⟩
  have hbp1 : (bs.set o b1)[p]? = some bp := by rw [List.getElem?_set, if_neg hpn]; exact hbp
  have hpT := hT bp (List.mem_of_getElem? hbp)
  obtain ⟨⟨⟨⟨fb, p2⟩, ec2⟩, b2⟩, hr2⟩ : ∃ r, outP bp t (fa, p1) g = r := ⟨_, rfl⟩
  have hE := folM_out (S := S) (t := t) (m := 98) (f := (fa, p1)) (g := g) (l := (o : Int)) e3 e4 hbp1 _ hr2
  rw [show (99 : Nat) = 98 + 1 from rfl, hE] at hF
  dsimp only at hF
  by_cases hcc : ec2 = 0
  case neg => rw [if_neg hcc] at hF; subst hF; exact absurd h0 hcc
  subst hcc
  rw [if_pos rfl, getS_at hsp] at hF
  dsimp only at hF
  obtain ⟨j1, j2, j3⟩ := out_in hpT.1 hpT.2 ht c4 hr2
  have hout2 := out_ok (t := t) (g := g) hpT.1 o2 (o3 rfl)
  rw [hr2] at hout2
  obtain ⟨u1, u2, u3, u4⟩ := hout2
  have hfb : fb = sp := by have := h.hst p bp _ hbp hsp; simp only at this j1; omega
  subst hfb
  have hb2 : ((bs.set o b1).set p b2)[p]? = some b2 := by rw [List.getElem?_set, if_pos rfl, if_pos (List.getElem?_eq_some_iff.1 hbp1).1]
  have hlen2 : ((bs.set o b1).set p b2).length = S.length := by rw [List.length_set]; exact hlen1
  rcases idxS_cases H (g.1, -1) with ⟨e5, _⟩ | ⟨j, e5, hj⟩
  case inr =>
    have hE := folM_host (S := S) (t := t) (m := 97) (bs := (bs.set o b1).set p b2) (f := (fb, p2)) (g := g) (l := (p : Int)) (ent := false) (by show idxS H (g.1, -1) ≠ -1; rw [e5]; omega)
    rw [show (98 : Nat) = 97 + 1 from rfl, hE] at hF
    subst hF
    obtain ⟨ej1, ej2⟩ := own_at_h (q := g.2) hj
    refine ⟨k, j, rfl, hkl, e5, (List.getElem?_eq_some_iff.1 hj).1, rfl, fun h9 => by omega, fun _ => ?_⟩
    dsimp only
    rw [way_eq htm (by rw [ej1]; exact c4) (u3 rfl), ej1, ej2]
    have e6 : idxS H ((fb, p2).1, -1) = -1 := idxS_none (h.sh _ (List.mem_of_getElem? hsp))
    have e7 : idxS S ((fb, p2).1, -1) = (p : Int) := idxS_some hsp (fun j s hj hs e => by subst e; have := h.s1 j p _ hs hsp; omega)
    rw [show (100 : Nat) = 99 + 1 from rfl, folM_in (t := t) (f := g) (g := (fb, p2)) e6 e7 (by omega) hb2 _ rfl]
    show (if (inP b2 t p2 g).1.2 = 0 then folM S H t 99 (((bs.set o b1).set p b2).set p (inP b2 t p2 g).2) g (inP b2 t p2 g).1.1 p (-1) true else (noWay (inP b2 t p2 g).1.2, ((bs.set o b1).set p b2).set p (inP b2 t p2 g).2)).1 = _
    have j3' : (inP b2 t p2 g).1 = ((fa, p1), 0) := j3
    rw [j3', if_pos rfl]
    exact back_one h 97 hk hs (by omega) (by rw [List.getElem?_set, if_neg (fun e => hpn e.symm), List.getElem?_set, if_neg (fun e => hpn e.symm)]; exact hb1) i3 true
  by_cases hbox2 : ∃ j : Nat, idxS S (g.1, -1) = (j : Int) ∧ S[j]? = some (g.1, -1) ∧ ¬ (j : Int) = (p : Int)
  · obtain ⟨j, e6, hj, hjp⟩ := hbox2
    have hjl := (List.getElem?_eq_some_iff.1 hj).1
    obtain ⟨b3, hb3⟩ : ∃ b, ((bs.set o b1).set p b2)[j]? = some b := ⟨_, List.getElem?_eq_getElem (by rw [hlen2]; exact hjl)⟩
    have hE := folM_in (t := t) (m := 97) (f := (fb, p2)) (ent := false) e5 e6 hjp hb3 (inP b3 t g.2 (fb, p2)) rfl
    rw [show (98 : Nat) = 97 + 1 from rfl, hE] at hF
    by_cases hcc : (inP b3 t g.2 (fb, p2)).1.2 = 0
    case neg => rw [if_neg hcc] at hF; subst hF; exact absurd h0 hcc
    rw [if_pos hcc] at hF
    subst hF
    have hup : NotUp S (o : Int) j := by
      refine ⟨fun h9 => ?_, fun o' ho' => ?_⟩
      · have : j = o := by omega
        subst this
        rw [hs] at hj
        simp at hj
      · have : o' = o := by omega
        subst this
        rw [getS_at hs]
        exact fun h9 => hjp h9.symm
    obtain ⟨r1, c, j2, x, r2, r3, r4⟩ := fol_ent h.okS 97 _ (fb, p2) _ j (p : Int) (by rw [List.length_set]; exact hlen2) (by omega) hup h0
    obtain ⟨_, ej2⟩ := own_at_h (q := 0) r4
    refine ⟨k, j2, rfl, hkl, r3, (List.getElem?_eq_some_iff.1 r4).1, rfl, fun h9 => by omega, fun hor => ?_⟩
    rw [ej2] at hor
    rcases hor with h9 | h9
    · omega
    · exact absurd h9.symm r2.1
  have e6 : idxS S (g.1, -1) = -1 ∨ idxS S (g.1, -1) = (p : Int) := by
    rcases idxS_cases S (g.1, -1) with ⟨e6, _⟩ | ⟨j, e6, hj⟩
    · exact .inl e6
    · exact .inr (Decidable.byContradiction fun h9 => hbox2 ⟨j, e6, hj, fun h8 => h9 (e6.trans h8)⟩)
  rw [show (98 : Nat) = 97 + 1 from rfl, folM_none e5 e6 (.inl rfl)] at hF
  subst hF
  simp [noWay] at h0
theorem OkT.mono {u : Int} (h : OkT t bs) (hu : t ≤ u) : OkT u bs := fun b hb => ⟨(h b hb).1, by have := (h b hb).2; omega⟩
theorem way_step {now n0 host port : Int} {g : A2} (h : OkPlan S H bs) (hT : OkT n0 bs) (hn : n0 ≤ t) (hnow : now ≤ t) (ht : t ≤ 1099511627776) (hg : isA g) (hp : W64 port) (R : (Int × A2 × A2 × Int) × List Bp × Int) (hR : wayM S H bs now t host port g = R) :
    OkPlan S H R.2.1 ∧ OkT t R.2.1 ∧ R.2.2 ≤ t ∧ isA R.1.2.1 ∧ isA R.1.2.2.1 := by
  unfold wayM at hR
  split at hR
  · rename_i hc
    obtain ⟨_, _, c3, c4⟩ := hc
    have hk := folM_k (S := S) (H := H) ht 100 bs (ownA H host port) g (outerI H host) (-1) false (hT.mono hn) (own_is h.okH hp) c3 hg c4
    subst hR
    refine ⟨h.step hk.ok hk.x, hk.ok, ?_, hk.f, hk.g⟩
    dsimp only
    split
    · exact hnow
    · exact Int.le_refl _
  · subst hR
    exact ⟨h, hT.mono hn, hnow, isA_0, isA_0⟩
end
end Go.Proofs.Ytidhdgcmagpkgaa
