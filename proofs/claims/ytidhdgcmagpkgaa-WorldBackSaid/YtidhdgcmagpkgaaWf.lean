/-
  Contract of a world's follow: where a datagram comes to that begins behind a box, or in the open net. Conditions: as each lemma states.
-/
import Derived.Test.YtidhdgcmagpkgaaWg
import Derived.Test.YtidhdgcmagpkgaaTip
import Derived.Deep.QuietTactic
import Derived.BigQuiet
namespace Go.Proofs.Ytidhdgcmagpkgaa
open Go.RowKit
attribute [local go_sem] Oper.semAt_some
set_option linter.unusedVariables false
set_option linter.unusedSimpArgs false

section
variable {w0 V V' : World} {wb : Nat} {bv sv hv : Value} {S H : List St} {bs : List Bp} {now now' : Int} {os : List (Nat × Obj)}
theorem Wp.index_h (h : Wp w0 wb bv sv hv S H bs now os V) (hn : H.length ≤ 16) (s : St) : Calls Try.prog 29 #[hv, site s] V fun e V' => e = .returned (.int .i64 (idxS H s)) ∧ Wp w0 wb bv sv hv S H bs now os V' := by
  obtain ⟨A, c, e, h1, h2, h3, h4⟩ := h.sites.2
  rw [e] at h ⊢
  exact (index_any A c H s V h3 (by omega)).mono fun e V' ⟨a, b⟩ => ⟨a, h.below b⟩
theorem Wp.index_s (h : Wp w0 wb bv sv hv S H bs now os V) (hn : S.length ≤ 16) (s : St) : Calls Try.prog 29 #[sv, site s] V fun e V' => e = .returned (.int .i64 (idxS S s)) ∧ Wp w0 wb bv sv hv S H bs now os V' := by
  obtain ⟨A, c, e, h1, h2, h3, h4⟩ := h.sites.1
  rw [e] at h ⊢
  exact (index_any A c S s V h3 (by omega)).mono fun e V' ⟨a, b⟩ => ⟨a, h.below b⟩
theorem Wp.box_of (h : Wp w0 wb bv sv hv S H bs now os V) {i : Nat} {b : Bp} (hi : bs[i]? = some b) :
    ∃ g c nb, bv = .slice (some ⟨g, 0, none⟩) bs.length c ∧ c ≤ maxLen ∧ g < V.heap.size ∧ V.cell? ⟨g, i, none⟩ = some (.pointer (some ⟨nb, 0, none⟩)) ∧
      ∃ kv L, Na V nb b.x b.now kv L ∧ L.map Nd.b = b.M ∧ ∀ V' now' kv' L' M', Mvd nb b.x kv L V now' kv' L' V' → L'.map Nd.b = M' → Wp w0 wb bv sv hv S H (bs.set i ⟨b.x, now', M'⟩) now os V' := by
  obtain ⟨B, h1, h2, h3⟩ := h.wo
  obtain ⟨c, hc, rfl⟩ : ∃ c, B[i]? = some c ∧ c.plain = b := by
    rw [← h2, List.getElem?_map] at hi
    cases hB : B[i]? with
    | none => rw [hB] at hi; cases hi
    | some c => rw [hB] at hi; exact ⟨c, rfl, Option.some.inj hi⟩
  have hl : B.length = bs.length := by rw [← h2, List.length_map]
  have hil := (List.getElem?_eq_some_iff.1 hc).1
  have hcm := List.mem_of_getElem? hc
  rcases h1.bxs.2 with ⟨e0, h5⟩ | ⟨g, cap, cur, e0, _, h6, h7, h8, h9, h10⟩
  · omega
  · refine ⟨g, cap, c.nb, by rw [← hl]; exact e0, by omega, (Array.getElem?_eq_some_iff.1 h6).1, ?_, c.kv, c.L, h1.nas c hcm, rfl, fun V' now' kv' L' M' m1 m2 => ⟨⟨_, h1.moved hc m1 h.low.size, ?_, fun p hp => ?_⟩, fun p hp => ?_, h.low.trans (m1.keeps.below (h1.low.2 c hcm) h.low.size)⟩⟩
    · have h11 := cellsP_at (l := B.map Bm.nb) (k := i) (p := c.nb) (by rw [List.getElem?_map, hc]; rfl)
      rw [← h10, List.getElem?_take_of_lt (by omega)] at h11
      rw [(cells_of h6 i).1]
      simpa [ptr] using h11
    · rw [List.map_set, h2]
      unfold Bm.plain
      rw [m2]
    · obtain ⟨e1, e2, e3⟩ := h3 p hp
      refine ⟨e1, e2, fun d hd hf => ?_⟩
      rcases List.mem_or_eq_of_mem_set hd with hd | rfl
      · exact e3 d hd hf
      · rcases m1.foot _ hf with hf | hf
        · exact e3 c hcm hf
        · have := h.lt hp; omega
    · exact (m1.keeps.block _ (h.lt hp) ((h3 p hp).2.2 c hcm)).trans (h.held p hp)
theorem Wp.call_in (h : Wp w0 wb bv sv hv S H bs now os V) {i : Nat} {b : Bp} (hi : bs[i]? = some b) (hk : OkP b) (t p : Int) (f : A2) (hf : isA f) (r : (A2 × Int) × Bp) (hr : inP b t p f = r) :
    ∃ g c nb, bv = .slice (some ⟨g, 0, none⟩) bs.length c ∧ c ≤ maxLen ∧ g < V.heap.size ∧ V.cell? ⟨g, i, none⟩ = some (.pointer (some ⟨nb, 0, none⟩)) ∧
      Calls Try.prog 30 #[.pointer (some ⟨nb, 0, none⟩), .int .i64 t, .int .i64 p, adr f] V fun e V' => e = .returned (ansA r.1.1 r.1.2) ∧ Wp w0 wb bv sv hv S H (bs.set i r.2) now os V' := by
  obtain ⟨g, c, nb, e0, e1, e2, e3, kv, L, h1, h2, h3⟩ := h.box_of hi
  subst hr
  refine ⟨g, c, nb, e0, e1, e2, e3, (in_any nb b.x b.now kv L t p f V h1 (OkM.ofL (h2 ▸ hk.okM)) hf).mono fun e V' hr => ?_⟩
  unfold InR at hr
  unfold inP inS
  by_cases hg : goes b.now t = true
  · rw [if_pos hg] at hr ⊢
    obtain ⟨kv', g1, g2⟩ := hr
    rw [h2] at g1
    exact ⟨g1, h3 V' t kv' _ _ g2 (by rw [live_map, h2])⟩
  · rw [if_neg hg] at hr ⊢
    exact ⟨hr.1, h3 V' _ kv L _ hr.2 h2⟩
theorem Wp.call_out (h : Wp w0 wb bv sv hv S H bs now os V) {i : Nat} {b : Bp} (hi : bs[i]? = some b) (hk : OkP b) (t : Int) (f f2 : A2) (hf : isA f) (hf2 : isA f2) (r : (A2 × Int) × Bp) (hr : outP b t f f2 = r) :
    ∃ g c nb, bv = .slice (some ⟨g, 0, none⟩) bs.length c ∧ c ≤ maxLen ∧ g < V.heap.size ∧ V.cell? ⟨g, i, none⟩ = some (.pointer (some ⟨nb, 0, none⟩)) ∧
      Calls Try.prog 31 #[.pointer (some ⟨nb, 0, none⟩), .int .i64 t, adr f, adr f2] V fun e V' => e = .returned (ansA r.1.1 r.1.2) ∧ Wp w0 wb bv sv hv S H (bs.set i r.2) now os V' := by
  obtain ⟨g, c, nb, e0, e1, e2, e3, kv, L, h1, h2, h3⟩ := h.box_of hi
  subst hr
  refine ⟨g, c, nb, e0, e1, e2, e3, (out_any nb b.x b.now kv L t f f2 V h1 hk.okB (OkM.ofL (h2 ▸ hk.okM)) hf hf2 hk.now).mono fun e V' hr => ?_⟩
  unfold OutR at hr
  unfold outP outS
  by_cases hg : goes b.now t = true
  · rw [if_pos hg] at hr ⊢
    obtain ⟨kv', L', g1, g2, g3⟩ := hr
    rw [h2] at g1 g3
    exact ⟨g1, h3 V' t kv' L' _ g2 g3⟩
  · rw [if_neg hg] at hr ⊢
    exact ⟨hr.1, h3 V' _ kv L _ hr.2 h2⟩

/-- the four blocks of follow's own -/
def os4 (n : Nat) (f g : A2) (os : List (Nat × Obj)) : List (Nat × Obj) := (n, .cells #[.int .u32 f.1, .int .i64 f.2] 36 (0, 0)) :: (n + 1, .cells #[.int .u32 g.1, .int .i64 g.2] 36 (0, 0)) :: (n + 2, .cells #[.int .u32 0, .int .i64 0] 36 (0, 0)) :: (n + 3, .cells #[.int .u32 0, .int .i64 0] 36 (0, 0)) :: os
theorem Wp.fresh (h : Wp w0 wb bv sv hv S H bs now os V) (hn : ∀ p ∈ os, p.1 < V.heap.size) : True := trivial
/-- an address is stored into a held block -/
theorem Wp.store2 {b : Nat} {u0 v0 : Value} {t : TypeId} {l r : List (Nat × Obj)} (h : Wp w0 wb bv sv hv S H bs now (l ++ (b, Obj.cells #[u0, v0] t (0, 0)) :: r) V) (hl : ∀ p ∈ l ++ r, p.1 ≠ b) (hb : w0.heap.size ≤ b) (u v : Value) :
    Wp w0 wb bv sv hv S H bs now (l ++ (b, Obj.cells #[u, v] t (0, 0)) :: r) ((V.setCell ⟨b, 0, none⟩ u).setCell ⟨b, 1, none⟩ v) := by
  have h1 : Wp w0 wb bv sv hv S H bs now ((b, Obj.cells #[u0, v0] t (0, 0)) :: (l ++ r)) V := h.sub (fun p hp => by
    simp only [List.mem_cons, List.mem_append] at hp ⊢
    rcases hp with h | h | h <;> simp [h])
  have h2 := (h1.store (j := 0) (v := u) hl hb).store (j := 1) (v := v) hl hb
  exact h2.sub (fun p hp => by
    simp only [List.mem_cons, List.mem_append] at hp ⊢
    rcases hp with h | h | h
    · simp [h]
    · left; rw [h]; simp
    · simp [h])
theorem cells4 {n : Nat} {f g : A2} (h : Wp w0 wb bv sv hv S H bs now (os4 n f g os) V) (ho : ∀ p ∈ os, p.1 < n) :
    (((((V.setCell ⟨n + 2, 0, none⟩ (.int .u32 0)).setCell ⟨n + 2, 1, none⟩ (.int .i64 0)).setCell ⟨n + 3, 0, none⟩ (.int .u32 0)).setCell ⟨n + 3, 1, none⟩ (.int .i64 0)).cell? ⟨n + 2, 0, none⟩ = some (.int .u32 0) ∧ ((((V.setCell ⟨n + 2, 0, none⟩ (.int .u32 0)).setCell ⟨n + 2, 1, none⟩ (.int .i64 0)).setCell ⟨n + 3, 0, none⟩ (.int .u32 0)).setCell ⟨n + 3, 1, none⟩ (.int .i64 0)).cell? ⟨n + 2, 1, none⟩ = some (.int .i64 0)) ∧
    (((((V.setCell ⟨n + 2, 0, none⟩ (.int .u32 0)).setCell ⟨n + 2, 1, none⟩ (.int .i64 0)).setCell ⟨n + 3, 0, none⟩ (.int .u32 0)).setCell ⟨n + 3, 1, none⟩ (.int .i64 0)).cell? ⟨n + 3, 0, none⟩ = some (.int .u32 0) ∧ ((((V.setCell ⟨n + 2, 0, none⟩ (.int .u32 0)).setCell ⟨n + 2, 1, none⟩ (.int .i64 0)).setCell ⟨n + 3, 0, none⟩ (.int .u32 0)).setCell ⟨n + 3, 1, none⟩ (.int .i64 0)).cell? ⟨n + 3, 1, none⟩ = some (.int .i64 0)) := by
  have h2 := h.held (n + 2, .cells #[.int .u32 0, .int .i64 0] 36 (0, 0)) (by simp [os4])
  have h3 := h.held (n + 3, .cells #[.int .u32 0, .int .i64 0] 36 (0, 0)) (by simp [os4])
  have k2 := heap_setCell_same _ (n + 2) 1 _ 36 (.int .i64 0) (heap_setCell_same V (n + 2) 0 _ 36 (.int .u32 0) h2)
  have k3 : ((V.setCell ⟨n + 2, 0, none⟩ (.int .u32 0)).setCell ⟨n + 2, 1, none⟩ (.int .i64 0)).heap[n + 3]? = _ := (heap_setCell_other _ ⟨n + 2, 1, none⟩ (n + 3) _ (by simp only; omega)).trans ((heap_setCell_other V ⟨n + 2, 0, none⟩ (n + 3) _ (by simp only; omega)).trans h3)
  have j3 := heap_setCell_same _ (n + 3) 1 _ 36 (.int .i64 0) (heap_setCell_same _ (n + 3) 0 _ 36 (.int .u32 0) k3)
  have j2 : ((((V.setCell ⟨n + 2, 0, none⟩ (.int .u32 0)).setCell ⟨n + 2, 1, none⟩ (.int .i64 0)).setCell ⟨n + 3, 0, none⟩ (.int .u32 0)).setCell ⟨n + 3, 1, none⟩ (.int .i64 0)).heap[n + 2]? = _ := (heap_setCell_other _ ⟨n + 3, 1, none⟩ (n + 2) _ (by simp only; omega)).trans ((heap_setCell_other _ ⟨n + 3, 0, none⟩ (n + 2) _ (by simp only; omega)).trans k2)
  exact ⟨⟨(cells_of j2 0).1, (cells_of j2 1).1⟩, (cells_of j3 0).1, (cells_of j3 1).1⟩
theorem cells5 {n : Nat} {f g : A2} (h : Wp w0 wb bv sv hv S H bs now (os4 n f g os) V) (f1 f2 g1 g2 : Int) :
    ((V.setCell ⟨n + 1 + 1, 0, none⟩ (.int .u32 f1)).cell? ⟨n + 1 + 1, 0, none⟩ = some (.int .u32 f1) ∧ ((V.setCell ⟨n + 1 + 1, 0, none⟩ (.int .u32 f1)).setCell ⟨n + 1 + 1, 1, none⟩ (.int .i64 f2)).cell? ⟨n + 1 + 1, 1, none⟩ = some (.int .i64 f2)) ∧
    ((((V.setCell ⟨n + 1 + 1, 0, none⟩ (.int .u32 f1)).setCell ⟨n + 1 + 1, 1, none⟩ (.int .i64 f2)).setCell ⟨n + 1 + 1 + 1, 0, none⟩ (.int .u32 g1)).cell? ⟨n + 1 + 1 + 1, 0, none⟩ = some (.int .u32 g1) ∧ ((((V.setCell ⟨n + 1 + 1, 0, none⟩ (.int .u32 f1)).setCell ⟨n + 1 + 1, 1, none⟩ (.int .i64 f2)).setCell ⟨n + 1 + 1 + 1, 0, none⟩ (.int .u32 g1)).setCell ⟨n + 1 + 1 + 1, 1, none⟩ (.int .i64 g2)).cell? ⟨n + 1 + 1 + 1, 1, none⟩ = some (.int .i64 g2)) := by
  have h2 := h.held (n + 2, .cells #[.int .u32 0, .int .i64 0] 36 (0, 0)) (by simp [os4])
  have h3 := h.held (n + 3, .cells #[.int .u32 0, .int .i64 0] 36 (0, 0)) (by simp [os4])
  have k1 := heap_setCell_same V (n + 2) 0 _ 36 (.int .u32 f1) h2
  have k2 := heap_setCell_same _ (n + 2) 1 _ 36 (.int .i64 f2) k1
  have k3 : ((V.setCell ⟨n + 2, 0, none⟩ (.int .u32 f1)).setCell ⟨n + 2, 1, none⟩ (.int .i64 f2)).heap[n + 3]? = _ := (heap_setCell_other _ ⟨n + 2, 1, none⟩ (n + 3) _ (by simp only; omega)).trans ((heap_setCell_other V ⟨n + 2, 0, none⟩ (n + 3) _ (by simp only; omega)).trans h3)
  have j2 := heap_setCell_same _ (n + 3) 0 _ 36 (.int .u32 g1) k3
  have j3 := heap_setCell_same _ (n + 3) 1 _ 36 (.int .i64 g2) j2
  exact ⟨⟨(cells_of k1 0).1, (cells_of k2 1).1⟩, (cells_of j2 0).1, (cells_of j3 1).1⟩
/-- what stands as follow goes its rounds -/
structure FolI (S H : List St) (bs : List Bp) (f g : A2) (at_ : Int) (ent : Bool) : Prop where
  ok : ∀ b ∈ bs, OkP b
  len : bs.length = S.length
  f : isA f ∧ mayA f = true
  g : isA g
  at_ : (at_ = -1 ∧ ent = false) ∨ ∃ k : Nat, at_ = k ∧ k < S.length
theorem meas_in {S : List St} {at_ : Int} {ent : Bool} {k : Nat} (hS : OkS S) {h : Int} (hk : S[k]? = some (h, at_)) (ha : (at_ = -1 ∧ ent = false) ∨ ∃ j : Nat, at_ = j ∧ j < S.length) : meas S (k : Int) true < meas S at_ ent := by
  have hkl := (List.getElem?_eq_some_iff.1 hk).1
  unfold meas
  rw [if_pos rfl]
  rcases hS k _ hk with e | ⟨j, e, hj, _⟩
  · rcases ha with ⟨_, rfl⟩ | ⟨j, e2, _⟩
    · simp; omega
    · simp only at e; omega
  · simp only at e
    cases ent
    · simp; omega
    · rw [if_pos rfl]; omega
theorem meas_out {S : List St} {k : Nat} (hS : OkS S) (hk : k < S.length) : meas S (getS S k).2 false < meas S (k : Int) false := by
  obtain ⟨s, hs⟩ : ∃ s, S[k]? = some s := ⟨_, List.getElem?_eq_getElem hk⟩
  rw [getS_at hs]
  unfold meas
  simp only [Bool.false_eq_true, if_false]
  rcases hS k _ hs with e | ⟨j, e, hj, _⟩ <;> omega
theorem folM_host {S H : List St} {t : Int} {m : Nat} {bs : List Bp} {f g : A2} {a l : Int} {ent : Bool} (h1 : idxS H (g.1, a) ≠ -1) : folM S H t (m + 1) bs f g a l ent = ((idxS H (g.1, a), f, g, 0), bs) := by
  rw [folM, if_pos h1]
theorem folM_in {S H : List St} {t : Int} {m k : Nat} {bs : List Bp} {b : Bp} {f g : A2} {a l : Int} {ent : Bool} (h1 : idxS H (g.1, a) = -1) (h2 : idxS S (g.1, a) = k) (h3 : ¬ (k : Int) = l) (hb : bs[k]? = some b) (r : (A2 × Int) × Bp) (hr : inP b t g.2 f = r) :
    folM S H t (m + 1) bs f g a l ent = if r.1.2 = 0 then folM S H t m (bs.set k r.2) f r.1.1 k l true else (noWay r.1.2, bs.set k r.2) := by
  have e : ((k : Int)).toNat = k := Int.toNat_natCast k
  rw [folM, if_neg (by simp [h1]), if_pos (by rw [h2]; exact ⟨by omega, h3⟩), h2, e, hb]
  dsimp only
  rw [hr]
theorem folM_out {S H : List St} {t : Int} {m k : Nat} {bs : List Bp} {b : Bp} {f g : A2} {l : Int} (h1 : idxS H (g.1, (k : Int)) = -1) (h2 : idxS S (g.1, (k : Int)) = -1 ∨ idxS S (g.1, (k : Int)) = l) (hb : bs[k]? = some b) (r : (A2 × Int) × Bp) (hr : outP b t f g = r) :
    folM S H t (m + 1) bs f g k l false = if r.1.2 = 0 then folM S H t m (bs.set k r.2) r.1.1 g (getS S k).2 k false else (noWay r.1.2, bs.set k r.2) := by
  have e : ((k : Int)).toNat = k := Int.toNat_natCast k
  rw [folM, if_neg (by simp [h1]), if_neg (by rintro ⟨h3, h4⟩; exact h2.elim h3 h4), if_pos ⟨by omega, rfl⟩, e, hb]
  dsimp only
  rw [hr]
theorem folM_none {S H : List St} {t : Int} {m : Nat} {bs : List Bp} {f g : A2} {a l : Int} {ent : Bool} (h1 : idxS H (g.1, a) = -1) (h2 : idxS S (g.1, a) = -1 ∨ idxS S (g.1, a) = l) (h3 : a = -1 ∨ ent = true) :
    folM S H t (m + 1) bs f g a l ent = (noWay 8, bs) := by
  rw [folM, if_neg (by simp [h1]), if_neg (by rintro ⟨h4, h5⟩; exact h2.elim h4 h5), if_neg (by rintro ⟨h4, h5⟩; rcases h3 with h | h; exact h4 h; rw [h] at h5; cases h5)]
theorem FolI.set {S H : List St} {bs : List Bp} {f g f' g' : A2} {a a' : Int} {ent ent' : Bool} {k : Nat} {b : Bp} (h : FolI S H bs f g a ent) (hb : OkP b) (hf : isA f' ∧ mayA f' = true) (hg : isA g') (ha : (a' = -1 ∧ ent' = false) ∨ ∃ k : Nat, a' = k ∧ k < S.length) : FolI S H (bs.set k b) f' g' a' ent' :=
  ⟨fun c hc => (List.mem_or_eq_of_mem_set hc).elim (h.ok c) (fun e => e ▸ hb), by rw [List.length_set]; exact h.len, hf, hg, ha⟩
set_option maxRecDepth 100000 in
set_option maxHeartbeats 8000000 in
theorem follow_any (h : Wp w0 wb bv sv hv S H bs now os V) (hS : OkS S) (h16 : S.length ≤ 16) (hH16 : H.length ≤ 16) (t : Int) (f g : A2) (at_ : Int) (hI : FolI S H bs f g at_ false) :
    Calls Try.prog 19 #[.pointer (some ⟨wb, 0, none⟩), .int .i64 t, adr f, adr g, .int .i64 at_] V fun e V' => e = .returned (.tuple #[.int .i64 (folM S H t 100 bs f g at_ (-1) false).1.1, adr (folM S H t 100 bs f g at_ (-1) false).1.2.1, adr (folM S H t 100 bs f g at_ (-1) false).1.2.2.1, .int .i64 (folM S H t 100 bs f g at_ (-1) false).1.2.2.2]) ∧ Wp w0 wb bv sv hv S H (folM S H t 100 bs f g at_ (-1) false).2 now os V' := by
  obtain ⟨R, hR⟩ : ∃ R, folM S H t 100 bs f g at_ (-1) false = R := ⟨_, rfl⟩
  rw [hR]
  have hb1 := ((h.box (k := V.heap.size) #[.int .u32 f.1, .int .i64 f.2] 36 rfl).box (k := V.heap.size + 1) #[.int .u32 g.1, .int .i64 g.2] 36 (by simp)).box (k := V.heap.size + 2) #[.int .u32 0, .int .i64 0] 36 (by simp)
  have hb2 := hb1.box (k := V.heap.size + 3) #[.int .u32 0, .int .i64 0] 36 (by simp)
  have HW0 : Hid (Wp w0 wb bv sv hv S H bs now (os4 V.heap.size f g os) _) := Lib.hid (hb2.sub (fun p hp => by
    unfold os4 at hp
    simp only [List.mem_cons] at hp ⊢
    rcases hp with h | h | h | h | h <;> simp [h]))
  have HOS : Hid (∀ p ∈ os, p.1 < V.heap.size) := Lib.hid (fun p hp => h.lt hp)
  have HLO : Hid (w0.heap.size ≤ V.heap.size) := Lib.hid h.low.size
  have HI0 := Lib.hid hI
  have HS := Lib.hid hS
  have hm0 : meas S at_ false < 100 := by
    unfold meas
    rcases hI.at_ with ⟨rfl, _⟩ | ⟨k, rfl, hk⟩ <;> simp <;> omega
  have HR : Hid (folM S H t 100 bs f g at_ (-1) false = R) := Lib.hid hR
  have HM0 := Lib.hid hm0
  clear hb1 hb2 hI hS hR hm0 h
  unfold adr
  go_enter Try.func19, Try.ntmps19
  go_wp2
  go_step3
  go_wp2
  go_step3
  go_wp2
  obtain ⟨V0, hV0⟩ : ∃ V0, (((V.alloc (.cells #[.int .u32 f.1, .int .i64 f.2] 36)).alloc (.cells #[.int .u32 g.1, .int .i64 g.2] 36)).alloc (.cells #[.int .u32 0, .int .i64 0] 36)).alloc (.cells #[.int .u32 0, .int .i64 0] 36) = V0 := ⟨_, rfl⟩
  rw [hV0] at HW0 ⊢
  clear hV0
  go_loopg [4, 14, 15, 16, 17] 100 (fun gg s4 s14 s15 s16 s17 wr => ∃ (bs' : List Bp) (f' g' : A2) (a' l' : Int) (ent : Bool) (th c : Int), s4 = .int .i64 a' ∧ s14 = .int .i64 th ∧ s15 = .int .i64 l' ∧ s16 = .bool ent ∧ s17 = .int .i64 c ∧
    Hid (Wp w0 wb bv sv hv S H bs' now (os4 V.heap.size f' g' os) wr) ∧ ((c = 0 ∧ Hid (FolI S H bs' f' g' a' ent) ∧ ∃ k, k ≤ gg ∧ Hid (meas S a' ent < k ∧ folM S H t k bs' f' g' a' l' ent = R)) ∨ (c ≠ 0 ∧ Hid (R = (noWay c, bs')))))
  case atStart => exact ⟨bs, f, g, at_, -1, false, -1, 0, rfl, rfl, rfl, rfl, rfl, HW0, .inl ⟨rfl, HI0, 100, Nat.le_refl _, Lib.hid ⟨HM0.out, HR.out⟩⟩⟩
  case round =>
    obtain ⟨bs', ⟨f1, f2⟩, ⟨g1, g2⟩, a', l', ent, th, c, rfl, rfl, rfl, rfl, rfl, HW, hst⟩ := hrel
    clear HW0 HI0 HM0 HR
    rcases hst with ⟨rfl, HI, k, hkg, HF⟩ | ⟨hc, HE⟩
    · have HD := Lib.hid (HW.out.drewN 1)
      have hg0 := (HD.out.c2 (k := V.heap.size + 1) (u := .int .u32 g1) (v := .int .i64 g2) (t := 36) (by simp [os4])).1
      obtain ⟨x, hx⟩ : ∃ x, idxS H (g1, a') = x := ⟨_, rfl⟩
      obtain ⟨y, hy⟩ : ∃ y, idxS S (g1, a') = y := ⟨_, rfl⟩
      go_wp2_with fail
      refine wp_region_till (S := fun W => W.cell? ⟨wb, 2, none⟩ = some hv ∧ W.cell? ⟨V.heap.size + 1, 0, none⟩ = some (.int .u32 g1) ∧ True ∧ True ∧ True) (z := 8) (by kernel_rfl) ⟨HD.out.top.2.2.1, hg0, trivial, trivial, trivial⟩ (fun hHeld => ?_)
      refine till_take (i := 0) (oi := _) (v := ?_) [3, 2, 1] rfl (by kernel_rfl) (by kernel_rfl) (by decide) (by kernel_rfl) (by kernel_rfl) (by kernel_rfl) (fun _ _ _ h => h) (Or.inl ⟨by rfl, ?_⟩) (by assumption) ?_
      case refine_2 => intro w hSw; (try dsimp only at hSw); obtain ⟨z0, z1, z2, z3, z4⟩ := hSw; go_simp; first | done | (with_reducible rfl)
      try simp only [Act.put, List.getElem_toArray, List.getElem_cons_zero, List.setIfInBounds_toArray, List.set_cons_zero, List.set_cons_succ]
      refine till_take (i := 1) (oi := _) (v := ?_) [3, 2] rfl (by kernel_rfl) (by kernel_rfl) (by decide) (by kernel_rfl) (by kernel_rfl) (by kernel_rfl) (fun _ _ _ h => h) (Or.inl ⟨by rfl, ?_⟩) (by assumption) ?_
      case refine_2 => intro w hSw; (try dsimp only at hSw); obtain ⟨z0, z1, z2, z3, z4⟩ := hSw; go_simp; first | done | (with_reducible rfl)
      try simp only [Act.put, List.getElem_toArray, List.getElem_cons_zero, List.getElem_cons_succ, List.setIfInBounds_toArray, List.set_cons_zero, List.set_cons_succ]
      refine till_take (i := 2) (oi := _) (v := ?_) [3] rfl (by kernel_rfl) (by kernel_rfl) (by decide) (by kernel_rfl) (by kernel_rfl) (by kernel_rfl) (fun _ _ _ h => h) (Or.inl ⟨by rfl, ?_⟩) (by assumption) ?_
      case refine_2 => intro w hSw; (try dsimp only at hSw); obtain ⟨z0, z1, z2, z3, z4⟩ := hSw; go_simp; first | done | (with_reducible rfl)
      try simp only [Act.put, List.getElem_toArray, List.getElem_cons_zero, List.getElem_cons_succ, List.setIfInBounds_toArray, List.set_cons_zero, List.set_cons_succ]
      refine till_take (i := 3) (oi := _) (v := ?_) [] rfl (by kernel_rfl) (by kernel_rfl) (by decide) (by kernel_rfl) (by kernel_rfl) (by kernel_rfl) (fun _ _ _ h => h) (Or.inl ⟨by rfl, ?_⟩) (by assumption) ?_
      case refine_2 => intro w hSw; (try dsimp only at hSw); obtain ⟨z0, z1, z2, z3, z4⟩ := hSw; go_simp; first | done | (with_reducible rfl)
      try simp only [Act.put, List.getElem_toArray, List.getElem_cons_zero, List.getElem_cons_succ, List.setIfInBounds_toArray, List.set_cons_zero, List.set_cons_succ]
      refine till_take (i := 4) (oi := _) (v := ?_) [7, 5] rfl (by kernel_rfl) (by kernel_rfl) (by decide) (by kernel_rfl) (by kernel_rfl) (by kernel_rfl) (fun _ _ _ h => h) (Or.inl ⟨by rfl, ?_⟩) (by assumption) ?_
      case refine_2 => intro w hSw; (try dsimp only at hSw); obtain ⟨z0, z1, z2, z3, z4⟩ := hSw; go_simp; first | done | (with_reducible rfl)
      try simp only [Act.put, List.getElem_toArray, List.getElem_cons_zero, List.getElem_cons_succ, List.setIfInBounds_toArray, List.set_cons_zero, List.set_cons_succ]
      refine till_take (i := 5) (oi := _) (v := ?_) [7] rfl (by kernel_rfl) (by kernel_rfl) (by decide) (by kernel_rfl) (by kernel_rfl) (by kernel_rfl) (fun _ _ _ h => h) (Or.inl ⟨by rfl, ?_⟩) (by assumption) ?_
      case refine_2 => intro w hSw; (try dsimp only at hSw); obtain ⟨z0, z1, z2, z3, z4⟩ := hSw; go_simp; first | done | (with_reducible rfl)
      try simp only [Act.put, List.getElem_toArray, List.getElem_cons_zero, List.getElem_cons_succ, List.setIfInBounds_toArray, List.set_cons_zero, List.set_cons_succ]
      refine till_take (i := 6) (oi := _) (v := ?_) [7] rfl (by kernel_rfl) (by kernel_rfl) (by decide) (by kernel_rfl) (by kernel_rfl) (by kernel_rfl) (fun _ _ _ h => h) (Or.inl ⟨by rfl, ?_⟩) (by assumption) ?_
      case refine_2 => intro w hSw; (try dsimp only at hSw); obtain ⟨z0, z1, z2, z3, z4⟩ := hSw; go_simp; first | done | (with_reducible rfl)
      try simp only [Act.put, List.getElem_toArray, List.getElem_cons_zero, List.getElem_cons_succ, List.setIfInBounds_toArray, List.set_cons_zero, List.set_cons_succ]
      refine till_take (i := 7) (oi := _) (v := ?_) [] rfl (by kernel_rfl) (by kernel_rfl) (by decide) (by kernel_rfl) (by kernel_rfl) (by kernel_rfl) (fun _ _ _ h => h) (Or.inl ⟨by rfl, ?_⟩) (by assumption) ?_
      case refine_2 => intro w hSw; (try dsimp only at hSw); obtain ⟨z0, z1, z2, z3, z4⟩ := hSw; go_simp; first | done | (with_reducible rfl)
      try simp only [Act.put, List.getElem_toArray, List.getElem_cons_zero, List.getElem_cons_succ, List.setIfInBounds_toArray, List.set_cons_zero, List.set_cons_succ]
      refine till_ready (rs := [8]) (by kernel_rfl) (by simp) ?_
      refine TillReady.past rfl (by kernel_rfl) (fun K hK => ?_) TillReady.nil
      go_simp
      go_at_call 29
      refine (HD.out.index_h (by omega) (g1, a')).mono ?_
      rintro e w1 ⟨rfl, hw1⟩
      rw [hx]
      have HW1 := Lib.hid hw1; clear hw1 HD
      refine hK.out _ _ ?_
      clear hK K
      try simp only [Act.put, List.getElem_toArray, List.getElem_cons_zero, List.getElem_cons_succ, List.setIfInBounds_toArray, List.set_cons_zero, List.set_cons_succ]
      refine till_pure (i := 9) (oi := _) (v := ?_) rfl (by kernel_rfl) (by decide) (by kernel_rfl) (by kernel_rfl) (fun _ _ _ h => h) (Or.inl ⟨by rfl, ?_⟩) (fun h => absurd h (by decide)) ?_
      case refine_2 => intro w _; go_simp; first | done | (with_reducible rfl)
      try simp only [Act.put, List.getElem_toArray, List.getElem_cons_zero, List.getElem_cons_succ, List.setIfInBounds_toArray, List.set_cons_zero, List.set_cons_succ]
      refine till_done (by kernel_rfl) ?_ _
      have HD := Lib.hid (HW1.out.drewN 1)
      have hg0 := (HD.out.c2 (k := V.heap.size + 1) (u := .int .u32 g1) (v := .int .i64 g2) (t := 36) (by simp [os4])).1
      go_wp2_with fail
      refine wp_region_till (S := fun W => W.cell? ⟨wb, 1, none⟩ = some sv ∧ W.cell? ⟨V.heap.size + 1, 0, none⟩ = some (.int .u32 g1) ∧ True ∧ True ∧ True) (z := 8) (by kernel_rfl) ⟨HD.out.top.2.1, hg0, trivial, trivial, trivial⟩ (fun hHeld => ?_)
      refine till_take (i := 0) (oi := _) (v := ?_) [3, 2, 1] rfl (by kernel_rfl) (by kernel_rfl) (by decide) (by kernel_rfl) (by kernel_rfl) (by kernel_rfl) (fun _ _ _ h => h) (Or.inl ⟨by rfl, ?_⟩) (by assumption) ?_
      case refine_2 => intro w hSw; (try dsimp only at hSw); obtain ⟨z0, z1, z2, z3, z4⟩ := hSw; go_simp; first | done | (with_reducible rfl)
      try simp only [Act.put, List.getElem_toArray, List.getElem_cons_zero, List.setIfInBounds_toArray, List.set_cons_zero, List.set_cons_succ]
      refine till_take (i := 1) (oi := _) (v := ?_) [3, 2] rfl (by kernel_rfl) (by kernel_rfl) (by decide) (by kernel_rfl) (by kernel_rfl) (by kernel_rfl) (fun _ _ _ h => h) (Or.inl ⟨by rfl, ?_⟩) (by assumption) ?_
      case refine_2 => intro w hSw; (try dsimp only at hSw); obtain ⟨z0, z1, z2, z3, z4⟩ := hSw; go_simp; first | done | (with_reducible rfl)
      try simp only [Act.put, List.getElem_toArray, List.getElem_cons_zero, List.getElem_cons_succ, List.setIfInBounds_toArray, List.set_cons_zero, List.set_cons_succ]
      refine till_take (i := 2) (oi := _) (v := ?_) [3] rfl (by kernel_rfl) (by kernel_rfl) (by decide) (by kernel_rfl) (by kernel_rfl) (by kernel_rfl) (fun _ _ _ h => h) (Or.inl ⟨by rfl, ?_⟩) (by assumption) ?_
      case refine_2 => intro w hSw; (try dsimp only at hSw); obtain ⟨z0, z1, z2, z3, z4⟩ := hSw; go_simp; first | done | (with_reducible rfl)
      try simp only [Act.put, List.getElem_toArray, List.getElem_cons_zero, List.getElem_cons_succ, List.setIfInBounds_toArray, List.set_cons_zero, List.set_cons_succ]
      refine till_take (i := 3) (oi := _) (v := ?_) [] rfl (by kernel_rfl) (by kernel_rfl) (by decide) (by kernel_rfl) (by kernel_rfl) (by kernel_rfl) (fun _ _ _ h => h) (Or.inl ⟨by rfl, ?_⟩) (by assumption) ?_
      case refine_2 => intro w hSw; (try dsimp only at hSw); obtain ⟨z0, z1, z2, z3, z4⟩ := hSw; go_simp; first | done | (with_reducible rfl)
      try simp only [Act.put, List.getElem_toArray, List.getElem_cons_zero, List.getElem_cons_succ, List.setIfInBounds_toArray, List.set_cons_zero, List.set_cons_succ]
      refine till_take (i := 4) (oi := _) (v := ?_) [7, 5] rfl (by kernel_rfl) (by kernel_rfl) (by decide) (by kernel_rfl) (by kernel_rfl) (by kernel_rfl) (fun _ _ _ h => h) (Or.inl ⟨by rfl, ?_⟩) (by assumption) ?_
      case refine_2 => intro w hSw; (try dsimp only at hSw); obtain ⟨z0, z1, z2, z3, z4⟩ := hSw; go_simp; first | done | (with_reducible rfl)
      try simp only [Act.put, List.getElem_toArray, List.getElem_cons_zero, List.getElem_cons_succ, List.setIfInBounds_toArray, List.set_cons_zero, List.set_cons_succ]
      refine till_take (i := 5) (oi := _) (v := ?_) [7] rfl (by kernel_rfl) (by kernel_rfl) (by decide) (by kernel_rfl) (by kernel_rfl) (by kernel_rfl) (fun _ _ _ h => h) (Or.inl ⟨by rfl, ?_⟩) (by assumption) ?_
      case refine_2 => intro w hSw; (try dsimp only at hSw); obtain ⟨z0, z1, z2, z3, z4⟩ := hSw; go_simp; first | done | (with_reducible rfl)
      try simp only [Act.put, List.getElem_toArray, List.getElem_cons_zero, List.getElem_cons_succ, List.setIfInBounds_toArray, List.set_cons_zero, List.set_cons_succ]
      refine till_take (i := 6) (oi := _) (v := ?_) [7] rfl (by kernel_rfl) (by kernel_rfl) (by decide) (by kernel_rfl) (by kernel_rfl) (by kernel_rfl) (fun _ _ _ h => h) (Or.inl ⟨by rfl, ?_⟩) (by assumption) ?_
      case refine_2 => intro w hSw; (try dsimp only at hSw); obtain ⟨z0, z1, z2, z3, z4⟩ := hSw; go_simp; first | done | (with_reducible rfl)
      try simp only [Act.put, List.getElem_toArray, List.getElem_cons_zero, List.getElem_cons_succ, List.setIfInBounds_toArray, List.set_cons_zero, List.set_cons_succ]
      refine till_take (i := 7) (oi := _) (v := ?_) [] rfl (by kernel_rfl) (by kernel_rfl) (by decide) (by kernel_rfl) (by kernel_rfl) (by kernel_rfl) (fun _ _ _ h => h) (Or.inl ⟨by rfl, ?_⟩) (by assumption) ?_
      case refine_2 => intro w hSw; (try dsimp only at hSw); obtain ⟨z0, z1, z2, z3, z4⟩ := hSw; go_simp; first | done | (with_reducible rfl)
      try simp only [Act.put, List.getElem_toArray, List.getElem_cons_zero, List.getElem_cons_succ, List.setIfInBounds_toArray, List.set_cons_zero, List.set_cons_succ]
      refine till_ready (rs := [8]) (by kernel_rfl) (by simp) ?_
      refine TillReady.past rfl (by kernel_rfl) (fun K hK => ?_) TillReady.nil
      go_simp
      go_at_call 29
      refine (HD.out.index_s (by omega) (g1, a')).mono ?_
      rintro e w1 ⟨rfl, hw1⟩
      rw [hy]
      have HW2 := Lib.hid hw1; clear hw1 HD
      refine hK.out _ _ ?_
      clear hK K
      try simp only [Act.put, List.getElem_toArray, List.getElem_cons_zero, List.getElem_cons_succ, List.setIfInBounds_toArray, List.set_cons_zero, List.set_cons_succ]
      refine till_pure (i := 9) (oi := _) (v := ?_) rfl (by kernel_rfl) (by decide) (by kernel_rfl) (by kernel_rfl) (fun _ _ _ h => h) (Or.inl ⟨by rfl, ?_⟩) (fun h => absurd h (by decide)) ?_
      case refine_2 => intro w _; go_simp; first | done | (with_reducible rfl)
      try simp only [Act.put, List.getElem_toArray, List.getElem_cons_zero, List.getElem_cons_succ, List.setIfInBounds_toArray, List.set_cons_zero, List.set_cons_succ]
      refine till_done (by kernel_rfl) ?_ _
      obtain ⟨m, rfl⟩ : ∃ m, k = m + 1 := ⟨k - 1, by have := HF.out.1; omega⟩
      rcases idxS_cases H (g1, a') with ⟨ex, -⟩ | ⟨kx, ex, -⟩
      · obtain rfl : x = -1 := by rw [← hx, ex]
        have HX := Lib.hid ex
        clear hx ex
        rcases idxS_cases S (g1, a') with ⟨ey, -⟩ | ⟨ky, ey, hky⟩
        · obtain rfl : y = -1 := by rw [← hy, ey]
          have HY : Hid (idxS S (g1, a') = -1 ∨ idxS S (g1, a') = l') := Lib.hid (.inl ey)
          clear hy ey
          by_cases hn : a' = -1 ∨ ent = true
          · have HRR : Hid (R = (noWay 8, bs')) := Lib.hid (by rw [← HF.out.2]; exact folM_none HX.out HY.out hn)
            rcases hn with rfl | rfl
            · go_wp2
              go_roundg 0
              case measure => omega
              case rel => exact ⟨bs', (f1, f2), (g1, g2), _, l', ent, -1, 8, rfl, rfl, rfl, rfl, rfl, HW2, .inr ⟨by decide, HRR⟩⟩
            · by_cases hz : a' = -1
              · subst hz
                go_wp2
                go_roundg 0
                case measure => omega
                case rel => exact ⟨bs', (f1, f2), (g1, g2), _, l', true, -1, 8, rfl, rfl, rfl, rfl, rfl, HW2, .inr ⟨by decide, HRR⟩⟩
              · have z0 : (a' != (-1 : Int)) = true := by simpa using hz
                go_wp2
                go_roundg 0
                case measure => omega
                case rel => exact ⟨bs', (f1, f2), (g1, g2), _, l', true, -1, 8, rfl, rfl, rfl, rfl, rfl, HW2, .inr ⟨by decide, HRR⟩⟩
          · obtain ⟨ka, rfl, hka⟩ : ∃ ka : Nat, a' = ka ∧ ka < S.length := HI.out.at_.resolve_left (fun e => hn (.inl e.1))
            obtain rfl : ent = false := by simpa using fun e => hn (.inr e)
            have z0 : ((ka : Int) != (-1 : Int)) = true := by simp <;> omega
            clear hn
            obtain ⟨b, hb⟩ : ∃ b, bs'[ka]? = some b := ⟨_, List.getElem?_eq_getElem (by have := HI.out.len; omega)⟩
            obtain ⟨⟨⟨⟨a1, a2⟩, ec⟩, b'⟩, hr⟩ : ∃ r, outP b t (f1, f2) (g1, g2) = r := ⟨_, rfl⟩
            have hok := HI.out.ok b (List.mem_of_getElem? hb)
            have hin := out_ok (t := t) (g := (g1, g2)) hok HI.out.f.1 HI.out.f.2
            rw [hr] at hin
            have HIN := Lib.hid hin
            obtain ⟨s, hs⟩ : ∃ s, S[ka]? = some s := ⟨_, List.getElem?_eq_getElem hka⟩
            have HFO : Hid ((if ec = 0 then folM S H t m (bs'.set ka b') (a1, a2) (g1, g2) s.2 ka false else (noWay ec, bs'.set ka b')) = R) := Lib.hid (by
              rw [← HF.out.2, folM_out HX.out HY.out hb _ hr, getS_at hs])
            have HMM : Hid (meas S s.2 false < m) := Lib.hid (by have := meas_out HS.out hka; rw [getS_at hs] at this; have := HF.out.1; omega)
            have HSA : Hid (∀ e : Bool, e = false → (s.2 = -1 ∧ e = false) ∨ ∃ k : Nat, s.2 = k ∧ k < S.length) := Lib.hid (fun e he => (HS.out ka s hs).imp (fun e => ⟨e, he⟩) (fun ⟨j, e, h, _⟩ => ⟨j, e, by omega⟩))
            have HS2 := Lib.hid hs
            have hkl : ka < bs'.length := by have := HI.out.len; omega
            have hbl : bs'.length ≤ 16 := by have := HI.out.len; omega
            have HD := Lib.hid (HW2.out.drewN 1)
            obtain ⟨gb, cb, nb, ebv, hcm, hgl, hc1, hcall⟩ := HD.out.call_out hb hok t (f1, f2) (g1, g2) HI.out.f.1 HI.out.g _ hr
            subst ebv
            have hc0 := HD.out.top.1
            have hc2' := HD.out.c2 (k := V.heap.size + 1) (u := .int .u32 g1) (v := .int .i64 g2) (t := 36) (by simp [os4])
            have hc2 := And.intro hc2'.1 hc2'.2.1
            have hc3 := (HD.out.c2 (k := V.heap.size) (u := .int .u32 f1) (v := .int .i64 f2) (t := 36) (by simp [os4])).1
            have hc4 := (HD.out.c2 (k := V.heap.size) (u := .int .u32 f1) (v := .int .i64 f2) (t := 36) (by simp [os4])).2.1
            have HCALL := Lib.hid hcall
            unfold ansA adr at HCALL
            unfold maxLen at hcm
            clear hcall hr hb hok hin hs hc2'
            go_wp2_with fail
            refine wp_region_till (S := fun W => W.cell? ⟨wb, 0, none⟩ = some (.slice (some ⟨gb, 0, none⟩) bs'.length cb) ∧ W.cell? ⟨gb, ka, none⟩ = some (.pointer (some ⟨nb, 0, none⟩)) ∧ (W.cell? ⟨V.heap.size + 1, 0, none⟩ = some (.int .u32 g1) ∧ W.cell? ⟨V.heap.size + 1, 1, none⟩ = some (.int .i64 g2)) ∧ W.cell? ⟨V.heap.size, 0, none⟩ = some (.int .u32 f1) ∧ W.cell? ⟨V.heap.size, 1, none⟩ = some (.int .i64 f2)) (z := 10) (by kernel_rfl) ⟨hc0, hc1, hc2, hc3, hc4⟩ (fun hHeld => ?_)
            refine till_take (i := 0) (oi := _) (v := ?_) [6, 5, 3, 2, 1] rfl (by kernel_rfl) (by kernel_rfl) (by decide) (by kernel_rfl) (by kernel_rfl) (by kernel_rfl) (fun _ _ _ h => h) (Or.inl ⟨by rfl, ?_⟩) (by assumption) ?_
            case refine_2 => intro w hSw; (try dsimp only at hSw); obtain ⟨z0, z1, ⟨z2, z5⟩, z3, z4⟩ := hSw; go_simp; first | done | (with_reducible rfl)
            try simp only [Act.put, List.getElem_toArray, List.getElem_cons_zero, List.setIfInBounds_toArray, List.set_cons_zero, List.set_cons_succ]
            refine till_take (i := 1) (oi := _) (v := ?_) [6, 5, 3, 2] rfl (by kernel_rfl) (by kernel_rfl) (by decide) (by kernel_rfl) (by kernel_rfl) (by kernel_rfl) (fun _ _ _ h => h) (Or.inl ⟨by rfl, ?_⟩) (by assumption) ?_
            case refine_2 => intro w hSw; (try dsimp only at hSw); obtain ⟨z0, z1, ⟨z2, z5⟩, z3, z4⟩ := hSw; go_simp; first | done | (with_reducible rfl)
            try simp only [Act.put, List.getElem_toArray, List.getElem_cons_zero, List.getElem_cons_succ, List.setIfInBounds_toArray, List.set_cons_zero, List.set_cons_succ]
            refine till_take (i := 2) (oi := _) (v := ?_) [6, 5, 3] rfl (by kernel_rfl) (by kernel_rfl) (by decide) (by kernel_rfl) (by kernel_rfl) (by kernel_rfl) (fun _ _ _ h => h) (Or.inl ⟨by rfl, ?_⟩) (by assumption) ?_
            case refine_2 => intro w hSw; (try dsimp only at hSw); obtain ⟨z0, z1, ⟨z2, z5⟩, z3, z4⟩ := hSw; go_simp; first | done | (with_reducible rfl)
            try simp only [Act.put, List.getElem_toArray, List.getElem_cons_zero, List.getElem_cons_succ, List.setIfInBounds_toArray, List.set_cons_zero, List.set_cons_succ]
            refine till_take (i := 3) (oi := _) (v := ?_) [6, 5] rfl (by kernel_rfl) (by kernel_rfl) (by decide) (by kernel_rfl) (by kernel_rfl) (by kernel_rfl) (fun _ _ _ h => h) (Or.inl ⟨by rfl, ?_⟩) (by assumption) ?_
            case refine_2 => intro w hSw; (try dsimp only at hSw); obtain ⟨z0, z1, ⟨z2, z5⟩, z3, z4⟩ := hSw; go_simp; first | done | (with_reducible rfl)
            try simp only [Act.put, List.getElem_toArray, List.getElem_cons_zero, List.getElem_cons_succ, List.setIfInBounds_toArray, List.set_cons_zero, List.set_cons_succ]
            refine till_take (i := 4) (oi := _) (v := ?_) [6, 5] rfl (by kernel_rfl) (by kernel_rfl) (by decide) (by kernel_rfl) (by kernel_rfl) (by kernel_rfl) (fun _ _ _ h => h) (Or.inl ⟨by rfl, ?_⟩) (by assumption) ?_
            case refine_2 => intro w hSw; (try dsimp only at hSw); obtain ⟨z0, z1, ⟨z2, z5⟩, z3, z4⟩ := hSw; go_simp; first | done | (with_reducible rfl)
            try simp only [Act.put, List.getElem_toArray, List.getElem_cons_zero, List.getElem_cons_succ, List.setIfInBounds_toArray, List.set_cons_zero, List.set_cons_succ]
            refine till_take (i := 5) (oi := _) (v := ?_) [6] rfl (by kernel_rfl) (by kernel_rfl) (by decide) (by kernel_rfl) (by kernel_rfl) (by kernel_rfl) (fun _ _ _ h => h) (Or.inl ⟨by rfl, ?_⟩) (by assumption) ?_
            case refine_2 => intro w hSw; (try dsimp only at hSw); obtain ⟨z0, z1, ⟨z2, z5⟩, z3, z4⟩ := hSw; go_simp; first | done | (with_reducible rfl)
            try simp only [Act.put, List.getElem_toArray, List.getElem_cons_zero, List.getElem_cons_succ, List.setIfInBounds_toArray, List.set_cons_zero, List.set_cons_succ]
            refine till_take (i := 6) (oi := _) (v := ?_) [] rfl (by kernel_rfl) (by kernel_rfl) (by decide) (by kernel_rfl) (by kernel_rfl) (by kernel_rfl) (fun _ _ _ h => h) (Or.inl ⟨by rfl, ?_⟩) (by assumption) ?_
            case refine_2 => intro w hSw; (try dsimp only at hSw); obtain ⟨z0, z1, ⟨z2, z5⟩, z3, z4⟩ := hSw; go_simp; first | done | (with_reducible rfl)
            try simp only [Act.put, List.getElem_toArray, List.getElem_cons_zero, List.getElem_cons_succ, List.setIfInBounds_toArray, List.set_cons_zero, List.set_cons_succ]
            refine till_take (i := 7) (oi := _) (v := ?_) [] rfl (by kernel_rfl) (by kernel_rfl) (by decide) (by kernel_rfl) (by kernel_rfl) (by kernel_rfl) (fun _ _ _ h => h) (Or.inl ⟨by rfl, ?_⟩) (by assumption) ?_
            case refine_2 => intro w hSw; (try dsimp only at hSw); obtain ⟨z0, z1, ⟨z2, z5⟩, z3, z4⟩ := hSw; go_simp; first | done | (with_reducible rfl)
            try simp only [Act.put, List.getElem_toArray, List.getElem_cons_zero, List.getElem_cons_succ, List.setIfInBounds_toArray, List.set_cons_zero, List.set_cons_succ]
            refine till_take (i := 8) (oi := _) (v := ?_) [] rfl (by kernel_rfl) (by kernel_rfl) (by decide) (by kernel_rfl) (by kernel_rfl) (by kernel_rfl) (fun _ _ _ h => h) (Or.inl ⟨by rfl, ?_⟩) (by assumption) ?_
            case refine_2 => intro w hSw; (try dsimp only at hSw); obtain ⟨z0, z1, ⟨z2, z5⟩, z3, z4⟩ := hSw; go_simp; first | done | (with_reducible rfl)
            try simp only [Act.put, List.getElem_toArray, List.getElem_cons_zero, List.getElem_cons_succ, List.setIfInBounds_toArray, List.set_cons_zero, List.set_cons_succ]
            refine till_take (i := 9) (oi := _) (v := ?_) [] rfl (by kernel_rfl) (by kernel_rfl) (by decide) (by kernel_rfl) (by kernel_rfl) (by kernel_rfl) (fun _ _ _ h => h) (Or.inl ⟨by rfl, ?_⟩) (by assumption) ?_
            case refine_2 => intro w hSw; (try dsimp only at hSw); obtain ⟨z0, z1, ⟨z2, z5⟩, z3, z4⟩ := hSw; go_simp; first | done | (with_reducible rfl)
            try simp only [Act.put, List.getElem_toArray, List.getElem_cons_zero, List.getElem_cons_succ, List.setIfInBounds_toArray, List.set_cons_zero, List.set_cons_succ]
            refine till_ready (rs := [10]) (by kernel_rfl) (by simp) ?_
            refine TillReady.past rfl (by kernel_rfl) (fun K hK => ?_) TillReady.nil
            go_simp
            go_at_call 31
            refine HCALL.out.mono ?_
            rintro e W2 ⟨rfl, hw2⟩
            have HW3 := Lib.hid hw2; clear hw2 HD HCALL
            have q0 := HW3.out.c2 (k := V.heap.size) (u := .int .u32 f1) (v := .int .i64 f2) (t := 36) (by simp [os4])
            refine hK.out _ _ ?_
            clear hK K
            try simp only [Act.put, List.getElem_toArray, List.getElem_cons_zero, List.getElem_cons_succ, List.setIfInBounds_toArray, List.set_cons_zero, List.set_cons_succ]
            refine till_pure (i := 11) (oi := _) (v := ?_) rfl (by kernel_rfl) (by decide) (by kernel_rfl) (by kernel_rfl) (fun _ _ _ h => h) (Or.inl ⟨by rfl, ?_⟩) (fun h => absurd h (by decide)) ?_
            case refine_2 => intro w _; go_simp; first | done | (with_reducible rfl)
            try simp only [Act.put, List.getElem_toArray, List.getElem_cons_zero, List.getElem_cons_succ, List.setIfInBounds_toArray, List.set_cons_zero, List.set_cons_succ]
            refine till_pure (i := 12) (oi := _) (v := ?_) rfl (by kernel_rfl) (by decide) (by kernel_rfl) (by kernel_rfl) (fun _ _ _ h => h) (Or.inl ⟨by rfl, ?_⟩) (fun h => absurd h (by decide)) ?_
            case refine_2 => intro w _; go_simp; first | done | (with_reducible rfl)
            try simp only [Act.put, List.getElem_toArray, List.getElem_cons_zero, List.getElem_cons_succ, List.setIfInBounds_toArray, List.set_cons_zero, List.set_cons_succ]
            refine till_pure (i := 13) (oi := _) (v := ?_) rfl (by kernel_rfl) (by decide) (by kernel_rfl) (by kernel_rfl) (fun _ _ _ h => h) (Or.inl ⟨by rfl, ?_⟩) (fun h => absurd h (by decide)) ?_
            case refine_2 => intro w _; go_simp; first | done | (with_reducible rfl)
            try simp only [Act.put, List.getElem_toArray, List.getElem_cons_zero, List.getElem_cons_succ, List.setIfInBounds_toArray, List.set_cons_zero, List.set_cons_succ]
            refine till_ready (rs := [14]) (by kernel_rfl) (by simp) ?_
            refine TillReady.past rfl (by kernel_rfl) (fun K hK => ?_) TillReady.nil
            go_simp
            refine hK.out _ _ ?_
            clear hK K
            try simp only [Act.put, List.getElem_toArray, List.getElem_cons_zero, List.getElem_cons_succ, List.setIfInBounds_toArray, List.set_cons_zero, List.set_cons_succ]
            refine till_pure (i := 15) (oi := _) (v := ?_) rfl (by kernel_rfl) (by decide) (by kernel_rfl) (by kernel_rfl) (fun _ _ _ h => h) (Or.inl ⟨by rfl, ?_⟩) (fun h => absurd h (by decide)) ?_
            case refine_2 => intro w _; go_simp; first | done | (with_reducible rfl)
            try simp only [Act.put, List.getElem_toArray, List.getElem_cons_zero, List.getElem_cons_succ, List.setIfInBounds_toArray, List.set_cons_zero, List.set_cons_succ]
            refine till_done (by kernel_rfl) ?_ _
            have hw4 : Wp w0 wb _ sv hv S H (bs'.set ka b') now (os4 V.heap.size (a1, a2) (g1, g2) os) _ := Wp.store2 (l := []) HW3.out (by
              intro p hp
              simp only [List.nil_append, List.mem_cons] at hp
              rcases hp with rfl | rfl | rfl | hp
              · simp only; omega
              · simp only; omega
              · simp only; omega
              · have := HOS.out p hp; omega) (by have := HLO.out; omega) (.int .u32 a1) (.int .i64 a2)
            obtain ⟨W4, hW4⟩ : ∃ W4, (W2.setCell ⟨V.heap.size, 0, none⟩ (.int .u32 a1)).setCell ⟨V.heap.size, 1, none⟩ (.int .i64 a2) = W4 := ⟨_, rfl⟩
            rw [hW4] at hw4 ⊢
            clear hW4 hc0 hc1 hc2 hc3 hc4 q0
            have HW4 := Lib.hid hw4
            obtain ⟨As, cs, es, hs1, hs2, hat, -⟩ := hw4.sites.1
            have ht1 := hw4.top.2.1
            rw [es] at ht1
            obtain ⟨sb, so, rfl, hsb, hsc⟩ := hat (by omega)
            obtain ⟨u0, u1⟩ := hsc ka s HS2.out
            unfold maxLen at hs2
            clear hw4 hat hsc es
            go_wp2
            go_quiet (fail)
            go_wp2
            go_roundg m
            case measure => omega
            case rel =>
              refine ⟨bs'.set ka b', (a1, a2), (g1, g2), s.2, ka, false, -1, ec, rfl, rfl, rfl, rfl, rfl, Lib.hid (HW4.out.drewN _), ?_⟩
              by_cases he : ec = 0
              · exact .inl ⟨he, Lib.hid (HI.out.set HIN.out.1 ⟨HIN.out.2.1, HIN.out.2.2.1 he⟩ HI.out.g (HSA.out _ rfl)), m, Nat.le_refl _, Lib.hid ⟨HMM.out, by rw [← HFO.out, if_pos he]⟩⟩
              · exact .inr ⟨he, Lib.hid (by rw [← HFO.out, if_neg he])⟩
        · obtain rfl : y = (ky : Int) := by rw [← hy, ey]
          have y0 : ((ky : Int) != (-1 : Int)) = true := by simp <;> omega
          by_cases hyl : (ky : Int) = l'
          · have y1 : ((ky : Int) != l') = false := by simpa using hyl
            have HY : Hid (idxS S (g1, a') = -1 ∨ idxS S (g1, a') = l') := Lib.hid (.inr (ey.trans hyl))
            clear hy ey hky
            by_cases hn : a' = -1 ∨ ent = true
            · have HRR : Hid (R = (noWay 8, bs')) := Lib.hid (by rw [← HF.out.2]; exact folM_none HX.out HY.out hn)
              rcases hn with rfl | rfl
              · go_wp2
                go_roundg 0
                case measure => omega
                case rel => exact ⟨bs', (f1, f2), (g1, g2), _, l', ent, -1, 8, rfl, rfl, rfl, rfl, rfl, HW2, .inr ⟨by decide, HRR⟩⟩
              · by_cases hz : a' = -1
                · subst hz
                  go_wp2
                  go_roundg 0
                  case measure => omega
                  case rel => exact ⟨bs', (f1, f2), (g1, g2), _, l', true, -1, 8, rfl, rfl, rfl, rfl, rfl, HW2, .inr ⟨by decide, HRR⟩⟩
                · have z0 : (a' != (-1 : Int)) = true := by simpa using hz
                  go_wp2
                  go_roundg 0
                  case measure => omega
                  case rel => exact ⟨bs', (f1, f2), (g1, g2), _, l', true, -1, 8, rfl, rfl, rfl, rfl, rfl, HW2, .inr ⟨by decide, HRR⟩⟩
            · obtain ⟨ka, rfl, hka⟩ : ∃ ka : Nat, a' = ka ∧ ka < S.length := HI.out.at_.resolve_left (fun e => hn (.inl e.1))
              obtain rfl : ent = false := by simpa using fun e => hn (.inr e)
              have z0 : ((ka : Int) != (-1 : Int)) = true := by simp <;> omega
              clear hn
              obtain ⟨b, hb⟩ : ∃ b, bs'[ka]? = some b := ⟨_, List.getElem?_eq_getElem (by have := HI.out.len; omega)⟩
              obtain ⟨⟨⟨⟨a1, a2⟩, ec⟩, b'⟩, hr⟩ : ∃ r, outP b t (f1, f2) (g1, g2) = r := ⟨_, rfl⟩
              have hok := HI.out.ok b (List.mem_of_getElem? hb)
              have hin := out_ok (t := t) (g := (g1, g2)) hok HI.out.f.1 HI.out.f.2
              rw [hr] at hin
              have HIN := Lib.hid hin
              obtain ⟨s, hs⟩ : ∃ s, S[ka]? = some s := ⟨_, List.getElem?_eq_getElem hka⟩
              have HFO : Hid ((if ec = 0 then folM S H t m (bs'.set ka b') (a1, a2) (g1, g2) s.2 ka false else (noWay ec, bs'.set ka b')) = R) := Lib.hid (by
                rw [← HF.out.2, folM_out HX.out HY.out hb _ hr, getS_at hs])
              have HMM : Hid (meas S s.2 false < m) := Lib.hid (by have := meas_out HS.out hka; rw [getS_at hs] at this; have := HF.out.1; omega)
              have HSA : Hid (∀ e : Bool, e = false → (s.2 = -1 ∧ e = false) ∨ ∃ k : Nat, s.2 = k ∧ k < S.length) := Lib.hid (fun e he => (HS.out ka s hs).imp (fun e => ⟨e, he⟩) (fun ⟨j, e, h, _⟩ => ⟨j, e, by omega⟩))
              have HS2 := Lib.hid hs
              have hkl : ka < bs'.length := by have := HI.out.len; omega
              have hbl : bs'.length ≤ 16 := by have := HI.out.len; omega
              have HD := Lib.hid (HW2.out.drewN 1)
              obtain ⟨gb, cb, nb, ebv, hcm, hgl, hc1, hcall⟩ := HD.out.call_out hb hok t (f1, f2) (g1, g2) HI.out.f.1 HI.out.g _ hr
              subst ebv
              have hc0 := HD.out.top.1
              have hc2' := HD.out.c2 (k := V.heap.size + 1) (u := .int .u32 g1) (v := .int .i64 g2) (t := 36) (by simp [os4])
              have hc2 := And.intro hc2'.1 hc2'.2.1
              have hc3 := (HD.out.c2 (k := V.heap.size) (u := .int .u32 f1) (v := .int .i64 f2) (t := 36) (by simp [os4])).1
              have hc4 := (HD.out.c2 (k := V.heap.size) (u := .int .u32 f1) (v := .int .i64 f2) (t := 36) (by simp [os4])).2.1
              have HCALL := Lib.hid hcall
              unfold ansA adr at HCALL
              unfold maxLen at hcm
              clear hcall hr hb hok hin hs hc2'
              go_wp2_with fail
              refine wp_region_till (S := fun W => W.cell? ⟨wb, 0, none⟩ = some (.slice (some ⟨gb, 0, none⟩) bs'.length cb) ∧ W.cell? ⟨gb, ka, none⟩ = some (.pointer (some ⟨nb, 0, none⟩)) ∧ (W.cell? ⟨V.heap.size + 1, 0, none⟩ = some (.int .u32 g1) ∧ W.cell? ⟨V.heap.size + 1, 1, none⟩ = some (.int .i64 g2)) ∧ W.cell? ⟨V.heap.size, 0, none⟩ = some (.int .u32 f1) ∧ W.cell? ⟨V.heap.size, 1, none⟩ = some (.int .i64 f2)) (z := 10) (by kernel_rfl) ⟨hc0, hc1, hc2, hc3, hc4⟩ (fun hHeld => ?_)
              refine till_take (i := 0) (oi := _) (v := ?_) [6, 5, 3, 2, 1] rfl (by kernel_rfl) (by kernel_rfl) (by decide) (by kernel_rfl) (by kernel_rfl) (by kernel_rfl) (fun _ _ _ h => h) (Or.inl ⟨by rfl, ?_⟩) (by assumption) ?_
              case refine_2 => intro w hSw; (try dsimp only at hSw); obtain ⟨z0, z1, ⟨z2, z5⟩, z3, z4⟩ := hSw; go_simp; first | done | (with_reducible rfl)
              try simp only [Act.put, List.getElem_toArray, List.getElem_cons_zero, List.setIfInBounds_toArray, List.set_cons_zero, List.set_cons_succ]
              refine till_take (i := 1) (oi := _) (v := ?_) [6, 5, 3, 2] rfl (by kernel_rfl) (by kernel_rfl) (by decide) (by kernel_rfl) (by kernel_rfl) (by kernel_rfl) (fun _ _ _ h => h) (Or.inl ⟨by rfl, ?_⟩) (by assumption) ?_
              case refine_2 => intro w hSw; (try dsimp only at hSw); obtain ⟨z0, z1, ⟨z2, z5⟩, z3, z4⟩ := hSw; go_simp; first | done | (with_reducible rfl)
              try simp only [Act.put, List.getElem_toArray, List.getElem_cons_zero, List.getElem_cons_succ, List.setIfInBounds_toArray, List.set_cons_zero, List.set_cons_succ]
              refine till_take (i := 2) (oi := _) (v := ?_) [6, 5, 3] rfl (by kernel_rfl) (by kernel_rfl) (by decide) (by kernel_rfl) (by kernel_rfl) (by kernel_rfl) (fun _ _ _ h => h) (Or.inl ⟨by rfl, ?_⟩) (by assumption) ?_
              case refine_2 => intro w hSw; (try dsimp only at hSw); obtain ⟨z0, z1, ⟨z2, z5⟩, z3, z4⟩ := hSw; go_simp; first | done | (with_reducible rfl)
              try simp only [Act.put, List.getElem_toArray, List.getElem_cons_zero, List.getElem_cons_succ, List.setIfInBounds_toArray, List.set_cons_zero, List.set_cons_succ]
              refine till_take (i := 3) (oi := _) (v := ?_) [6, 5] rfl (by kernel_rfl) (by kernel_rfl) (by decide) (by kernel_rfl) (by kernel_rfl) (by kernel_rfl) (fun _ _ _ h => h) (Or.inl ⟨by rfl, ?_⟩) (by assumption) ?_
              case refine_2 => intro w hSw; (try dsimp only at hSw); obtain ⟨z0, z1, ⟨z2, z5⟩, z3, z4⟩ := hSw; go_simp; first | done | (with_reducible rfl)
              try simp only [Act.put, List.getElem_toArray, List.getElem_cons_zero, List.getElem_cons_succ, List.setIfInBounds_toArray, List.set_cons_zero, List.set_cons_succ]
              refine till_take (i := 4) (oi := _) (v := ?_) [6, 5] rfl (by kernel_rfl) (by kernel_rfl) (by decide) (by kernel_rfl) (by kernel_rfl) (by kernel_rfl) (fun _ _ _ h => h) (Or.inl ⟨by rfl, ?_⟩) (by assumption) ?_
              case refine_2 => intro w hSw; (try dsimp only at hSw); obtain ⟨z0, z1, ⟨z2, z5⟩, z3, z4⟩ := hSw; go_simp; first | done | (with_reducible rfl)
              try simp only [Act.put, List.getElem_toArray, List.getElem_cons_zero, List.getElem_cons_succ, List.setIfInBounds_toArray, List.set_cons_zero, List.set_cons_succ]
              refine till_take (i := 5) (oi := _) (v := ?_) [6] rfl (by kernel_rfl) (by kernel_rfl) (by decide) (by kernel_rfl) (by kernel_rfl) (by kernel_rfl) (fun _ _ _ h => h) (Or.inl ⟨by rfl, ?_⟩) (by assumption) ?_
              case refine_2 => intro w hSw; (try dsimp only at hSw); obtain ⟨z0, z1, ⟨z2, z5⟩, z3, z4⟩ := hSw; go_simp; first | done | (with_reducible rfl)
              try simp only [Act.put, List.getElem_toArray, List.getElem_cons_zero, List.getElem_cons_succ, List.setIfInBounds_toArray, List.set_cons_zero, List.set_cons_succ]
              refine till_take (i := 6) (oi := _) (v := ?_) [] rfl (by kernel_rfl) (by kernel_rfl) (by decide) (by kernel_rfl) (by kernel_rfl) (by kernel_rfl) (fun _ _ _ h => h) (Or.inl ⟨by rfl, ?_⟩) (by assumption) ?_
              case refine_2 => intro w hSw; (try dsimp only at hSw); obtain ⟨z0, z1, ⟨z2, z5⟩, z3, z4⟩ := hSw; go_simp; first | done | (with_reducible rfl)
              try simp only [Act.put, List.getElem_toArray, List.getElem_cons_zero, List.getElem_cons_succ, List.setIfInBounds_toArray, List.set_cons_zero, List.set_cons_succ]
              refine till_take (i := 7) (oi := _) (v := ?_) [] rfl (by kernel_rfl) (by kernel_rfl) (by decide) (by kernel_rfl) (by kernel_rfl) (by kernel_rfl) (fun _ _ _ h => h) (Or.inl ⟨by rfl, ?_⟩) (by assumption) ?_
              case refine_2 => intro w hSw; (try dsimp only at hSw); obtain ⟨z0, z1, ⟨z2, z5⟩, z3, z4⟩ := hSw; go_simp; first | done | (with_reducible rfl)
              try simp only [Act.put, List.getElem_toArray, List.getElem_cons_zero, List.getElem_cons_succ, List.setIfInBounds_toArray, List.set_cons_zero, List.set_cons_succ]
              refine till_take (i := 8) (oi := _) (v := ?_) [] rfl (by kernel_rfl) (by kernel_rfl) (by decide) (by kernel_rfl) (by kernel_rfl) (by kernel_rfl) (fun _ _ _ h => h) (Or.inl ⟨by rfl, ?_⟩) (by assumption) ?_
              case refine_2 => intro w hSw; (try dsimp only at hSw); obtain ⟨z0, z1, ⟨z2, z5⟩, z3, z4⟩ := hSw; go_simp; first | done | (with_reducible rfl)
              try simp only [Act.put, List.getElem_toArray, List.getElem_cons_zero, List.getElem_cons_succ, List.setIfInBounds_toArray, List.set_cons_zero, List.set_cons_succ]
              refine till_take (i := 9) (oi := _) (v := ?_) [] rfl (by kernel_rfl) (by kernel_rfl) (by decide) (by kernel_rfl) (by kernel_rfl) (by kernel_rfl) (fun _ _ _ h => h) (Or.inl ⟨by rfl, ?_⟩) (by assumption) ?_
              case refine_2 => intro w hSw; (try dsimp only at hSw); obtain ⟨z0, z1, ⟨z2, z5⟩, z3, z4⟩ := hSw; go_simp; first | done | (with_reducible rfl)
              try simp only [Act.put, List.getElem_toArray, List.getElem_cons_zero, List.getElem_cons_succ, List.setIfInBounds_toArray, List.set_cons_zero, List.set_cons_succ]
              refine till_ready (rs := [10]) (by kernel_rfl) (by simp) ?_
              refine TillReady.past rfl (by kernel_rfl) (fun K hK => ?_) TillReady.nil
              go_simp
              go_at_call 31
              refine HCALL.out.mono ?_
              rintro e W2 ⟨rfl, hw2⟩
              have HW3 := Lib.hid hw2; clear hw2 HD HCALL
              have q0 := HW3.out.c2 (k := V.heap.size) (u := .int .u32 f1) (v := .int .i64 f2) (t := 36) (by simp [os4])
              refine hK.out _ _ ?_
              clear hK K
              try simp only [Act.put, List.getElem_toArray, List.getElem_cons_zero, List.getElem_cons_succ, List.setIfInBounds_toArray, List.set_cons_zero, List.set_cons_succ]
              refine till_pure (i := 11) (oi := _) (v := ?_) rfl (by kernel_rfl) (by decide) (by kernel_rfl) (by kernel_rfl) (fun _ _ _ h => h) (Or.inl ⟨by rfl, ?_⟩) (fun h => absurd h (by decide)) ?_
              case refine_2 => intro w _; go_simp; first | done | (with_reducible rfl)
              try simp only [Act.put, List.getElem_toArray, List.getElem_cons_zero, List.getElem_cons_succ, List.setIfInBounds_toArray, List.set_cons_zero, List.set_cons_succ]
              refine till_pure (i := 12) (oi := _) (v := ?_) rfl (by kernel_rfl) (by decide) (by kernel_rfl) (by kernel_rfl) (fun _ _ _ h => h) (Or.inl ⟨by rfl, ?_⟩) (fun h => absurd h (by decide)) ?_
              case refine_2 => intro w _; go_simp; first | done | (with_reducible rfl)
              try simp only [Act.put, List.getElem_toArray, List.getElem_cons_zero, List.getElem_cons_succ, List.setIfInBounds_toArray, List.set_cons_zero, List.set_cons_succ]
              refine till_pure (i := 13) (oi := _) (v := ?_) rfl (by kernel_rfl) (by decide) (by kernel_rfl) (by kernel_rfl) (fun _ _ _ h => h) (Or.inl ⟨by rfl, ?_⟩) (fun h => absurd h (by decide)) ?_
              case refine_2 => intro w _; go_simp; first | done | (with_reducible rfl)
              try simp only [Act.put, List.getElem_toArray, List.getElem_cons_zero, List.getElem_cons_succ, List.setIfInBounds_toArray, List.set_cons_zero, List.set_cons_succ]
              refine till_ready (rs := [14]) (by kernel_rfl) (by simp) ?_
              refine TillReady.past rfl (by kernel_rfl) (fun K hK => ?_) TillReady.nil
              go_simp
              refine hK.out _ _ ?_
              clear hK K
              try simp only [Act.put, List.getElem_toArray, List.getElem_cons_zero, List.getElem_cons_succ, List.setIfInBounds_toArray, List.set_cons_zero, List.set_cons_succ]
              refine till_pure (i := 15) (oi := _) (v := ?_) rfl (by kernel_rfl) (by decide) (by kernel_rfl) (by kernel_rfl) (fun _ _ _ h => h) (Or.inl ⟨by rfl, ?_⟩) (fun h => absurd h (by decide)) ?_
              case refine_2 => intro w _; go_simp; first | done | (with_reducible rfl)
              try simp only [Act.put, List.getElem_toArray, List.getElem_cons_zero, List.getElem_cons_succ, List.setIfInBounds_toArray, List.set_cons_zero, List.set_cons_succ]
              refine till_done (by kernel_rfl) ?_ _
              have hw4 : Wp w0 wb _ sv hv S H (bs'.set ka b') now (os4 V.heap.size (a1, a2) (g1, g2) os) _ := Wp.store2 (l := []) HW3.out (by
                intro p hp
                simp only [List.nil_append, List.mem_cons] at hp
                rcases hp with rfl | rfl | rfl | hp
                · simp only; omega
                · simp only; omega
                · simp only; omega
                · have := HOS.out p hp; omega) (by have := HLO.out; omega) (.int .u32 a1) (.int .i64 a2)
              obtain ⟨W4, hW4⟩ : ∃ W4, (W2.setCell ⟨V.heap.size, 0, none⟩ (.int .u32 a1)).setCell ⟨V.heap.size, 1, none⟩ (.int .i64 a2) = W4 := ⟨_, rfl⟩
              rw [hW4] at hw4 ⊢
              clear hW4 hc0 hc1 hc2 hc3 hc4 q0
              have HW4 := Lib.hid hw4
              obtain ⟨As, cs, es, hs1, hs2, hat, -⟩ := hw4.sites.1
              have ht1 := hw4.top.2.1
              rw [es] at ht1
              obtain ⟨sb, so, rfl, hsb, hsc⟩ := hat (by omega)
              obtain ⟨u0, u1⟩ := hsc ka s HS2.out
              unfold maxLen at hs2
              clear hw4 hat hsc es
              go_wp2
              go_quiet (fail)
              go_wp2
              go_roundg m
              case measure => omega
              case rel =>
                refine ⟨bs'.set ka b', (a1, a2), (g1, g2), s.2, ka, false, -1, ec, rfl, rfl, rfl, rfl, rfl, Lib.hid (HW4.out.drewN _), ?_⟩
                by_cases he : ec = 0
                · exact .inl ⟨he, Lib.hid (HI.out.set HIN.out.1 ⟨HIN.out.2.1, HIN.out.2.2.1 he⟩ HI.out.g (HSA.out _ rfl)), m, Nat.le_refl _, Lib.hid ⟨HMM.out, by rw [← HFO.out, if_pos he]⟩⟩
                · exact .inr ⟨he, Lib.hid (by rw [← HFO.out, if_neg he])⟩
          · have y1 : ((ky : Int) != l') = true := by simpa using hyl
            obtain ⟨b, hb⟩ : ∃ b, bs'[ky]? = some b := ⟨_, List.getElem?_eq_getElem (by have := (List.getElem?_eq_some_iff.1 hky).1; have := HI.out.len; omega)⟩
            obtain ⟨⟨⟨⟨a1, a2⟩, ec⟩, b'⟩, hr⟩ : ∃ r, inP b t g2 (f1, f2) = r := ⟨_, rfl⟩
            have hok := HI.out.ok b (List.mem_of_getElem? hb)
            have hin := in_ok (t := t) (p := g2) (f := (f1, f2)) hok
            rw [hr] at hin
            have HIN := Lib.hid hin
            have HFO : Hid ((if ec = 0 then folM S H t m (bs'.set ky b') (f1, f2) (a1, a2) ky l' true else (noWay ec, bs'.set ky b')) = R) := Lib.hid (by
              rw [← HF.out.2]
              exact (folM_in (f := (f1, f2)) (g := (g1, g2)) HX.out ey hyl hb _ hr).symm)
            have HMM : Hid (meas S ky true < m) := Lib.hid (by have := meas_in HS.out hky HI.out.at_; have := HF.out.1; omega)
            have HKY := Lib.hid hky
            have hkl : ky < bs'.length := by have := (List.getElem?_eq_some_iff.1 hky).1; have := HI.out.len; omega
            have hbl : bs'.length ≤ 16 := by have := HI.out.len; omega
            have HD := Lib.hid (HW2.out.drewN 1)
            obtain ⟨gb, cb, nb, ebv, hcm, hgl, hc1, hcall⟩ := HD.out.call_in hb hok t g2 (f1, f2) HI.out.f.1 _ hr
            subst ebv
            have hc0 := HD.out.top.1
            have hc2 := (HD.out.c2 (k := V.heap.size + 1) (u := .int .u32 g1) (v := .int .i64 g2) (t := 36) (by simp [os4])).2.1
            have hc3 := (HD.out.c2 (k := V.heap.size) (u := .int .u32 f1) (v := .int .i64 f2) (t := 36) (by simp [os4])).1
            have hc4 := (HD.out.c2 (k := V.heap.size) (u := .int .u32 f1) (v := .int .i64 f2) (t := 36) (by simp [os4])).2.1
            have HCALL := Lib.hid hcall
            unfold ansA adr at HCALL
            unfold maxLen at hcm
            clear hcall hr hb hok hin hky hy ey
            go_wp2_with fail
            refine wp_region_till (S := fun W => W.cell? ⟨wb, 0, none⟩ = some (.slice (some ⟨gb, 0, none⟩) bs'.length cb) ∧ W.cell? ⟨gb, ky, none⟩ = some (.pointer (some ⟨nb, 0, none⟩)) ∧ W.cell? ⟨V.heap.size + 1, 1, none⟩ = some (.int .i64 g2) ∧ W.cell? ⟨V.heap.size, 0, none⟩ = some (.int .u32 f1) ∧ W.cell? ⟨V.heap.size, 1, none⟩ = some (.int .i64 f2)) (z := 11) (by kernel_rfl) ⟨hc0, hc1, hc2, hc3, hc4⟩ (fun hHeld => ?_)
            refine till_take (i := 0) (oi := _) (v := ?_) [6, 5, 3, 2, 1] rfl (by kernel_rfl) (by kernel_rfl) (by decide) (by kernel_rfl) (by kernel_rfl) (by kernel_rfl) (fun _ _ _ h => h) (Or.inl ⟨by rfl, ?_⟩) (by assumption) ?_
            case refine_2 => intro w hSw; (try dsimp only at hSw); obtain ⟨z0, z1, z2, z3, z4⟩ := hSw; go_simp; first | done | (with_reducible rfl)
            try simp only [Act.put, List.getElem_toArray, List.getElem_cons_zero, List.setIfInBounds_toArray, List.set_cons_zero, List.set_cons_succ]
            refine till_take (i := 1) (oi := _) (v := ?_) [6, 5, 3, 2] rfl (by kernel_rfl) (by kernel_rfl) (by decide) (by kernel_rfl) (by kernel_rfl) (by kernel_rfl) (fun _ _ _ h => h) (Or.inl ⟨by rfl, ?_⟩) (by assumption) ?_
            case refine_2 => intro w hSw; (try dsimp only at hSw); obtain ⟨z0, z1, z2, z3, z4⟩ := hSw; go_simp; first | done | (with_reducible rfl)
            try simp only [Act.put, List.getElem_toArray, List.getElem_cons_zero, List.getElem_cons_succ, List.setIfInBounds_toArray, List.set_cons_zero, List.set_cons_succ]
            refine till_take (i := 2) (oi := _) (v := ?_) [6, 5, 3] rfl (by kernel_rfl) (by kernel_rfl) (by decide) (by kernel_rfl) (by kernel_rfl) (by kernel_rfl) (fun _ _ _ h => h) (Or.inl ⟨by rfl, ?_⟩) (by assumption) ?_
            case refine_2 => intro w hSw; (try dsimp only at hSw); obtain ⟨z0, z1, z2, z3, z4⟩ := hSw; go_simp; first | done | (with_reducible rfl)
            try simp only [Act.put, List.getElem_toArray, List.getElem_cons_zero, List.getElem_cons_succ, List.setIfInBounds_toArray, List.set_cons_zero, List.set_cons_succ]
            refine till_take (i := 3) (oi := _) (v := ?_) [6, 5] rfl (by kernel_rfl) (by kernel_rfl) (by decide) (by kernel_rfl) (by kernel_rfl) (by kernel_rfl) (fun _ _ _ h => h) (Or.inl ⟨by rfl, ?_⟩) (by assumption) ?_
            case refine_2 => intro w hSw; (try dsimp only at hSw); obtain ⟨z0, z1, z2, z3, z4⟩ := hSw; go_simp; first | done | (with_reducible rfl)
            try simp only [Act.put, List.getElem_toArray, List.getElem_cons_zero, List.getElem_cons_succ, List.setIfInBounds_toArray, List.set_cons_zero, List.set_cons_succ]
            refine till_take (i := 4) (oi := _) (v := ?_) [6, 5] rfl (by kernel_rfl) (by kernel_rfl) (by decide) (by kernel_rfl) (by kernel_rfl) (by kernel_rfl) (fun _ _ _ h => h) (Or.inl ⟨by rfl, ?_⟩) (by assumption) ?_
            case refine_2 => intro w hSw; (try dsimp only at hSw); obtain ⟨z0, z1, z2, z3, z4⟩ := hSw; go_simp; first | done | (with_reducible rfl)
            try simp only [Act.put, List.getElem_toArray, List.getElem_cons_zero, List.getElem_cons_succ, List.setIfInBounds_toArray, List.set_cons_zero, List.set_cons_succ]
            refine till_take (i := 5) (oi := _) (v := ?_) [6] rfl (by kernel_rfl) (by kernel_rfl) (by decide) (by kernel_rfl) (by kernel_rfl) (by kernel_rfl) (fun _ _ _ h => h) (Or.inl ⟨by rfl, ?_⟩) (by assumption) ?_
            case refine_2 => intro w hSw; (try dsimp only at hSw); obtain ⟨z0, z1, z2, z3, z4⟩ := hSw; go_simp; first | done | (with_reducible rfl)
            try simp only [Act.put, List.getElem_toArray, List.getElem_cons_zero, List.getElem_cons_succ, List.setIfInBounds_toArray, List.set_cons_zero, List.set_cons_succ]
            refine till_take (i := 6) (oi := _) (v := ?_) [] rfl (by kernel_rfl) (by kernel_rfl) (by decide) (by kernel_rfl) (by kernel_rfl) (by kernel_rfl) (fun _ _ _ h => h) (Or.inl ⟨by rfl, ?_⟩) (by assumption) ?_
            case refine_2 => intro w hSw; (try dsimp only at hSw); obtain ⟨z0, z1, z2, z3, z4⟩ := hSw; go_simp; first | done | (with_reducible rfl)
            try simp only [Act.put, List.getElem_toArray, List.getElem_cons_zero, List.getElem_cons_succ, List.setIfInBounds_toArray, List.set_cons_zero, List.set_cons_succ]
            refine till_take (i := 7) (oi := _) (v := ?_) [] rfl (by kernel_rfl) (by kernel_rfl) (by decide) (by kernel_rfl) (by kernel_rfl) (by kernel_rfl) (fun _ _ _ h => h) (Or.inl ⟨by rfl, ?_⟩) (by assumption) ?_
            case refine_2 => intro w hSw; (try dsimp only at hSw); obtain ⟨z0, z1, z2, z3, z4⟩ := hSw; go_simp; first | done | (with_reducible rfl)
            try simp only [Act.put, List.getElem_toArray, List.getElem_cons_zero, List.getElem_cons_succ, List.setIfInBounds_toArray, List.set_cons_zero, List.set_cons_succ]
            refine till_take (i := 8) (oi := _) (v := ?_) [9] rfl (by kernel_rfl) (by kernel_rfl) (by decide) (by kernel_rfl) (by kernel_rfl) (by kernel_rfl) (fun _ _ _ h => h) (Or.inl ⟨by rfl, ?_⟩) (by assumption) ?_
            case refine_2 => intro w hSw; (try dsimp only at hSw); obtain ⟨z0, z1, z2, z3, z4⟩ := hSw; go_simp; first | done | (with_reducible rfl)
            try simp only [Act.put, List.getElem_toArray, List.getElem_cons_zero, List.getElem_cons_succ, List.setIfInBounds_toArray, List.set_cons_zero, List.set_cons_succ]
            refine till_take (i := 9) (oi := _) (v := ?_) [] rfl (by kernel_rfl) (by kernel_rfl) (by decide) (by kernel_rfl) (by kernel_rfl) (by kernel_rfl) (fun _ _ _ h => h) (Or.inl ⟨by rfl, ?_⟩) (by assumption) ?_
            case refine_2 => intro w hSw; (try dsimp only at hSw); obtain ⟨z0, z1, z2, z3, z4⟩ := hSw; go_simp; first | done | (with_reducible rfl)
            try simp only [Act.put, List.getElem_toArray, List.getElem_cons_zero, List.getElem_cons_succ, List.setIfInBounds_toArray, List.set_cons_zero, List.set_cons_succ]
            refine till_take (i := 10) (oi := _) (v := ?_) [] rfl (by kernel_rfl) (by kernel_rfl) (by decide) (by kernel_rfl) (by kernel_rfl) (by kernel_rfl) (fun _ _ _ h => h) (Or.inl ⟨by rfl, ?_⟩) (by assumption) ?_
            case refine_2 => intro w hSw; (try dsimp only at hSw); obtain ⟨z0, z1, z2, z3, z4⟩ := hSw; go_simp; first | done | (with_reducible rfl)
            try simp only [Act.put, List.getElem_toArray, List.getElem_cons_zero, List.getElem_cons_succ, List.setIfInBounds_toArray, List.set_cons_zero, List.set_cons_succ]
            refine till_ready (rs := [11]) (by kernel_rfl) (by simp) ?_
            refine TillReady.past rfl (by kernel_rfl) (fun K hK => ?_) TillReady.nil
            go_simp
            go_at_call 30
            refine HCALL.out.mono ?_
            rintro e W2 ⟨rfl, hw2⟩
            have HW3 := Lib.hid hw2; clear hw2 HD HCALL
            have q0 := HW3.out.c2 (k := V.heap.size + 1) (u := .int .u32 g1) (v := .int .i64 g2) (t := 36) (by simp [os4])
            refine hK.out _ _ ?_
            clear hK K
            try simp only [Act.put, List.getElem_toArray, List.getElem_cons_zero, List.getElem_cons_succ, List.setIfInBounds_toArray, List.set_cons_zero, List.set_cons_succ]
            refine till_pure (i := 12) (oi := _) (v := ?_) rfl (by kernel_rfl) (by decide) (by kernel_rfl) (by kernel_rfl) (fun _ _ _ h => h) (Or.inl ⟨by rfl, ?_⟩) (fun h => absurd h (by decide)) ?_
            case refine_2 => intro w _; go_simp; first | done | (with_reducible rfl)
            try simp only [Act.put, List.getElem_toArray, List.getElem_cons_zero, List.getElem_cons_succ, List.setIfInBounds_toArray, List.set_cons_zero, List.set_cons_succ]
            refine till_pure (i := 13) (oi := _) (v := ?_) rfl (by kernel_rfl) (by decide) (by kernel_rfl) (by kernel_rfl) (fun _ _ _ h => h) (Or.inl ⟨by rfl, ?_⟩) (fun h => absurd h (by decide)) ?_
            case refine_2 => intro w _; go_simp; first | done | (with_reducible rfl)
            try simp only [Act.put, List.getElem_toArray, List.getElem_cons_zero, List.getElem_cons_succ, List.setIfInBounds_toArray, List.set_cons_zero, List.set_cons_succ]
            refine till_pure (i := 14) (oi := _) (v := ?_) rfl (by kernel_rfl) (by decide) (by kernel_rfl) (by kernel_rfl) (fun _ _ _ h => h) (Or.inl ⟨by rfl, ?_⟩) (fun h => absurd h (by decide)) ?_
            case refine_2 => intro w _; go_simp; first | done | (with_reducible rfl)
            try simp only [Act.put, List.getElem_toArray, List.getElem_cons_zero, List.getElem_cons_succ, List.setIfInBounds_toArray, List.set_cons_zero, List.set_cons_succ]
            refine till_ready (rs := [15]) (by kernel_rfl) (by simp) ?_
            refine TillReady.past rfl (by kernel_rfl) (fun K hK => ?_) TillReady.nil
            go_simp
            refine hK.out _ _ ?_
            clear hK K
            try simp only [Act.put, List.getElem_toArray, List.getElem_cons_zero, List.getElem_cons_succ, List.setIfInBounds_toArray, List.set_cons_zero, List.set_cons_succ]
            refine till_pure (i := 16) (oi := _) (v := ?_) rfl (by kernel_rfl) (by decide) (by kernel_rfl) (by kernel_rfl) (fun _ _ _ h => h) (Or.inl ⟨by rfl, ?_⟩) (fun h => absurd h (by decide)) ?_
            case refine_2 => intro w _; go_simp; first | done | (with_reducible rfl)
            try simp only [Act.put, List.getElem_toArray, List.getElem_cons_zero, List.getElem_cons_succ, List.setIfInBounds_toArray, List.set_cons_zero, List.set_cons_succ]
            refine till_done (by kernel_rfl) ?_ _
            have HW4 : Hid (Wp w0 wb _ sv hv S H (bs'.set ky b') now (os4 V.heap.size (f1, f2) (a1, a2) os) _) := Lib.hid (Wp.store2 (l := [(V.heap.size, Obj.cells #[.int .u32 f1, .int .i64 f2] 36 (0, 0))]) HW3.out (by
              intro p hp
              simp only [List.cons_append, List.nil_append, List.mem_cons] at hp
              rcases hp with rfl | rfl | rfl | hp
              · simp only; omega
              · simp only; omega
              · simp only; omega
              · have := HOS.out p hp; omega) (by have := HLO.out; omega) (.int .u32 a1) (.int .i64 a2))
            clear hc0 hc1 hc2 hc3 hc4 q0
            go_wp2
            go_roundg m
            case measure => omega
            case rel =>
              refine ⟨bs'.set ky b', (f1, f2), (a1, a2), ky, l', true, -1, ec, rfl, rfl, rfl, rfl, rfl, HW4, ?_⟩
              by_cases he : ec = 0
              · refine .inl ⟨he, Lib.hid (HI.out.set HIN.out.1 HI.out.f HIN.out.2.1 (.inr ⟨ky, rfl, (List.getElem?_eq_some_iff.1 HKY.out).1⟩)), m, Nat.le_refl _, Lib.hid ⟨HMM.out, by rw [← HFO.out, if_pos he]⟩⟩
              · exact .inr ⟨he, Lib.hid (by rw [← HFO.out, if_neg he])⟩
      · obtain rfl : x = (kx : Int) := by rw [← hx, ex]
        have x0 : ((kx : Int) != (-1 : Int)) = true := by simp <;> omega
        have HRR : Hid (R = (((kx : Int), (f1, f2), (g1, g2), 0), bs')) := Lib.hid (by
          rw [← HF.out.2, folM_host (by show idxS H (g1, a') ≠ -1; rw [ex]; omega)]
          show ((idxS H (g1, a'), _, _, _), _) = _
          rw [ex])
        clear hx ex hy
        obtain ⟨p00, p01, -⟩ := HW2.out.c2 (k := V.heap.size) (u := .int .u32 f1) (v := .int .i64 f2) (t := 36) (by simp [os4])
        obtain ⟨p10, p11, -⟩ := HW2.out.c2 (k := V.heap.size + 1) (u := .int .u32 g1) (v := .int .i64 g2) (t := 36) (by simp [os4])
        obtain ⟨p20, p21, p22, p23⟩ := HW2.out.c2 (k := V.heap.size + 2) (u := .int .u32 0) (v := .int .i64 0) (t := 36) (by simp [os4])
        obtain ⟨p30, p31, p32, p33⟩ := HW2.out.c2 (k := V.heap.size + 3) (u := .int .u32 0) (v := .int .i64 0) (t := 36) (by simp [os4])
        have HD := Lib.hid (HW2.out.drewN 1)
        have HA := Lib.hid (Wp.store2 (l := [(V.heap.size, Obj.cells #[.int .u32 f1, .int .i64 f2] 36 (0, 0)), (V.heap.size + 1, Obj.cells #[.int .u32 g1, .int .i64 g2] 36 (0, 0))]) HD.out (by
          intro p hp
          simp only [List.cons_append, List.nil_append, List.mem_cons] at hp
          rcases hp with rfl | rfl | rfl | hp
          · simp only; omega
          · simp only; omega
          · simp only; omega
          · have := HOS.out p hp; omega) (by have := HLO.out; omega) (.int .u32 f1) (.int .i64 f2))
        have HB := Lib.hid (Wp.store2 (l := [(V.heap.size, Obj.cells #[.int .u32 f1, .int .i64 f2] 36 (0, 0)), (V.heap.size + 1, Obj.cells #[.int .u32 g1, .int .i64 g2] 36 (0, 0)), (V.heap.size + 2, Obj.cells #[.int .u32 f1, .int .i64 f2] 36 (0, 0))]) HA.out (by
          intro p hp
          simp only [List.cons_append, List.nil_append, List.mem_cons] at hp
          rcases hp with rfl | rfl | rfl | hp
          · simp only; omega
          · simp only; omega
          · simp only; omega
          · have := HOS.out p hp; omega) (by have := HLO.out; omega) (.int .u32 g1) (.int .i64 g2))
        have SA := fun (W : World) (h : Wp w0 wb bv sv hv S H bs' now ([(V.heap.size, Obj.cells #[.int .u32 f1, .int .i64 f2] 36 (0, 0)), (V.heap.size + 1, Obj.cells #[.int .u32 g1, .int .i64 g2] 36 (0, 0)), (V.heap.size + 2, Obj.cells #[.int .u32 f1, .int .i64 f2] 36 (0, 0))] ++ (V.heap.size + 3, Obj.cells #[.int .u32 g1, .int .i64 g2] 36 (0, 0)) :: os) W) => And.intro (h.c2 (k := V.heap.size) (u := .int .u32 f1) (v := .int .i64 f2) (t := 36) (by simp)) (And.intro (h.c2 (k := V.heap.size + 1) (u := .int .u32 g1) (v := .int .i64 g2) (t := 36) (by simp)) (And.intro (h.c2 (k := V.heap.size + 2) (u := .int .u32 f1) (v := .int .i64 f2) (t := 36) (by simp)) (h.c2 (k := V.heap.size + 3) (u := .int .u32 g1) (v := .int .i64 g2) (t := 36) (by simp))))
        have rb := SA _ HB.out
        have ra0 := HA.out.c2 (k := V.heap.size) (u := .int .u32 f1) (v := .int .i64 f2) (t := 36) (by simp)
        have ra1 := HA.out.c2 (k := V.heap.size + 1) (u := .int .u32 g1) (v := .int .i64 g2) (t := 36) (by simp)
        have ra3 := HA.out.c2 (k := V.heap.size + 3) (u := .int .u32 0) (v := .int .i64 0) (t := 36) (by simp [os4])
        have HRA := Lib.hid ra0; have HRA1 := Lib.hid ra1; have HRB := Lib.hid rb
        clear ra0 ra1 rb SA
        obtain ⟨u30, u31, u32, u33⟩ := ra3
        go_wp2_with fail
        refine wp_region_held_drew (S := fun W => W.cell? ⟨V.heap.size, 0, none⟩ = some (.int .u32 f1) ∧ W.cell? ⟨V.heap.size, 1, none⟩ = some (.int .i64 f2) ∧ W.cell? ⟨V.heap.size + 1, 0, none⟩ = some (.int .u32 g1) ∧ W.cell? ⟨V.heap.size + 1, 1, none⟩ = some (.int .i64 g2) ∧ True) (by kernel_rfl) ⟨p00, p01, p10, p11, trivial⟩ (fun hHeld => ?_)
        refine wpAnyH_take (i := 0) (oi := _) (v := ?_) rfl (by kernel_rfl) (by kernel_rfl) (by kernel_rfl) (fun _ _ _ h => h) (Or.inl ⟨by rfl, ?_⟩) (by assumption) ?_
        case refine_2 => intro w hSw; (try dsimp only at hSw); obtain ⟨z0, z1, z2, z3, z4⟩ := hSw; go_simp; first | done | (with_reducible rfl)
        try simp only [Act.put, List.getElem_toArray, List.getElem_cons_zero, List.setIfInBounds_toArray, List.set_cons_zero, List.set_cons_succ]
        refine wpAnyH_take (i := 1) (oi := _) (v := ?_) rfl (by kernel_rfl) (by kernel_rfl) (by kernel_rfl) (fun _ _ _ h => h) (Or.inl ⟨by rfl, ?_⟩) (by assumption) ?_
        case refine_2 => intro w hSw; (try dsimp only at hSw); obtain ⟨z0, z1, z2, z3, z4⟩ := hSw; go_simp; first | done | (with_reducible rfl)
        try simp only [Act.put, List.getElem_toArray, List.getElem_cons_zero, List.getElem_cons_succ, List.setIfInBounds_toArray, List.set_cons_zero, List.set_cons_succ]
        refine wpAnyH_take (i := 2) (oi := _) (v := ?_) rfl (by kernel_rfl) (by kernel_rfl) (by kernel_rfl) (fun _ _ _ h => h) (Or.inl ⟨by rfl, ?_⟩) (by assumption) ?_
        case refine_2 => intro w hSw; (try dsimp only at hSw); obtain ⟨z0, z1, z2, z3, z4⟩ := hSw; go_simp; first | done | (with_reducible rfl)
        try simp only [Act.put, List.getElem_toArray, List.getElem_cons_zero, List.getElem_cons_succ, List.setIfInBounds_toArray, List.set_cons_zero, List.set_cons_succ]
        refine wpAnyH_take (i := 3) (oi := _) (v := ?_) rfl (by kernel_rfl) (by kernel_rfl) (by kernel_rfl) (fun _ _ _ h => h) (Or.inl ⟨by rfl, ?_⟩) (by assumption) ?_
        case refine_2 => intro w hSw; (try dsimp only at hSw); obtain ⟨z0, z1, z2, z3, z4⟩ := hSw; go_simp; first | done | (with_reducible rfl)
        try simp only [Act.put, List.getElem_toArray, List.getElem_cons_zero, List.getElem_cons_succ, List.setIfInBounds_toArray, List.set_cons_zero, List.set_cons_succ]
        refine wpAnyH_ready (rs := [4]) (by kernel_rfl) (by simp) ?_
        refine AllReadyH.cons rfl (fun K hK => ?_) AllReadyH.nil
        go_simp
        refine hK.out _ _ ⟨HRA.out.1, HRA.out.2.1, HRA1.out.1, HRA1.out.2.1, trivial⟩ (fun hHeld => ?_)
        clear hK K
        try simp only [Act.put, List.getElem_toArray, List.getElem_cons_zero, List.getElem_cons_succ, List.setIfInBounds_toArray, List.set_cons_zero, List.set_cons_succ]
        refine wpAnyH_ready (rs := [5]) (by kernel_rfl) (by simp) ?_
        refine AllReadyH.cons rfl (fun K hK => ?_) AllReadyH.nil
        go_simp
        refine hK.out _ _ ⟨HRB.out.1.1, HRB.out.1.2.1, HRB.out.2.1.1, HRB.out.2.1.2.1, trivial⟩ (fun hHeld => ?_)
        clear hK K
        try simp only [Act.put, List.getElem_toArray, List.getElem_cons_zero, List.getElem_cons_succ, List.setIfInBounds_toArray, List.set_cons_zero, List.set_cons_succ]
        refine wpAnyH_take (i := 6) (oi := _) (v := ?_) rfl (by kernel_rfl) (by kernel_rfl) (by kernel_rfl) (fun _ _ _ h => h) (Or.inl ⟨by rfl, ?_⟩) (by assumption) ?_
        case refine_2 => intro w hSw; (try dsimp only at hSw); obtain ⟨z0, z1, z2, z3, z4⟩ := hSw; go_simp; first | done | (with_reducible rfl)
        try simp only [Act.put, List.getElem_toArray, List.getElem_cons_zero, List.getElem_cons_succ, List.setIfInBounds_toArray, List.set_cons_zero, List.set_cons_succ]
        refine wpAnyH_done (by kernel_rfl) ?_ _
        go_wp2
        rw [Exit.noGoto_ret]
        obtain ⟨⟨b20, b21⟩, ⟨b30, b31⟩⟩ := cells5 (n := V.heap.size) HW2.out f1 f2 g1 g2
        exact ⟨rfl, .tuple #[.int .i64 kx, .agg #[.int .u32 f1, .int .i64 f2], .agg #[.int .u32 g1, .int .i64 g2], .int .i64 0], by simp [results, Try.results19, go_sem, b20, b21, b30, b31], by rw [HRR.out], by rw [HRR.out]; exact HB.out.sub (fun p hp => by simp [hp])⟩
    · have e1 : (c == 0) = false := by simpa using hc
      have e2 : (c != 0) = true := by simpa using hc
      obtain ⟨p20, p21, p22, p23⟩ := HW.out.c2 (k := V.heap.size + 2) (u := .int .u32 0) (v := .int .i64 0) (t := 36) (by simp [os4])
      obtain ⟨p30, p31, p32, p33⟩ := HW.out.c2 (k := V.heap.size + 3) (u := .int .u32 0) (v := .int .i64 0) (t := 36) (by simp [os4])
      have HEND : Hid (Wp w0 wb bv sv hv S H bs' now os ((((wr.setCell ⟨V.heap.size + 2, 0, none⟩ (.int .u32 0)).setCell ⟨V.heap.size + 2, 1, none⟩ (.int .i64 0)).setCell ⟨V.heap.size + 3, 0, none⟩ (.int .u32 0)).setCell ⟨V.heap.size + 3, 1, none⟩ (.int .i64 0))) := Lib.hid (by
        have hA := Wp.store2 (l := [(V.heap.size, Obj.cells #[.int .u32 f1, .int .i64 f2] 36 (0, 0)), (V.heap.size + 1, Obj.cells #[.int .u32 g1, .int .i64 g2] 36 (0, 0))]) HW.out (by
          intro p hp
          simp only [List.cons_append, List.nil_append, List.mem_cons] at hp
          rcases hp with rfl | rfl | rfl | hp
          · simp only; omega
          · simp only; omega
          · simp only; omega
          · have := HOS.out p hp; omega) (by have := HLO.out; omega) (.int .u32 0) (.int .i64 0)
        have hB := Wp.store2 (l := [(V.heap.size, Obj.cells #[.int .u32 f1, .int .i64 f2] 36 (0, 0)), (V.heap.size + 1, Obj.cells #[.int .u32 g1, .int .i64 g2] 36 (0, 0)), (V.heap.size + 2, Obj.cells #[.int .u32 0, .int .i64 0] 36 (0, 0))]) hA (by
          intro p hp
          simp only [List.cons_append, List.nil_append, List.mem_cons] at hp
          rcases hp with rfl | rfl | rfl | hp
          · simp only; omega
          · simp only; omega
          · simp only; omega
          · have := HOS.out p hp; omega) (by have := HLO.out; omega) (.int .u32 0) (.int .i64 0)
        exact hB.sub (fun p hp => by simp [hp]))
      obtain rfl := HE.out
      go_wp2
      obtain ⟨⟨c20, c21⟩, ⟨c30, c31⟩⟩ := cells4 HW.out HOS.out
      exact ⟨rfl, .tuple #[.int .i64 0, .agg #[.int .u32 0, .int .i64 0], .agg #[.int .u32 0, .int .i64 0], .int .i64 c], by simp [results, Try.results19, go_sem, c20, c21, c30, c31], rfl, HEND.out⟩
end
end Go.Proofs.Ytidhdgcmagpkgaa
