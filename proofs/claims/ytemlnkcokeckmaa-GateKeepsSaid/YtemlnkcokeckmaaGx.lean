/-
  What the laws' chains of calls are told: a request is made and held, a gateway hears it, its answer is read. Conditions: as each lemma states.
-/
import Derived.Test.YtemlnkcokeckmaaGs
namespace Go.Proofs.Ytemlnkcokeckmaa
open Go.RowKit Go.Maps
set_option linter.unusedVariables false
set_option linter.unusedSimpArgs false

theorem le_cells {W : World} {g : Nat} {l : Pp.Le} (h : W.heap[g]? = some (.cells (Pp.leA l) 64 (0, 0))) :
    (W.cell? ⟨g, 0, none⟩ = some (.int .i64 l.ver) ∧ W.cell? ⟨g, 1, none⟩ = some (.int .i64 l.ins) ∧ W.cell? ⟨g, 2, none⟩ = some (.int .i64 l.prt) ∧ W.cell? ⟨g, 3, none⟩ = some (.int .i64 l.secs) ∧ W.cell? ⟨g, 4, none⟩ = some (.int .u64 l.non) ∧ W.cell? ⟨g, 5, none⟩ = some (.int .i64 l.res) ∧ W.cell? ⟨g, 6, none⟩ = some (.int .i64 l.epo) ∧ W.cell? ⟨g, 7, none⟩ = some (.int .u32 l.hst)) ∧ (∀ k, W.frozen? ⟨g, k, none⟩ = false) ∧ g < W.heap.size :=
  ⟨Pp.LeAt.cells h, fun k => (cells_of h k).2, Pp.LeAt.lt h⟩
theorem ad_cells {W : World} {g : Nat} {a : A2} (h : W.heap[g]? = some (.cells #[.int .u32 a.1, .int .i64 a.2] 38 (0, 0))) : W.cell? ⟨g, 0, none⟩ = some (.int .u32 a.1) ∧ W.cell? ⟨g, 1, none⟩ = some (.int .i64 a.2) ∧ g < W.heap.size :=
  ⟨(cells_of h 0).1, (cells_of h 1).1, (Array.getElem?_eq_some_iff.1 h).1⟩
theorem pread_ans {V : Value} {zs : List Int} {w : World} (hr : Pp.Row w V zs) : Calls Try.prog 35 #[V] w fun e w' => e = .returned (Pp.pbR zs) ∧ Below w.heap.size w w' := by
  obtain ⟨A, c, rfl, h1, h2, h3, h4⟩ := hr
  exact Pp.preadAns_any A _ c zs w h1 h2 h3 h4
section
variable {w0 V V' : World} {gb nb nm : Nat} {x : Bx} {most since now now' : Int} {av : Value} {f f' : Nf} {c c' : Nat} {M M' : List Bn} {os : List (Nat × Obj)} {p q : Bool}
theorem hold_own2 (h : Gm w0 gb nb nm x most since av f c now M os V) (hb : Below V.heap.size V V') {u : Value} {zs : List Int} (ho : V'.ownsRow V.heap.size 5 1 u zs.length (Pp.B zs)) (hz : ∀ z ∈ zs, 0 ≤ z ∧ z ≤ 255) :
    ∃ OB, Gm w0 gb nb nm x most since av f c now M (OB ++ os) V' ∧ ∀ s' f' c' n' M' os1 W, Gm w0 gb nb nm x most s' av f' c' n' M' os1 W → (∀ r ∈ OB, r ∈ os1) → Pp.Row W u zs := by
  have ho' := ho
  rcases ho'.2 with hn | ⟨g, cap, cur, rfl, hg, hobj, hrest⟩
  · refine ⟨[], h.below hb, fun s' f' c' n' M' os1 W hW _ => ?_⟩
    have h0 : zs = [] := List.eq_nil_of_length_eq_zero hn.2
    subst h0
    rw [hn.1]
    exact row_nil W
  · refine ⟨[(g, .cells cur 5 (0, 0))], h.fresh hb hg hobj, fun s' f' c' n' M' os1 W hW hs => ?_⟩
    have hk := hW.held (hs (g, .cells cur 5 (0, 0)) (by simp))
    exact .own (b := 0) ⟨ho.1, .inr ⟨g, cap, cur, rfl, Nat.zero_le _, hk, hrest⟩⟩ hz
theorem ask_gm2 (h : Gm w0 gb nb nm x most since av f c now M os V) (l : Pp.Le) (hl : Pp.isL l) (hh : Bool) :
    Calls Try.prog 33 #[Pp.leV l, .bool hh] V fun e V' => ∃ u OB, e = .returned u ∧ Gm w0 gb nb nm x most since av f c now M (OB ++ os) V' ∧ (∀ s' f' c' n' M' os1 W, Gm w0 gb nb nm x most s' av f' c' n' M' os1 W → (∀ r ∈ OB, r ∈ os1) → Pp.Row W u (Pp.askR l hh)) :=
  (Pp.ask_any l hh V hl).mono fun e V' ⟨u, h1, h2, h3⟩ => by
    obtain ⟨OB, g1, g2⟩ := hold_own2 h h3 h2 (Pp.askR_bd l hh)
    exact ⟨u, OB, h1, g1, g2⟩
/-- a request about a port that is heard -/
theorem hear_yes (h : Gm w0 gb nb nm x most since av f c now M os V) (hx : OkB x) (hok : Okb x M) (hM : OkM M) (t : Int) (a : A2) (ha : isA a) (v : Value) (l : Pp.Le) (han : An gb true q av os)
    (hrow : ∀ s' f' c' n' M' os1 W, Gm w0 gb nb nm x most s' av f' c' n' M' os1 W → (∀ r ∈ os, r ∈ os1) → Pp.Row W v (Pp.askR l false)) (h0 : 0 ≤ since) (h1 : since ≤ 1099511627776000) (ht0 : 0 ≤ t) (hm : 1 ≤ most ∧ most ≤ 4294967295)
    (hb : (goes now t && mayA a) = true) (hl : Pp.askB l false = true) :
    Calls Try.prog 32 #[.pointer (some ⟨gb, 0, none⟩), .int .i64 t, adr a, v] V fun e V' => ∃ u, e = .returned u ∧ Pp.Row V' u (Pp.ansR (portA l (epoV since t) (srvS x most t (liveM M t) t (a.1, l.ins) l.prt l.secs)) false) ∧ ∃ f', Gm w0 gb nb nm x most since av f' c t (srvS x most t (liveM M t) t (a.1, l.ins) l.prt l.secs).M os V' := by
  have hg : goes now t = true := by rw [Bool.and_eq_true] at hb; exact hb.1
  refine (hear_ask h hx hok hM t a ha v l han (fun s' f' n' M' os1 W => hrow s' f' c n' M' os1 W) h0 h1 ht0 hm).mono fun e V' hq => ?_
  obtain ⟨u, rfl, r, f', n', M', q1, q2, q3⟩ := hq
  rcases q3 with ⟨e, _⟩ | ⟨_, e, _⟩ | ⟨_, _, rfl, rfl, rfl⟩
  · rw [hb] at e; cases e
  · rw [hl] at e; cases e
  · rw [srv_now (goes_to hg)] at q2
    exact ⟨u, rfl, q1, f', q2⟩
/-- PCP's request that is heard -/
theorem hear_pyes (h : Gm w0 gb nb nm x most since av f c now M os V) (hx : OkB x) (hok : Okb x M) (hM : OkM M) (t : Int) (a : A2) (ha : isA a) (v : Value) (l : Pp.Le) (k : Int) (hl : Pp.isL l) (hkk : 0 ≤ k ∧ k < 4294967296) (han : An gb p true av os)
    (hrow : ∀ s' f' c' n' M' os1 W, Gm w0 gb nb nm x most s' av f' c' n' M' os1 W → (∀ r ∈ os, r ∈ os1) → Pp.Row W v (Pp.paskR l k)) (h0 : 0 ≤ since) (h1 : since ≤ 1099511627776000) (ht0 : 0 ≤ t) (hm : 1 ≤ most ∧ most ≤ 4294967295) (hc : c < maxLen) (hxo : 0 ≤ x.host ∧ x.host ≤ 4294967295)
    (hb : (goes now t && mayA a) = true) (hp : Pp.Pas l) :
    Calls Try.prog 32 #[.pointer (some ⟨gb, 0, none⟩), .int .i64 t, adr a, v] V fun e V' => ∃ u, e = .returned u ∧ Pp.Row V' u (Pp.pansR (pcpS x most since (keptF f (liveM M t)) c (liveM M t) t a l k).ans) ∧
      Gm w0 gb nb nm x most since av (pcpS x most since (keptF f (liveM M t)) c (liveM M t) t a l k).f (pcpS x most since (keptF f (liveM M t)) c (liveM M t) t a l k).c t (pcpS x most since (keptF f (liveM M t)) c (liveM M t) t a l k).M os V' := by
  refine (hear_pask h hx hok hM t a ha v l k hl hkk han (fun s' f' n' M' os1 W => hrow s' f' c n' M' os1 W) h0 h1 ht0 hm hc hxo).mono fun e V' hq => ?_
  obtain ⟨u, rfl, r, f', c', n', M', q1, q2, q3⟩ := hq
  rcases q3 with ⟨e, _⟩ | ⟨_, e, _⟩ | ⟨_, _, rfl, rfl, rfl, rfl, rfl⟩
  · rw [hb] at e; cases e
  · exact absurd hp e
  · exact ⟨u, rfl, q1, q2⟩
end
/-- a box without bindings is asked for one -/
theorem srv_new {x : Bx} (hx : OkB x) (hmo : 1 ≤ x.most) {most t : Int} {a : A2} {p s : Int} (hg : goes t t = true) (ha : mayA a = true) (hs : 1 ≤ s) (hm : 1 ≤ most) (hu : t + min s most ≤ 1099511627776) :
    srvS x most t [] t a p s = ⟨wish0 x p, min s most, 0, true, t, [askB a (wish0 x p) (t + min s most)]⟩ := by
  have e : askS x t [] t a p (t + min s most) = (wish0 x p, 0, t, [askB a (wish0 x p) (t + min s most)]) := by
    unfold askS
    rw [if_pos hg]
    have h0 : liveM [] t = [] := rfl
    unfold askM
    rw [h0, if_pos ⟨ha, by omega, hu⟩]
    simp only [List.find?_nil, add_nil hx.lh hmo]
    rfl
  unfold srvS
  rw [if_neg (by omega), e, if_pos rfl]
theorem live_ask {a : A2} {p u t : Int} (h : t < u) : liveM [askB a p u] t = [askB a p u] := by
  unfold liveM
  have : (!decide ((askB a p u).until_ ≤ t)) = true := by show (!decide (u ≤ t)) = true; rw [decide_eq_false (by omega)]; rfl
  simp [List.filter, this]
theorem ok_one (a : A2) (p u : Int) : OkM [askB a p u] := ⟨by simp, fun b hb => by simp at hb; subst hb; simp [askB]⟩
theorem isBs_one {w : World} {v : Value} {b : Bn} (h : IsBs w v [b]) : ∃ bb c, v = .slice (some ⟨bb, 0, none⟩) 1 c ∧ bb < w.heap.size ∧ ∀ i, i < 7 → w.cell? ⟨bb, i, none⟩ = (encB b)[i]? := by
  obtain ⟨A, c, rfl, h1, h2, h3⟩ := h
  obtain ⟨bb, rfl, ⟨C, hC⟩, hc⟩ := h3 (by simp)
  exact ⟨bb, c, rfl, (Array.getElem?_eq_some_iff.1 hC).1, fun i hi => by have := hc 0 b rfl i hi; simpa using this⟩
theorem isBs_hold {w : World} {v : Value} {l : List Bn} (h : IsBs w v l) (hl : 0 < l.length) : ∃ (bb : Nat) (C : Array Value), w.heap[bb]? = some (Obj.cells C 54 (0, 0)) ∧ ∀ W : World, W.heap[bb]? = some (Obj.cells C 54 (0, 0)) → IsBs W v l := by
  obtain ⟨A, c, rfl, h1, h2, h3⟩ := h
  obtain ⟨bb, rfl, ⟨C, hC⟩, hc⟩ := h3 hl
  refine ⟨bb, C, hC, fun W hW => ⟨_, c, rfl, h1, h2, fun _ => ⟨bb, rfl, ⟨C, hW⟩, fun j d hj i hi => ?_⟩⟩⟩
  rw [← hc j d hj i hi, (cells_of hW _).1, (cells_of hC _).1]
section
variable {w0 V V' : World} {gb nb nm : Nat} {x : Bx} {most since now now' : Int} {av : Value} {f f' : Nf} {c c' : Nat} {M M' : List Bn} {os : List (Nat × Obj)} {p q : Bool}
theorem in_gm (h : Gm w0 gb nb nm x most since av f c now M os V) (hM : OkM M) (t p : Int) (a : A2) (ha : isA a) :
    Calls Try.prog 19 #[.pointer (some ⟨nb, 0, none⟩), .int .i64 t, .int .i64 p, adr a] V fun e V' => e = .returned (ansA (inS x now M t p a).1 (inS x now M t p a).2.1) ∧ Gm w0 gb nb nm x most since av f c (inS x now M t p a).2.2.1 (inS x now M t p a).2.2.2 os V' := h.prog (fun os' hp => in_pl hp hM t p a ha)
/-- a row of bindings that was told is held -/
theorem Gm.row (h : Gm w0 gb nb nm x most since av f c now M os V) {bb : Nat} {C : Array Value} (hb : V.heap[bb]? = some (.cells C 54 (0, 0))) : Gm w0 gb nb nm x most since av f c now M ((bb, .cells C 54 (0, 0)) :: os) V := by
  refine h.more (p := (bb, .cells C 54 (0, 0))) hb (fun kv L hn hf => ?_) (fun e => ?_) (fun e => ?_)
  · obtain ⟨C', t, h1, h2⟩ := hn.kind hf
    exact clash hb h1 (by rcases h2 with rfl | rfl | rfl | rfl <;> decide)
  · dsimp only at e; subst e
    exact clash hb h.top (by decide)
  · dsimp only at e; subst e
    obtain ⟨D, ⟨es, clk, hm, _⟩, _⟩ := h.map
    rw [hb] at hm; cases hm
end
theorem srv_again {x : Bx} {most t u : Int} {a : A2} {p s P : Int} (hg : goes t t = true) (ha : mayA a = true) (hs : 1 ≤ s) (hm : 1 ≤ most) (hu : t + min s most ≤ 1099511627776) (hl : t < u) :
    srvS x most t [askB a P u] t a p s = ⟨P, min s most, 0, true, t, [askB a P (t + min s most)]⟩ := by
  have e : askS x t [askB a P u] t a p (t + min s most) = (P, 0, t, [askB a P (t + min s most)]) := by
    unfold askS
    rw [if_pos hg, live_ask hl]
    unfold askM
    rw [if_pos ⟨ha, by omega, hu⟩]
    have hf : askF a (askB a P u) = true := by simp [askF, askB]
    rw [List.find?_cons_of_pos hf]
    unfold updF
    rw [if_pos hf]
    rfl
  unfold srvS
  rw [if_neg (by omega), e, if_pos rfl]
theorem srv_drop {x : Bx} {most t u : Int} {a : A2} {p P : Int} (hg : goes t t = true) (hm : 1 ≤ most) (hl : t < u) :
    srvS x most t [askB a P u] t a p 0 = ⟨0, 0, 0, true, t, []⟩ := by
  have e : dropS t [askB a P u] t a = (true, t, []) := by
    unfold dropS
    rw [if_pos hg, live_ask hl]
    have hf : askF a (askB a P u) = true := by simp [askF, askB]
    unfold dropM
    simp [hf]
  unfold srvS
  rw [if_pos (by omega), e]
theorem srv_bad {x : Bx} {most t : Int} {a : A2} {p s : Int} (hg : goes t t = true) (ha : mayA a = false) (hs : 1 ≤ s) (hm : 1 ≤ most) :
    srvS x most t [] t a p s = ⟨0, 0, 1, false, t, []⟩ := by
  have e : askS x t [] t a p (t + min s most) = (0, 1, t, []) := by
    unfold askS
    rw [if_pos hg]
    unfold askM
    rw [if_neg (by simp [ha])]
    rfl
  unfold srvS
  rw [if_neg (by omega), e, if_neg (by show ¬ (1 : Int) = 0; decide)]
theorem kept_one {f : Nf} {a : A2} {P u : Int} : keptF f [askB a P u] a = f a := by
  unfold keptF cutF
  have hf : askF a (askB a P u) = true := by simp [askF, askB]
  simp [hf]
theorem wish_bd {n : Nat} (s : Int) : 40000 ≤ wish0 (bxC n) s ∧ wish0 (bxC n) s ≤ 40009 := by
  unfold wish0 bxC
  dsimp only
  split <;> omega
theorem pans_nil (l : Pp.Le) : ¬ Pp.PAnsOf [] l := fun h => by have := h.len; simp at this
theorem ans_nil2 (l : Pp.Le) (h : Bool) : ¬ Pp.AnsOf [] l h := fun hh => by
  have := (Pp.back_ans hh.1 hh.2.1).2
  rw [← hh.2.2] at this
  simp at this
end Go.Proofs.Ytemlnkcokeckmaa
