/-
  Call, Again, hearHello, hearAnswer. Conditions: as each states.
  hearHello. Conditions: as each states.
-/
import Derived.Test.YtdiilgedicfekaaDoorMh11
namespace Go.Proofs.YtdiilgedicfekaaDoor
open Go.RowKit Go.Maps
set_option linter.unusedVariables false
set_option maxRecDepth 100000

theorem keeps5 (V : World) (b : Nat) (v0 v1 v2 v3 v4 : Value) : Keeps (fun k => k = b) V (((((V.setCell ⟨b, 0, none⟩ v0).setCell ⟨b, 1, none⟩ v1).setCell ⟨b, 2, none⟩ v2).setCell ⟨b, 3, none⟩ v3).setCell ⟨b, 4, none⟩ v4) :=
  ((((keeps_set _ _ _ _).trans (keeps_set _ _ _ _)).trans (keeps_set _ _ _ _)).trans (keeps_set _ _ _ _)).trans (keeps_set _ _ _ _)
theorem set5_other {V : World} {k b : Nat} {o : Obj} {v0 v1 v2 v3 v4 : Value} (hk : k ≠ b) (h : V.heap[k]? = some o) : (((((V.setCell ⟨b, 0, none⟩ v0).setCell ⟨b, 1, none⟩ v1).setCell ⟨b, 2, none⟩ v2).setCell ⟨b, 3, none⟩ v3).setCell ⟨b, 4, none⟩ v4).heap[k]? = some o :=
  ((keeps5 V b v0 v1 v2 v3 v4).block k (Array.getElem?_eq_some_iff.1 h).1 hk).trans h
section
variable {w0 : World} {nb : Nat} {L : List Item} {R : Option (Nat × List Item)} {os : List (Nat × Obj)} {w V V' : World}
theorem Sd.drop (h : Sd w0 nb L R os V) (q : Nat × Obj) (hm : q ∈ os) (hb : w0.heap.size ≤ q.1) (hk : Keeps (fun k => k = q.1) V V') (os' : List (Nat × Obj)) (hs : ∀ p ∈ os', p ∈ os ∧ p.1 ≠ q.1) : Sd w0 nb L R os' V' :=
  h.turned hk (fun k e => by rw [e]; exact hb) (fun k e => .inl ⟨q, hm, e.symm⟩) os' (fun p hp => .inl (hs p hp))
/-- an answer of Call or Hear -/
def ShAns (w0 : World) (nb : Nat) (R : Option (Nat × List Item)) (os : List (Nat × Obj)) (n0 : Nat) (o : Out) (e : Ending) (w' : World) : Prop := ∃ v, e = .returned (.tuple #[skv o.s, v]) ∧ Sent w0 nb o.l R os n0 o.z v w'

set_option maxHeartbeats 8000000 in
theorem call_s (s : Sk) (h : Sd w0 nb L R os w) (hs : s.Ok) (hL : L.length ≤ 1000000) :
    Calls Tryd.prog 14 #[skv s, .pointer (some ⟨nb, 0, none⟩)] w (ShAns w0 nb R os w.heap.size (callO s L)) := by
  have HOS : Hid (∀ p ∈ os, p.1 < w.heap.size) := Lib.hid (fun p hp => h.lt hp)
  have hw0 := h.low.size
  obtain ⟨st, own, oth, non, ech⟩ := s
  have HA : Hid (Sd w0 nb L R ((w.heap.size + 1, Obj.cells #[.int .i64 0, .int .i64 0, .int .i64 0, .int .u64 (0 : Int), .int .u64 (0 : Int)] 29 (0, 0)) :: (w.heap.size, Obj.cells #[.int .i64 st, .int .i64 own, .int .i64 oth, .int .u64 (non : Int), .int .u64 (ech : Int)] 29 (0, 0)) :: os)
      ((w.alloc (.cells #[.int .i64 st, .int .i64 own, .int .i64 oth, .int .u64 (non : Int), .int .u64 (ech : Int)] 29)).alloc (.cells #[.int .i64 0, .int .i64 0, .int .i64 0, .int .u64 (0 : Int), .int .u64 (0 : Int)] 29))) := Lib.hid ((h.box _ _ rfl).box _ _ (by simp))
  by_cases h0 : st = 0
  · subst h0
    have HE : Hid (∀ v w', Sent w0 nb (helloL L ⟨1, own, oth, non, ech⟩) R os w.heap.size (helloB L ⟨1, own, oth, non, ech⟩) v w' → ShAns w0 nb R os w.heap.size (callO ⟨0, own, oth, non, ech⟩ L) (.returned (.tuple #[skv ⟨1, own, oth, non, ech⟩, v])) w') := Lib.hid (fun v w' h => ⟨v, rfl, h⟩)
    have hs1 : Sk.Ok ⟨1, own, oth, non, ech⟩ := ⟨by simp, by simp, hs.o1, hs.o2, hs.t1, hs.t2, hs.ne, hs.n1, hs.n2, hs.e2⟩
    have HC := Lib.hid (fun (V : World) (hV : Sd w0 nb L R ((w.heap.size, Obj.cells #[.int .i64 1, .int .i64 own, .int .i64 oth, .int .u64 (non : Int), .int .u64 (ech : Int)] 29 (0, 0)) :: (w.heap.size + 1, Obj.cells #[.int .i64 0, .int .i64 0, .int .i64 0, .int .u64 (0 : Int), .int .u64 (0 : Int)] 29 (0, 0)) :: os) V) => hello_s ⟨1, own, oth, non, ech⟩ hV hs1 hL)
    have CM : Hid (∀ V, Calls Tryd.prog 29 #[.agg #[.int .i64 0, .int .i64 own, .int .i64 oth, .int .u64 (non : Int), .int .u64 (ech : Int)]] V fun e w' => e = .returned (.bool true) ∧ Below V.heap.size V w') := Lib.hid (fun V => by have := smay_any ⟨0, own, oth, non, ech⟩ V; rw [hs.may] at this; exact this)
    clear h hs hs1
    go_enter Tryd.func14, Tryd.ntmps14
    go_wp2_with fail
    refine (CM.out _).mono ?_
    rintro e W3 ⟨rfl, hb3⟩
    have hs3 := HA.out.below hb3
    have hz3 := hb3.size
    simp at hz3
    obtain ⟨⟨u0, uf0⟩, ⟨u1, uf1⟩, ⟨u2, uf2⟩, ⟨u3, uf3⟩, ⟨u4, uf4⟩, ul⟩ := five (hs3.held (w.heap.size, Obj.cells #[.int .i64 0, .int .i64 own, .int .i64 oth, .int .u64 (non : Int), .int .u64 (ech : Int)] 29 (0, 0)) (by simp))
    have HS4 : Hid (Sd w0 nb L R ((w.heap.size, Obj.cells #[.int .i64 1, .int .i64 own, .int .i64 oth, .int .u64 (non : Int), .int .u64 (ech : Int)] 29 (0, 0)) :: (w.heap.size + 1, Obj.cells #[.int .i64 0, .int .i64 0, .int .i64 0, .int .u64 (0 : Int), .int .u64 (0 : Int)] 29 (0, 0)) :: os) (W3.setCell ⟨w.heap.size, 0, none⟩ (.int .i64 1))) := Lib.hid (by
      have := (hs3.sub (os' := (w.heap.size, Obj.cells #[.int .i64 0, .int .i64 own, .int .i64 oth, .int .u64 (non : Int), .int .u64 (ech : Int)] 29 (0, 0)) :: (w.heap.size + 1, Obj.cells #[.int .i64 0, .int .i64 0, .int .i64 0, .int .u64 (0 : Int), .int .u64 (0 : Int)] 29 (0, 0)) :: os) (fun p hp => by simp only [List.mem_cons] at hp ⊢; rcases hp with h | h | h <;> simp [h])).store (j := 0) (v := .int .i64 1) (fun p hp => by
        rcases List.mem_cons.1 hp with rfl | hp
        · simp only; omega
        · have := HOS.out p hp; omega) hw0
      simpa using this)
    clear hb3 hs3
    go_wp2
    obtain ⟨W4, hW4⟩ : ∃ W4, W3.setCell ⟨w.heap.size, 0, none⟩ (.int .i64 1) = W4 := ⟨_, rfl⟩
    have HSZ4 : Hid (w.heap.size + 2 ≤ W4.heap.size) := Lib.hid (by rw [← hW4]; simp; omega)
    rw [hW4] at HS4 ⊢
    clear hW4 u0 u1 u2 u3 u4 uf0 uf1 uf2 uf3 uf4
    have HCA := Lib.hid (HC.out _ HS4.out.drew)
    refine wp_region_held_drew (S := fun W => W.heap[w.heap.size]? = some (.cells #[.int .i64 1, .int .i64 own, .int .i64 oth, .int .u64 (non : Int), .int .u64 (ech : Int)] 29 (0, 0))) (by kernel_rfl) (HS4.out.drew.held (w.heap.size, Obj.cells #[.int .i64 1, .int .i64 own, .int .i64 oth, .int .u64 (non : Int), .int .u64 (ech : Int)] 29 (0, 0)) (by simp)) (fun hHeld => ?_)
    refine wpAnyH_take (i := 0) (oi := _) (v := ?_) rfl (by kernel_rfl) (by kernel_rfl) (by kernel_rfl) (fun _ _ _ h => h) (Or.inl ⟨by rfl, ?_⟩) (by assumption) ?_
    case refine_2 => intro w hSw; (try dsimp only at hSw); obtain ⟨⟨z0, _⟩, ⟨z1, _⟩, ⟨z2, _⟩, ⟨z3, _⟩, ⟨z4, _⟩, zl⟩ := five hSw; go_simp; first | done | (with_reducible rfl)
    try simp only [Act.put, List.getElem_toArray, List.getElem_cons_zero, List.setIfInBounds_toArray, List.set_cons_zero, List.set_cons_succ]
    refine wpAnyH_take (i := 1) (oi := _) (v := ?_) rfl (by kernel_rfl) (by kernel_rfl) (by kernel_rfl) (fun _ _ _ h => h) (Or.inl ⟨by rfl, ?_⟩) (by assumption) ?_
    case refine_2 => intro w hSw; (try dsimp only at hSw); obtain ⟨⟨z0, _⟩, ⟨z1, _⟩, ⟨z2, _⟩, ⟨z3, _⟩, ⟨z4, _⟩, zl⟩ := five hSw; go_simp; first | done | (with_reducible rfl)
    try simp only [Act.put, List.getElem_toArray, List.getElem_cons_zero, List.getElem_cons_succ, List.setIfInBounds_toArray, List.set_cons_zero, List.set_cons_succ]
    refine wpAnyH_take (i := 2) (oi := _) (v := ?_) rfl (by kernel_rfl) (by kernel_rfl) (by kernel_rfl) (fun _ _ _ h => h) (Or.inl ⟨by rfl, ?_⟩) (by assumption) ?_
    case refine_2 => intro w hSw; (try dsimp only at hSw); obtain ⟨⟨z0, _⟩, ⟨z1, _⟩, ⟨z2, _⟩, ⟨z3, _⟩, ⟨z4, _⟩, zl⟩ := five hSw; go_simp; first | done | (with_reducible rfl)
    try simp only [Act.put, List.getElem_toArray, List.getElem_cons_zero, List.getElem_cons_succ, List.setIfInBounds_toArray, List.set_cons_zero, List.set_cons_succ]
    refine wpAnyH_ready (rs := [3]) (by kernel_rfl) (by simp) ?_
    refine AllReadyH.cons rfl (fun K hK => ?_) AllReadyH.nil
    go_simp
    go_at_call 30
    refine HCA.out.mono ?_
    rintro e W5 ⟨v5, rfl, ⟨A5, c5, ho, rfl, a52, a53, a54, a55, a56, a57⟩, a58⟩
    have H53 := Lib.hid a54
    have H54 := Lib.hid a55
    have HO5 : Hid (∀ p ∈ ho, w.heap.size + 2 ≤ p.1) := Lib.hid (fun p hp => Nat.le_trans HSZ4.out (a56 p hp))
    have HS5 := Lib.hid a57
    obtain ⟨zl5, hzl⟩ : ∃ z, (helloB L ⟨1, own, oth, non, ech⟩).length = z := ⟨_, rfl⟩
    rw [hzl] at H53 H54 a52 ⊢
    have HZ5 := Lib.hid hzl
    clear a54 a55 a56 a57 a58 hzl
    refine hK.out _ _ (HS5.out.held (w.heap.size, Obj.cells #[.int .i64 1, .int .i64 own, .int .i64 oth, .int .u64 (non : Int), .int .u64 (ech : Int)] 29 (0, 0)) (by simp)) (fun hHeld => ?_)
    clear hK K
    try simp only [Act.put, List.getElem_toArray, List.getElem_cons_zero, List.getElem_cons_succ, List.setIfInBounds_toArray, List.set_cons_zero, List.set_cons_succ]
    refine wpAnyH_ready (rs := [4]) (by kernel_rfl) (by simp) ?_
    refine AllReadyH.cons rfl (fun K hK => ?_) AllReadyH.nil
    obtain ⟨⟨q0, qf0⟩, ⟨q1, qf1⟩, ⟨q2, qf2⟩, ⟨q3, qf3⟩, ⟨q4, qf4⟩, ql⟩ := five (HS5.out.held ((w.heap.size + 1), Obj.cells #[.int .i64 0, .int .i64 0, .int .i64 0, .int .u64 (0 : Int), .int .u64 (0 : Int)] 29 (0, 0)) (by simp))
    clear HCA
    go_simp
    refine hK.out _ _ (set5_other (by omega) (HS5.out.held (w.heap.size, Obj.cells #[.int .i64 1, .int .i64 own, .int .i64 oth, .int .u64 (non : Int), .int .u64 (ech : Int)] 29 (0, 0)) (by simp))) (fun hHeld => ?_)
    clear hK K
    try simp only [Act.put, List.getElem_toArray, List.getElem_cons_zero, List.getElem_cons_succ, List.setIfInBounds_toArray, List.set_cons_zero, List.set_cons_succ]
    refine wpAnyH_take (i := 5) (oi := _) (v := ?_) rfl (by kernel_rfl) (by kernel_rfl) (by kernel_rfl) (fun _ _ _ h => h) (Or.inl ⟨by rfl, ?_⟩) (by assumption) ?_
    case refine_2 => intro w hSw; (try dsimp only at hSw); obtain ⟨⟨z0, _⟩, ⟨z1, _⟩, ⟨z2, _⟩, ⟨z3, _⟩, ⟨z4, _⟩, zl⟩ := five hSw; go_simp; first | done | (with_reducible rfl)
    try simp only [Act.put, List.getElem_toArray, List.getElem_cons_zero, List.getElem_cons_succ, List.setIfInBounds_toArray, List.set_cons_zero, List.set_cons_succ]
    refine wpAnyH_done (by kernel_rfl) ?_ _
    obtain ⟨W6, hW6⟩ : ∃ W6, (((((W5).setCell ⟨(w.heap.size + 1), 0, none⟩ (.int .i64 1)).setCell ⟨(w.heap.size + 1), 1, none⟩ (.int .i64 own)).setCell ⟨(w.heap.size + 1), 2, none⟩ (.int .i64 oth)).setCell ⟨(w.heap.size + 1), 3, none⟩ (.int .u64 (non : Int))).setCell ⟨(w.heap.size + 1), 4, none⟩ (.int .u64 (ech : Int)) = W6 := ⟨_, rfl⟩
    have hk6 : W6.heap[(w.heap.size + 1)]? = some (.cells #[.int .i64 1, .int .i64 own, .int .i64 oth, .int .u64 (non : Int), .int .u64 (ech : Int)] 29 (0, 0)) := by rw [← hW6]; exact set5_heap (HS5.out.held ((w.heap.size + 1), Obj.cells #[.int .i64 0, .int .i64 0, .int .i64 0, .int .u64 (0 : Int), .int .u64 (0 : Int)] 29 (0, 0)) (by simp))
    have HS6 : Hid (Sd w0 nb (helloL L ⟨1, own, oth, non, ech⟩) R (ho ++ os) W6) := Lib.hid (by rw [← hW6]; exact HS5.out.drop ((w.heap.size + 1), Obj.cells #[.int .i64 0, .int .i64 0, .int .i64 0, .int .u64 (0 : Int), .int .u64 (0 : Int)] 29 (0, 0)) (by simp) (by omega) (keeps5 _ _ _ _ _ _ _) _ (fun p hp => by
      rcases List.mem_append.1 hp with h | h
      · exact ⟨by simp [h], by have := HO5.out p h; simp only; omega⟩
      · exact ⟨by simp [h], by have := HOS.out p h; simp only; omega⟩))
    rw [hW6]
    clear hW6 hHeld
    obtain ⟨⟨q0, qf0⟩, ⟨q1, qf1⟩, ⟨q2, qf2⟩, ⟨q3, qf3⟩, ⟨q4, qf4⟩, ql⟩ := five hk6
    clear hk6
    go_wp2
    refine ⟨rfl, .tuple #[.agg #[.int .i64 1, .int .i64 own, .int .i64 oth, .int .u64 (non : Int), .int .u64 (ech : Int)], .slice A5 zl5 c5], by simp [results, Tryd.f14, go_sem, q0, q1, q2, q3, q4], ?_⟩
    exact HE.out _ _ ⟨A5, c5, ho, by rw [HZ5.out], by rw [HZ5.out]; exact a52, a53, by rw [HZ5.out]; exact H53.out, by rw [HZ5.out]; exact H54.out, fun p hp => by have := HO5.out p hp; omega, HS6.out⟩
  · have t0 : (st != 0) = true := by simp [h0]
    have HE : Hid (callO ⟨st, own, oth, non, ech⟩ L = ⟨⟨st, own, oth, non, ech⟩, [], L⟩) := Lib.hid (by unfold callO; rw [if_neg h0])
    have HF : Hid (∀ o1 o2, Sd w0 nb L R os ((w.alloc o1).alloc o2)) := Lib.hid (fun o1 o2 => (h.alloc o1).alloc o2)
    clear h hs h0 HA
    go_enter Tryd.func14, Tryd.ntmps14
    go_wp2
    refine ⟨rfl, .tuple #[.agg #[.int .i64 st, .int .i64 own, .int .i64 oth, .int .u64 (non : Int), .int .u64 (ech : Int)], .slice none 0 0], by simp [results, Tryd.f14, go_sem], ?_⟩
    unfold ShAns
    rw [HE.out]
    exact ⟨_, rfl, sent_nil (HF.out _ _)⟩
end
end Go.Proofs.YtdiilgedicfekaaDoor
namespace Go.Proofs.YtdiilgedicfekaaDoor
open Go.RowKit Go.Maps
set_option linter.unusedVariables false
set_option maxRecDepth 100000

section
variable {w0 : World} {nb : Nat} {L : List Item} {R : Option (Nat × List Item)} {os : List (Nat × Obj)} {w : World}
set_option maxHeartbeats 8000000 in
theorem hearHello_s (s : Sk) (m : Wi.Msg) (x1 x2 x3 : Value) (h : Sd w0 nb L R os w) (hs : s.Ok) (hL : L.length ≤ 1000000) (hv : MsgV w x1 x2 x3 m) (hm : Wi.may m = true) (hn : 4 ≤ m.nums.length) :
    Calls Tryd.prog 50 #[skv s, .pointer (some ⟨nb, 0, none⟩), .agg #[.int .i64 m.kind, x1, x2, x3]] w (ShAns w0 nb R os w.heap.size (helloO s L m)) := by
  have HOS : Hid (∀ p ∈ os, p.1 < w.heap.size) := Lib.hid (fun p hp => h.lt hp)
  have hw0 := h.low.size
  obtain ⟨mbk, mof, mc, rfl, mbl, mr1, mr2, mcc⟩ := ns_at hv.1 (by omega)
  obtain ⟨A2, d2, A3, d3, l2, l3, rfl, rfl, hl3⟩ : ∃ A2 d2 A3 d3 l2 l3, x2 = .slice A2 l2 d2 ∧ x3 = .slice A3 l3 d3 ∧ m.body.length = l3 := by
    obtain ⟨_, ⟨A2, d2, rfl, _⟩, ⟨A3, d3, rfl, _⟩, _⟩ := hv
    exact ⟨_, _, _, _, _, _, rfl, rfl, rfl⟩
  obtain ⟨n, hn'⟩ : ∃ n, m.nums.length = n := ⟨_, rfl⟩
  obtain ⟨kd, hkd⟩ : ∃ k, m.kind = k := ⟨_, rfl⟩
  have c2 := mcc 2 (by omega)
  obtain ⟨v2, e2⟩ : ∃ v, m.nums.getD 2 0 = v := ⟨_, rfl⟩
  rw [e2] at c2
  have hv2 : v2 ≤ 9223372036854775807 := by rw [← e2]; have := getD_lt hm 2; omega
  rw [hn'] at mr1 hn ⊢
  rw [hkd]
  have t2 : (2 : Int) < (n : Int) := by omega
  clear hv mcc hn' hkd
  obtain ⟨st, own, oth, non, ech⟩ := s
  have HA : Hid (∃ W, ((w.alloc (.cells #[.int .i64 st, .int .i64 own, .int .i64 oth, .int .u64 (non : Int), .int .u64 (ech : Int)] 29)).alloc (.cells #[.int .i64 kd, .slice (some ⟨mbk, mof, none⟩) n mc, .slice A2 l2 d2, .slice A3 l3 d3] 46)).alloc (.cells #[.int .i64 0, .int .i64 0, .int .i64 0, .int .u64 (0 : Int), .int .u64 (0 : Int)] 29) = W ∧ Below w.heap.size w W ∧ Sd w0 nb L R (((w.heap.size + 2), Obj.cells #[.int .i64 0, .int .i64 0, .int .i64 0, .int .u64 (0 : Int), .int .u64 (0 : Int)] 29 (0, 0)) :: ((w.heap.size + 1), Obj.cells #[.int .i64 kd, .slice (some ⟨mbk, mof, none⟩) n mc, .slice A2 l2 d2, .slice A3 l3 d3] 46 (0, 0)) :: (w.heap.size, Obj.cells #[.int .i64 st, .int .i64 own, .int .i64 oth, .int .u64 (non : Int), .int .u64 (ech : Int)] 29 (0, 0)) :: os) W ∧ w.heap.size + 3 ≤ W.heap.size) := Lib.hid ⟨_, rfl, (((Below.refl _ _).alloc (Nat.le_refl _) _).alloc (by simp) _).alloc (by simp; omega) _, (((h.box _ _ rfl).box _ _ (by simp)).box _ _ (by simp)), by simp⟩
  have x2c : (((w.alloc (.cells #[.int .i64 st, .int .i64 own, .int .i64 oth, .int .u64 (non : Int), .int .u64 (ech : Int)] 29)).alloc (.cells #[.int .i64 kd, .slice (some ⟨mbk, mof, none⟩) n mc, .slice A2 l2 d2, .slice A3 l3 d3] 46)).alloc (.cells #[.int .i64 0, .int .i64 0, .int .i64 0, .int .u64 (0 : Int), .int .u64 (0 : Int)] 29)).cell? ⟨mbk, mof + 2, none⟩ = some (.int .u64 (v2 : Int)) := (((((Below.refl _ _).alloc (Nat.le_refl _) _).alloc (by simp) _).alloc (by simp; omega) _ : Below w.heap.size w _).cell (p := ⟨mbk, mof + 2, none⟩) mbl).trans c2
  have HAG : Hid (∀ (st ech' : Int), Sd w0 nb L R (((w.heap.size + 2), Obj.cells #[.int .i64 0, .int .i64 0, .int .i64 0, .int .u64 (0 : Int), .int .u64 (0 : Int)] 29 (0, 0)) :: ((w.heap.size + 1), Obj.cells #[.int .i64 kd, .slice (some ⟨mbk, mof, none⟩) n mc, .slice A2 l2 d2, .slice A3 l3 d3] 46 (0, 0)) :: (w.heap.size, Obj.cells #[.int .i64 st, .int .i64 own, .int .i64 oth, .int .u64 (non : Int), .int .u64 ech'] 29 (0, 0)) :: os) (((w.alloc (.cells #[.int .i64 st, .int .i64 own, .int .i64 oth, .int .u64 (non : Int), .int .u64 ech'] 29)).alloc (.cells #[.int .i64 kd, .slice (some ⟨mbk, mof, none⟩) n mc, .slice A2 l2 d2, .slice A3 l3 d3] 46)).alloc (.cells #[.int .i64 0, .int .i64 0, .int .i64 0, .int .u64 (0 : Int), .int .u64 (0 : Int)] 29))) := Lib.hid (fun st ech' => ((h.box _ _ rfl).box _ _ (by simp)).box _ _ (by simp))
  by_cases hs0 : st = 0
  · subst hs0
    have hs1 : Sk.Ok ⟨2, own, oth, non, v2⟩ := ⟨by simp, by simp, hs.o1, hs.o2, hs.t1, hs.t2, hs.ne, hs.n1, hs.n2, hv2⟩
    have HE : Hid (∀ v w', Sent w0 nb (answerL L ⟨2, own, oth, non, v2⟩ []) R os w.heap.size (answerB L ⟨2, own, oth, non, v2⟩ []) v w' → ShAns w0 nb R os w.heap.size (helloO ⟨0, own, oth, non, ech⟩ L m) (.returned (.tuple #[skv ⟨2, own, oth, non, v2⟩, v])) w') := Lib.hid (fun v w' h => ⟨v, by simp [helloO, ← e2], by simpa [helloO, ← e2] using h⟩)
    have HC := Lib.hid (fun (V : World) (hV : Sd w0 nb L R ((w.heap.size, Obj.cells #[.int .i64 2, .int .i64 own, .int .i64 oth, .int .u64 (non : Int), .int .u64 (v2 : Int)] 29 (0, 0)) :: ((w.heap.size + 2), Obj.cells #[.int .i64 0, .int .i64 0, .int .i64 0, .int .u64 (0 : Int), .int .u64 (0 : Int)] 29 (0, 0)) :: os) V) => answer_s ⟨2, own, oth, non, v2⟩ [] _ (.inl ⟨rfl, rfl⟩) hV hs1 hL)
    have CM : Hid (∀ V, Calls Tryd.prog 66 #[.agg #[.int .i64 2, .int .i64 own, .int .i64 oth, .int .u64 (non : Int), .int .u64 (v2 : Int)], .int .u64 (v2 : Int)] V fun e w' => e = .returned (.bool true) ∧ Below V.heap.size V w') := Lib.hid (fun V => by have := sholds_any ⟨2, own, oth, non, v2⟩ v2 V; rw [show Sk.holds ⟨2, own, oth, non, v2⟩ v2 = true by simp [Sk.holds]] at this; exact this)
    clear h hs hs1 e2 hm
    go_enter Tryd.func50, Tryd.ntmps50
    go_wp2_with fail
    refine (CM.out _).mono ?_
    rintro e W4 ⟨rfl, hb4⟩
    have HSZ4 : Hid (w.heap.size + 3 ≤ W4.heap.size) := Lib.hid (by have := hb4.size; simp at this; omega)
    have HS4 := Lib.hid (((HAG.out 2 (v2 : Int)).sub (os' := (w.heap.size, Obj.cells #[.int .i64 2, .int .i64 own, .int .i64 oth, .int .u64 (non : Int), .int .u64 (v2 : Int)] 29 (0, 0)) :: ((w.heap.size + 2), Obj.cells #[.int .i64 0, .int .i64 0, .int .i64 0, .int .u64 (0 : Int), .int .u64 (0 : Int)] 29 (0, 0)) :: os) (fun p hp => by simp only [List.mem_cons] at hp ⊢; rcases hp with h | h | h <;> simp [h])).below hb4)
    clear hb4 x2c
    go_wp2
    have HCA := Lib.hid (HC.out _ HS4.out.drew)
    refine wp_region_held_drew (S := fun W => W.heap[w.heap.size]? = some (.cells #[.int .i64 2, .int .i64 own, .int .i64 oth, .int .u64 (non : Int), .int .u64 (v2 : Int)] 29 (0, 0))) (by kernel_rfl) (HS4.out.drew.held (w.heap.size, Obj.cells #[.int .i64 2, .int .i64 own, .int .i64 oth, .int .u64 (non : Int), .int .u64 (v2 : Int)] 29 (0, 0)) (by simp)) (fun hHeld => ?_)
    refine wpAnyH_take (i := 0) (oi := _) (v := ?_) rfl (by kernel_rfl) (by kernel_rfl) (by kernel_rfl) (fun _ _ _ h => h) (Or.inl ⟨by rfl, ?_⟩) (by assumption) ?_
    case refine_2 => intro w hSw; (try dsimp only at hSw); obtain ⟨⟨z0, _⟩, ⟨z1, _⟩, ⟨z2, _⟩, ⟨z3, _⟩, ⟨z4, _⟩, zl⟩ := five hSw; go_simp; first | done | (with_reducible rfl)
    try simp only [Act.put, List.getElem_toArray, List.getElem_cons_zero, List.setIfInBounds_toArray, List.set_cons_zero, List.set_cons_succ]
    refine wpAnyH_take (i := 1) (oi := _) (v := ?_) rfl (by kernel_rfl) (by kernel_rfl) (by kernel_rfl) (fun _ _ _ h => h) (Or.inl ⟨by rfl, ?_⟩) (by assumption) ?_
    case refine_2 => intro w hSw; (try dsimp only at hSw); obtain ⟨⟨z0, _⟩, ⟨z1, _⟩, ⟨z2, _⟩, ⟨z3, _⟩, ⟨z4, _⟩, zl⟩ := five hSw; go_simp; first | done | (with_reducible rfl)
    try simp only [Act.put, List.getElem_toArray, List.getElem_cons_zero, List.getElem_cons_succ, List.setIfInBounds_toArray, List.set_cons_zero, List.set_cons_succ]
    refine wpAnyH_take (i := 2) (oi := _) (v := ?_) rfl (by kernel_rfl) (by kernel_rfl) (by kernel_rfl) (fun _ _ _ h => h) (Or.inl ⟨by rfl, ?_⟩) (by assumption) ?_
    case refine_2 => intro w hSw; (try dsimp only at hSw); obtain ⟨⟨z0, _⟩, ⟨z1, _⟩, ⟨z2, _⟩, ⟨z3, _⟩, ⟨z4, _⟩, zl⟩ := five hSw; go_simp; first | done | (with_reducible rfl)
    try simp only [Act.put, List.getElem_toArray, List.getElem_cons_zero, List.getElem_cons_succ, List.setIfInBounds_toArray, List.set_cons_zero, List.set_cons_succ]
    refine wpAnyH_ready (rs := [3]) (by kernel_rfl) (by simp) ?_
    refine AllReadyH.cons rfl (fun K hK => ?_) AllReadyH.nil
    go_simp
    go_at_call 35
    refine HCA.out.mono ?_
    rintro e W5 ⟨v5, rfl, ⟨A5, c5, ho, rfl, a52, a53, a54, a55, a56, a57⟩, a58⟩
    have H53 := Lib.hid a54
    have H54 := Lib.hid a55
    have HO5 : Hid (∀ p ∈ ho, w.heap.size + 3 ≤ p.1) := Lib.hid (fun p hp => Nat.le_trans HSZ4.out (a56 p hp))
    have HS5 := Lib.hid a57
    obtain ⟨zl5, hzl⟩ : ∃ z, (answerB L ⟨2, own, oth, non, v2⟩ []).length = z := ⟨_, rfl⟩
    rw [hzl] at H53 H54 a52 ⊢
    have HZ5 := Lib.hid hzl
    clear a54 a55 a56 a57 a58 hzl
    refine hK.out _ _ (HS5.out.held (w.heap.size, Obj.cells #[.int .i64 2, .int .i64 own, .int .i64 oth, .int .u64 (non : Int), .int .u64 (v2 : Int)] 29 (0, 0)) (by simp)) (fun hHeld => ?_)
    clear hK K
    try simp only [Act.put, List.getElem_toArray, List.getElem_cons_zero, List.getElem_cons_succ, List.setIfInBounds_toArray, List.set_cons_zero, List.set_cons_succ]
    refine wpAnyH_ready (rs := [4]) (by kernel_rfl) (by simp) ?_
    refine AllReadyH.cons rfl (fun K hK => ?_) AllReadyH.nil
    obtain ⟨⟨q0, qf0⟩, ⟨q1, qf1⟩, ⟨q2, qf2⟩, ⟨q3, qf3⟩, ⟨q4, qf4⟩, ql⟩ := five (HS5.out.held ((w.heap.size + 2), Obj.cells #[.int .i64 0, .int .i64 0, .int .i64 0, .int .u64 (0 : Int), .int .u64 (0 : Int)] 29 (0, 0)) (by simp))
    clear HCA
    go_simp
    refine hK.out _ _ (set5_other (by omega) (HS5.out.held (w.heap.size, Obj.cells #[.int .i64 2, .int .i64 own, .int .i64 oth, .int .u64 (non : Int), .int .u64 (v2 : Int)] 29 (0, 0)) (by simp))) (fun hHeld => ?_)
    clear hK K
    try simp only [Act.put, List.getElem_toArray, List.getElem_cons_zero, List.getElem_cons_succ, List.setIfInBounds_toArray, List.set_cons_zero, List.set_cons_succ]
    refine wpAnyH_take (i := 5) (oi := _) (v := ?_) rfl (by kernel_rfl) (by kernel_rfl) (by kernel_rfl) (fun _ _ _ h => h) (Or.inl ⟨by rfl, ?_⟩) (by assumption) ?_
    case refine_2 => intro w hSw; (try dsimp only at hSw); obtain ⟨⟨z0, _⟩, ⟨z1, _⟩, ⟨z2, _⟩, ⟨z3, _⟩, ⟨z4, _⟩, zl⟩ := five hSw; go_simp; first | done | (with_reducible rfl)
    try simp only [Act.put, List.getElem_toArray, List.getElem_cons_zero, List.getElem_cons_succ, List.setIfInBounds_toArray, List.set_cons_zero, List.set_cons_succ]
    refine wpAnyH_done (by kernel_rfl) ?_ _
    obtain ⟨W6, hW6⟩ : ∃ W6, (((((W5).setCell ⟨(w.heap.size + 2), 0, none⟩ (.int .i64 2)).setCell ⟨(w.heap.size + 2), 1, none⟩ (.int .i64 own)).setCell ⟨(w.heap.size + 2), 2, none⟩ (.int .i64 oth)).setCell ⟨(w.heap.size + 2), 3, none⟩ (.int .u64 (non : Int))).setCell ⟨(w.heap.size + 2), 4, none⟩ (.int .u64 (v2 : Int)) = W6 := ⟨_, rfl⟩
    have hk6 : W6.heap[(w.heap.size + 2)]? = some (.cells #[.int .i64 2, .int .i64 own, .int .i64 oth, .int .u64 (non : Int), .int .u64 (v2 : Int)] 29 (0, 0)) := by rw [← hW6]; exact set5_heap (HS5.out.held ((w.heap.size + 2), Obj.cells #[.int .i64 0, .int .i64 0, .int .i64 0, .int .u64 (0 : Int), .int .u64 (0 : Int)] 29 (0, 0)) (by simp))
    have HS6 : Hid (Sd w0 nb (answerL L ⟨2, own, oth, non, v2⟩ []) R (ho ++ os) W6) := Lib.hid (by rw [← hW6]; exact HS5.out.drop ((w.heap.size + 2), Obj.cells #[.int .i64 0, .int .i64 0, .int .i64 0, .int .u64 (0 : Int), .int .u64 (0 : Int)] 29 (0, 0)) (by simp) (by omega) (keeps5 _ _ _ _ _ _ _) _ (fun p hp => by
      rcases List.mem_append.1 hp with h | h
      · exact ⟨by simp [h], by have := HO5.out p h; simp only; omega⟩
      · exact ⟨by simp [h], by have := HOS.out p h; simp only; omega⟩))
    rw [hW6]
    clear hW6 hHeld
    obtain ⟨⟨q0, qf0⟩, ⟨q1, qf1⟩, ⟨q2, qf2⟩, ⟨q3, qf3⟩, ⟨q4, qf4⟩, ql⟩ := five hk6
    clear hk6
    go_wp2
    refine ⟨rfl, .tuple #[.agg #[.int .i64 2, .int .i64 own, .int .i64 oth, .int .u64 (non : Int), .int .u64 (v2 : Int)], .slice A5 zl5 c5], by simp [results, Tryd.f50, go_sem, q0, q1, q2, q3, q4], ?_⟩
    exact HE.out _ _ ⟨A5, c5, ho, by rw [HZ5.out], by rw [HZ5.out]; exact a52, a53, by rw [HZ5.out]; exact H53.out, by rw [HZ5.out]; exact H54.out, fun p hp => by have := HO5.out p hp; omega, HS6.out⟩
  by_cases hs1 : st = 1
  · subst hs1
    have hok : Sk.Ok ⟨2, own, oth, non, v2⟩ := ⟨by simp, by simp, hs.o1, hs.o2, hs.t1, hs.t2, hs.ne, hs.n1, hs.n2, hv2⟩
    have HE : Hid (∀ v w', Sent w0 nb (answerL L ⟨2, own, oth, non, v2⟩ []) R os w.heap.size (answerB L ⟨2, own, oth, non, v2⟩ []) v w' → ShAns w0 nb R os w.heap.size (helloO ⟨1, own, oth, non, ech⟩ L m) (.returned (.tuple #[skv ⟨2, own, oth, non, v2⟩, v])) w') := Lib.hid (fun v w' h => ⟨v, by simp [helloO, ← e2], by simpa [helloO, ← e2] using h⟩)
    have HC := Lib.hid (fun (V : World) (hV : Sd w0 nb L R ((w.heap.size, Obj.cells #[.int .i64 2, .int .i64 own, .int .i64 oth, .int .u64 (non : Int), .int .u64 (v2 : Int)] 29 (0, 0)) :: ((w.heap.size + 2), Obj.cells #[.int .i64 0, .int .i64 0, .int .i64 0, .int .u64 (0 : Int), .int .u64 (0 : Int)] 29 (0, 0)) :: os) V) => answer_s ⟨2, own, oth, non, v2⟩ [] _ (.inl ⟨rfl, rfl⟩) hV hok hL)
    have CM : Hid (∀ V, Calls Tryd.prog 66 #[.agg #[.int .i64 2, .int .i64 own, .int .i64 oth, .int .u64 (non : Int), .int .u64 (v2 : Int)], .int .u64 (v2 : Int)] V fun e w' => e = .returned (.bool true) ∧ Below V.heap.size V w') := Lib.hid (fun V => by have := sholds_any ⟨2, own, oth, non, v2⟩ v2 V; rw [show Sk.holds ⟨2, own, oth, non, v2⟩ v2 = true by simp [Sk.holds]] at this; exact this)
    clear h hs hok e2 hs0 hm
    go_enter Tryd.func50, Tryd.ntmps50
    go_wp2_with fail
    refine (CM.out _).mono ?_
    rintro e W4 ⟨rfl, hb4⟩
    have HSZ4 : Hid (w.heap.size + 3 ≤ W4.heap.size) := Lib.hid (by have := hb4.size; simp at this; omega)
    have HS4 := Lib.hid (((HAG.out 2 (v2 : Int)).sub (os' := (w.heap.size, Obj.cells #[.int .i64 2, .int .i64 own, .int .i64 oth, .int .u64 (non : Int), .int .u64 (v2 : Int)] 29 (0, 0)) :: ((w.heap.size + 2), Obj.cells #[.int .i64 0, .int .i64 0, .int .i64 0, .int .u64 (0 : Int), .int .u64 (0 : Int)] 29 (0, 0)) :: os) (fun p hp => by simp only [List.mem_cons] at hp ⊢; rcases hp with h | h | h <;> simp [h])).below hb4)
    clear hb4 x2c
    go_wp2
    have HCA := Lib.hid (HC.out _ HS4.out.drew)
    refine wp_region_held_drew (S := fun W => W.heap[w.heap.size]? = some (.cells #[.int .i64 2, .int .i64 own, .int .i64 oth, .int .u64 (non : Int), .int .u64 (v2 : Int)] 29 (0, 0))) (by kernel_rfl) (HS4.out.drew.held (w.heap.size, Obj.cells #[.int .i64 2, .int .i64 own, .int .i64 oth, .int .u64 (non : Int), .int .u64 (v2 : Int)] 29 (0, 0)) (by simp)) (fun hHeld => ?_)
    refine wpAnyH_take (i := 0) (oi := _) (v := ?_) rfl (by kernel_rfl) (by kernel_rfl) (by kernel_rfl) (fun _ _ _ h => h) (Or.inl ⟨by rfl, ?_⟩) (by assumption) ?_
    case refine_2 => intro w hSw; (try dsimp only at hSw); obtain ⟨⟨z0, _⟩, ⟨z1, _⟩, ⟨z2, _⟩, ⟨z3, _⟩, ⟨z4, _⟩, zl⟩ := five hSw; go_simp; first | done | (with_reducible rfl)
    try simp only [Act.put, List.getElem_toArray, List.getElem_cons_zero, List.setIfInBounds_toArray, List.set_cons_zero, List.set_cons_succ]
    refine wpAnyH_take (i := 1) (oi := _) (v := ?_) rfl (by kernel_rfl) (by kernel_rfl) (by kernel_rfl) (fun _ _ _ h => h) (Or.inl ⟨by rfl, ?_⟩) (by assumption) ?_
    case refine_2 => intro w hSw; (try dsimp only at hSw); obtain ⟨⟨z0, _⟩, ⟨z1, _⟩, ⟨z2, _⟩, ⟨z3, _⟩, ⟨z4, _⟩, zl⟩ := five hSw; go_simp; first | done | (with_reducible rfl)
    try simp only [Act.put, List.getElem_toArray, List.getElem_cons_zero, List.getElem_cons_succ, List.setIfInBounds_toArray, List.set_cons_zero, List.set_cons_succ]
    refine wpAnyH_take (i := 2) (oi := _) (v := ?_) rfl (by kernel_rfl) (by kernel_rfl) (by kernel_rfl) (fun _ _ _ h => h) (Or.inl ⟨by rfl, ?_⟩) (by assumption) ?_
    case refine_2 => intro w hSw; (try dsimp only at hSw); obtain ⟨⟨z0, _⟩, ⟨z1, _⟩, ⟨z2, _⟩, ⟨z3, _⟩, ⟨z4, _⟩, zl⟩ := five hSw; go_simp; first | done | (with_reducible rfl)
    try simp only [Act.put, List.getElem_toArray, List.getElem_cons_zero, List.getElem_cons_succ, List.setIfInBounds_toArray, List.set_cons_zero, List.set_cons_succ]
    refine wpAnyH_ready (rs := [3]) (by kernel_rfl) (by simp) ?_
    refine AllReadyH.cons rfl (fun K hK => ?_) AllReadyH.nil
    go_simp
    go_at_call 35
    refine HCA.out.mono ?_
    rintro e W5 ⟨v5, rfl, ⟨A5, c5, ho, rfl, a52, a53, a54, a55, a56, a57⟩, a58⟩
    have H53 := Lib.hid a54
    have H54 := Lib.hid a55
    have HO5 : Hid (∀ p ∈ ho, w.heap.size + 3 ≤ p.1) := Lib.hid (fun p hp => Nat.le_trans HSZ4.out (a56 p hp))
    have HS5 := Lib.hid a57
    obtain ⟨zl5, hzl⟩ : ∃ z, (answerB L ⟨2, own, oth, non, v2⟩ []).length = z := ⟨_, rfl⟩
    rw [hzl] at H53 H54 a52 ⊢
    have HZ5 := Lib.hid hzl
    clear a54 a55 a56 a57 a58 hzl
    refine hK.out _ _ (HS5.out.held (w.heap.size, Obj.cells #[.int .i64 2, .int .i64 own, .int .i64 oth, .int .u64 (non : Int), .int .u64 (v2 : Int)] 29 (0, 0)) (by simp)) (fun hHeld => ?_)
    clear hK K
    try simp only [Act.put, List.getElem_toArray, List.getElem_cons_zero, List.getElem_cons_succ, List.setIfInBounds_toArray, List.set_cons_zero, List.set_cons_succ]
    refine wpAnyH_ready (rs := [4]) (by kernel_rfl) (by simp) ?_
    refine AllReadyH.cons rfl (fun K hK => ?_) AllReadyH.nil
    obtain ⟨⟨q0, qf0⟩, ⟨q1, qf1⟩, ⟨q2, qf2⟩, ⟨q3, qf3⟩, ⟨q4, qf4⟩, ql⟩ := five (HS5.out.held ((w.heap.size + 2), Obj.cells #[.int .i64 0, .int .i64 0, .int .i64 0, .int .u64 (0 : Int), .int .u64 (0 : Int)] 29 (0, 0)) (by simp))
    clear HCA
    go_simp
    refine hK.out _ _ (set5_other (by omega) (HS5.out.held (w.heap.size, Obj.cells #[.int .i64 2, .int .i64 own, .int .i64 oth, .int .u64 (non : Int), .int .u64 (v2 : Int)] 29 (0, 0)) (by simp))) (fun hHeld => ?_)
    clear hK K
    try simp only [Act.put, List.getElem_toArray, List.getElem_cons_zero, List.getElem_cons_succ, List.setIfInBounds_toArray, List.set_cons_zero, List.set_cons_succ]
    refine wpAnyH_take (i := 5) (oi := _) (v := ?_) rfl (by kernel_rfl) (by kernel_rfl) (by kernel_rfl) (fun _ _ _ h => h) (Or.inl ⟨by rfl, ?_⟩) (by assumption) ?_
    case refine_2 => intro w hSw; (try dsimp only at hSw); obtain ⟨⟨z0, _⟩, ⟨z1, _⟩, ⟨z2, _⟩, ⟨z3, _⟩, ⟨z4, _⟩, zl⟩ := five hSw; go_simp; first | done | (with_reducible rfl)
    try simp only [Act.put, List.getElem_toArray, List.getElem_cons_zero, List.getElem_cons_succ, List.setIfInBounds_toArray, List.set_cons_zero, List.set_cons_succ]
    refine wpAnyH_done (by kernel_rfl) ?_ _
    obtain ⟨W6, hW6⟩ : ∃ W6, (((((W5).setCell ⟨(w.heap.size + 2), 0, none⟩ (.int .i64 2)).setCell ⟨(w.heap.size + 2), 1, none⟩ (.int .i64 own)).setCell ⟨(w.heap.size + 2), 2, none⟩ (.int .i64 oth)).setCell ⟨(w.heap.size + 2), 3, none⟩ (.int .u64 (non : Int))).setCell ⟨(w.heap.size + 2), 4, none⟩ (.int .u64 (v2 : Int)) = W6 := ⟨_, rfl⟩
    have hk6 : W6.heap[(w.heap.size + 2)]? = some (.cells #[.int .i64 2, .int .i64 own, .int .i64 oth, .int .u64 (non : Int), .int .u64 (v2 : Int)] 29 (0, 0)) := by rw [← hW6]; exact set5_heap (HS5.out.held ((w.heap.size + 2), Obj.cells #[.int .i64 0, .int .i64 0, .int .i64 0, .int .u64 (0 : Int), .int .u64 (0 : Int)] 29 (0, 0)) (by simp))
    have HS6 : Hid (Sd w0 nb (answerL L ⟨2, own, oth, non, v2⟩ []) R (ho ++ os) W6) := Lib.hid (by rw [← hW6]; exact HS5.out.drop ((w.heap.size + 2), Obj.cells #[.int .i64 0, .int .i64 0, .int .i64 0, .int .u64 (0 : Int), .int .u64 (0 : Int)] 29 (0, 0)) (by simp) (by omega) (keeps5 _ _ _ _ _ _ _) _ (fun p hp => by
      rcases List.mem_append.1 hp with h | h
      · exact ⟨by simp [h], by have := HO5.out p h; simp only; omega⟩
      · exact ⟨by simp [h], by have := HOS.out p h; simp only; omega⟩))
    rw [hW6]
    clear hW6 hHeld
    obtain ⟨⟨q0, qf0⟩, ⟨q1, qf1⟩, ⟨q2, qf2⟩, ⟨q3, qf3⟩, ⟨q4, qf4⟩, ql⟩ := five hk6
    clear hk6
    go_wp2
    refine ⟨rfl, .tuple #[.agg #[.int .i64 2, .int .i64 own, .int .i64 oth, .int .u64 (non : Int), .int .u64 (v2 : Int)], .slice A5 zl5 c5], by simp [results, Tryd.f50, go_sem, q0, q1, q2, q3, q4], ?_⟩
    exact HE.out _ _ ⟨A5, c5, ho, by rw [HZ5.out], by rw [HZ5.out]; exact a52, a53, by rw [HZ5.out]; exact H53.out, by rw [HZ5.out]; exact H54.out, fun p hp => by have := HO5.out p hp; omega, HS6.out⟩
  cases hh : (Sk.mk st own oth non ech).holds v2 with
  | true =>
    have ts0 : (st == 0) = false := by simp [hs0]
    have ts1 : (st == 1) = false := by simp [hs1]
    have hno : ¬ (st = 0 ∨ st = 1) := by omega
    have HE : Hid (∀ v w', Sent w0 nb (answerL L ⟨st, own, oth, non, ech⟩ []) R os w.heap.size (answerB L ⟨st, own, oth, non, ech⟩ []) v w' → ShAns w0 nb R os w.heap.size (helloO ⟨st, own, oth, non, ech⟩ L m) (.returned (.tuple #[skv ⟨st, own, oth, non, ech⟩, v])) w') := Lib.hid (fun v w' h => by
      have e : helloO ⟨st, own, oth, non, ech⟩ L m = ⟨⟨st, own, oth, non, ech⟩, answerB L ⟨st, own, oth, non, ech⟩ [], answerL L ⟨st, own, oth, non, ech⟩ []⟩ := by unfold helloO; rw [if_neg hno, e2, if_pos hh]
      rw [e]
      exact ⟨v, rfl, h⟩)
    have HC := Lib.hid (fun (V : World) (hV : Sd w0 nb L R ((w.heap.size, Obj.cells #[.int .i64 st, .int .i64 own, .int .i64 oth, .int .u64 (non : Int), .int .u64 (ech : Int)] 29 (0, 0)) :: ((w.heap.size + 2), Obj.cells #[.int .i64 0, .int .i64 0, .int .i64 0, .int .u64 (0 : Int), .int .u64 (0 : Int)] 29 (0, 0)) :: os) V) => answer_s ⟨st, own, oth, non, ech⟩ [] _ (.inl ⟨rfl, rfl⟩) hV hs hL)
    have CM : Hid (∀ V, Calls Tryd.prog 66 #[.agg #[.int .i64 st, .int .i64 own, .int .i64 oth, .int .u64 (non : Int), .int .u64 (ech : Int)], .int .u64 (v2 : Int)] V fun e w' => e = .returned (.bool true) ∧ Below V.heap.size V w') := Lib.hid (fun V => by have := sholds_any ⟨st, own, oth, non, ech⟩ v2 V; rw [hh] at this; exact this)
    clear h hs hm e2 hh hno hs0 hs1
    go_enter Tryd.func50, Tryd.ntmps50
    go_wp2_with fail
    refine (CM.out _).mono ?_
    rintro e W4 ⟨rfl, hb4⟩
    have HSZ4 : Hid (w.heap.size + 3 ≤ W4.heap.size) := Lib.hid (by have := hb4.size; simp at this; omega)
    have HS4 := Lib.hid (((HAG.out st (ech : Int)).sub (os' := (w.heap.size, Obj.cells #[.int .i64 st, .int .i64 own, .int .i64 oth, .int .u64 (non : Int), .int .u64 (ech : Int)] 29 (0, 0)) :: ((w.heap.size + 2), Obj.cells #[.int .i64 0, .int .i64 0, .int .i64 0, .int .u64 (0 : Int), .int .u64 (0 : Int)] 29 (0, 0)) :: os) (fun p hp => by simp only [List.mem_cons] at hp ⊢; rcases hp with h | h | h <;> simp [h])).below hb4)
    clear hb4 x2c
    go_wp2
    have HCA := Lib.hid (HC.out _ HS4.out.drew)
    refine wp_region_held_drew (S := fun W => W.heap[w.heap.size]? = some (.cells #[.int .i64 st, .int .i64 own, .int .i64 oth, .int .u64 (non : Int), .int .u64 (ech : Int)] 29 (0, 0))) (by kernel_rfl) (HS4.out.drew.held (w.heap.size, Obj.cells #[.int .i64 st, .int .i64 own, .int .i64 oth, .int .u64 (non : Int), .int .u64 (ech : Int)] 29 (0, 0)) (by simp)) (fun hHeld => ?_)
    refine wpAnyH_take (i := 0) (oi := _) (v := ?_) rfl (by kernel_rfl) (by kernel_rfl) (by kernel_rfl) (fun _ _ _ h => h) (Or.inl ⟨by rfl, ?_⟩) (by assumption) ?_
    case refine_2 => intro w hSw; (try dsimp only at hSw); obtain ⟨⟨z0, _⟩, ⟨z1, _⟩, ⟨z2, _⟩, ⟨z3, _⟩, ⟨z4, _⟩, zl⟩ := five hSw; go_simp; first | done | (with_reducible rfl)
    try simp only [Act.put, List.getElem_toArray, List.getElem_cons_zero, List.setIfInBounds_toArray, List.set_cons_zero, List.set_cons_succ]
    refine wpAnyH_take (i := 1) (oi := _) (v := ?_) rfl (by kernel_rfl) (by kernel_rfl) (by kernel_rfl) (fun _ _ _ h => h) (Or.inl ⟨by rfl, ?_⟩) (by assumption) ?_
    case refine_2 => intro w hSw; (try dsimp only at hSw); obtain ⟨⟨z0, _⟩, ⟨z1, _⟩, ⟨z2, _⟩, ⟨z3, _⟩, ⟨z4, _⟩, zl⟩ := five hSw; go_simp; first | done | (with_reducible rfl)
    try simp only [Act.put, List.getElem_toArray, List.getElem_cons_zero, List.getElem_cons_succ, List.setIfInBounds_toArray, List.set_cons_zero, List.set_cons_succ]
    refine wpAnyH_take (i := 2) (oi := _) (v := ?_) rfl (by kernel_rfl) (by kernel_rfl) (by kernel_rfl) (fun _ _ _ h => h) (Or.inl ⟨by rfl, ?_⟩) (by assumption) ?_
    case refine_2 => intro w hSw; (try dsimp only at hSw); obtain ⟨⟨z0, _⟩, ⟨z1, _⟩, ⟨z2, _⟩, ⟨z3, _⟩, ⟨z4, _⟩, zl⟩ := five hSw; go_simp; first | done | (with_reducible rfl)
    try simp only [Act.put, List.getElem_toArray, List.getElem_cons_zero, List.getElem_cons_succ, List.setIfInBounds_toArray, List.set_cons_zero, List.set_cons_succ]
    refine wpAnyH_ready (rs := [3]) (by kernel_rfl) (by simp) ?_
    refine AllReadyH.cons rfl (fun K hK => ?_) AllReadyH.nil
    go_simp
    go_at_call 35
    refine HCA.out.mono ?_
    rintro e W5 ⟨v5, rfl, ⟨A5, c5, ho, rfl, a52, a53, a54, a55, a56, a57⟩, a58⟩
    have H53 := Lib.hid a54
    have H54 := Lib.hid a55
    have HO5 : Hid (∀ p ∈ ho, w.heap.size + 3 ≤ p.1) := Lib.hid (fun p hp => Nat.le_trans HSZ4.out (a56 p hp))
    have HS5 := Lib.hid a57
    obtain ⟨zl5, hzl⟩ : ∃ z, (answerB L ⟨st, own, oth, non, ech⟩ []).length = z := ⟨_, rfl⟩
    rw [hzl] at H53 H54 a52 ⊢
    have HZ5 := Lib.hid hzl
    clear a54 a55 a56 a57 a58 hzl
    refine hK.out _ _ (HS5.out.held (w.heap.size, Obj.cells #[.int .i64 st, .int .i64 own, .int .i64 oth, .int .u64 (non : Int), .int .u64 (ech : Int)] 29 (0, 0)) (by simp)) (fun hHeld => ?_)
    clear hK K
    try simp only [Act.put, List.getElem_toArray, List.getElem_cons_zero, List.getElem_cons_succ, List.setIfInBounds_toArray, List.set_cons_zero, List.set_cons_succ]
    refine wpAnyH_ready (rs := [4]) (by kernel_rfl) (by simp) ?_
    refine AllReadyH.cons rfl (fun K hK => ?_) AllReadyH.nil
    obtain ⟨⟨q0, qf0⟩, ⟨q1, qf1⟩, ⟨q2, qf2⟩, ⟨q3, qf3⟩, ⟨q4, qf4⟩, ql⟩ := five (HS5.out.held ((w.heap.size + 2), Obj.cells #[.int .i64 0, .int .i64 0, .int .i64 0, .int .u64 (0 : Int), .int .u64 (0 : Int)] 29 (0, 0)) (by simp))
    clear HCA
    go_simp
    refine hK.out _ _ (set5_other (by omega) (HS5.out.held (w.heap.size, Obj.cells #[.int .i64 st, .int .i64 own, .int .i64 oth, .int .u64 (non : Int), .int .u64 (ech : Int)] 29 (0, 0)) (by simp))) (fun hHeld => ?_)
    clear hK K
    try simp only [Act.put, List.getElem_toArray, List.getElem_cons_zero, List.getElem_cons_succ, List.setIfInBounds_toArray, List.set_cons_zero, List.set_cons_succ]
    refine wpAnyH_take (i := 5) (oi := _) (v := ?_) rfl (by kernel_rfl) (by kernel_rfl) (by kernel_rfl) (fun _ _ _ h => h) (Or.inl ⟨by rfl, ?_⟩) (by assumption) ?_
    case refine_2 => intro w hSw; (try dsimp only at hSw); obtain ⟨⟨z0, _⟩, ⟨z1, _⟩, ⟨z2, _⟩, ⟨z3, _⟩, ⟨z4, _⟩, zl⟩ := five hSw; go_simp; first | done | (with_reducible rfl)
    try simp only [Act.put, List.getElem_toArray, List.getElem_cons_zero, List.getElem_cons_succ, List.setIfInBounds_toArray, List.set_cons_zero, List.set_cons_succ]
    refine wpAnyH_done (by kernel_rfl) ?_ _
    obtain ⟨W6, hW6⟩ : ∃ W6, (((((W5).setCell ⟨(w.heap.size + 2), 0, none⟩ (.int .i64 st)).setCell ⟨(w.heap.size + 2), 1, none⟩ (.int .i64 own)).setCell ⟨(w.heap.size + 2), 2, none⟩ (.int .i64 oth)).setCell ⟨(w.heap.size + 2), 3, none⟩ (.int .u64 (non : Int))).setCell ⟨(w.heap.size + 2), 4, none⟩ (.int .u64 (ech : Int)) = W6 := ⟨_, rfl⟩
    have hk6 : W6.heap[(w.heap.size + 2)]? = some (.cells #[.int .i64 st, .int .i64 own, .int .i64 oth, .int .u64 (non : Int), .int .u64 (ech : Int)] 29 (0, 0)) := by rw [← hW6]; exact set5_heap (HS5.out.held ((w.heap.size + 2), Obj.cells #[.int .i64 0, .int .i64 0, .int .i64 0, .int .u64 (0 : Int), .int .u64 (0 : Int)] 29 (0, 0)) (by simp))
    have HS6 : Hid (Sd w0 nb (answerL L ⟨st, own, oth, non, ech⟩ []) R (ho ++ os) W6) := Lib.hid (by rw [← hW6]; exact HS5.out.drop ((w.heap.size + 2), Obj.cells #[.int .i64 0, .int .i64 0, .int .i64 0, .int .u64 (0 : Int), .int .u64 (0 : Int)] 29 (0, 0)) (by simp) (by omega) (keeps5 _ _ _ _ _ _ _) _ (fun p hp => by
      rcases List.mem_append.1 hp with h | h
      · exact ⟨by simp [h], by have := HO5.out p h; simp only; omega⟩
      · exact ⟨by simp [h], by have := HOS.out p h; simp only; omega⟩))
    rw [hW6]
    clear hW6 hHeld
    obtain ⟨⟨q0, qf0⟩, ⟨q1, qf1⟩, ⟨q2, qf2⟩, ⟨q3, qf3⟩, ⟨q4, qf4⟩, ql⟩ := five hk6
    clear hk6
    go_wp2
    refine ⟨rfl, .tuple #[.agg #[.int .i64 st, .int .i64 own, .int .i64 oth, .int .u64 (non : Int), .int .u64 (ech : Int)], .slice A5 zl5 c5], by simp [results, Tryd.f50, go_sem, q0, q1, q2, q3, q4], ?_⟩
    exact HE.out _ _ ⟨A5, c5, ho, by rw [HZ5.out], by rw [HZ5.out]; exact a52, a53, by rw [HZ5.out]; exact H53.out, by rw [HZ5.out]; exact H54.out, fun p hp => by have := HO5.out p hp; omega, HS6.out⟩
  | false =>
    have ts0 : (st == 0) = false := by simp [hs0]
    have ts1 : (st == 1) = false := by simp [hs1]
    have hno : ¬ (st = 0 ∨ st = 1) := by omega
    have HE : Hid (helloO ⟨st, own, oth, non, ech⟩ L m = ⟨⟨st, own, oth, non, ech⟩, [], L⟩) := Lib.hid (by unfold helloO; rw [if_neg hno, e2, if_neg (by simp [hh])])
    have CM : Hid (∀ V, Calls Tryd.prog 66 #[.agg #[.int .i64 st, .int .i64 own, .int .i64 oth, .int .u64 (non : Int), .int .u64 (ech : Int)], .int .u64 (v2 : Int)] V fun e w' => e = .returned (.bool false) ∧ Below V.heap.size V w') := Lib.hid (fun V => by have := sholds_any ⟨st, own, oth, non, ech⟩ v2 V; rw [hh] at this; exact this)
    clear h hs hm e2 hh hno hs0 hs1
    go_enter Tryd.func50, Tryd.ntmps50
    go_wp2_with fail
    refine (CM.out _).mono ?_
    rintro e W4 ⟨rfl, hb4⟩
    have HSZ4 : Hid (w.heap.size + 3 ≤ W4.heap.size) := Lib.hid (by have := hb4.size; simp at this; omega)
    have HS4 := Lib.hid (((HAG.out st (ech : Int)).sub (os' := (w.heap.size, Obj.cells #[.int .i64 st, .int .i64 own, .int .i64 oth, .int .u64 (non : Int), .int .u64 (ech : Int)] 29 (0, 0)) :: ((w.heap.size + 2), Obj.cells #[.int .i64 0, .int .i64 0, .int .i64 0, .int .u64 (0 : Int), .int .u64 (0 : Int)] 29 (0, 0)) :: os) (fun p hp => by simp only [List.mem_cons] at hp ⊢; rcases hp with h | h | h <;> simp [h])).below hb4)
    clear hb4 x2c
    obtain ⟨⟨z0, zf0⟩, ⟨z1, zf1⟩, ⟨z2, zf2⟩, ⟨z3, zf3⟩, ⟨z4, zf4⟩, zl⟩ := five (HS4.out.held (w.heap.size, Obj.cells #[.int .i64 st, .int .i64 own, .int .i64 oth, .int .u64 (non : Int), .int .u64 (ech : Int)] 29 (0, 0)) (by simp))
    obtain ⟨⟨q0, qf0⟩, ⟨q1, qf1⟩, ⟨q2, qf2⟩, ⟨q3, qf3⟩, ⟨q4, qf4⟩, ql⟩ := five (HS4.out.held ((w.heap.size + 2), Obj.cells #[.int .i64 0, .int .i64 0, .int .i64 0, .int .u64 (0 : Int), .int .u64 (0 : Int)] 29 (0, 0)) (by simp))
    go_wp2
    obtain ⟨W6, hW6⟩ : ∃ W6, (((((W4).setCell ⟨(w.heap.size + 2), 0, none⟩ (.int .i64 st)).setCell ⟨(w.heap.size + 2), 1, none⟩ (.int .i64 own)).setCell ⟨(w.heap.size + 2), 2, none⟩ (.int .i64 oth)).setCell ⟨(w.heap.size + 2), 3, none⟩ (.int .u64 (non : Int))).setCell ⟨(w.heap.size + 2), 4, none⟩ (.int .u64 (ech : Int)) = W6 := ⟨_, rfl⟩
    have hk6 : W6.heap[(w.heap.size + 2)]? = some (.cells #[.int .i64 st, .int .i64 own, .int .i64 oth, .int .u64 (non : Int), .int .u64 (ech : Int)] 29 (0, 0)) := by rw [← hW6]; exact set5_heap (HS4.out.held ((w.heap.size + 2), Obj.cells #[.int .i64 0, .int .i64 0, .int .i64 0, .int .u64 (0 : Int), .int .u64 (0 : Int)] 29 (0, 0)) (by simp))
    have HS6 : Hid (Sd w0 nb L R os W6) := Lib.hid (by rw [← hW6]; exact HS4.out.drop ((w.heap.size + 2), Obj.cells #[.int .i64 0, .int .i64 0, .int .i64 0, .int .u64 (0 : Int), .int .u64 (0 : Int)] 29 (0, 0)) (by simp) (by simp only; omega) (keeps5 _ _ _ _ _ _ _) _ (fun p hp => ⟨by simp [hp], by have := HOS.out p hp; simp only; omega⟩))
    clear q0 q1 q2 q3 q4 qf0 qf1 qf2 qf3 qf4
    rw [hW6]
    clear hW6
    obtain ⟨⟨q0, qf0⟩, ⟨q1, qf1⟩, ⟨q2, qf2⟩, ⟨q3, qf3⟩, ⟨q4, qf4⟩, ql⟩ := five hk6
    clear hk6
    refine ⟨rfl, .tuple #[.agg #[.int .i64 st, .int .i64 own, .int .i64 oth, .int .u64 (non : Int), .int .u64 (ech : Int)], .slice none 0 0], by simp [results, Tryd.f50, go_sem, q0, q1, q2, q3, q4], ?_⟩
    unfold ShAns
    rw [HE.out]
    exact ⟨_, rfl, sent_nil HS6.out⟩
end
end Go.Proofs.YtdiilgedicfekaaDoor
