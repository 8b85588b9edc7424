/-
  What ShakeForged goes by. Conditions: as each states.
-/
import Derived.Test.YtdiilgedicfekaaDoorMh15
import Derived.Test.YtdiilgedicfekaaDoorNRdq
namespace Go.Proofs.YtdiilgedicfekaaDoor
open Go.RowKit Go.Maps
set_option linter.unusedVariables false
set_option maxRecDepth 100000
theorem law_own (A : Option Addr) (n c : Nat) (zs : List Int) (m : Wi.Msg) (w : World) (hb : Bts w A n zs) (h1 : n ≤ c) (h2 : c ≤ maxLen) (h3 : A = none → n = 0 ∧ c = 0) (hT : Tb w) (hz : zs.length ≤ 1000000) (hr : Wi.read zs = some m) (hn : 0 < m.nums.length) :
    Calls Tryd.prog 28 #[.slice A n c] w fun e w' => ∃ (b off k : Nat) (x2 x3 : Value) (C : Array Value), e = .returned (.tuple #[.agg #[.int .i64 m.kind, .slice (some ⟨b, off, none⟩) m.nums.length k, x2, x3], .int .i64 0]) ∧ MsgV w' (.slice (some ⟨b, off, none⟩) m.nums.length k) x2 x3 m ∧ Below w.heap.size w w' ∧ w.heap.size ≤ b ∧ w'.heap[b]? = some (.cells C 22 (0, 0)) ∧ ∀ j, j < m.nums.length → C[off + j]? = some (.int .u64 (m.nums.getD j 0 : Nat)) := by
  refine (from_own A n c zs w hb h1 h2 h3 hT hz).mono fun e w' hq => ?_
  obtain ⟨m', x1, x2, x3, hv, hbe, ⟨rfl, hr'⟩ | ⟨_, hr', _⟩, hx⟩ := hq
  · rw [hr] at hr'
    cases hr'
    obtain ⟨b, off, k, rfl, hbl, r1, r2, hcc⟩ := ns_at hv.1 hn
    obtain ⟨h4, C, h5⟩ := hx b rfl
    exact ⟨b, off, k, x2, x3, C, rfl, hv, hbe, h4, h5, fun j hj => by have := hcc j hj; rw [(cells_of h5 (off + j)).1] at this; exact this⟩
  · rw [hr] at hr'
    cases hr'
/-- a message's number is turned in its block -/
theorem msg_set {V V' : World} {b off k i x : Nat} {x2 x3 : Value} {C : Array Value} {m : Wi.Msg} (hv : MsgV V (.slice (some ⟨b, off, none⟩) m.nums.length k) x2 x3 m) (ha : m.addrs = []) (hb : m.body = []) (hi : i < m.nums.length) (hx : x < 18446744073709551616) (hC : ∀ j, j < m.nums.length → C[off + j]? = some (.int .u64 (m.nums.getD j 0 : Nat)))
    (h' : V'.heap[b]? = some (.cells (C.setIfInBounds (off + i) (.int .u64 (x : Int))) 22 (0, 0))) : MsgV V' (.slice (some ⟨b, off, none⟩) m.nums.length k) x2 x3 { m with nums := m.nums.set i x } := by
  obtain ⟨⟨A, c, e1, q1, q2, q3, q4, q5⟩, ⟨A2, c2, rfl, p1, p2, p3, p4, p5⟩, ⟨A3, c3, rfl, z1, z2, z3, z4⟩, hk⟩ := hv
  cases e1
  have hl : (m.nums.set i x).length = m.nums.length := by simp
  refine ⟨⟨_, k, by rw [hl], by rw [hl]; exact q1, q2, (fun h => by cases h), fun y hy => ?_, fun _ => ⟨b, off, rfl, fun j hj => ?_⟩⟩, ?_, ?_, hk⟩
  · rcases List.mem_or_eq_of_mem_set hy with h | rfl
    · exact q4 y h
    · exact hx
  · simp only at hj
    rw [hl] at hj
    rw [(cells_of h' (off + j)).1]
    have hci := hC i hi
    have hcl : off + i < C.size := (Array.getElem?_eq_some_iff.1 hci).1
    by_cases e : j = i
    · subst e
      simp [hcl, List.getD, hj]
    · have := hC j hj
      rw [Array.getElem?_setIfInBounds_ne (by omega), this]
      simp [List.getD, hj, Ne.symm e]
  · refine ⟨A2, c2, rfl, p1, p2, p3, p4, fun h => ?_⟩
    simp only [ha, List.length_nil] at h
    omega
  · refine ⟨A3, c3, rfl, ⟨z1.1, z1.2.1, fun h => ?_⟩, z2, z3, z4⟩
    simp only [hb, List.length_nil] at h
    omega
/-- with a number turned it isn't right -/
theorem forged {A B : Int} {NA : Nat} (oa : (newS A B NA).Ok) {k x : Nat} (hk : k < 4) (hx : x < 9223372036854775808) (hne : x ≠ ((newS A B NA).h3 ++ [1]).getD k 0) :
    Wi.may { helloM (newS A B NA) 1 with nums := (helloM (newS A B NA) 1).nums.set k x } = true ∧ checkM [helloX (newS A B NA)] { helloM (newS A B NA) 1 with nums := (helloM (newS A B NA) 1).nums.set k x } = false := by
  have hm1 := may_hello oa 1 (by omega)
  have hset : ∀ (l : List Nat) (h : l.length = 4), ∃ ns t, l = ns ++ [t] ∧ ns.length = 3 := fun l h => by
    match l, h with
    | [p, q, r, t], _ => exact ⟨[p, q, r], t, rfl, rfl⟩
  have hlen : (((newS A B NA).h3 ++ [1]).set k x).length = 4 := by simp [Sk.h3]
  obtain ⟨ns, t, hnt, hn3⟩ := hset _ hlen
  have hm : Wi.may (mg 1 (ns ++ [t]) []) = true := by
    refine may_mg (by rw [numsOf_1]; simp [hn3]) (by simp) (fun v hv => ?_)
    rw [← hnt] at hv
    rcases List.mem_or_eq_of_mem_set hv with h | rfl
    · exact (Wi.may_iff.1 hm1).2.2.2.1 v h
    · exact hx
  have em : ({ helloM (newS A B NA) 1 with nums := (helloM (newS A B NA) 1).nums.set k x } : Wi.Msg) = mg 1 (ns ++ [t]) [] := by
    show (⟨1, ((newS A B NA).h3 ++ [1]).set k x, [], []⟩ : Wi.Msg) = _
    rw [hnt]; rfl
  rw [em]
  refine ⟨hm, ?_⟩
  cases hc : checkM [helloX (newS A B NA)] (mg 1 (ns ++ [t]) []) with
  | false => rfl
  | true =>
    exfalso
    have hM := (check_iff (.inl rfl) hm (by omega)).1 hc
    have ht : t = 1 := by have h1 := hM.1; have h2 := hM.lt; simp at h2; omega
    subst ht
    have he : helloX (newS A B NA) = (((ns.getD 0 0 : Nat) : Int), txt0 1 ns []) := by have := hM.2; simpa using this
    have hb2 : Wi.bytes (mg 1 ((newS A B NA).h3 ++ [0]) []) = Wi.bytes (mg 1 (ns ++ [0]) []) := congrArg Prod.snd he
    have hm0 := may_hello oa 0 (by omega)
    have hm2 : Wi.may (mg 1 (ns ++ [0]) []) = true := by
      refine may_mg (by rw [numsOf_1]; simp [hn3]) (by simp) (fun v hv => ?_)
      rcases List.mem_append.1 hv with h | h
      · exact (Wi.may_iff.1 hm).2.2.2.1 v (List.mem_append_left _ h)
      · simp at h; omega
    have hi := Wi.bytes_inj (mg_wf hm0 (by simp)) (mg_wf hm2 (by simp)) hm0 hm2 hb2
    have hns : (newS A B NA).h3 ++ [0] = ns ++ [0] := congrArg Wi.Msg.nums hi
    have hns2 : (newS A B NA).h3 = ns := List.append_cancel_right hns
    rw [← hns2] at hnt
    have hgk : (((newS A B NA).h3 ++ [1]).set k x).getD k 0 = ((newS A B NA).h3 ++ [1]).getD k 0 := by rw [hnt]
    rw [List.getD, List.getD] at hgk
    have hkl : k < ((newS A B NA).h3 ++ [1]).length := by simp [Sk.h3]; omega
    rw [List.getElem?_set_self hkl] at hgk
    exact hne (by rw [List.getD]; simpa using hgk)
theorem hear_forged {L : List Item} {s : Sk} {m : Wi.Msg} (hm : Wi.may m = true) (hw : Wi.Wf m) (hc : checkM L m = false) : hearO s L (Wi.bytes m) = ⟨s, [], L⟩ := by
  unfold hearO
  rw [Wi.read_bytes hw hm]
  show hearM s L m = _
  unfold hearM
  rw [hc]
  simp
section
variable {w0 : World} {nb : Nat} {L : List Item} {R : Option (Nat × List Item)} {V V' : World} {ba bb Z : Nat} {a b : Sk} {hs : List (Nat × Obj)}
theorem Tw2.fresh {g : Nat} {o : Obj} (h : Tw2 w0 nb L R ba bb Z a b hs V) (hb : Below V.heap.size V V') (hg : V'.heap[g]? = some o) (hge : V.heap.size ≤ g) : Tw2 w0 nb L R ba bb Z a b ((g, o) :: hs) V' :=
  ⟨(h.sd.fresh hb hg hge).sub (fun p hp => by
    simp only [List.mem_cons] at hp ⊢
    rcases hp with h | h | h | h <;> simp [h]), h.la, h.lb, h.ab, h.za, h.zb, h.zm, fun p hp => by
      rcases List.mem_cons.1 hp with rfl | hp
      · have := h.zv; simp only; omega
      · exact h.hz p hp⟩
theorem Tw2.boxo {k : Nat} (h : Tw2 w0 nb L R ba bb Z a b hs V) (C : Array Value) (t : TypeId) (hk : k = V.heap.size) : Tw2 w0 nb L R ba bb Z a b ((k, .cells C t (0, 0)) :: hs) (V.alloc (.cells C t)) := by
  subst hk
  exact h.fresh ((Below.refl _ V).alloc (Nat.le_refl _) _) (World.alloc_heap_new V _) (Nat.le_refl _)
/-- a held block's cell is turned -/
theorem Tw2.seth {g j : Nat} {C : Array Value} {t : TypeId} {v : Value} (h : Tw2 w0 nb L R ba bb Z a b ((g, .cells C t (0, 0)) :: hs) V) (hn : ∀ p ∈ hs, p.1 ≠ g) : Tw2 w0 nb L R ba bb Z a b ((g, .cells (C.setIfInBounds j v) t (0, 0)) :: hs) (V.setCell ⟨g, j, none⟩ v) := by
  have hzg := h.hz _ (List.mem_cons_self)
  have hza := h.za; have hzb := h.zb; have hla := h.la
  simp only at hzg
  refine ⟨((h.sd.sub (os' := (g, .cells C t (0, 0)) :: (ba, sko a) :: (bb, sko b) :: hs) (fun p hp => by
    simp only [List.mem_cons] at hp ⊢
    rcases hp with h | h | h | h <;> simp [h])).store (j := j) (v := v) (fun p hp => by
      simp only [List.mem_cons] at hp
      rcases hp with rfl | rfl | hp
      · simp only; omega
      · simp only; omega
      · exact hn p hp) (by omega)).sub (fun p hp => by
        simp only [List.mem_cons] at hp ⊢
        rcases hp with h | h | h | h <;> simp [h]), h.la, h.lb, h.ab, h.za, h.zb, h.zm, fun p hp => by
        rcases List.mem_cons.1 hp with rfl | hp
        · exact hzg
        · exact h.hz p (List.mem_cons_of_mem _ hp)⟩
theorem fg_bytes {g off k : Nat} {x2 x3 : Value} {m : Wi.Msg} (h : Tw2 w0 nb L R ba bb Z a b hs V) (hv : MsgV V (.slice (some ⟨g, off, none⟩) 4 k) x2 x3 m) (hk : m.kind = 1) (hm : Wi.may m = true) :
    Calls Tryd.prog 21 #[.agg #[.int .i64 1, .slice (some ⟨g, off, none⟩) 4 k, x2, x3]] V fun e W' => ∃ gq c, e = .returned (.slice (some ⟨gq, 0, none⟩) (Wi.bytes m).length c) ∧ (Wi.bytes m).length ≤ c ∧ c ≤ maxLen ∧ Bts W' (some ⟨gq, 0, none⟩) (Wi.bytes m).length (Wi.bytes m) ∧ Tw2 w0 nb L R ba bb Z a b hs W' := by
  have := law_bytes m _ _ _ V hv h.sd.tbv hm
  rw [hk] at this
  refine this.mono fun e W' hq => ?_
  obtain ⟨gq, c, rfl, h1, h2, _, _, _, h3, h4⟩ := hq
  exact ⟨gq, c, rfl, h1, h2, h3, h.below h4⟩
theorem fg_hear {m : Wi.Msg} (h : Tw2 w0 nb L R ba bb Z a b hs V) (ok : b.Ok) (hL : L.length ≤ 1000000) (gq n c : Nat) (hb : Bts V (some ⟨gq, 0, none⟩) n (Wi.bytes m)) (h1 : n ≤ c) (h2 : c ≤ maxLen) (hm : Wi.may m = true) (hw : Wi.Wf m) (hc : checkM L m = false) :
    Calls Tryd.prog 16 #[.agg #[.int .i64 b.st, .int .i64 b.own, .int .i64 b.oth, .int .u64 (b.non : Int), .int .u64 (b.ech : Int)], .pointer (some ⟨nb, 0, none⟩), .slice (some ⟨gq, 0, none⟩) n c] V fun e W' => ∃ A2 c2, e = .returned (.tuple #[.agg #[.int .i64 b.st, .int .i64 b.own, .int .i64 b.oth, .int .u64 (b.non : Int), .int .u64 (b.ech : Int)], .slice A2 0 c2]) ∧ Tw2 w0 nb L R ba bb Z a b hs W' := by
  refine (hear_2 h b ok hL _ n c _ hb h1 h2 (fun e => by cases e) (by have := (Wi.bytes_len hm).2; omega) _ (hear_forged hm hw hc)).mono fun e W' hq => ?_
  obtain ⟨v, rfl, A2, c2, ho, rfl, _, _, _, _, ht⟩ := hq
  exact ⟨A2, c2, rfl, ht.subh (fun p hp => List.mem_append_right _ hp)⟩
/-- the box is filled -/
theorem Tw2.fill {g : Nat} (h : Tw2 w0 nb L R ba bb Z a b ((g, .cells #[.int .i64 0, .int .i64 0, .int .i64 0, .int .u64 0, .int .u64 0] 29 (0, 0)) :: hs) V) (hn : ∀ p ∈ hs, p.1 ≠ g) (s : Sk) : Tw2 w0 nb L R ba bb Z a b ((g, sko s) :: hs) (((((V.setCell ⟨g, 0, none⟩ (.int .i64 s.st)).setCell ⟨g, 1, none⟩ (.int .i64 s.own)).setCell ⟨g, 2, none⟩ (.int .i64 s.oth)).setCell ⟨g, 3, none⟩ (.int .u64 (s.non : Int))).setCell ⟨g, 4, none⟩ (.int .u64 (s.ech : Int))) := by
  have := ((((h.seth (j := 0) (v := .int .i64 s.st) hn).seth (j := 1) (v := .int .i64 s.own) hn).seth (j := 2) (v := .int .i64 s.oth) hn).seth (j := 3) (v := .int .u64 (s.non : Int)) hn).seth (j := 4) (v := .int .u64 (s.ech : Int)) hn
  exact this
end
theorem fg_facts {A B : Int} {NA : Nat} (oa : (newS A B NA).Ok) : ∃ z, callO (newS A B NA) [] = ⟨stA (newS A B NA), z, [helloX (newS A B NA)]⟩ ∧ Wi.read z = some (helloM (newS A B NA) 1) ∧ checkM [helloX (newS A B NA)] (helloM (newS A B NA) 1) = true ∧ z.length ≤ 1200 := by
  have l1 : mintL [] (helloX (newS A B NA)) = [helloX (newS A B NA)] := by simp [mintL]
  have t1 : tagL [] (helloX (newS A B NA)) = 1 := by simp [tagL]
  have hm1 := may_hello oa 1 (by omega)
  have e1 : helloL [] (newS A B NA) = [helloX (newS A B NA)] := l1
  refine ⟨helloB [] (newS A B NA), ?_, ?_, ?_, (sent_len oa (by simp)).2⟩
  · refine (if_pos rfl).trans ?_
    rw [e1]
    rfl
  · rw [helloB_eq, t1]
    exact Wi.read_bytes (mg_wf hm1 (by simp)) hm1
  · have h := Mt.new [] (helloX (newS A B NA))
    rw [l1, t1] at h
    refine (check_iff (.inl rfl) hm1 (by simp [Sk.h3])).2 ?_
    have hx : (((newS A B NA).h3.getD 0 0 : Nat) : Int) = (newS A B NA).own := by
      have h1 := oa.o1
      show (((newS A B NA).own.toNat : Nat) : Int) = _
      omega
    rw [hx]
    exact h
theorem fg_num {A B : Int} {NA : Nat} (oa : (newS A B NA).Ok) (r : Nat) (hr : r < 4) : (helloM (newS A B NA) 1).nums.getD r 0 < 9223372036854775808 := by
  have hm1 := may_hello oa 1 (by omega)
  refine (Wi.may_iff.1 hm1).2.2.2.1 _ ?_
  have hl : r < (helloM (newS A B NA) 1).nums.length := by show r < ((newS A B NA).h3 ++ [1]).length; simp [Sk.h3]; omega
  rw [List.getD, List.getElem?_eq_getElem hl]
  exact List.getElem_mem hl
theorem hello_own (A : Option Addr) (n c : Nat) (zs : List Int) (s : Sk) (w : World) (hb : Bts w A n zs) (h1 : n ≤ c) (h2 : c ≤ maxLen) (h3 : A = none → n = 0 ∧ c = 0) (hT : Tb w) (hz : zs.length ≤ 1000000) (hr : Wi.read zs = some (helloM s 1)) :
    Calls Tryd.prog 28 #[.slice A n c] w fun e w' => ∃ (b off k : Nat) (x2 x3 : Value) (C : Array Value), e = .returned (.tuple #[.agg #[.int .i64 1, .slice (some ⟨b, off, none⟩) 4 k, x2, x3], .int .i64 0]) ∧ MsgV w' (.slice (some ⟨b, off, none⟩) 4 k) x2 x3 (helloM s 1) ∧ Below w.heap.size w w' ∧ w.heap.size ≤ b ∧ w'.heap[b]? = some (.cells C 22 (0, 0)) ∧ ∀ j, j < 4 → C[off + j]? = some (.int .u64 ((helloM s 1).nums.getD j 0 : Nat)) :=
  law_own A n c zs (helloM s 1) w hb h1 h2 h3 hT hz hr (by show 0 < 4; omega)
theorem fg_msg {V : World} {b off k : Nat} {x2 x3 : Value} {C : Array Value} {s : Sk} (hv : MsgV V (.slice (some ⟨b, off, none⟩) 4 k) x2 x3 (helloM s 1)) (hC : ∀ j, j < 4 → C[off + j]? = some (.int .u64 ((helloM s 1).nums.getD j 0 : Nat))) {r x : Nat} (hr : r < 4) (hx : x < 9223372036854775808) (V' : World) (h' : V'.heap[b]? = some (.cells (C.setIfInBounds (off + r) (.int .u64 (x : Int))) 22 (0, 0))) :
    MsgV V' (.slice (some ⟨b, off, none⟩) 4 k) x2 x3 { helloM s 1 with nums := (helloM s 1).nums.set r x } := msg_set (m := helloM s 1) hv rfl rfl hr (by omega) hC h'
theorem fg_wf {s : Sk} {r x : Nat} (hm : Wi.may { helloM s 1 with nums := (helloM s 1).nums.set r x } = true) : Wi.Wf { helloM s 1 with nums := (helloM s 1).nums.set r x } := mg_wf (k := 1) (b := []) hm (by simp)
end Go.Proofs.YtdiilgedicfekaaDoor
