/-
  A gateway that hears bytes that are no request, and PCP's requests, in the words of the laws; and that begins anew. Conditions: the gateway stands; the bytes are held.
-/
import Derived.Test.YtemlnkcokeckmaaMh19
import Derived.Test.YtemlnkcokeckmaaMh21
import Derived.Test.YtemlnkcokeckmaaMh13
namespace Go.Proofs.Ytemlnkcokeckmaa
open Go.RowKit Go.Maps Go.ChangeMaps Go.MapKept
attribute [local go_sem] Oper.semAt_some
set_option linter.unusedVariables false
set_option linter.unusedSimpArgs false

theorem live_live (M : List Bn) (t : Int) : liveM (liveM M t) t = liveM M t := by unfold liveM; simp
theorem goes_to {n t : Int} (h : goes n t = true) : goes t t = true := by
  unfold goes at h ⊢
  simp only [Bool.and_eq_true, decide_eq_true_eq] at h ⊢
  omega
theorem goes_le {n t : Int} (h : goes n t = true) : n ≤ t ∧ t ≤ 1099511627776 := by
  unfold goes at h
  simp only [Bool.and_eq_true, decide_eq_true_eq] at h
  exact h
theorem ok_live {M : List Bn} (h : OkM M) (t : Int) : OkM (liveM M t) := ⟨Nat.le_trans (List.length_filter_le _ _) h.len, fun b hb => h.seen b (List.mem_filter.1 hb).1⟩
theorem srv_now {x : Bx} {most t : Int} {M : List Bn} {a : A2} {p s : Int} (hg : goes t t = true) : (srvS x most t M t a p s).now = t := by
  unfold srvS
  split
  · unfold dropS; rw [if_pos hg]
  · split
    · dsimp only; unfold askS; rw [if_pos hg]
    · dsimp only; unfold askS; rw [if_pos hg]
/-- what PCP's request is answered, and what it leaves, of bindings that are left at t -/
structure Pc where
  ans : Pp.Le
  f : Nf
  c : Nat
  M : List Bn
def pcpS (x : Bx) (most since : Int) (f : Nf) (c : Nat) (M : List Bn) (t : Int) (a : A2) (l : Pp.Le) (k : Int) : Pc :=
  if k ≠ a.1 then ⟨⟨2, l.ins, 0, 0, l.non, 12, epoV since t, 0⟩, f, c, M⟩
  else if (M.any (askF (a.1, l.ins)) && othB f (a.1, l.ins) l.non) = true then ⟨⟨2, l.ins, 0, 0, l.non, 2, epoV since t, 0⟩, f, c, M⟩
  else if (srvS x most t M t (a.1, l.ins) l.prt l.secs).port = 0 then
    ⟨⟨2, l.ins, (srvS x most t M t (a.1, l.ins) l.prt l.secs).port, (srvS x most t M t (a.1, l.ins) l.prt l.secs).secs, l.non, resV (srvS x most t M t (a.1, l.ins) l.prt l.secs).code 8 3, epoV since t, 0⟩, cutIf (srvS x most t M t (a.1, l.ins) l.prt l.secs).cut f (a.1, l.ins), c, (srvS x most t M t (a.1, l.ins) l.prt l.secs).M⟩
  else
    ⟨⟨2, l.ins, (srvS x most t M t (a.1, l.ins) l.prt l.secs).port, (srvS x most t M t (a.1, l.ins) l.prt l.secs).secs, l.non, resV (srvS x most t M t (a.1, l.ins) l.prt l.secs).code 8 3, epoV since t, x.host⟩, putF (cutIf (srvS x most t M t (a.1, l.ins) l.prt l.secs).cut f (a.1, l.ins)) (a.1, l.ins) l.non, c + 1, (srvS x most t M t (a.1, l.ins) l.prt l.secs).M⟩
section
variable {w0 V V' : World} {gb nb nm : Nat} {x : Bx} {most since now now' : Int} {av : Value} {f f' : Nf} {c c' : Nat} {M M' : List Bn} {os : List (Nat × Obj)} {p q : Bool}
theorem byPcp_yes (h : Gm w0 gb nb nm x most since av f c now (liveM M now) os V) (a : A2) (ha : isA a) {v : Value} {zs : List Int} {l : Pp.Le} {k : Int} (hr : Pp.Row V v zs) (hz : Pp.PAskOf zs l k) (h0 : 0 ≤ since) (h1 : since ≤ 1099511627776000) (ht0 : 0 ≤ now) (hx : OkB x) (hok : Okb x (liveM M now)) (hM : OkM (liveM M now)) (hg : goes now now = true) (hm : 1 ≤ most ∧ most ≤ 4294967295) (hc : c < maxLen) (hxo : 0 ≤ x.host ∧ x.host ≤ 4294967295) :
    Calls Try.prog 91 #[.pointer (some ⟨gb, 0, none⟩), .int .i64 now, adr a, v] V fun e V' => ∃ u, e = .returned u ∧ Pp.Row V' u (Pp.pansR (pcpS x most since f c (liveM M now) now a l k).ans) ∧
      Gm w0 gb nb nm x most since av (pcpS x most since f c (liveM M now) now a l k).f (pcpS x most since f c (liveM M now) now a l k).c now (pcpS x most since f c (liveM M now) now a l k).M os V' := by
  have ht1 := (goes_le hg).2
  unfold pcpS
  by_cases hk : k ≠ a.1
  · rw [if_pos hk]
    exact byPcp_other h now a ha hr hz h0 h1 ht0 ht1 hk
  · rw [if_neg hk]
    have hk : k = a.1 := by simpa using hk
    cases ho : ((liveM M now).any (askF (a.1, l.ins)) && othB f (a.1, l.ins) l.non) with
    | true =>
      rw [if_pos rfl]
      have := byPcp_held h now a ha hr hz h0 h1 ht0 ht1 hk hM hg (by rw [live_live]; exact ho)
      rw [live_live] at this
      exact this
    | false =>
      rw [if_neg (by simp)]
      by_cases hp : (srvS x most now (liveM M now) now (a.1, l.ins) l.prt l.secs).port = 0
      · rw [if_pos hp]
        have := byPcp_none h now a ha hr hz h0 h1 ht0 ht1 hk hx hok hM hg (by rw [live_live]; exact ho) hm (by rw [live_live]; exact hp)
        rw [live_live, srv_now hg] at this
        exact this
      · rw [if_neg hp]
        have := byPcp_some h now a ha hr hz h0 h1 ht0 ht1 hk hx hok hM hg (by rw [live_live]; exact ho) hm (by rw [live_live]; exact hp) hc hxo
        rw [live_live, srv_now hg] at this
        exact this
/-- what a gateway answers and leaves that hears PCP's request -/
def HearP (x : Bx) (most since now : Int) (f : Nf) (c : Nat) (M : List Bn) (t : Int) (a : A2) (l : Pp.Le) (k : Int) (r : List Int) (f' : Nf) (c' : Nat) (n' : Int) (M' : List Bn) : Prop :=
  ((goes now t && mayA a) = false ∧ r = [] ∧ f' = f ∧ c' = c ∧ n' = (inS x now M t 0 a).2.2.1 ∧ M' = (inS x now M t 0 a).2.2.2) ∨
  ((goes now t && mayA a) = true ∧ ¬ Pp.Pas l ∧ r = [] ∧ f' = keptF f (liveM M t) ∧ c' = c ∧ n' = t ∧ M' = liveM M t) ∨
  ((goes now t && mayA a) = true ∧ Pp.Pas l ∧ r = Pp.pansR (pcpS x most since (keptF f (liveM M t)) c (liveM M t) t a l k).ans ∧ f' = (pcpS x most since (keptF f (liveM M t)) c (liveM M t) t a l k).f ∧ c' = (pcpS x most since (keptF f (liveM M t)) c (liveM M t) t a l k).c ∧ n' = t ∧ M' = (pcpS x most since (keptF f (liveM M t)) c (liveM M t) t a l k).M)
theorem ver_pask {l : Pp.Le} {k : Int} (h : Pp.Pas l) : verL (Pp.paskR l k) = 2 := by
  unfold verL
  rw [Pp.paskR_len k h, if_neg (by decide), Pp.paskR_yes k h]
  rfl
theorem hear_pask (h : Gm w0 gb nb nm x most since av f c now M os V) (hx : OkB x) (hok : Okb x M) (hM : OkM M) (t : Int) (a : A2) (ha : isA a) (v : Value) (l : Pp.Le) (k : Int) (hl : Pp.isL l) (hkk : 0 ≤ k ∧ k < 4294967296) (han : An gb p true av os)
    (hrow : ∀ s' f' n' M' os1 W, Gm w0 gb nb nm x most s' av f' c n' M' os1 W → (∀ r ∈ os, r ∈ os1) → Pp.Row W v (Pp.paskR l k)) (h0 : 0 ≤ since) (h1 : since ≤ 1099511627776000) (ht0 : 0 ≤ t) (hm : 1 ≤ most ∧ most ≤ 4294967295) (hc : c < maxLen) (hxo : 0 ≤ x.host ∧ x.host ≤ 4294967295) :
    Calls Try.prog 32 #[.pointer (some ⟨gb, 0, none⟩), .int .i64 t, adr a, v] V fun e V' => ∃ u, e = .returned u ∧ ∃ r f' c' n' M', Pp.Row V' u r ∧ Gm w0 gb nb nm x most since av f' c' n' M' os V' ∧ HearP x most since now f c M t a l k r f' c' n' M' := by
  cases hb : (goes now t && mayA a) with
  | false =>
    refine (hear_bad h hM t a ha v hb).mono fun e V' hq => ?_
    exact ⟨_, hq.1, [], _, _, _, _, row_nil V', hq.2, .inl ⟨hb, rfl, rfl, rfl, rfl, rfl⟩⟩
  | true =>
    have hg : goes now t = true := by rw [Bool.and_eq_true] at hb; exact hb.1
    have ht1 : t ≤ 1099511627776 := (goes_le hg).2
    refine hear_tell h hM t a ha v (Pp.paskR l k) hb (Pp.paskR_bd l k hl hkk) han (fun f' n' M' W hW => hrow _ f' n' M' _ W hW (fun r hr => hr)) _ ?_
    by_cases hp : Pp.Pas l
    · have e2 : kAt p true (verL (Pp.paskR l k)) = some 91 := by rw [ver_pask hp]; unfold kAt kOf2; simp
      rw [e2]
      intro W os' hW
      refine (byPcp_yes (f := keptF f (liveM M t)) hW a ha (hrow _ _ _ _ _ W hW (fun r hr => List.mem_append_right _ hr)) ⟨hl, hkk, hp, rfl⟩ h0 h1 ht0 hx (hok.live t) (ok_live hM t) (goes_to hg) hm hc hxo).mono fun e V' hq => ?_
      obtain ⟨u, q1, q2, q3⟩ := hq
      exact ⟨u, q1, _, _, _, _, _, q2, q3.sub (fun r hr => List.mem_append_right _ hr), .inr (.inr ⟨hb, hp, rfl, rfl, rfl, rfl, rfl⟩)⟩
    · have e : Pp.paskR l k = [] := Pp.paskR_no k hp
      have e2 : kAt p true (verL (Pp.paskR l k)) = none := by rw [e, ver_nil]; unfold kAt; simp
      rw [e2]
      exact fun W hW => ⟨[], _, _, _, _, row_nil W, hW, .inr (.inl ⟨hb, hp, rfl, rfl, rfl, rfl, rfl⟩)⟩
/-- PCP's request, made and held -/
theorem pask_gm (h : Gm w0 gb nb nm x most since av f c now M os V) (l : Pp.Le) (hl : Pp.isL l) (k : Int) (hk : 0 ≤ k ∧ k < 4294967296) :
    Calls Try.prog 36 #[Pp.leV l, .int .u32 k] V fun e V' => ∃ u OB, e = .returned u ∧ Gm w0 gb nb nm x most since av f c now M (OB ++ os) V' ∧ (∀ s' f' c' n' M' os1 W, Gm w0 gb nb nm x most s' av f' c' n' M' os1 W → (∀ r ∈ OB, r ∈ os1) → Pp.Row W u (Pp.paskR l k)) := by
  refine (Pp.pask_any l k V hl hk).mono fun e V' ⟨u, h1, h2, h3⟩ => ?_
  have ho := h2
  rcases ho.2 with hn | ⟨g, cap, cur, rfl, hg, hobj, hrest⟩
  · refine ⟨u, [], h1, h.below h3, fun s' f' c' n' M' os1 W hW _ => ?_⟩
    have h0 : Pp.paskR l k = [] := List.eq_nil_of_length_eq_zero hn.2
    rw [h0, hn.1]
    exact row_nil W
  · refine ⟨_, [(g, .cells cur 5 (0, 0))], h1, h.fresh h3 hg hobj, fun s' f' c' n' M' os1 W hW hs => ?_⟩
    have hk2 := hW.held (hs (g, .cells cur 5 (0, 0)) (by simp))
    exact .own (b := 0) ⟨ho.1, .inr ⟨g, cap, cur, rfl, Nat.zero_le _, hk2, hrest⟩⟩ (Pp.paskR_bd l k hl hk)
/-- bytes that are no request -/
def DeafR (x : Bx) (q : Bool) (since now : Int) (M : List Bn) (t : Int) (a : A2) (zs r : List Int) (n' : Int) (M' : List Bn) : Prop :=
  ((goes now t && mayA a) = false ∧ r = [] ∧ n' = (inS x now M t 0 a).2.2.1 ∧ M' = (inS x now M t 0 a).2.2.2) ∨
  ((goes now t && mayA a) = true ∧ ¬ (q = false ∧ verL zs = 2) ∧ r = [] ∧ n' = t ∧ M' = liveM M t) ∨
  ((goes now t && mayA a) = true ∧ q = false ∧ verL zs = 2 ∧ r = Pp.ansR ⟨0, 0, 0, 0, 0, 1, epoV since t, 0⟩ true ∧ n' = t ∧ M' = liveM M t)
theorem hear_weak (h : Gm w0 gb nb nm x most since av f c now M os V) (hx : OkB x) (hok : Okb x M) (hM : OkM M) (t : Int) (a : A2) (ha : isA a) (v : Value) (zs : List Int) (han : An gb true q av os) (hbd : Pp.Bd zs)
    (hrow : ∀ f' n' M' W, Gm w0 gb nb nm x most since av f' c n' M' os W → Pp.Row W v zs) (h0 : 0 ≤ since) (h1 : since ≤ 1099511627776000) (ht0 : 0 ≤ t) (hm : 1 ≤ most ∧ most ≤ 4294967295) (hc : c < maxLen) (hxo : 0 ≤ x.host ∧ x.host ≤ 4294967295) :
    Calls Try.prog 32 #[.pointer (some ⟨gb, 0, none⟩), .int .i64 t, adr a, v] V fun e V' => ∃ u, e = .returned u ∧ ∃ r f' c' n' M', Pp.Row V' u r ∧ Gm w0 gb nb nm x most since av f' c' n' M' os V' ∧ ((∀ l hh, ¬ Pp.AskOf zs l hh) → (∀ l k, ¬ Pp.PAskOf zs l k) → DeafR x q since now M t a zs r n' M') := by
  cases hb : (goes now t && mayA a) with
  | false =>
    refine (hear_bad h hM t a ha v hb).mono fun e V' hq => ?_
    exact ⟨_, hq.1, [], _, _, _, _, row_nil V', hq.2, fun _ _ => .inl ⟨hb, rfl, rfl, rfl⟩⟩
  | true =>
    have hg : goes now t = true := by rw [Bool.and_eq_true] at hb; exact hb.1
    have ht1 : t ≤ 1099511627776 := (goes_le hg).2
    refine hear_tell h hM t a ha v zs hb hbd han hrow _ ?_
    by_cases z0 : verL zs = 0
    · have e2 : kAt true q (verL zs) = some 90 := by rw [z0]; unfold kAt kOf0; simp
      rw [e2]
      intro W os' hW
      have hr := hrow _ _ _ W (hW.sub (fun r hr => List.mem_append_right _ hr))
      by_cases hz : ∃ l hh, Pp.AskOf zs l hh
      · obtain ⟨l, hh, hz⟩ := hz
        cases hh with
        | true =>
          have e := Pp.askB_host hz.1
          subst e
          refine (byPmp_host hW t a hr hz h0 h1 ht0 ht1 ⟨hxo.1, by omega⟩).mono fun e V' hq => ?_
          obtain ⟨u, q1, q2, q3⟩ := hq
          exact ⟨u, q1, _, _, _, _, _, q2, q3.sub (fun r hr => List.mem_append_right _ hr), fun hn => absurd hz (hn _ _)⟩
        | false =>
          refine (byPmp_port hW hx (hok.live t) (ok_live hM t) t a ha hr hz h0 h1 ht0 ht1 hm).mono fun e V' hq => ?_
          obtain ⟨u, q1, q2, q3⟩ := hq
          exact ⟨u, q1, _, _, _, _, _, q2, q3.sub (fun r hr => List.mem_append_right _ hr), fun hn => absurd hz (hn _ _)⟩
      · refine (byPmp_not hW t a hr (fun l hh hc => hz ⟨l, hh, hc⟩)).mono fun e V' hq => ?_
        exact ⟨_, hq.1, [], _, _, _, _, row_nil V', hq.2.sub (fun r hr => List.mem_append_right _ hr), fun _ _ => .inr (.inl ⟨hb, by omega, rfl, rfl, rfl⟩)⟩
    · by_cases z2 : verL zs = 2
      · cases q with
        | false =>
          have e2 : kAt true false (verL zs) = some 92 := by rw [z2]; unfold kAt kOf2; simp
          rw [e2]
          intro W os' hW
          refine (pmpAlone_gm hW t a v h0 h1 ht0 ht1).mono fun e V' hq => ?_
          obtain ⟨u, q1, q2, q3⟩ := hq
          exact ⟨u, q1, _, _, _, _, _, q2, q3.sub (fun r hr => List.mem_append_right _ hr), fun _ _ => .inr (.inr ⟨hb, rfl, z2, rfl, rfl, rfl⟩)⟩
        | true =>
          have e2 : kAt true true (verL zs) = some 91 := by rw [z2]; unfold kAt kOf2; simp
          rw [e2]
          intro W os' hW
          have hr := hrow _ _ _ W (hW.sub (fun r hr => List.mem_append_right _ hr))
          by_cases hz : ∃ l k, Pp.PAskOf zs l k
          · obtain ⟨l, k, hz⟩ := hz
            refine (byPcp_yes (f := keptF f (liveM M t)) hW a ha hr hz h0 h1 ht0 hx (hok.live t) (ok_live hM t) (goes_to hg) hm hc hxo).mono fun e V' hq => ?_
            obtain ⟨u, q1, q2, q3⟩ := hq
            exact ⟨u, q1, _, _, _, _, _, q2, q3.sub (fun r hr => List.mem_append_right _ hr), fun _ hn => absurd hz (hn _ _)⟩
          · refine (byPcp_not hW t a hr (fun l k hc => hz ⟨l, k, hc⟩)).mono fun e V' hq => ?_
            exact ⟨_, hq.1, [], _, _, _, _, row_nil V', hq.2.sub (fun r hr => List.mem_append_right _ hr), fun _ _ => .inr (.inl ⟨hb, by simp, rfl, rfl, rfl⟩)⟩
      · have e2 : kAt true q (verL zs) = none := by unfold kAt; simp [z0, z2]
        rw [e2]
        exact fun W hW => ⟨[], _, _, _, _, row_nil W, hW, fun _ _ => .inr (.inl ⟨hb, fun e => z2 e.2, rfl, rfl, rfl⟩)⟩
/-- the map of numbers is cleared -/
theorem Gm.wipe (h : Gm w0 gb nb nm x most since av f c now M os V) : ∃ W', (Builtin.clear_ #[114] 0 #[.map (some nm)]).run Try.prog V = .ok (.tuple #[]) W' ∧ Gm w0 gb nb nm x most since av f0 c now M os W' := by
  obtain ⟨D, hD, hN⟩ := h.map
  obtain ⟨es, clk, hb, F, hs, _⟩ := hD
  have hr : (Builtin.clear_ #[114] 0 #[.map (some nm)]).run Try.prog V = .ok (.tuple #[]) (setBlock V nm (.map #[] clk)) := by
    simp [Builtin.clear_, run_underlying Try.underlying114, MapKept.run_getObj_map hb, MapKept.run_setObj_map _ hb, Result.andThen, setBlock]
  have hn : (setBlock V nm (.map #[] clk)).ownsMap Try.prog 38 (plainElem (H := Unit) Try.prog 62) nm c (.map []) := ⟨#[], clk, heap_setBlock_same hb _, ⟨by simp, stamped_empty clk, by simp⟩, Nat.zero_le _, rfl⟩
  have ht : V.mapTurned (setBlock V nm (.map #[] clk)) nm := ⟨es, clk, #[], clk, hb, rfl⟩
  exact ⟨_, hr, h.turn ht.grown hn Nn.nil⟩
set_option maxHeartbeats 4000000 in
/-- it begins anew -/
theorem greboot_gm (h : Gm w0 gb nb nm x most since av f c now M os V) (t : Int) :
    Calls Try.prog 37 #[.pointer (some ⟨gb, 0, none⟩), .int .i64 t] V fun e V' => e = .returned (.tuple #[]) ∧ Gm w0 gb nb nm x most t av f0 c 0 [] os V' := by
  have HR := Lib.hid (h.prog (now' := 0) (M' := []) fun os' hp => reboot_pl hp)
  obtain ⟨⟨c0, c1, c2, c3, c4⟩, cf, cl⟩ := h.cells
  clear h
  go_enter Try.func37, Try.ntmps37
  go_wp2_with fail
  refine HR.out.mono ?_
  rintro e V1 ⟨rfl, hg1⟩
  clear c0 c1 c2 c3 c4 cf cl
  obtain ⟨⟨c0, c1, c2, c3, c4⟩, cf, cl⟩ := hg1.cells
  have hg2 := hg1.born t
  obtain ⟨⟨d0, d1, d2, d3, d4⟩, df, dl⟩ := hg2.cells
  obtain ⟨W', hrun, hg3⟩ := hg2.wipe
  have HG3 := Lib.hid hg3
  clear hg1 hg2 hg3
  go_wp2
  go_end0
  exact ⟨rfl, HG3.out⟩
end
end Go.Proofs.Ytemlnkcokeckmaa
