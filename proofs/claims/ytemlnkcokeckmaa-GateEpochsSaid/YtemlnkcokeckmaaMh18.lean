/-
  Contracts of gate's resultOf, serve and isOthers. Conditions: the gateway stands.
-/
import Derived.Test.YtemlnkcokeckmaaMh15
import Derived.Test.YtemlnkcokeckmaaMh17
import Derived.Deep.QuietTactic
namespace Go.Proofs.Ytemlnkcokeckmaa
open Go.RowKit Go.Maps
attribute [local go_sem] Oper.semAt_some
set_option linter.unusedVariables false
set_option linter.unusedSimpArgs false

def resV (code full arg : Int) : Int := if code = 10 then full else if code = 1 then arg else 0
theorem resultOf_any (code full arg : Int) (w : World) : Calls Try.prog 115 #[.int .i64 code, .int .i64 full, .int .i64 arg] w fun e w' => e = .returned (.int .i64 (resV code full arg)) ∧ w = w' := by
  by_cases h1 : code = 10
  · have HR : Hid (resV code full arg = full) := Lib.hid (by unfold resV; rw [if_pos h1])
    subst h1
    go_enter Try.func115, Try.ntmps115
    go_wp2
    go_ret
    exact ⟨ret_i HR.out.symm, rfl⟩
  · by_cases h2 : code = 1
    · have HR : Hid (resV code full arg = arg) := Lib.hid (by unfold resV; rw [if_neg h1, if_pos h2])
      subst h2
      go_enter Try.func115, Try.ntmps115
      go_wp2
      go_ret
      exact ⟨ret_i HR.out.symm, rfl⟩
    · have HR : Hid (resV code full arg = 0) := Lib.hid (by unfold resV; rw [if_neg h1, if_neg h2])
      have b1 : (code == 10) = false := by simpa using h1
      have b2 : (code == 1) = false := by simpa using h2
      go_enter Try.func115, Try.ntmps115
      go_wp2
      go_ret
      exact ⟨ret_i HR.out.symm, rfl⟩
/-- what serve answers: the port, the seconds, the code; is the number struck; what is left -/
structure Srv where
  port : Int
  secs : Int
  code : Int
  cut : Bool
  now : Int
  M : List Bn
def srvS (x : Bx) (most now : Int) (M : List Bn) (t : Int) (a : A2) (prt secs : Int) : Srv :=
  if min secs most = 0 then ⟨0, 0, 0, true, (dropS now M t a).2.1, (dropS now M t a).2.2⟩
  else if (askS x now M t a prt (t + min secs most)).2.1 = 0 then ⟨(askS x now M t a prt (t + min secs most)).1, min secs most, 0, true, (askS x now M t a prt (t + min secs most)).2.2.1, (askS x now M t a prt (t + min secs most)).2.2.2⟩
  else ⟨0, 0, (askS x now M t a prt (t + min secs most)).2.1, false, (askS x now M t a prt (t + min secs most)).2.2.1, (askS x now M t a prt (t + min secs most)).2.2.2⟩
def cutIf (s : Bool) (f : Nf) (a : A2) : Nf := if s then delF f a else f
section
variable {w0 V V' : World} {gb nb nm : Nat} {x : Bx} {most since now now' : Int} {av : Value} {f f' : Nf} {c c' : Nat} {M M' : List Bn} {os : List (Nat × Obj)}
theorem Gm.del (h : Gm w0 gb nb nm x most since av f c now M os V) (a : A2) (ha : isA a) : ∃ W', (Builtin.delete_ #[114, 38] 0 #[.map (some nm), adr a]).run Try.prog V = .ok (.tuple #[]) W' ∧ Gm w0 gb nb nm x most since av (delF f a) c now M os W' := by
  obtain ⟨D, hD, hN⟩ := h.map
  obtain ⟨W', h1, h2, h3⟩ := hD.drop lawA Try.underlying114 (keyA_mk ha) 0
  exact ⟨W', h1, h.turn h3.grown h2 (hN.del ha)⟩
set_option maxRecDepth 100000 in
set_option maxHeartbeats 8000000 in
theorem serve_gm (h : Gm w0 gb nb nm x most since av f c now M os V) (hx : OkB x) (hM : OkM M) (t : Int) (a : A2) (ha : isA a) (l : Pp.Le) (hl : Pp.isL l) (ht0 : 0 ≤ t) (ht1 : t ≤ 1099511627776) (hs : 0 ≤ l.secs ∧ l.secs ≤ 4294967295) (hm : 1 ≤ most ∧ most ≤ 4294967295) :
    Calls Try.prog 114 #[.pointer (some ⟨gb, 0, none⟩), .int .i64 t, adr a, Pp.leV l] V fun e V' => e = .returned (.tuple #[.int .i64 (srvS x most now M t a l.prt l.secs).port, .int .i64 (srvS x most now M t a l.prt l.secs).secs, .int .i64 (srvS x most now M t a l.prt l.secs).code]) ∧
      Gm w0 gb nb nm x most since av (cutIf (srvS x most now M t a l.prt l.secs).cut f a) c (srvS x most now M t a l.prt l.secs).now (srvS x most now M t a l.prt l.secs).M os V' := by
  have HDEL : Hid (∀ n' M' os' W, Gm w0 gb nb nm x most since av f c n' M' os' W → ∃ W', (Builtin.delete_ #[114, 38] 0 #[.map (some nm), adr a]).run Try.prog W = .ok (.tuple #[]) W' ∧ Gm w0 gb nb nm x most since av (delF f a) c n' M' os' W') := Lib.hid (fun n' M' os' W hW => hW.del a ha)
  have HDR : Hid (∀ os' W, Gm w0 gb nb nm x most since av f c now M os' W → Calls Try.prog 23 #[.pointer (some ⟨nb, 0, none⟩), .int .i64 t, adr a] W fun e V' => e = .returned (.bool (dropS now M t a).1) ∧ Gm w0 gb nb nm x most since av f c (dropS now M t a).2.1 (dropS now M t a).2.2 os' V') := Lib.hid (fun os' W hW => hW.prog fun os2 hp => drop_pl hp hM t a)
  have HAS : Hid (∀ os' W, Gm w0 gb nb nm x most since av f c now M os' W → Calls Try.prog 21 #[.pointer (some ⟨nb, 0, none⟩), .int .i64 t, adr a, .int .i64 l.prt, .int .i64 (t + min l.secs most)] W fun e V' => e = .returned (ansI (askS x now M t a l.prt (t + min l.secs most)).1 (askS x now M t a l.prt (t + min l.secs most)).2.1) ∧ Gm w0 gb nb nm x most since av f c (askS x now M t a l.prt (t + min l.secs most)).2.2.1 (askS x now M t a l.prt (t + min l.secs most)).2.2.2 os' V') := Lib.hid (fun os' W hW => hW.prog fun os2 hp => ask_pl hp hx hM t a l.prt (t + min l.secs most) ha)
  obtain ⟨LO, hLO⟩ : ∃ o : Nat × Obj, o = (V.heap.size + 1, .cells (Pp.leA l) 64 (0, 0)) := ⟨_, rfl⟩
  obtain ⟨AO, hAO⟩ : ∃ o : Nat × Obj, o = (V.heap.size, .cells #[.int .u32 a.1, .int .i64 a.2] 38 (0, 0)) := ⟨_, rfl⟩
  have hbox := (h.box (k := V.heap.size) #[.int .u32 a.1, .int .i64 a.2] 38 rfl).box (k := V.heap.size + 1) (Pp.leA l) 64 (by simp)
  rw [← hLO, ← hAO] at hbox
  have HCELL : Hid (∀ ff n' M' W, Gm w0 gb nb nm x most since av ff c n' M' [LO, AO] W ∨ Gm w0 gb nb nm x most since av ff c n' M' (LO :: AO :: os) W → (W.cell? ⟨V.heap.size, 0, none⟩ = some (.int .u32 a.1) ∧ W.cell? ⟨V.heap.size, 1, none⟩ = some (.int .i64 a.2)) ∧ V.heap.size < W.heap.size) := Lib.hid (fun ff n' M' W hW => by
    rcases hW with hW | hW
    · have e := fun j => (hW.cellsOf (b := V.heap.size) (C := #[.int .u32 a.1, .int .i64 a.2]) (t := 38) (by rw [hAO]; simp) j).1
      exact ⟨⟨e 0, e 1⟩, hW.lt (p := AO) (by simp) |> fun q => by rw [hAO] at q; exact q⟩
    · have e := fun j => (hW.cellsOf (b := V.heap.size) (C := #[.int .u32 a.1, .int .i64 a.2]) (t := 38) (by rw [hAO]; simp) j).1
      exact ⟨⟨e 0, e 1⟩, hW.lt (p := AO) (by simp) |> fun q => by rw [hAO] at q; exact q⟩)
  have HL := Lib.hid hbox
  obtain ⟨⟨c0, c1, c2, c3, c4⟩, cf, cl⟩ := hbox.cells
  obtain ⟨⟨b0, b1⟩, bl⟩ := HCELL.out _ _ _ _ (.inr hbox)
  have hlc := fun j => (hbox.cellsOf (b := V.heap.size + 1) (C := Pp.leA l) (t := 64) (by rw [hLO]; simp) j).1
  have l2 := hlc 2
  have l3 := hlc 3
  have ll : V.heap.size + 1 < ((V.alloc (.cells #[.int .u32 a.1, .int .i64 a.2] 38)).alloc (.cells (Pp.leA l) 64)).heap.size := by simp
  clear hbox hlc h hLO hAO
  obtain ⟨V1, hV1⟩ : ∃ V1, ((V.alloc (.cells #[.int .u32 a.1, .int .i64 a.2] 38)).alloc (.cells (Pp.leA l) 64)) = V1 := ⟨_, rfl⟩
  rw [hV1] at HL c0 c1 c2 c3 c4 cf cl b0 b1 bl l2 l3 ll
  unfold Pp.leA at l2 l3 hV1
  simp only [List.getElem?_toArray, List.getElem?_cons_zero, List.getElem?_cons_succ] at l2 l3
  unfold Pp.leV Pp.leA
  unfold adr at HDEL HDR HAS ⊢
  go_enter Try.func114, Try.ntmps114
  go_upto_region 1 with (fail)
  go_quiet (fail)
  obtain ⟨s, hsE⟩ : ∃ s, min l.secs most = s := ⟨_, rfl⟩
  rw [hsE] at HAS ⊢
  have hs0 : 0 ≤ s ∧ s ≤ 4294967295 := by omega
  have hadd : IntKind.i64.wrap (t + s) = t + s := by simp [IntKind.wrap, IntKind.bits, IntKind.signed]; omega
  have HSE := Lib.hid hsE
  clear hsE
  by_cases hz : s = 0
  · subst hz
    have HSV : Hid (srvS x most now M t a l.prt l.secs = ⟨0, 0, 0, true, (dropS now M t a).2.1, (dropS now M t a).2.2⟩) := Lib.hid (by unfold srvS; rw [if_pos HSE.out])
    have HDQ : Hid (∀ q r, Gm w0 gb nb nm x most since av f c now M (LO :: AO :: os) (V1.drewN (q + r))) := Lib.hid (fun q r => HL.out.drewN (q + r))
    have HDX := Lib.hid (HDR.out (LO :: AO :: os))
    clear HDR HAS HSE
    go_upto_region 3 with (fail)
    go_region_with (go_at_call 23; (refine (HDX.out _ ?_).mono ?_; exact HDQ.out _ _; rintro e W3 ⟨rfl, hg3⟩; have HG3 := Lib.hid hg3; clear hg3))
    all_goals (
      clear c0 c1 c2 c3 c4 cf cl b0 b1 bl l2 l3 ll
      try simp only [Act.put, List.getElem_toArray, List.getElem_cons_zero, List.getElem_cons_succ, List.setIfInBounds_toArray, List.set_cons_zero, List.set_cons_succ]
      obtain ⟨⟨c0, c1, c2, c3, c4⟩, cf, cl⟩ := HG3.out.cells
      obtain ⟨⟨b0, b1⟩, bl⟩ := HCELL.out _ _ _ _ (.inr HG3.out)
      obtain ⟨W', hrun, hG'⟩ := HDEL.out _ _ _ W3.drew (HG3.out.drewN 1)
      have HG' := Lib.hid hG'
      clear hG'
      go_upto_region 7 with (fail)
      go_region_with (fail)
      all_goals (
        try simp only [Act.put, List.getElem_toArray, List.getElem_cons_zero, List.getElem_cons_succ, List.setIfInBounds_toArray, List.set_cons_zero, List.set_cons_succ]
        go_wp2
        refine ⟨rfl, .tuple #[.int .i64 0, .int .i64 0, .int .i64 0], by simp [results, Try.results114, go_sem], ?_⟩
        rw [HSV.out]
        exact ⟨rfl, HG'.out.sub (fun p hp => by simp [hp])⟩))
  · have hzb : (s == 0) = false := by simpa using hz
    have HSV : Hid (srvS x most now M t a l.prt l.secs = if (askS x now M t a l.prt (t + s)).2.1 = 0 then ⟨(askS x now M t a l.prt (t + s)).1, s, 0, true, (askS x now M t a l.prt (t + s)).2.2.1, (askS x now M t a l.prt (t + s)).2.2.2⟩ else ⟨0, 0, (askS x now M t a l.prt (t + s)).2.1, false, (askS x now M t a l.prt (t + s)).2.2.1, (askS x now M t a l.prt (t + s)).2.2.2⟩) := Lib.hid (by unfold srvS; rw [HSE.out, if_neg hz])
    have HDQ : Hid (∀ q r, Gm w0 gb nb nm x most since av f c now M (LO :: AO :: os) (V1.drewN (q + r))) := Lib.hid (fun q r => HL.out.drewN (q + r))
    have HAX := Lib.hid (HAS.out (LO :: AO :: os))
    generalize askS x now M t a l.prt (t + s) = R at HAX HSV
    obtain ⟨r1, rc, rn, rM⟩ := R
    dsimp only at HAX HSV
    unfold ansI at HAX
    clear HDR HAS HSE
    go_upto_region 4 with (fail)
    go_region_with (go_at_call 21; (refine (HAX.out _ ?_).mono ?_; exact HDQ.out _ _; rintro e W3 ⟨rfl, hg3⟩; have HG3 := Lib.hid hg3; clear hg3))
    all_goals (
      clear c0 c1 c2 c3 c4 cf cl b0 b1 bl l2 l3 ll
      try simp only [Act.put, List.getElem_toArray, List.getElem_cons_zero, List.getElem_cons_succ, List.setIfInBounds_toArray, List.set_cons_zero, List.set_cons_succ]
      obtain ⟨⟨c0, c1, c2, c3, c4⟩, cf, cl⟩ := HG3.out.cells
      obtain ⟨⟨b0, b1⟩, bl⟩ := HCELL.out _ _ _ _ (.inr HG3.out)
      by_cases hrc : rc = 0
      · have HS2 : Hid (srvS x most now M t a l.prt l.secs = ⟨r1, s, 0, true, rn, rM⟩) := Lib.hid (by rw [HSV.out, if_pos hrc])
        subst hrc
        obtain ⟨W', hrun, hG'⟩ := HDEL.out _ _ _ W3.drew (HG3.out.drewN 1)
        have HG' := Lib.hid hG'
        clear hG'
        go_upto_region 7 with (fail)
        go_region_with (fail)
        all_goals (
          try simp only [Act.put, List.getElem_toArray, List.getElem_cons_zero, List.getElem_cons_succ, List.setIfInBounds_toArray, List.set_cons_zero, List.set_cons_succ]
          go_wp2
          refine ⟨rfl, .tuple #[.int .i64 r1, .int .i64 s, .int .i64 0], by simp [results, Try.results114, go_sem], ?_⟩
          rw [HS2.out]
          exact ⟨rfl, HG'.out.sub (fun p hp => by simp [hp])⟩)
      · have HS2 : Hid (srvS x most now M t a l.prt l.secs = ⟨0, 0, rc, false, rn, rM⟩) := Lib.hid (by rw [HSV.out, if_neg hrc])
        have hrb : (rc != 0) = true := by simpa using hrc
        go_wp2
        refine ⟨rfl, .tuple #[.int .i64 0, .int .i64 0, .int .i64 rc], by simp [results, Try.results114, go_sem], ?_⟩
        rw [HS2.out]
        exact ⟨rfl, HG3.out.sub (fun p hp => by simp [hp])⟩)
/-- is one's number another one -/
def othB (f : Nf) (a : A2) (n : Int) : Bool := match f a with
  | some v => v != n
  | none => true
set_option maxRecDepth 100000 in
set_option maxHeartbeats 8000000 in
theorem isOthers_gm (h : Gm w0 gb nb nm x most since av f c now M os V) (hM : OkM M) (t : Int) (a : A2) (ha : isA a) (n : Int) (hg : goes now t = true) :
    Calls Try.prog 117 #[.pointer (some ⟨gb, 0, none⟩), .int .i64 t, adr a, .int .u64 n] V fun e V' => e = .returned (.bool ((liveM M t).any (askF a) && othB f a n)) ∧ Gm w0 gb nb nm x most since av f c t (liveM M t) os V' := by
  obtain ⟨AO, hAO⟩ : ∃ o : Nat × Obj, o = (V.heap.size, .cells #[.int .u32 a.1, .int .i64 a.2] 38 (0, 0)) := ⟨_, rfl⟩
  have hbox := h.box (k := V.heap.size) #[.int .u32 a.1, .int .i64 a.2] 38 rfl
  rw [← hAO] at hbox
  have HCELL : Hid (∀ n' M' W, Gm w0 gb nb nm x most since av f c n' M' (AO :: os) W → (W.cell? ⟨V.heap.size, 0, none⟩ = some (.int .u32 a.1) ∧ W.cell? ⟨V.heap.size, 1, none⟩ = some (.int .i64 a.2)) ∧ V.heap.size < W.heap.size) := Lib.hid (fun n' M' W hW => by
    have e := fun j => (hW.cellsOf (b := V.heap.size) (C := #[.int .u32 a.1, .int .i64 a.2]) (t := 38) (by rw [hAO]; simp) j).1
    exact ⟨⟨e 0, e 1⟩, hW.lt (p := AO) (by simp) |> fun q => by rw [hAO] at q; exact q⟩)
  have HL := Lib.hid hbox
  have HLN : Hid ((liveM M t).length ≤ 100) := Lib.hid (Nat.le_trans (List.length_filter_le _ _) hM.len)
  have HAL : Hid (∀ W, Gm w0 gb nb nm x most since av f c now M (AO :: os) W → Calls Try.prog 27 #[.pointer (some ⟨nb, 0, none⟩), .int .i64 t] W fun e V' => (∃ v l', e = .returned v ∧ l'.Perm (liveM M t) ∧ IsBs V' v l') ∧ Gm w0 gb nb nm x most since av f c t (liveM M t) (AO :: os) V') := Lib.hid (fun W hW => all_gm hW hM t hg)
  obtain ⟨⟨c0, c1, c2, c3, c4⟩, cf, cl⟩ := hbox.cells
  obtain ⟨⟨b0, b1⟩, bl⟩ := HCELL.out _ _ _ hbox
  -- what the map says
  obtain ⟨D, hD, hN⟩ := hbox.map
  have hlook : ∃ (v : Int) (k : Bool), (Instr.lookup 114 (.map (some nm)) (adr a) true).run Try.prog (V.alloc (.cells #[.int .u32 a.1, .int .i64 a.2] 38)).drew = .ok (.tuple #[.int .u64 v, .bool k]) (V.alloc (.cells #[.int .u32 a.1, .int .i64 a.2] 38)).drew ∧ othB f a n = (!k || (v != n)) := by
    have hz : (zeroValue 62).run Try.prog (V.alloc (.cells #[.int .u32 a.1, .int .i64 a.2] 38)).drew = .ok (.int .u64 0) (V.alloc (.cells #[.int .u32 a.1, .int .i64 a.2] 38)).drew := by kernel_rfl
    obtain ⟨v, ps, e1, e2⟩ := hD.drew.look_ok lawA Try.underlying114 hz (plainElem_int Try.underlying62 (by decide)) (keyA_mk ha)
    obtain ⟨k, rfl, e3, _⟩ := plainElem_int_inv Try.underlying62 e2
    refine ⟨k, _, e1, ?_⟩
    rw [hN.has a ha]
    unfold othB
    cases hfa : f a with
    | none => rfl
    | some u =>
      have := hN.val a u ha hfa (.lit (.int .u64 0))
      rw [this] at e3
      simp only [Prod.mk.injEq, DataW.lit.injEq, Lit.int.injEq, true_and] at e3
      rw [e3.1]
      rfl
  obtain ⟨v, k, hlk, hoth⟩ := hlook
  have HOT := Lib.hid hoth
  have HAO := Lib.hid hAO
  clear h hbox hD hN hoth hAO
  obtain ⟨V1, hV1⟩ : ∃ V1, V.alloc (.cells #[.int .u32 a.1, .int .i64 a.2] 38) = V1 := ⟨_, rfl⟩
  rw [hV1] at HL c0 c1 c2 c3 c4 cf cl b0 b1 bl hlk
  unfold adr at hlk ⊢
  go_enter Try.func117, Try.ntmps117
  go_upto_region 1 with (fail)
  go_cut [9, 10] from 11 (fun v9 v10 wc => v9 = .int .u64 v ∧ v10 = .bool k ∧ Hid (Gm w0 gb nb nm x most since av f c now M (AO :: os) wc))
  case first =>
    have HX := Lib.hid (HL.out.drewN 1)
    go_region_with (fail)
    all_goals go_wp2
    all_goals (go_meet; case rel => exact ⟨rfl, rfl, HX⟩)
  case rest =>
    obtain ⟨rfl, rfl, HG⟩ := hcut
    clear c0 c1 c2 c3 c4 cf cl b0 b1 bl hlk hV1 HL
    obtain ⟨⟨c0, c1, c2, c3, c4⟩, cf, cl⟩ := HG.out.cells
    obtain ⟨⟨b0, b1⟩, bl⟩ := HCELL.out _ _ _ HG.out
    have HDQ : Hid (∀ q, Gm w0 gb nb nm x most since av f c now M (AO :: os) (wc.drewN q)) := Lib.hid (fun q => HG.out.drewN q)
    obtain ⟨r, hr⟩ : ∃ r, (liveM M t).any (askF a) = r := ⟨_, rfl⟩
    have HR := Lib.hid hr
    obtain ⟨z, hz⟩ : ∃ z, (v != n) = z := ⟨_, rfl⟩
    have hoz : othB f a n = (!k || z) := by rw [HOT.out, hz]
    have HOZ : Hid (((liveM M t).any (askF a) && othB f a n) = (r && (!k || z))) := Lib.hid (by rw [hr, hoz])
    clear HOT hr hoz HG
    go_upto_region 2 with (fail)
    have HTA : Hid (∀ n' M' W, Gm w0 gb nb nm x most since av f c n' M' (AO :: os) W → W.heap[V.heap.size]? = some (.cells #[.int .u32 a.1, .int .i64 a.2] 38 (0, 0))) := Lib.hid (fun n' M' W hW => by have := hW.held (p := AO) (by simp); rw [HAO.out] at this; exact this)
    cases r with
    | false =>
      refine wp_region_held_drew (S := fun W => W.heap[gb]? = some (.cells (gCells nb most since av nm) 117 (0, 0)) ∧ W.heap[V.heap.size]? = some (.cells #[.int .u32 a.1, .int .i64 a.2] 38 (0, 0))) (by kernel_rfl) ⟨(HDQ.out 1).top, HTA.out _ _ _ (HDQ.out 1)⟩ (fun hHeld => ?_)
      refine wpAnyH_take (i := 0) (oi := _) (v := ?_) rfl (by kernel_rfl) (by kernel_rfl) (by kernel_rfl) (fun _ _ _ h => h) (Or.inl ⟨by rfl, ?_⟩) (by assumption) ?_
      case refine_2 => intro w hSw; (try dsimp only at hSw); obtain ⟨hS1, hS2⟩ := hSw; have rlt := (Array.getElem?_eq_some_iff.1 hS1).1; have blt := (Array.getElem?_eq_some_iff.1 hS2).1; have r0 := (cells_of hS1 0).1; have j0 := (cells_of hS2 0).1; have j1 := (cells_of hS2 1).1; clear hS1 hS2; unfold gCells at r0; simp only [List.getElem?_toArray, List.getElem?_cons_zero, List.getElem?_cons_succ] at r0 j0 j1; go_simp; first | done | (with_reducible rfl)
      try simp only [Act.put, List.getElem_toArray, List.getElem_cons_zero, List.setIfInBounds_toArray, List.set_cons_zero, List.set_cons_succ]
      refine wpAnyH_take (i := 1) (oi := _) (v := ?_) rfl (by kernel_rfl) (by kernel_rfl) (by kernel_rfl) (fun _ _ _ h => h) (Or.inl ⟨by rfl, ?_⟩) (by assumption) ?_
      case refine_2 => intro w hSw; (try dsimp only at hSw); obtain ⟨hS1, hS2⟩ := hSw; have rlt := (Array.getElem?_eq_some_iff.1 hS1).1; have blt := (Array.getElem?_eq_some_iff.1 hS2).1; have r0 := (cells_of hS1 0).1; have j0 := (cells_of hS2 0).1; have j1 := (cells_of hS2 1).1; clear hS1 hS2; unfold gCells at r0; simp only [List.getElem?_toArray, List.getElem?_cons_zero, List.getElem?_cons_succ] at r0 j0 j1; go_simp; first | done | (with_reducible rfl)
      try simp only [Act.put, List.getElem_toArray, List.getElem_cons_zero, List.getElem_cons_succ, List.setIfInBounds_toArray, List.set_cons_zero, List.set_cons_succ]
      refine wpAnyH_take (i := 2) (oi := _) (v := ?_) rfl (by kernel_rfl) (by kernel_rfl) (by kernel_rfl) (fun _ _ _ h => h) (Or.inl ⟨by rfl, ?_⟩) (by assumption) ?_
      case refine_2 => intro w hSw; (try dsimp only at hSw); obtain ⟨hS1, hS2⟩ := hSw; have rlt := (Array.getElem?_eq_some_iff.1 hS1).1; have blt := (Array.getElem?_eq_some_iff.1 hS2).1; have r0 := (cells_of hS1 0).1; have j0 := (cells_of hS2 0).1; have j1 := (cells_of hS2 1).1; clear hS1 hS2; unfold gCells at r0; simp only [List.getElem?_toArray, List.getElem?_cons_zero, List.getElem?_cons_succ] at r0 j0 j1; go_simp; first | done | (with_reducible rfl)
      try simp only [Act.put, List.getElem_toArray, List.getElem_cons_zero, List.getElem_cons_succ, List.setIfInBounds_toArray, List.set_cons_zero, List.set_cons_succ]
      refine wpAnyH_take (i := 3) (oi := _) (v := ?_) rfl (by kernel_rfl) (by kernel_rfl) (by kernel_rfl) (fun _ _ _ h => h) (Or.inl ⟨by rfl, ?_⟩) (by assumption) ?_
      case refine_2 => intro w hSw; (try dsimp only at hSw); obtain ⟨hS1, hS2⟩ := hSw; have rlt := (Array.getElem?_eq_some_iff.1 hS1).1; have blt := (Array.getElem?_eq_some_iff.1 hS2).1; have r0 := (cells_of hS1 0).1; have j0 := (cells_of hS2 0).1; have j1 := (cells_of hS2 1).1; clear hS1 hS2; unfold gCells at r0; simp only [List.getElem?_toArray, List.getElem?_cons_zero, List.getElem?_cons_succ] at r0 j0 j1; go_simp; first | done | (with_reducible rfl)
      try simp only [Act.put, List.getElem_toArray, List.getElem_cons_zero, List.getElem_cons_succ, List.setIfInBounds_toArray, List.set_cons_zero, List.set_cons_succ]
      refine wpAnyH_take (i := 4) (oi := _) (v := ?_) rfl (by kernel_rfl) (by kernel_rfl) (by kernel_rfl) (fun _ _ _ h => h) (Or.inl ⟨by rfl, ?_⟩) (by assumption) ?_
      case refine_2 => intro w hSw; (try dsimp only at hSw); obtain ⟨hS1, hS2⟩ := hSw; have rlt := (Array.getElem?_eq_some_iff.1 hS1).1; have blt := (Array.getElem?_eq_some_iff.1 hS2).1; have r0 := (cells_of hS1 0).1; have j0 := (cells_of hS2 0).1; have j1 := (cells_of hS2 1).1; clear hS1 hS2; unfold gCells at r0; simp only [List.getElem?_toArray, List.getElem?_cons_zero, List.getElem?_cons_succ] at r0 j0 j1; go_simp; first | done | (with_reducible rfl)
      try simp only [Act.put, List.getElem_toArray, List.getElem_cons_zero, List.getElem_cons_succ, List.setIfInBounds_toArray, List.set_cons_zero, List.set_cons_succ]
      refine wpAnyH_take (i := 6) (oi := _) (v := ?_) rfl (by kernel_rfl) (by kernel_rfl) (by kernel_rfl) (fun _ _ _ h => h) (Or.inl ⟨by rfl, ?_⟩) (by assumption) ?_
      case refine_2 => intro w hSw; (try dsimp only at hSw); obtain ⟨hS1, hS2⟩ := hSw; have rlt := (Array.getElem?_eq_some_iff.1 hS1).1; have blt := (Array.getElem?_eq_some_iff.1 hS2).1; have r0 := (cells_of hS1 0).1; have j0 := (cells_of hS2 0).1; have j1 := (cells_of hS2 1).1; clear hS1 hS2; unfold gCells at r0; simp only [List.getElem?_toArray, List.getElem?_cons_zero, List.getElem?_cons_succ] at r0 j0 j1; go_simp; first | done | (with_reducible rfl)
      try simp only [Act.put, List.getElem_toArray, List.getElem_cons_zero, List.getElem_cons_succ, List.setIfInBounds_toArray, List.set_cons_zero, List.set_cons_succ]
      refine wpAnyH_ready (rs := [5]) (by kernel_rfl) (by simp) ?_
      refine AllReadyH.cons rfl (fun K hK => ?_) AllReadyH.nil
      go_simp
      go_at_call 27
      refine (HAL.out _ (HDQ.out 1)).mono ?_
      rintro e W3 ⟨⟨u, l', rfl, hp, hb⟩, hg3⟩
      have HG3 := Lib.hid hg3
      have hI := isAsked_any a u l' W3 hb (by have := HLN.out; have := hp.length_eq; omega)
      rw [any_permG hp, HR.out] at hI
      obtain ⟨A, m, q, rfl⟩ := isBs_form hb
      unfold adr at hI
      have HI := Lib.hid hI
      clear hb hp hg3 hI
      refine hK.out _ _ ⟨HG3.out.top, HTA.out _ _ _ HG3.out⟩ (fun hHeld => ?_)
      clear hK K
      try simp only [Act.put, List.getElem_toArray, List.getElem_cons_zero, List.getElem_cons_succ, List.setIfInBounds_toArray, List.set_cons_zero, List.set_cons_succ]
      refine wpAnyH_ready (rs := [7]) (by kernel_rfl) (by simp) ?_
      refine AllReadyH.cons rfl (fun K hK => ?_) AllReadyH.nil
      go_simp
      go_at_call 96
      refine HI.out.mono ?_
      rintro e W4 ⟨rfl, hb4⟩
      have HG4 := Lib.hid (HG3.out.below hb4)
      clear hb4
      refine hK.out _ _ ⟨HG4.out.top, HTA.out _ _ _ HG4.out⟩ (fun hHeld => ?_)
      clear hK K
      try simp only [Act.put, List.getElem_toArray, List.getElem_cons_zero, List.getElem_cons_succ, List.setIfInBounds_toArray, List.set_cons_zero, List.set_cons_succ]
      refine wpAnyH_take (i := 8) (oi := _) (v := ?_) rfl (by kernel_rfl) (by kernel_rfl) (by kernel_rfl) (fun _ _ _ h => h) (Or.inl ⟨by rfl, ?_⟩) (by assumption) ?_
      case refine_2 => intro w hSw; (try dsimp only at hSw); obtain ⟨hS1, hS2⟩ := hSw; have rlt := (Array.getElem?_eq_some_iff.1 hS1).1; have blt := (Array.getElem?_eq_some_iff.1 hS2).1; have r0 := (cells_of hS1 0).1; have j0 := (cells_of hS2 0).1; have j1 := (cells_of hS2 1).1; clear hS1 hS2; unfold gCells at r0; simp only [List.getElem?_toArray, List.getElem?_cons_zero, List.getElem?_cons_succ] at r0 j0 j1; go_simp; first | done | (with_reducible rfl)
      try simp only [Act.put, List.getElem_toArray, List.getElem_cons_zero, List.getElem_cons_succ, List.setIfInBounds_toArray, List.set_cons_zero, List.set_cons_succ]
      refine wpAnyH_take (i := 9) (oi := _) (v := undef) rfl (by kernel_rfl) (by kernel_rfl) (by kernel_rfl) (fun _ _ _ h => h) (Or.inr ⟨by rfl, rfl⟩) (by assumption) ?_
      try simp only [Act.put, List.getElem_toArray, List.getElem_cons_zero, List.getElem_cons_succ, List.setIfInBounds_toArray, List.set_cons_zero, List.set_cons_succ]
      refine wpAnyH_take (i := 10) (oi := _) (v := undef) rfl (by kernel_rfl) (by kernel_rfl) (by kernel_rfl) (fun _ _ _ h => h) (Or.inr ⟨by rfl, rfl⟩) (by assumption) ?_
      try simp only [Act.put, List.getElem_toArray, List.getElem_cons_zero, List.getElem_cons_succ, List.setIfInBounds_toArray, List.set_cons_zero, List.set_cons_succ]
      refine wpAnyH_take (i := 11) (oi := _) (v := undef) rfl (by kernel_rfl) (by kernel_rfl) (by kernel_rfl) (fun _ _ _ h => h) (Or.inr ⟨by rfl, rfl⟩) (by assumption) ?_
      try simp only [Act.put, List.getElem_toArray, List.getElem_cons_zero, List.getElem_cons_succ, List.setIfInBounds_toArray, List.set_cons_zero, List.set_cons_succ]
      refine wpAnyH_take (i := 12) (oi := _) (v := undef) rfl (by kernel_rfl) (by kernel_rfl) (by kernel_rfl) (fun _ _ _ h => h) (Or.inr ⟨by rfl, rfl⟩) (by assumption) ?_
      try simp only [Act.put, List.getElem_toArray, List.getElem_cons_zero, List.getElem_cons_succ, List.setIfInBounds_toArray, List.set_cons_zero, List.set_cons_succ]
      refine wpAnyH_take (i := 13) (oi := _) (v := undef) rfl (by kernel_rfl) (by kernel_rfl) (by kernel_rfl) (fun _ _ _ h => h) (Or.inr ⟨by rfl, rfl⟩) (by assumption) ?_
      try simp only [Act.put, List.getElem_toArray, List.getElem_cons_zero, List.getElem_cons_succ, List.setIfInBounds_toArray, List.set_cons_zero, List.set_cons_succ]
      refine wpAnyH_take (i := 14) (oi := _) (v := undef) rfl (by kernel_rfl) (by kernel_rfl) (by kernel_rfl) (fun _ _ _ h => h) (Or.inr ⟨by rfl, rfl⟩) (by assumption) ?_
      try simp only [Act.put, List.getElem_toArray, List.getElem_cons_zero, List.getElem_cons_succ, List.setIfInBounds_toArray, List.set_cons_zero, List.set_cons_succ]
      refine wpAnyH_take (i := 15) (oi := _) (v := undef) rfl (by kernel_rfl) (by kernel_rfl) (by kernel_rfl) (fun _ _ _ h => h) (Or.inr ⟨by rfl, rfl⟩) (by assumption) ?_
      try simp only [Act.put, List.getElem_toArray, List.getElem_cons_zero, List.getElem_cons_succ, List.setIfInBounds_toArray, List.set_cons_zero, List.set_cons_succ]
      refine wpAnyH_take (i := 16) (oi := _) (v := ?_) rfl (by kernel_rfl) (by kernel_rfl) (by kernel_rfl) (fun _ _ _ h => h) (Or.inl ⟨by rfl, ?_⟩) (by assumption) ?_
      case refine_2 => intro w hSw; (try dsimp only at hSw); obtain ⟨hS1, hS2⟩ := hSw; have rlt := (Array.getElem?_eq_some_iff.1 hS1).1; have blt := (Array.getElem?_eq_some_iff.1 hS2).1; have r0 := (cells_of hS1 0).1; have j0 := (cells_of hS2 0).1; have j1 := (cells_of hS2 1).1; clear hS1 hS2; unfold gCells at r0; simp only [List.getElem?_toArray, List.getElem?_cons_zero, List.getElem?_cons_succ] at r0 j0 j1; go_simp; first | done | (with_reducible rfl)
      try simp only [Act.put, List.getElem_toArray, List.getElem_cons_zero, List.getElem_cons_succ, List.setIfInBounds_toArray, List.set_cons_zero, List.set_cons_succ]
      refine wpAnyH_take (i := 17) (oi := _) (v := ?_) rfl (by kernel_rfl) (by kernel_rfl) (by kernel_rfl) (fun _ _ _ h => h) (Or.inl ⟨by rfl, ?_⟩) (by assumption) ?_
      case refine_2 => intro w hSw; (try dsimp only at hSw); obtain ⟨hS1, hS2⟩ := hSw; have rlt := (Array.getElem?_eq_some_iff.1 hS1).1; have blt := (Array.getElem?_eq_some_iff.1 hS2).1; have r0 := (cells_of hS1 0).1; have j0 := (cells_of hS2 0).1; have j1 := (cells_of hS2 1).1; clear hS1 hS2; unfold gCells at r0; simp only [List.getElem?_toArray, List.getElem?_cons_zero, List.getElem?_cons_succ] at r0 j0 j1; go_simp; first | done | (with_reducible rfl)
      try simp only [Act.put, List.getElem_toArray, List.getElem_cons_zero, List.getElem_cons_succ, List.setIfInBounds_toArray, List.set_cons_zero, List.set_cons_succ]
      refine wpAnyH_done (by kernel_rfl) ?_ _
      try simp only [Act.put, List.getElem_toArray, List.getElem_cons_zero, List.getElem_cons_succ, List.setIfInBounds_toArray, List.set_cons_zero, List.set_cons_succ]
      go_wp2
      go_ret
      exact ⟨ga_ret HOZ.out.symm, HG4.out.sub (fun p hp => by simp [hp])⟩
    | true =>
      cases k with
      | false =>
        refine wp_region_held_drew (S := fun W => W.heap[gb]? = some (.cells (gCells nb most since av nm) 117 (0, 0)) ∧ W.heap[V.heap.size]? = some (.cells #[.int .u32 a.1, .int .i64 a.2] 38 (0, 0))) (by kernel_rfl) ⟨(HDQ.out 1).top, HTA.out _ _ _ (HDQ.out 1)⟩ (fun hHeld => ?_)
        refine wpAnyH_take (i := 0) (oi := _) (v := ?_) rfl (by kernel_rfl) (by kernel_rfl) (by kernel_rfl) (fun _ _ _ h => h) (Or.inl ⟨by rfl, ?_⟩) (by assumption) ?_
        case refine_2 => intro w hSw; (try dsimp only at hSw); obtain ⟨hS1, hS2⟩ := hSw; have rlt := (Array.getElem?_eq_some_iff.1 hS1).1; have blt := (Array.getElem?_eq_some_iff.1 hS2).1; have r0 := (cells_of hS1 0).1; have j0 := (cells_of hS2 0).1; have j1 := (cells_of hS2 1).1; clear hS1 hS2; unfold gCells at r0; simp only [List.getElem?_toArray, List.getElem?_cons_zero, List.getElem?_cons_succ] at r0 j0 j1; go_simp; first | done | (with_reducible rfl)
        try simp only [Act.put, List.getElem_toArray, List.getElem_cons_zero, List.setIfInBounds_toArray, List.set_cons_zero, List.set_cons_succ]
        refine wpAnyH_take (i := 1) (oi := _) (v := ?_) rfl (by kernel_rfl) (by kernel_rfl) (by kernel_rfl) (fun _ _ _ h => h) (Or.inl ⟨by rfl, ?_⟩) (by assumption) ?_
        case refine_2 => intro w hSw; (try dsimp only at hSw); obtain ⟨hS1, hS2⟩ := hSw; have rlt := (Array.getElem?_eq_some_iff.1 hS1).1; have blt := (Array.getElem?_eq_some_iff.1 hS2).1; have r0 := (cells_of hS1 0).1; have j0 := (cells_of hS2 0).1; have j1 := (cells_of hS2 1).1; clear hS1 hS2; unfold gCells at r0; simp only [List.getElem?_toArray, List.getElem?_cons_zero, List.getElem?_cons_succ] at r0 j0 j1; go_simp; first | done | (with_reducible rfl)
        try simp only [Act.put, List.getElem_toArray, List.getElem_cons_zero, List.getElem_cons_succ, List.setIfInBounds_toArray, List.set_cons_zero, List.set_cons_succ]
        refine wpAnyH_take (i := 2) (oi := _) (v := ?_) rfl (by kernel_rfl) (by kernel_rfl) (by kernel_rfl) (fun _ _ _ h => h) (Or.inl ⟨by rfl, ?_⟩) (by assumption) ?_
        case refine_2 => intro w hSw; (try dsimp only at hSw); obtain ⟨hS1, hS2⟩ := hSw; have rlt := (Array.getElem?_eq_some_iff.1 hS1).1; have blt := (Array.getElem?_eq_some_iff.1 hS2).1; have r0 := (cells_of hS1 0).1; have j0 := (cells_of hS2 0).1; have j1 := (cells_of hS2 1).1; clear hS1 hS2; unfold gCells at r0; simp only [List.getElem?_toArray, List.getElem?_cons_zero, List.getElem?_cons_succ] at r0 j0 j1; go_simp; first | done | (with_reducible rfl)
        try simp only [Act.put, List.getElem_toArray, List.getElem_cons_zero, List.getElem_cons_succ, List.setIfInBounds_toArray, List.set_cons_zero, List.set_cons_succ]
        refine wpAnyH_take (i := 3) (oi := _) (v := ?_) rfl (by kernel_rfl) (by kernel_rfl) (by kernel_rfl) (fun _ _ _ h => h) (Or.inl ⟨by rfl, ?_⟩) (by assumption) ?_
        case refine_2 => intro w hSw; (try dsimp only at hSw); obtain ⟨hS1, hS2⟩ := hSw; have rlt := (Array.getElem?_eq_some_iff.1 hS1).1; have blt := (Array.getElem?_eq_some_iff.1 hS2).1; have r0 := (cells_of hS1 0).1; have j0 := (cells_of hS2 0).1; have j1 := (cells_of hS2 1).1; clear hS1 hS2; unfold gCells at r0; simp only [List.getElem?_toArray, List.getElem?_cons_zero, List.getElem?_cons_succ] at r0 j0 j1; go_simp; first | done | (with_reducible rfl)
        try simp only [Act.put, List.getElem_toArray, List.getElem_cons_zero, List.getElem_cons_succ, List.setIfInBounds_toArray, List.set_cons_zero, List.set_cons_succ]
        refine wpAnyH_take (i := 4) (oi := _) (v := ?_) rfl (by kernel_rfl) (by kernel_rfl) (by kernel_rfl) (fun _ _ _ h => h) (Or.inl ⟨by rfl, ?_⟩) (by assumption) ?_
        case refine_2 => intro w hSw; (try dsimp only at hSw); obtain ⟨hS1, hS2⟩ := hSw; have rlt := (Array.getElem?_eq_some_iff.1 hS1).1; have blt := (Array.getElem?_eq_some_iff.1 hS2).1; have r0 := (cells_of hS1 0).1; have j0 := (cells_of hS2 0).1; have j1 := (cells_of hS2 1).1; clear hS1 hS2; unfold gCells at r0; simp only [List.getElem?_toArray, List.getElem?_cons_zero, List.getElem?_cons_succ] at r0 j0 j1; go_simp; first | done | (with_reducible rfl)
        try simp only [Act.put, List.getElem_toArray, List.getElem_cons_zero, List.getElem_cons_succ, List.setIfInBounds_toArray, List.set_cons_zero, List.set_cons_succ]
        refine wpAnyH_take (i := 6) (oi := _) (v := ?_) rfl (by kernel_rfl) (by kernel_rfl) (by kernel_rfl) (fun _ _ _ h => h) (Or.inl ⟨by rfl, ?_⟩) (by assumption) ?_
        case refine_2 => intro w hSw; (try dsimp only at hSw); obtain ⟨hS1, hS2⟩ := hSw; have rlt := (Array.getElem?_eq_some_iff.1 hS1).1; have blt := (Array.getElem?_eq_some_iff.1 hS2).1; have r0 := (cells_of hS1 0).1; have j0 := (cells_of hS2 0).1; have j1 := (cells_of hS2 1).1; clear hS1 hS2; unfold gCells at r0; simp only [List.getElem?_toArray, List.getElem?_cons_zero, List.getElem?_cons_succ] at r0 j0 j1; go_simp; first | done | (with_reducible rfl)
        try simp only [Act.put, List.getElem_toArray, List.getElem_cons_zero, List.getElem_cons_succ, List.setIfInBounds_toArray, List.set_cons_zero, List.set_cons_succ]
        refine wpAnyH_ready (rs := [5]) (by kernel_rfl) (by simp) ?_
        refine AllReadyH.cons rfl (fun K hK => ?_) AllReadyH.nil
        go_simp
        go_at_call 27
        refine (HAL.out _ (HDQ.out 1)).mono ?_
        rintro e W3 ⟨⟨u, l', rfl, hp, hb⟩, hg3⟩
        have HG3 := Lib.hid hg3
        have hI := isAsked_any a u l' W3 hb (by have := HLN.out; have := hp.length_eq; omega)
        rw [any_permG hp, HR.out] at hI
        obtain ⟨A, m, q, rfl⟩ := isBs_form hb
        unfold adr at hI
        have HI := Lib.hid hI
        clear hb hp hg3 hI
        refine hK.out _ _ ⟨HG3.out.top, HTA.out _ _ _ HG3.out⟩ (fun hHeld => ?_)
        clear hK K
        try simp only [Act.put, List.getElem_toArray, List.getElem_cons_zero, List.getElem_cons_succ, List.setIfInBounds_toArray, List.set_cons_zero, List.set_cons_succ]
        refine wpAnyH_ready (rs := [7]) (by kernel_rfl) (by simp) ?_
        refine AllReadyH.cons rfl (fun K hK => ?_) AllReadyH.nil
        go_simp
        go_at_call 96
        refine HI.out.mono ?_
        rintro e W4 ⟨rfl, hb4⟩
        have HG4 := Lib.hid (HG3.out.below hb4)
        clear hb4
        refine hK.out _ _ ⟨HG4.out.top, HTA.out _ _ _ HG4.out⟩ (fun hHeld => ?_)
        clear hK K
        try simp only [Act.put, List.getElem_toArray, List.getElem_cons_zero, List.getElem_cons_succ, List.setIfInBounds_toArray, List.set_cons_zero, List.set_cons_succ]
        refine wpAnyH_take (i := 8) (oi := _) (v := ?_) rfl (by kernel_rfl) (by kernel_rfl) (by kernel_rfl) (fun _ _ _ h => h) (Or.inl ⟨by rfl, ?_⟩) (by assumption) ?_
        case refine_2 => intro w hSw; (try dsimp only at hSw); obtain ⟨hS1, hS2⟩ := hSw; have rlt := (Array.getElem?_eq_some_iff.1 hS1).1; have blt := (Array.getElem?_eq_some_iff.1 hS2).1; have r0 := (cells_of hS1 0).1; have j0 := (cells_of hS2 0).1; have j1 := (cells_of hS2 1).1; clear hS1 hS2; unfold gCells at r0; simp only [List.getElem?_toArray, List.getElem?_cons_zero, List.getElem?_cons_succ] at r0 j0 j1; go_simp; first | done | (with_reducible rfl)
        try simp only [Act.put, List.getElem_toArray, List.getElem_cons_zero, List.getElem_cons_succ, List.setIfInBounds_toArray, List.set_cons_zero, List.set_cons_succ]
        refine wpAnyH_take (i := 9) (oi := _) (v := ?_) rfl (by kernel_rfl) (by kernel_rfl) (by kernel_rfl) (fun _ _ _ h => h) (Or.inl ⟨by rfl, ?_⟩) (by assumption) ?_
        case refine_2 => intro w hSw; (try dsimp only at hSw); obtain ⟨hS1, hS2⟩ := hSw; have rlt := (Array.getElem?_eq_some_iff.1 hS1).1; have blt := (Array.getElem?_eq_some_iff.1 hS2).1; have r0 := (cells_of hS1 0).1; have j0 := (cells_of hS2 0).1; have j1 := (cells_of hS2 1).1; clear hS1 hS2; unfold gCells at r0; simp only [List.getElem?_toArray, List.getElem?_cons_zero, List.getElem?_cons_succ] at r0 j0 j1; go_simp; first | done | (with_reducible rfl)
        try simp only [Act.put, List.getElem_toArray, List.getElem_cons_zero, List.getElem_cons_succ, List.setIfInBounds_toArray, List.set_cons_zero, List.set_cons_succ]
        refine wpAnyH_take (i := 10) (oi := _) (v := ?_) rfl (by kernel_rfl) (by kernel_rfl) (by kernel_rfl) (fun _ _ _ h => h) (Or.inl ⟨by rfl, ?_⟩) (by assumption) ?_
        case refine_2 => intro w hSw; (try dsimp only at hSw); obtain ⟨hS1, hS2⟩ := hSw; have rlt := (Array.getElem?_eq_some_iff.1 hS1).1; have blt := (Array.getElem?_eq_some_iff.1 hS2).1; have r0 := (cells_of hS1 0).1; have j0 := (cells_of hS2 0).1; have j1 := (cells_of hS2 1).1; clear hS1 hS2; unfold gCells at r0; simp only [List.getElem?_toArray, List.getElem?_cons_zero, List.getElem?_cons_succ] at r0 j0 j1; go_simp; first | done | (with_reducible rfl)
        try simp only [Act.put, List.getElem_toArray, List.getElem_cons_zero, List.getElem_cons_succ, List.setIfInBounds_toArray, List.set_cons_zero, List.set_cons_succ]
        refine wpAnyH_take (i := 11) (oi := _) (v := ?_) rfl (by kernel_rfl) (by kernel_rfl) (by kernel_rfl) (fun _ _ _ h => h) (Or.inl ⟨by rfl, ?_⟩) (by assumption) ?_
        case refine_2 => intro w hSw; (try dsimp only at hSw); obtain ⟨hS1, hS2⟩ := hSw; have rlt := (Array.getElem?_eq_some_iff.1 hS1).1; have blt := (Array.getElem?_eq_some_iff.1 hS2).1; have r0 := (cells_of hS1 0).1; have j0 := (cells_of hS2 0).1; have j1 := (cells_of hS2 1).1; clear hS1 hS2; unfold gCells at r0; simp only [List.getElem?_toArray, List.getElem?_cons_zero, List.getElem?_cons_succ] at r0 j0 j1; go_simp; first | done | (with_reducible rfl)
        try simp only [Act.put, List.getElem_toArray, List.getElem_cons_zero, List.getElem_cons_succ, List.setIfInBounds_toArray, List.set_cons_zero, List.set_cons_succ]
        refine wpAnyH_take (i := 12) (oi := _) (v := undef) rfl (by kernel_rfl) (by kernel_rfl) (by kernel_rfl) (fun _ _ _ h => h) (Or.inr ⟨by rfl, rfl⟩) (by assumption) ?_
        try simp only [Act.put, List.getElem_toArray, List.getElem_cons_zero, List.getElem_cons_succ, List.setIfInBounds_toArray, List.set_cons_zero, List.set_cons_succ]
        refine wpAnyH_take (i := 13) (oi := _) (v := undef) rfl (by kernel_rfl) (by kernel_rfl) (by kernel_rfl) (fun _ _ _ h => h) (Or.inr ⟨by rfl, rfl⟩) (by assumption) ?_
        try simp only [Act.put, List.getElem_toArray, List.getElem_cons_zero, List.getElem_cons_succ, List.setIfInBounds_toArray, List.set_cons_zero, List.set_cons_succ]
        refine wpAnyH_take (i := 14) (oi := _) (v := undef) rfl (by kernel_rfl) (by kernel_rfl) (by kernel_rfl) (fun _ _ _ h => h) (Or.inr ⟨by rfl, rfl⟩) (by assumption) ?_
        try simp only [Act.put, List.getElem_toArray, List.getElem_cons_zero, List.getElem_cons_succ, List.setIfInBounds_toArray, List.set_cons_zero, List.set_cons_succ]
        refine wpAnyH_take (i := 15) (oi := _) (v := ?_) rfl (by kernel_rfl) (by kernel_rfl) (by kernel_rfl) (fun _ _ _ h => h) (Or.inl ⟨by rfl, ?_⟩) (by assumption) ?_
        case refine_2 => intro w hSw; (try dsimp only at hSw); obtain ⟨hS1, hS2⟩ := hSw; have rlt := (Array.getElem?_eq_some_iff.1 hS1).1; have blt := (Array.getElem?_eq_some_iff.1 hS2).1; have r0 := (cells_of hS1 0).1; have j0 := (cells_of hS2 0).1; have j1 := (cells_of hS2 1).1; clear hS1 hS2; unfold gCells at r0; simp only [List.getElem?_toArray, List.getElem?_cons_zero, List.getElem?_cons_succ] at r0 j0 j1; go_simp; first | done | (with_reducible rfl)
        try simp only [Act.put, List.getElem_toArray, List.getElem_cons_zero, List.getElem_cons_succ, List.setIfInBounds_toArray, List.set_cons_zero, List.set_cons_succ]
        refine wpAnyH_take (i := 16) (oi := _) (v := ?_) rfl (by kernel_rfl) (by kernel_rfl) (by kernel_rfl) (fun _ _ _ h => h) (Or.inl ⟨by rfl, ?_⟩) (by assumption) ?_
        case refine_2 => intro w hSw; (try dsimp only at hSw); obtain ⟨hS1, hS2⟩ := hSw; have rlt := (Array.getElem?_eq_some_iff.1 hS1).1; have blt := (Array.getElem?_eq_some_iff.1 hS2).1; have r0 := (cells_of hS1 0).1; have j0 := (cells_of hS2 0).1; have j1 := (cells_of hS2 1).1; clear hS1 hS2; unfold gCells at r0; simp only [List.getElem?_toArray, List.getElem?_cons_zero, List.getElem?_cons_succ] at r0 j0 j1; go_simp; first | done | (with_reducible rfl)
        try simp only [Act.put, List.getElem_toArray, List.getElem_cons_zero, List.getElem_cons_succ, List.setIfInBounds_toArray, List.set_cons_zero, List.set_cons_succ]
        refine wpAnyH_take (i := 17) (oi := _) (v := ?_) rfl (by kernel_rfl) (by kernel_rfl) (by kernel_rfl) (fun _ _ _ h => h) (Or.inl ⟨by rfl, ?_⟩) (by assumption) ?_
        case refine_2 => intro w hSw; (try dsimp only at hSw); obtain ⟨hS1, hS2⟩ := hSw; have rlt := (Array.getElem?_eq_some_iff.1 hS1).1; have blt := (Array.getElem?_eq_some_iff.1 hS2).1; have r0 := (cells_of hS1 0).1; have j0 := (cells_of hS2 0).1; have j1 := (cells_of hS2 1).1; clear hS1 hS2; unfold gCells at r0; simp only [List.getElem?_toArray, List.getElem?_cons_zero, List.getElem?_cons_succ] at r0 j0 j1; go_simp; first | done | (with_reducible rfl)
        try simp only [Act.put, List.getElem_toArray, List.getElem_cons_zero, List.getElem_cons_succ, List.setIfInBounds_toArray, List.set_cons_zero, List.set_cons_succ]
        refine wpAnyH_done (by kernel_rfl) ?_ _
        try simp only [Act.put, List.getElem_toArray, List.getElem_cons_zero, List.getElem_cons_succ, List.setIfInBounds_toArray, List.set_cons_zero, List.set_cons_succ]
        go_wp2
        go_ret
        exact ⟨ga_ret HOZ.out.symm, HG4.out.sub (fun p hp => by simp [hp])⟩
      | true =>
        cases z with
        | false =>
          refine wp_region_held_drew (S := fun W => W.heap[gb]? = some (.cells (gCells nb most since av nm) 117 (0, 0)) ∧ W.heap[V.heap.size]? = some (.cells #[.int .u32 a.1, .int .i64 a.2] 38 (0, 0))) (by kernel_rfl) ⟨(HDQ.out 1).top, HTA.out _ _ _ (HDQ.out 1)⟩ (fun hHeld => ?_)
          refine wpAnyH_take (i := 0) (oi := _) (v := ?_) rfl (by kernel_rfl) (by kernel_rfl) (by kernel_rfl) (fun _ _ _ h => h) (Or.inl ⟨by rfl, ?_⟩) (by assumption) ?_
          case refine_2 => intro w hSw; (try dsimp only at hSw); obtain ⟨hS1, hS2⟩ := hSw; have rlt := (Array.getElem?_eq_some_iff.1 hS1).1; have blt := (Array.getElem?_eq_some_iff.1 hS2).1; have r0 := (cells_of hS1 0).1; have j0 := (cells_of hS2 0).1; have j1 := (cells_of hS2 1).1; clear hS1 hS2; unfold gCells at r0; simp only [List.getElem?_toArray, List.getElem?_cons_zero, List.getElem?_cons_succ] at r0 j0 j1; go_simp; first | done | (with_reducible rfl)
          try simp only [Act.put, List.getElem_toArray, List.getElem_cons_zero, List.setIfInBounds_toArray, List.set_cons_zero, List.set_cons_succ]
          refine wpAnyH_take (i := 1) (oi := _) (v := ?_) rfl (by kernel_rfl) (by kernel_rfl) (by kernel_rfl) (fun _ _ _ h => h) (Or.inl ⟨by rfl, ?_⟩) (by assumption) ?_
          case refine_2 => intro w hSw; (try dsimp only at hSw); obtain ⟨hS1, hS2⟩ := hSw; have rlt := (Array.getElem?_eq_some_iff.1 hS1).1; have blt := (Array.getElem?_eq_some_iff.1 hS2).1; have r0 := (cells_of hS1 0).1; have j0 := (cells_of hS2 0).1; have j1 := (cells_of hS2 1).1; clear hS1 hS2; unfold gCells at r0; simp only [List.getElem?_toArray, List.getElem?_cons_zero, List.getElem?_cons_succ] at r0 j0 j1; go_simp; first | done | (with_reducible rfl)
          try simp only [Act.put, List.getElem_toArray, List.getElem_cons_zero, List.getElem_cons_succ, List.setIfInBounds_toArray, List.set_cons_zero, List.set_cons_succ]
          refine wpAnyH_take (i := 2) (oi := _) (v := ?_) rfl (by kernel_rfl) (by kernel_rfl) (by kernel_rfl) (fun _ _ _ h => h) (Or.inl ⟨by rfl, ?_⟩) (by assumption) ?_
          case refine_2 => intro w hSw; (try dsimp only at hSw); obtain ⟨hS1, hS2⟩ := hSw; have rlt := (Array.getElem?_eq_some_iff.1 hS1).1; have blt := (Array.getElem?_eq_some_iff.1 hS2).1; have r0 := (cells_of hS1 0).1; have j0 := (cells_of hS2 0).1; have j1 := (cells_of hS2 1).1; clear hS1 hS2; unfold gCells at r0; simp only [List.getElem?_toArray, List.getElem?_cons_zero, List.getElem?_cons_succ] at r0 j0 j1; go_simp; first | done | (with_reducible rfl)
          try simp only [Act.put, List.getElem_toArray, List.getElem_cons_zero, List.getElem_cons_succ, List.setIfInBounds_toArray, List.set_cons_zero, List.set_cons_succ]
          refine wpAnyH_take (i := 3) (oi := _) (v := ?_) rfl (by kernel_rfl) (by kernel_rfl) (by kernel_rfl) (fun _ _ _ h => h) (Or.inl ⟨by rfl, ?_⟩) (by assumption) ?_
          case refine_2 => intro w hSw; (try dsimp only at hSw); obtain ⟨hS1, hS2⟩ := hSw; have rlt := (Array.getElem?_eq_some_iff.1 hS1).1; have blt := (Array.getElem?_eq_some_iff.1 hS2).1; have r0 := (cells_of hS1 0).1; have j0 := (cells_of hS2 0).1; have j1 := (cells_of hS2 1).1; clear hS1 hS2; unfold gCells at r0; simp only [List.getElem?_toArray, List.getElem?_cons_zero, List.getElem?_cons_succ] at r0 j0 j1; go_simp; first | done | (with_reducible rfl)
          try simp only [Act.put, List.getElem_toArray, List.getElem_cons_zero, List.getElem_cons_succ, List.setIfInBounds_toArray, List.set_cons_zero, List.set_cons_succ]
          refine wpAnyH_take (i := 4) (oi := _) (v := ?_) rfl (by kernel_rfl) (by kernel_rfl) (by kernel_rfl) (fun _ _ _ h => h) (Or.inl ⟨by rfl, ?_⟩) (by assumption) ?_
          case refine_2 => intro w hSw; (try dsimp only at hSw); obtain ⟨hS1, hS2⟩ := hSw; have rlt := (Array.getElem?_eq_some_iff.1 hS1).1; have blt := (Array.getElem?_eq_some_iff.1 hS2).1; have r0 := (cells_of hS1 0).1; have j0 := (cells_of hS2 0).1; have j1 := (cells_of hS2 1).1; clear hS1 hS2; unfold gCells at r0; simp only [List.getElem?_toArray, List.getElem?_cons_zero, List.getElem?_cons_succ] at r0 j0 j1; go_simp; first | done | (with_reducible rfl)
          try simp only [Act.put, List.getElem_toArray, List.getElem_cons_zero, List.getElem_cons_succ, List.setIfInBounds_toArray, List.set_cons_zero, List.set_cons_succ]
          refine wpAnyH_take (i := 6) (oi := _) (v := ?_) rfl (by kernel_rfl) (by kernel_rfl) (by kernel_rfl) (fun _ _ _ h => h) (Or.inl ⟨by rfl, ?_⟩) (by assumption) ?_
          case refine_2 => intro w hSw; (try dsimp only at hSw); obtain ⟨hS1, hS2⟩ := hSw; have rlt := (Array.getElem?_eq_some_iff.1 hS1).1; have blt := (Array.getElem?_eq_some_iff.1 hS2).1; have r0 := (cells_of hS1 0).1; have j0 := (cells_of hS2 0).1; have j1 := (cells_of hS2 1).1; clear hS1 hS2; unfold gCells at r0; simp only [List.getElem?_toArray, List.getElem?_cons_zero, List.getElem?_cons_succ] at r0 j0 j1; go_simp; first | done | (with_reducible rfl)
          try simp only [Act.put, List.getElem_toArray, List.getElem_cons_zero, List.getElem_cons_succ, List.setIfInBounds_toArray, List.set_cons_zero, List.set_cons_succ]
          refine wpAnyH_ready (rs := [5]) (by kernel_rfl) (by simp) ?_
          refine AllReadyH.cons rfl (fun K hK => ?_) AllReadyH.nil
          go_simp
          go_at_call 27
          refine (HAL.out _ (HDQ.out 1)).mono ?_
          rintro e W3 ⟨⟨u, l', rfl, hp, hb⟩, hg3⟩
          have HG3 := Lib.hid hg3
          have hI := isAsked_any a u l' W3 hb (by have := HLN.out; have := hp.length_eq; omega)
          rw [any_permG hp, HR.out] at hI
          obtain ⟨A, m, q, rfl⟩ := isBs_form hb
          unfold adr at hI
          have HI := Lib.hid hI
          clear hb hp hg3 hI
          refine hK.out _ _ ⟨HG3.out.top, HTA.out _ _ _ HG3.out⟩ (fun hHeld => ?_)
          clear hK K
          try simp only [Act.put, List.getElem_toArray, List.getElem_cons_zero, List.getElem_cons_succ, List.setIfInBounds_toArray, List.set_cons_zero, List.set_cons_succ]
          refine wpAnyH_ready (rs := [7]) (by kernel_rfl) (by simp) ?_
          refine AllReadyH.cons rfl (fun K hK => ?_) AllReadyH.nil
          go_simp
          go_at_call 96
          refine HI.out.mono ?_
          rintro e W4 ⟨rfl, hb4⟩
          have HG4 := Lib.hid (HG3.out.below hb4)
          clear hb4
          refine hK.out _ _ ⟨HG4.out.top, HTA.out _ _ _ HG4.out⟩ (fun hHeld => ?_)
          clear hK K
          try simp only [Act.put, List.getElem_toArray, List.getElem_cons_zero, List.getElem_cons_succ, List.setIfInBounds_toArray, List.set_cons_zero, List.set_cons_succ]
          refine wpAnyH_take (i := 8) (oi := _) (v := ?_) rfl (by kernel_rfl) (by kernel_rfl) (by kernel_rfl) (fun _ _ _ h => h) (Or.inl ⟨by rfl, ?_⟩) (by assumption) ?_
          case refine_2 => intro w hSw; (try dsimp only at hSw); obtain ⟨hS1, hS2⟩ := hSw; have rlt := (Array.getElem?_eq_some_iff.1 hS1).1; have blt := (Array.getElem?_eq_some_iff.1 hS2).1; have r0 := (cells_of hS1 0).1; have j0 := (cells_of hS2 0).1; have j1 := (cells_of hS2 1).1; clear hS1 hS2; unfold gCells at r0; simp only [List.getElem?_toArray, List.getElem?_cons_zero, List.getElem?_cons_succ] at r0 j0 j1; go_simp; first | done | (with_reducible rfl)
          try simp only [Act.put, List.getElem_toArray, List.getElem_cons_zero, List.getElem_cons_succ, List.setIfInBounds_toArray, List.set_cons_zero, List.set_cons_succ]
          refine wpAnyH_take (i := 9) (oi := _) (v := ?_) rfl (by kernel_rfl) (by kernel_rfl) (by kernel_rfl) (fun _ _ _ h => h) (Or.inl ⟨by rfl, ?_⟩) (by assumption) ?_
          case refine_2 => intro w hSw; (try dsimp only at hSw); obtain ⟨hS1, hS2⟩ := hSw; have rlt := (Array.getElem?_eq_some_iff.1 hS1).1; have blt := (Array.getElem?_eq_some_iff.1 hS2).1; have r0 := (cells_of hS1 0).1; have j0 := (cells_of hS2 0).1; have j1 := (cells_of hS2 1).1; clear hS1 hS2; unfold gCells at r0; simp only [List.getElem?_toArray, List.getElem?_cons_zero, List.getElem?_cons_succ] at r0 j0 j1; go_simp; first | done | (with_reducible rfl)
          try simp only [Act.put, List.getElem_toArray, List.getElem_cons_zero, List.getElem_cons_succ, List.setIfInBounds_toArray, List.set_cons_zero, List.set_cons_succ]
          refine wpAnyH_take (i := 10) (oi := _) (v := ?_) rfl (by kernel_rfl) (by kernel_rfl) (by kernel_rfl) (fun _ _ _ h => h) (Or.inl ⟨by rfl, ?_⟩) (by assumption) ?_
          case refine_2 => intro w hSw; (try dsimp only at hSw); obtain ⟨hS1, hS2⟩ := hSw; have rlt := (Array.getElem?_eq_some_iff.1 hS1).1; have blt := (Array.getElem?_eq_some_iff.1 hS2).1; have r0 := (cells_of hS1 0).1; have j0 := (cells_of hS2 0).1; have j1 := (cells_of hS2 1).1; clear hS1 hS2; unfold gCells at r0; simp only [List.getElem?_toArray, List.getElem?_cons_zero, List.getElem?_cons_succ] at r0 j0 j1; go_simp; first | done | (with_reducible rfl)
          try simp only [Act.put, List.getElem_toArray, List.getElem_cons_zero, List.getElem_cons_succ, List.setIfInBounds_toArray, List.set_cons_zero, List.set_cons_succ]
          refine wpAnyH_take (i := 11) (oi := _) (v := ?_) rfl (by kernel_rfl) (by kernel_rfl) (by kernel_rfl) (fun _ _ _ h => h) (Or.inl ⟨by rfl, ?_⟩) (by assumption) ?_
          case refine_2 => intro w hSw; (try dsimp only at hSw); obtain ⟨hS1, hS2⟩ := hSw; have rlt := (Array.getElem?_eq_some_iff.1 hS1).1; have blt := (Array.getElem?_eq_some_iff.1 hS2).1; have r0 := (cells_of hS1 0).1; have j0 := (cells_of hS2 0).1; have j1 := (cells_of hS2 1).1; clear hS1 hS2; unfold gCells at r0; simp only [List.getElem?_toArray, List.getElem?_cons_zero, List.getElem?_cons_succ] at r0 j0 j1; go_simp; first | done | (with_reducible rfl)
          try simp only [Act.put, List.getElem_toArray, List.getElem_cons_zero, List.getElem_cons_succ, List.setIfInBounds_toArray, List.set_cons_zero, List.set_cons_succ]
          refine wpAnyH_take (i := 12) (oi := _) (v := ?_) rfl (by kernel_rfl) (by kernel_rfl) (by kernel_rfl) (fun _ _ _ h => h) (Or.inl ⟨by rfl, ?_⟩) (by assumption) ?_
          case refine_2 => intro w hSw; (try dsimp only at hSw); obtain ⟨hS1, hS2⟩ := hSw; have rlt := (Array.getElem?_eq_some_iff.1 hS1).1; have blt := (Array.getElem?_eq_some_iff.1 hS2).1; have r0 := (cells_of hS1 0).1; have j0 := (cells_of hS2 0).1; have j1 := (cells_of hS2 1).1; clear hS1 hS2; unfold gCells at r0; simp only [List.getElem?_toArray, List.getElem?_cons_zero, List.getElem?_cons_succ] at r0 j0 j1; go_simp; first | done | (with_reducible rfl)
          try simp only [Act.put, List.getElem_toArray, List.getElem_cons_zero, List.getElem_cons_succ, List.setIfInBounds_toArray, List.set_cons_zero, List.set_cons_succ]
          refine wpAnyH_take (i := 13) (oi := _) (v := ?_) rfl (by kernel_rfl) (by kernel_rfl) (by kernel_rfl) (fun _ _ _ h => h) (Or.inl ⟨by rfl, ?_⟩) (by assumption) ?_
          case refine_2 => intro w hSw; (try dsimp only at hSw); obtain ⟨hS1, hS2⟩ := hSw; have rlt := (Array.getElem?_eq_some_iff.1 hS1).1; have blt := (Array.getElem?_eq_some_iff.1 hS2).1; have r0 := (cells_of hS1 0).1; have j0 := (cells_of hS2 0).1; have j1 := (cells_of hS2 1).1; clear hS1 hS2; unfold gCells at r0; simp only [List.getElem?_toArray, List.getElem?_cons_zero, List.getElem?_cons_succ] at r0 j0 j1; go_simp; first | done | (with_reducible rfl)
          try simp only [Act.put, List.getElem_toArray, List.getElem_cons_zero, List.getElem_cons_succ, List.setIfInBounds_toArray, List.set_cons_zero, List.set_cons_succ]
          refine wpAnyH_take (i := 14) (oi := _) (v := ?_) rfl (by kernel_rfl) (by kernel_rfl) (by kernel_rfl) (fun _ _ _ h => h) (Or.inl ⟨by rfl, ?_⟩) (by assumption) ?_
          case refine_2 => intro w hSw; (try dsimp only at hSw); obtain ⟨hS1, hS2⟩ := hSw; have rlt := (Array.getElem?_eq_some_iff.1 hS1).1; have blt := (Array.getElem?_eq_some_iff.1 hS2).1; have r0 := (cells_of hS1 0).1; have j0 := (cells_of hS2 0).1; have j1 := (cells_of hS2 1).1; clear hS1 hS2; unfold gCells at r0; simp only [List.getElem?_toArray, List.getElem?_cons_zero, List.getElem?_cons_succ] at r0 j0 j1; go_simp; first | done | (with_reducible rfl)
          try simp only [Act.put, List.getElem_toArray, List.getElem_cons_zero, List.getElem_cons_succ, List.setIfInBounds_toArray, List.set_cons_zero, List.set_cons_succ]
          refine wpAnyH_take (i := 15) (oi := _) (v := ?_) rfl (by kernel_rfl) (by kernel_rfl) (by kernel_rfl) (fun _ _ _ h => h) (Or.inl ⟨by rfl, ?_⟩) (by assumption) ?_
          case refine_2 => intro w hSw; (try dsimp only at hSw); obtain ⟨hS1, hS2⟩ := hSw; have rlt := (Array.getElem?_eq_some_iff.1 hS1).1; have blt := (Array.getElem?_eq_some_iff.1 hS2).1; have r0 := (cells_of hS1 0).1; have j0 := (cells_of hS2 0).1; have j1 := (cells_of hS2 1).1; clear hS1 hS2; unfold gCells at r0; simp only [List.getElem?_toArray, List.getElem?_cons_zero, List.getElem?_cons_succ] at r0 j0 j1; go_simp; first | done | (with_reducible rfl)
          try simp only [Act.put, List.getElem_toArray, List.getElem_cons_zero, List.getElem_cons_succ, List.setIfInBounds_toArray, List.set_cons_zero, List.set_cons_succ]
          refine wpAnyH_take (i := 16) (oi := _) (v := ?_) rfl (by kernel_rfl) (by kernel_rfl) (by kernel_rfl) (fun _ _ _ h => h) (Or.inl ⟨by rfl, ?_⟩) (by assumption) ?_
          case refine_2 => intro w hSw; (try dsimp only at hSw); obtain ⟨hS1, hS2⟩ := hSw; have rlt := (Array.getElem?_eq_some_iff.1 hS1).1; have blt := (Array.getElem?_eq_some_iff.1 hS2).1; have r0 := (cells_of hS1 0).1; have j0 := (cells_of hS2 0).1; have j1 := (cells_of hS2 1).1; clear hS1 hS2; unfold gCells at r0; simp only [List.getElem?_toArray, List.getElem?_cons_zero, List.getElem?_cons_succ] at r0 j0 j1; go_simp; first | done | (with_reducible rfl)
          try simp only [Act.put, List.getElem_toArray, List.getElem_cons_zero, List.getElem_cons_succ, List.setIfInBounds_toArray, List.set_cons_zero, List.set_cons_succ]
          refine wpAnyH_take (i := 17) (oi := _) (v := ?_) rfl (by kernel_rfl) (by kernel_rfl) (by kernel_rfl) (fun _ _ _ h => h) (Or.inl ⟨by rfl, ?_⟩) (by assumption) ?_
          case refine_2 => intro w hSw; (try dsimp only at hSw); obtain ⟨hS1, hS2⟩ := hSw; have rlt := (Array.getElem?_eq_some_iff.1 hS1).1; have blt := (Array.getElem?_eq_some_iff.1 hS2).1; have r0 := (cells_of hS1 0).1; have j0 := (cells_of hS2 0).1; have j1 := (cells_of hS2 1).1; clear hS1 hS2; unfold gCells at r0; simp only [List.getElem?_toArray, List.getElem?_cons_zero, List.getElem?_cons_succ] at r0 j0 j1; go_simp; first | done | (with_reducible rfl)
          try simp only [Act.put, List.getElem_toArray, List.getElem_cons_zero, List.getElem_cons_succ, List.setIfInBounds_toArray, List.set_cons_zero, List.set_cons_succ]
          refine wpAnyH_done (by kernel_rfl) ?_ _
          try simp only [Act.put, List.getElem_toArray, List.getElem_cons_zero, List.getElem_cons_succ, List.setIfInBounds_toArray, List.set_cons_zero, List.set_cons_succ]
          go_wp2
          go_ret
          exact ⟨ga_ret HOZ.out.symm, HG4.out.sub (fun p hp => by simp [hp])⟩
        | true =>
          refine wp_region_held_drew (S := fun W => W.heap[gb]? = some (.cells (gCells nb most since av nm) 117 (0, 0)) ∧ W.heap[V.heap.size]? = some (.cells #[.int .u32 a.1, .int .i64 a.2] 38 (0, 0))) (by kernel_rfl) ⟨(HDQ.out 1).top, HTA.out _ _ _ (HDQ.out 1)⟩ (fun hHeld => ?_)
          refine wpAnyH_take (i := 0) (oi := _) (v := ?_) rfl (by kernel_rfl) (by kernel_rfl) (by kernel_rfl) (fun _ _ _ h => h) (Or.inl ⟨by rfl, ?_⟩) (by assumption) ?_
          case refine_2 => intro w hSw; (try dsimp only at hSw); obtain ⟨hS1, hS2⟩ := hSw; have rlt := (Array.getElem?_eq_some_iff.1 hS1).1; have blt := (Array.getElem?_eq_some_iff.1 hS2).1; have r0 := (cells_of hS1 0).1; have j0 := (cells_of hS2 0).1; have j1 := (cells_of hS2 1).1; clear hS1 hS2; unfold gCells at r0; simp only [List.getElem?_toArray, List.getElem?_cons_zero, List.getElem?_cons_succ] at r0 j0 j1; go_simp; first | done | (with_reducible rfl)
          try simp only [Act.put, List.getElem_toArray, List.getElem_cons_zero, List.setIfInBounds_toArray, List.set_cons_zero, List.set_cons_succ]
          refine wpAnyH_take (i := 1) (oi := _) (v := ?_) rfl (by kernel_rfl) (by kernel_rfl) (by kernel_rfl) (fun _ _ _ h => h) (Or.inl ⟨by rfl, ?_⟩) (by assumption) ?_
          case refine_2 => intro w hSw; (try dsimp only at hSw); obtain ⟨hS1, hS2⟩ := hSw; have rlt := (Array.getElem?_eq_some_iff.1 hS1).1; have blt := (Array.getElem?_eq_some_iff.1 hS2).1; have r0 := (cells_of hS1 0).1; have j0 := (cells_of hS2 0).1; have j1 := (cells_of hS2 1).1; clear hS1 hS2; unfold gCells at r0; simp only [List.getElem?_toArray, List.getElem?_cons_zero, List.getElem?_cons_succ] at r0 j0 j1; go_simp; first | done | (with_reducible rfl)
          try simp only [Act.put, List.getElem_toArray, List.getElem_cons_zero, List.getElem_cons_succ, List.setIfInBounds_toArray, List.set_cons_zero, List.set_cons_succ]
          refine wpAnyH_take (i := 2) (oi := _) (v := ?_) rfl (by kernel_rfl) (by kernel_rfl) (by kernel_rfl) (fun _ _ _ h => h) (Or.inl ⟨by rfl, ?_⟩) (by assumption) ?_
          case refine_2 => intro w hSw; (try dsimp only at hSw); obtain ⟨hS1, hS2⟩ := hSw; have rlt := (Array.getElem?_eq_some_iff.1 hS1).1; have blt := (Array.getElem?_eq_some_iff.1 hS2).1; have r0 := (cells_of hS1 0).1; have j0 := (cells_of hS2 0).1; have j1 := (cells_of hS2 1).1; clear hS1 hS2; unfold gCells at r0; simp only [List.getElem?_toArray, List.getElem?_cons_zero, List.getElem?_cons_succ] at r0 j0 j1; go_simp; first | done | (with_reducible rfl)
          try simp only [Act.put, List.getElem_toArray, List.getElem_cons_zero, List.getElem_cons_succ, List.setIfInBounds_toArray, List.set_cons_zero, List.set_cons_succ]
          refine wpAnyH_take (i := 3) (oi := _) (v := ?_) rfl (by kernel_rfl) (by kernel_rfl) (by kernel_rfl) (fun _ _ _ h => h) (Or.inl ⟨by rfl, ?_⟩) (by assumption) ?_
          case refine_2 => intro w hSw; (try dsimp only at hSw); obtain ⟨hS1, hS2⟩ := hSw; have rlt := (Array.getElem?_eq_some_iff.1 hS1).1; have blt := (Array.getElem?_eq_some_iff.1 hS2).1; have r0 := (cells_of hS1 0).1; have j0 := (cells_of hS2 0).1; have j1 := (cells_of hS2 1).1; clear hS1 hS2; unfold gCells at r0; simp only [List.getElem?_toArray, List.getElem?_cons_zero, List.getElem?_cons_succ] at r0 j0 j1; go_simp; first | done | (with_reducible rfl)
          try simp only [Act.put, List.getElem_toArray, List.getElem_cons_zero, List.getElem_cons_succ, List.setIfInBounds_toArray, List.set_cons_zero, List.set_cons_succ]
          refine wpAnyH_take (i := 4) (oi := _) (v := ?_) rfl (by kernel_rfl) (by kernel_rfl) (by kernel_rfl) (fun _ _ _ h => h) (Or.inl ⟨by rfl, ?_⟩) (by assumption) ?_
          case refine_2 => intro w hSw; (try dsimp only at hSw); obtain ⟨hS1, hS2⟩ := hSw; have rlt := (Array.getElem?_eq_some_iff.1 hS1).1; have blt := (Array.getElem?_eq_some_iff.1 hS2).1; have r0 := (cells_of hS1 0).1; have j0 := (cells_of hS2 0).1; have j1 := (cells_of hS2 1).1; clear hS1 hS2; unfold gCells at r0; simp only [List.getElem?_toArray, List.getElem?_cons_zero, List.getElem?_cons_succ] at r0 j0 j1; go_simp; first | done | (with_reducible rfl)
          try simp only [Act.put, List.getElem_toArray, List.getElem_cons_zero, List.getElem_cons_succ, List.setIfInBounds_toArray, List.set_cons_zero, List.set_cons_succ]
          refine wpAnyH_take (i := 6) (oi := _) (v := ?_) rfl (by kernel_rfl) (by kernel_rfl) (by kernel_rfl) (fun _ _ _ h => h) (Or.inl ⟨by rfl, ?_⟩) (by assumption) ?_
          case refine_2 => intro w hSw; (try dsimp only at hSw); obtain ⟨hS1, hS2⟩ := hSw; have rlt := (Array.getElem?_eq_some_iff.1 hS1).1; have blt := (Array.getElem?_eq_some_iff.1 hS2).1; have r0 := (cells_of hS1 0).1; have j0 := (cells_of hS2 0).1; have j1 := (cells_of hS2 1).1; clear hS1 hS2; unfold gCells at r0; simp only [List.getElem?_toArray, List.getElem?_cons_zero, List.getElem?_cons_succ] at r0 j0 j1; go_simp; first | done | (with_reducible rfl)
          try simp only [Act.put, List.getElem_toArray, List.getElem_cons_zero, List.getElem_cons_succ, List.setIfInBounds_toArray, List.set_cons_zero, List.set_cons_succ]
          refine wpAnyH_ready (rs := [5]) (by kernel_rfl) (by simp) ?_
          refine AllReadyH.cons rfl (fun K hK => ?_) AllReadyH.nil
          go_simp
          go_at_call 27
          refine (HAL.out _ (HDQ.out 1)).mono ?_
          rintro e W3 ⟨⟨u, l', rfl, hp, hb⟩, hg3⟩
          have HG3 := Lib.hid hg3
          have hI := isAsked_any a u l' W3 hb (by have := HLN.out; have := hp.length_eq; omega)
          rw [any_permG hp, HR.out] at hI
          obtain ⟨A, m, q, rfl⟩ := isBs_form hb
          unfold adr at hI
          have HI := Lib.hid hI
          clear hb hp hg3 hI
          refine hK.out _ _ ⟨HG3.out.top, HTA.out _ _ _ HG3.out⟩ (fun hHeld => ?_)
          clear hK K
          try simp only [Act.put, List.getElem_toArray, List.getElem_cons_zero, List.getElem_cons_succ, List.setIfInBounds_toArray, List.set_cons_zero, List.set_cons_succ]
          refine wpAnyH_ready (rs := [7]) (by kernel_rfl) (by simp) ?_
          refine AllReadyH.cons rfl (fun K hK => ?_) AllReadyH.nil
          go_simp
          go_at_call 96
          refine HI.out.mono ?_
          rintro e W4 ⟨rfl, hb4⟩
          have HG4 := Lib.hid (HG3.out.below hb4)
          clear hb4
          refine hK.out _ _ ⟨HG4.out.top, HTA.out _ _ _ HG4.out⟩ (fun hHeld => ?_)
          clear hK K
          try simp only [Act.put, List.getElem_toArray, List.getElem_cons_zero, List.getElem_cons_succ, List.setIfInBounds_toArray, List.set_cons_zero, List.set_cons_succ]
          refine wpAnyH_take (i := 8) (oi := _) (v := ?_) rfl (by kernel_rfl) (by kernel_rfl) (by kernel_rfl) (fun _ _ _ h => h) (Or.inl ⟨by rfl, ?_⟩) (by assumption) ?_
          case refine_2 => intro w hSw; (try dsimp only at hSw); obtain ⟨hS1, hS2⟩ := hSw; have rlt := (Array.getElem?_eq_some_iff.1 hS1).1; have blt := (Array.getElem?_eq_some_iff.1 hS2).1; have r0 := (cells_of hS1 0).1; have j0 := (cells_of hS2 0).1; have j1 := (cells_of hS2 1).1; clear hS1 hS2; unfold gCells at r0; simp only [List.getElem?_toArray, List.getElem?_cons_zero, List.getElem?_cons_succ] at r0 j0 j1; go_simp; first | done | (with_reducible rfl)
          try simp only [Act.put, List.getElem_toArray, List.getElem_cons_zero, List.getElem_cons_succ, List.setIfInBounds_toArray, List.set_cons_zero, List.set_cons_succ]
          refine wpAnyH_take (i := 9) (oi := _) (v := ?_) rfl (by kernel_rfl) (by kernel_rfl) (by kernel_rfl) (fun _ _ _ h => h) (Or.inl ⟨by rfl, ?_⟩) (by assumption) ?_
          case refine_2 => intro w hSw; (try dsimp only at hSw); obtain ⟨hS1, hS2⟩ := hSw; have rlt := (Array.getElem?_eq_some_iff.1 hS1).1; have blt := (Array.getElem?_eq_some_iff.1 hS2).1; have r0 := (cells_of hS1 0).1; have j0 := (cells_of hS2 0).1; have j1 := (cells_of hS2 1).1; clear hS1 hS2; unfold gCells at r0; simp only [List.getElem?_toArray, List.getElem?_cons_zero, List.getElem?_cons_succ] at r0 j0 j1; go_simp; first | done | (with_reducible rfl)
          try simp only [Act.put, List.getElem_toArray, List.getElem_cons_zero, List.getElem_cons_succ, List.setIfInBounds_toArray, List.set_cons_zero, List.set_cons_succ]
          refine wpAnyH_take (i := 10) (oi := _) (v := ?_) rfl (by kernel_rfl) (by kernel_rfl) (by kernel_rfl) (fun _ _ _ h => h) (Or.inl ⟨by rfl, ?_⟩) (by assumption) ?_
          case refine_2 => intro w hSw; (try dsimp only at hSw); obtain ⟨hS1, hS2⟩ := hSw; have rlt := (Array.getElem?_eq_some_iff.1 hS1).1; have blt := (Array.getElem?_eq_some_iff.1 hS2).1; have r0 := (cells_of hS1 0).1; have j0 := (cells_of hS2 0).1; have j1 := (cells_of hS2 1).1; clear hS1 hS2; unfold gCells at r0; simp only [List.getElem?_toArray, List.getElem?_cons_zero, List.getElem?_cons_succ] at r0 j0 j1; go_simp; first | done | (with_reducible rfl)
          try simp only [Act.put, List.getElem_toArray, List.getElem_cons_zero, List.getElem_cons_succ, List.setIfInBounds_toArray, List.set_cons_zero, List.set_cons_succ]
          refine wpAnyH_take (i := 11) (oi := _) (v := ?_) rfl (by kernel_rfl) (by kernel_rfl) (by kernel_rfl) (fun _ _ _ h => h) (Or.inl ⟨by rfl, ?_⟩) (by assumption) ?_
          case refine_2 => intro w hSw; (try dsimp only at hSw); obtain ⟨hS1, hS2⟩ := hSw; have rlt := (Array.getElem?_eq_some_iff.1 hS1).1; have blt := (Array.getElem?_eq_some_iff.1 hS2).1; have r0 := (cells_of hS1 0).1; have j0 := (cells_of hS2 0).1; have j1 := (cells_of hS2 1).1; clear hS1 hS2; unfold gCells at r0; simp only [List.getElem?_toArray, List.getElem?_cons_zero, List.getElem?_cons_succ] at r0 j0 j1; go_simp; first | done | (with_reducible rfl)
          try simp only [Act.put, List.getElem_toArray, List.getElem_cons_zero, List.getElem_cons_succ, List.setIfInBounds_toArray, List.set_cons_zero, List.set_cons_succ]
          refine wpAnyH_take (i := 12) (oi := _) (v := ?_) rfl (by kernel_rfl) (by kernel_rfl) (by kernel_rfl) (fun _ _ _ h => h) (Or.inl ⟨by rfl, ?_⟩) (by assumption) ?_
          case refine_2 => intro w hSw; (try dsimp only at hSw); obtain ⟨hS1, hS2⟩ := hSw; have rlt := (Array.getElem?_eq_some_iff.1 hS1).1; have blt := (Array.getElem?_eq_some_iff.1 hS2).1; have r0 := (cells_of hS1 0).1; have j0 := (cells_of hS2 0).1; have j1 := (cells_of hS2 1).1; clear hS1 hS2; unfold gCells at r0; simp only [List.getElem?_toArray, List.getElem?_cons_zero, List.getElem?_cons_succ] at r0 j0 j1; go_simp; first | done | (with_reducible rfl)
          try simp only [Act.put, List.getElem_toArray, List.getElem_cons_zero, List.getElem_cons_succ, List.setIfInBounds_toArray, List.set_cons_zero, List.set_cons_succ]
          refine wpAnyH_take (i := 13) (oi := _) (v := ?_) rfl (by kernel_rfl) (by kernel_rfl) (by kernel_rfl) (fun _ _ _ h => h) (Or.inl ⟨by rfl, ?_⟩) (by assumption) ?_
          case refine_2 => intro w hSw; (try dsimp only at hSw); obtain ⟨hS1, hS2⟩ := hSw; have rlt := (Array.getElem?_eq_some_iff.1 hS1).1; have blt := (Array.getElem?_eq_some_iff.1 hS2).1; have r0 := (cells_of hS1 0).1; have j0 := (cells_of hS2 0).1; have j1 := (cells_of hS2 1).1; clear hS1 hS2; unfold gCells at r0; simp only [List.getElem?_toArray, List.getElem?_cons_zero, List.getElem?_cons_succ] at r0 j0 j1; go_simp; first | done | (with_reducible rfl)
          try simp only [Act.put, List.getElem_toArray, List.getElem_cons_zero, List.getElem_cons_succ, List.setIfInBounds_toArray, List.set_cons_zero, List.set_cons_succ]
          refine wpAnyH_take (i := 14) (oi := _) (v := ?_) rfl (by kernel_rfl) (by kernel_rfl) (by kernel_rfl) (fun _ _ _ h => h) (Or.inl ⟨by rfl, ?_⟩) (by assumption) ?_
          case refine_2 => intro w hSw; (try dsimp only at hSw); obtain ⟨hS1, hS2⟩ := hSw; have rlt := (Array.getElem?_eq_some_iff.1 hS1).1; have blt := (Array.getElem?_eq_some_iff.1 hS2).1; have r0 := (cells_of hS1 0).1; have j0 := (cells_of hS2 0).1; have j1 := (cells_of hS2 1).1; clear hS1 hS2; unfold gCells at r0; simp only [List.getElem?_toArray, List.getElem?_cons_zero, List.getElem?_cons_succ] at r0 j0 j1; go_simp; first | done | (with_reducible rfl)
          try simp only [Act.put, List.getElem_toArray, List.getElem_cons_zero, List.getElem_cons_succ, List.setIfInBounds_toArray, List.set_cons_zero, List.set_cons_succ]
          refine wpAnyH_take (i := 15) (oi := _) (v := ?_) rfl (by kernel_rfl) (by kernel_rfl) (by kernel_rfl) (fun _ _ _ h => h) (Or.inl ⟨by rfl, ?_⟩) (by assumption) ?_
          case refine_2 => intro w hSw; (try dsimp only at hSw); obtain ⟨hS1, hS2⟩ := hSw; have rlt := (Array.getElem?_eq_some_iff.1 hS1).1; have blt := (Array.getElem?_eq_some_iff.1 hS2).1; have r0 := (cells_of hS1 0).1; have j0 := (cells_of hS2 0).1; have j1 := (cells_of hS2 1).1; clear hS1 hS2; unfold gCells at r0; simp only [List.getElem?_toArray, List.getElem?_cons_zero, List.getElem?_cons_succ] at r0 j0 j1; go_simp; first | done | (with_reducible rfl)
          try simp only [Act.put, List.getElem_toArray, List.getElem_cons_zero, List.getElem_cons_succ, List.setIfInBounds_toArray, List.set_cons_zero, List.set_cons_succ]
          refine wpAnyH_take (i := 16) (oi := _) (v := ?_) rfl (by kernel_rfl) (by kernel_rfl) (by kernel_rfl) (fun _ _ _ h => h) (Or.inl ⟨by rfl, ?_⟩) (by assumption) ?_
          case refine_2 => intro w hSw; (try dsimp only at hSw); obtain ⟨hS1, hS2⟩ := hSw; have rlt := (Array.getElem?_eq_some_iff.1 hS1).1; have blt := (Array.getElem?_eq_some_iff.1 hS2).1; have r0 := (cells_of hS1 0).1; have j0 := (cells_of hS2 0).1; have j1 := (cells_of hS2 1).1; clear hS1 hS2; unfold gCells at r0; simp only [List.getElem?_toArray, List.getElem?_cons_zero, List.getElem?_cons_succ] at r0 j0 j1; go_simp; first | done | (with_reducible rfl)
          try simp only [Act.put, List.getElem_toArray, List.getElem_cons_zero, List.getElem_cons_succ, List.setIfInBounds_toArray, List.set_cons_zero, List.set_cons_succ]
          refine wpAnyH_take (i := 17) (oi := _) (v := ?_) rfl (by kernel_rfl) (by kernel_rfl) (by kernel_rfl) (fun _ _ _ h => h) (Or.inl ⟨by rfl, ?_⟩) (by assumption) ?_
          case refine_2 => intro w hSw; (try dsimp only at hSw); obtain ⟨hS1, hS2⟩ := hSw; have rlt := (Array.getElem?_eq_some_iff.1 hS1).1; have blt := (Array.getElem?_eq_some_iff.1 hS2).1; have r0 := (cells_of hS1 0).1; have j0 := (cells_of hS2 0).1; have j1 := (cells_of hS2 1).1; clear hS1 hS2; unfold gCells at r0; simp only [List.getElem?_toArray, List.getElem?_cons_zero, List.getElem?_cons_succ] at r0 j0 j1; go_simp; first | done | (with_reducible rfl)
          try simp only [Act.put, List.getElem_toArray, List.getElem_cons_zero, List.getElem_cons_succ, List.setIfInBounds_toArray, List.set_cons_zero, List.set_cons_succ]
          refine wpAnyH_done (by kernel_rfl) ?_ _
          try simp only [Act.put, List.getElem_toArray, List.getElem_cons_zero, List.getElem_cons_succ, List.setIfInBounds_toArray, List.set_cons_zero, List.set_cons_succ]
          go_wp2
          go_ret
          exact ⟨ga_ret HOZ.out.symm, HG4.out.sub (fun p hp => by simp [hp])⟩
end
end Go.Proofs.Ytemlnkcokeckmaa
