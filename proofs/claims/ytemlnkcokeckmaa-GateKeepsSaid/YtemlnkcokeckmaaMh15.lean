/-
  Contracts of gate's forget and goesOn. Conditions: the gateway stands.
  How a gateway answers a version: a map of bound methods; contracts of isGateway and spoken. Conditions: as each lemma states.
  Contracts of embrasure/pcp.mayAnswer and mayAsk, and of the document's own may. Conditions: the lease's fields are of their types.
-/
import Derived.Test.YtemlnkcokeckmaaMh14
import Derived.Deep.RegionWith
import Derived.Deep.Cut
import Derived.Test.YtemlnkcokeckmaaMh3
namespace Go.Proofs.Ytemlnkcokeckmaa
open Go.RowKit Go.Maps
attribute [local go_sem] Oper.semAt_some
set_option linter.unusedVariables false
set_option linter.unusedSimpArgs false

theorem any_permG {f : Bn → Bool} {M R : List Bn} (hp : M.Perm R) : M.any f = R.any f := by
  rw [Bool.eq_iff_iff, List.any_eq_true, List.any_eq_true]
  exact ⟨fun ⟨b, h1, h2⟩ => ⟨b, hp.mem_iff.1 h1, h2⟩, fun ⟨b, h1, h2⟩ => ⟨b, hp.mem_iff.2 h1, h2⟩⟩
/-- the numbers of those whose bindings are there -/
def keptF (f : Nf) (M : List Bn) : Nf := cutF f (fun a => !M.any (askF a))
section
variable {w0 V V' : World} {gb nb nm : Nat} {x : Bx} {most since now now' : Int} {av : Value} {f f' : Nf} {c c' : Nat} {M M' : List Bn} {os : List (Nat × Obj)}
theorem all_gm (h : Gm w0 gb nb nm x most since av f c now M os V) (hM : OkM M) (t : Int) (hg : goes now t = true) :
    Calls Try.prog 27 #[.pointer (some ⟨nb, 0, none⟩), .int .i64 t] V fun e V' => (∃ v l', e = .returned v ∧ l'.Perm (liveM M t) ∧ IsBs V' v l') ∧ Gm w0 gb nb nm x most since av f c t (liveM M t) os V' :=
  h.prog fun os' hp => (all_pl hp hM t hg).mono fun e V' hq => ⟨by obtain ⟨⟨v, l', h1, h2, h3, h4⟩, _⟩ := hq; exact ⟨v, l', h1, h2, h4⟩, hq.2⟩
theorem isBs_form {w : World} {u : Value} {l : List Bn} (h : IsBs w u l) : ∃ A n c, u = .slice A n c := by obtain ⟨A, c, e, _⟩ := h; exact ⟨_, _, _, e⟩
set_option maxHeartbeats 2000000 in
theorem forget_gm (h : Gm w0 gb nb nm x most since av f c now M os V) (hM : OkM M) (t : Int) (hg : goes now t = true) :
    Calls Try.prog 62 #[.pointer (some ⟨gb, 0, none⟩), .int .i64 t] V fun e V' => e = .returned (.tuple #[]) ∧ Gm w0 gb nb nm x most since av (keptF f (liveM M t)) c t (liveM M t) os V' := by
  have HA := Lib.hid (all_gm h hM t hg)
  have HL : Hid ((liveM M t).length ≤ 100) := Lib.hid (Nat.le_trans (List.length_filter_le _ _) hM.len)
  obtain ⟨⟨c0, c1, c2, c3, c4⟩, cf, cl⟩ := h.cells
  clear h
  go_enter Try.func62, Try.ntmps62
  go_wp2_with fail
  refine HA.out.mono ?_
  rintro e V1 ⟨⟨v, l', rfl, hp, hb⟩, hG1⟩
  obtain ⟨A, n, k, rfl⟩ := isBs_form hb
  clear c0 c1 c2 c3 c4 cf cl
  have hG2 := hG1.alloc (.cells #[.slice A n k] 48)
  obtain ⟨⟨c0, c1, c2, c3, c4⟩, cf, cl⟩ := hG2.cells
  obtain ⟨D, hD, hN⟩ := hG2.map
  have hdf := df_any nm V1.heap.size (.slice A n k) l' c D f _ hD hN (World.alloc_heap_new V1 _) (isBs_below hb ((Below.refl _ V1).alloc (Nat.le_refl _) _)) (by have := HL.out; have := hp.length_eq; omega)
  have HG2 := Lib.hid hG2
  have HE : Hid ((fun a => !l'.any (askF a)) = (fun a => !(liveM M t).any (askF a))) := Lib.hid (by funext a; rw [any_permG hp])
  clear hb hp hG1 hG2 hD hN
  go_wp2_with fail
  refine hdf.mono ?_
  rintro e V3 ⟨rfl, D', hD', hN', hgr⟩
  have HG3 := Lib.hid (HG2.out.turn hgr hD' hN')
  rw [HE.out] at HG3
  clear hD' hN' hgr hdf
  go_wp2
  go_end0
  exact ⟨rfl, HG3.out⟩
theorem in_code (x : Bx) (n : Int) (M : List Bn) (t p : Int) (a : A2) : ((inS x n M t p a).2.1 != 1) = (goes n t && mayA a) := by
  unfold inS
  cases hg : goes n t with
  | false => simp
  | true =>
    rw [if_pos rfl]
    unfold inM
    cases hm : mayA a with
    | false => simp
    | true =>
      rw [if_pos rfl]
      cases (liveM M t).find? (comesF x p a) <;> simp
set_option maxHeartbeats 4000000 in
/-- goesOn: may the time go on, and is it an address -/
theorem goesOn_gm (h : Gm w0 gb nb nm x most since av f c now M os V) (hM : OkM M) (t : Int) (a : A2) (ha : isA a) :
    Calls Try.prog 61 #[.pointer (some ⟨gb, 0, none⟩), .int .i64 t, adr a] V fun e V' => e = .returned (.bool (goes now t && mayA a)) ∧ Gm w0 gb nb nm x most since av f c (inS x now M t 0 a).2.2.1 (inS x now M t 0 a).2.2.2 os V' := by
  have HCW : Hid (∀ (os' : List (Nat × Obj)) (W : World), Gm w0 gb nb nm x most since av f c now M os' W → Calls Try.prog 19 #[.pointer (some ⟨nb, 0, none⟩), .int .i64 t, .int .i64 0, adr a] W fun e V' => e = .returned (ansA (inS x now M t 0 a).1 (inS x now M t 0 a).2.1) ∧ Gm w0 gb nb nm x most since av f c (inS x now M t 0 a).2.2.1 (inS x now M t 0 a).2.2.2 os' V') := Lib.hid (fun os' W hW => hW.prog fun os2 hp => in_pl hp hM t 0 a ha)
  have HR := Lib.hid (in_code x now M t 0 a)
  generalize inS x now M t 0 a = R at *
  obtain ⟨⟨r1, r2⟩, rc, rn, rM⟩ := R
  dsimp only at HCW HR
  unfold ansA adr at HCW
  dsimp only at HCW
  unfold adr
  have hbox := h.box (k := V.heap.size) #[.int .u32 a.1, .int .i64 a.2] 38 rfl
  have HL := Lib.hid hbox
  obtain ⟨⟨c0, c1, c2, c3, c4⟩, cf, cl⟩ := hbox.cells
  obtain ⟨V1, hV1⟩ : ∃ V1, V.alloc (.cells #[.int .u32 a.1, .int .i64 a.2] 38) = V1 := ⟨_, rfl⟩
  rw [hV1] at HL c0 c1 c2 c3 c4 cf cl
  have b0 := (HL.out.cellsOf (b := V.heap.size) (C := #[.int .u32 a.1, .int .i64 a.2]) (t := 38) (by simp) 0).1
  have b1 := (HL.out.cellsOf (b := V.heap.size) (C := #[.int .u32 a.1, .int .i64 a.2]) (t := 38) (by simp) 1).1
  simp only [List.getElem?_toArray, List.getElem?_cons_zero, List.getElem?_cons_succ] at b0 b1
  have bl : V.heap.size < V1.heap.size := HL.out.lt (p := (V.heap.size, .cells #[.int .u32 a.1, .int .i64 a.2] 38 (0, 0))) (by simp)
  have HLOW := Lib.hid (h.low.size)
  clear h hbox
  go_enter Try.func61, Try.ntmps61
  go_upto_region 1 with (fail)
  have HPA := Lib.hid (HL.out.drewN 1)
  have HPB := Lib.hid ((HL.out.drewN 1).box (k := V1.heap.size) #[.int .u32 0, .int .i64 0] 38 rfl)
  have hne : V.heap.size ≠ V1.heap.size := by omega
  have HGN : Hid (V1.heap.size ≠ gb ∧ ∀ p ∈ os, p.1 ≠ V1.heap.size) := Lib.hid ⟨by omega, fun p hp e => by have := HL.out.lt (p := p) (by simp [hp]); omega⟩
  have HWV : Hid (w0.heap.size ≤ V1.heap.size) := Lib.hid (by have := HLOW.out; omega)
  go_cut [7, 8] from 9 (fun v7 v8 wc => ∃ q : Nat, v7 = .pointer (some ⟨q, 0, none⟩) ∧ v8 = .int .i64 rc ∧ Hid (Gm w0 gb nb nm x most since av f c rn rM os wc))
  case first =>
    have HCA := Lib.hid (HCW.out ((V.heap.size, Obj.cells #[.int .u32 a.1, .int .i64 a.2] 38 (0, 0)) :: os))
    have HCB := Lib.hid (HCW.out ((V1.heap.size, Obj.cells #[.int .u32 0, .int .i64 0] 38 (0, 0)) :: (V.heap.size, Obj.cells #[.int .u32 a.1, .int .i64 a.2] 38 (0, 0)) :: os))
    clear HCW HL
    go_region_with (go_at_call 19; first
      | (refine (HCA.out _ ?_).mono ?_; exact HPA.out; rintro e V3 ⟨rfl, hp3⟩; have HP3 := Lib.hid hp3; clear hp3)
      | (refine (HCB.out _ ?_).mono ?_; exact HPB.out; rintro e V3 ⟨rfl, hp3⟩; have HP3 := Lib.hid hp3; obtain ⟨t0, t1⟩ := hp3.cellsOf (b := V1.heap.size) (C := #[.int .u32 0, .int .i64 0]) (t := 38) (by simp) 0; obtain ⟨t2, t3⟩ := hp3.cellsOf (b := V1.heap.size) (C := #[.int .u32 0, .int .i64 0]) (t := 38) (by simp) 1; have tl := hp3.lt (p := (V1.heap.size, Obj.cells #[.int .u32 0, .int .i64 0] 38 (0, 0))) (by simp); clear hp3))
    all_goals go_wp2
    all_goals (try simp only [Act.put, List.getElem_toArray, List.getElem_cons_zero, List.getElem_cons_succ, List.setIfInBounds_toArray, List.set_cons_zero, List.set_cons_succ])
    all_goals (go_meet; case rel => first
      | exact ⟨_, rfl, rfl, Lib.hid ((HP3.out.sub (os' := os) (fun p hp => by simp [hp])).alloc _)⟩
      | exact ⟨_, rfl, rfl, Lib.hid (((HP3.out.store (j := 0) (v := .int .u32 r1) (fun p hp => by rcases List.mem_cons.1 hp with rfl | hp; exact hne; exact HGN.out.2 p hp) HWV.out).store (j := 1) (v := .int .i64 r2) (fun p hp => by rcases List.mem_cons.1 hp with rfl | hp; exact hne; exact HGN.out.2 p hp) HWV.out).sub (os' := os) (fun p hp => by simp [hp]))⟩)
  case rest =>
    obtain ⟨q, rfl, rfl, HG⟩ := hcut
    clear HPA HPB HL HCW
    by_cases h1 : rc = 1
    · have HRB : Hid (false = (goes now t && mayA a)) := Lib.hid (by rw [← HR.out, h1]; rfl)
      clear HR
      subst h1
      go_wp2
      go_ret
      exact ⟨ga_ret HRB.out, HG.out⟩
    · have HRB : Hid (true = (goes now t && mayA a)) := Lib.hid (by rw [← HR.out]; simpa using h1)
      have hb : (rc != 1) = true := by simpa using h1
      clear HR
      go_wp2
      go_ret
      exact ⟨ga_ret HRB.out, HG.out⟩
end
end Go.Proofs.Ytemlnkcokeckmaa
namespace Go.Proofs.Ytemlnkcokeckmaa
open Go.RowKit Go.Maps
attribute [local go_sem] Oper.semAt_some
set_option linter.unusedVariables false
set_option linter.unusedSimpArgs false

/-- a method of the gateway gb, bound -/
def fnV (gb k : Nat) : Value := .func (.func k) #[.pointer (some ⟨gb, 0, none⟩)] #[]
theorem fnV_inj {gb k j : Nat} (h : fnV gb k = fnV gb j) : k = j := by
  unfold fnV at h
  simpa using h
theorem fnV_nil {gb k : Nat} : fnV gb k ≠ Value.nilFunc := by
  unfold fnV
  intro h
  cases h
open Classical in
/-- what such a value reads as -/
noncomputable def Rf (gb : Nat) (v : Value) : Option (DataW Unit × List MemPlace) := if v = Value.nilFunc then some (.nil, []) else if h : ∃ k : Nat, v = fnV gb k then some (.lit (.int .i64 (h.choose : Nat)), []) else none
theorem Rf_fn (gb k : Nat) : Rf gb (fnV gb k) = some (.lit (.int .i64 (k : Nat)), []) := by
  unfold Rf
  rw [if_neg fnV_nil, dif_pos ⟨k, rfl⟩]
  have h : ∃ j : Nat, fnV gb k = fnV gb j := ⟨k, rfl⟩
  have := fnV_inj h.choose_spec
  simp only [Option.some.injEq, Prod.mk.injEq, DataW.lit.injEq, Lit.int.injEq, true_and, and_true]
  omega
theorem Rf_nil (gb : Nat) : Rf gb Value.nilFunc = some (.nil, []) := by unfold Rf; rw [if_pos rfl]
theorem Rf_lit {gb k : Nat} {v : Value} {ps : List MemPlace} (h : Rf gb v = some (.lit (.int .i64 (k : Nat)), ps)) : v = fnV gb k := by
  unfold Rf at h
  split at h
  · simp at h
  · split at h
    · rename_i hk
      simp only [Option.some.injEq, Prod.mk.injEq, DataW.lit.injEq, Lit.int.injEq, true_and] at h
      have e := hk.choose_spec
      have : hk.choose = k := by omega
      rw [this] at e
      exact e
    · cases h
theorem Rf_none {gb : Nat} {v : Value} {ps : List MemPlace} (h : Rf gb v = some (.nil, ps)) : v = Value.nilFunc := by
  unfold Rf at h
  split at h
  · assumption
  · split at h
    · simp at h
    · cases h
theorem lawI : Keyed Try.prog 3 := int_keyed Try.underlying3
def k0I : Lit := .int .i64 0
def k2I : Lit := .int .i64 2
/-- how versions 0 and 2 are answered -/
def ansD (k0 k2 : Nat) : DataW Unit := ((DataW.map []).put k0I (.lit (.int .i64 (k0 : Nat)))).put k2I (.lit (.int .i64 (k2 : Nat)))
theorem ansD_0 (k0 k2 : Nat) (z : DataW Unit) : (ansD k0 k2).atKey k0I z = .lit (.int .i64 (k0 : Nat)) := by
  unfold ansD
  rw [atKey_put_other (by unfold k0I k2I; simp), atKey_put_same isMap_empty (by unfold k0I; trivial)]
theorem ansD_2 (k0 k2 : Nat) (z : DataW Unit) : (ansD k0 k2).atKey k2I z = .lit (.int .i64 (k2 : Nat)) := by
  unfold ansD
  rw [atKey_put_same (isMap_empty.put _ _) (by unfold k2I; trivial)]
theorem ansD_other (k0 k2 : Nat) (v : Int) (h0 : v ≠ 0) (h2 : v ≠ 2) (z : DataW Unit) : (ansD k0 k2).atKey (.int .i64 v) z = z := by
  unfold ansD
  rw [atKey_put_other (by unfold k2I; simpa using h2), atKey_put_other (by unfold k0I; simpa using h0)]
  rfl
/-- two entries are laid -/
theorem ins2 (gb k0 k2 g : Nat) (W : World) (hg : g = W.heap.size) :
    ∃ W1 W2, (Instr.mapUpdate 115 (.map (some g)) (.int .i64 0) (fnV gb k0)).run Try.prog (W.alloc (.map #[] 0)) = .ok () W1 ∧ (Instr.mapUpdate 115 (.map (some g)) (.int .i64 2) (fnV gb k2)).run Try.prog W1 = .ok () W2 ∧
      W2.ownsMap Try.prog 3 (Rf gb) g 2 (ansD k0 k2) ∧ Below W.heap.size W W2 := by
  subst hg
  have h0 := World.ownsMap_made W Try.prog 3 (Rf gb)
  obtain ⟨W1, r1, o1, g1⟩ := h0.update lawI Try.underlying115 (by unfold maxLen; omega) (keyOf_int_mk Try.underlying3 (a := 0) (by decide)) (Rf_fn gb k0)
  obtain ⟨W2, r2, o2, g2⟩ := o1.update lawI Try.underlying115 (by unfold maxLen; omega) (keyOf_int_mk Try.underlying3 (a := 2) (by decide)) (Rf_fn gb k2)
  refine ⟨W1, W2, r1, r2, o2, ?_⟩
  have b0 : Below W.heap.size W (W.alloc (.map #[] 0)) := (Below.refl _ W).alloc (Nat.le_refl _) _
  have b1 : Below W.heap.size (W.alloc (.map #[] 0)) W1 := ⟨g1.os, g1.tape, g1.output, g1.size, fun k hk => g1.block k (by simp; omega) (fun e => by cases e; omega)⟩
  have b2 : Below W.heap.size W1 W2 := ⟨g2.os, g2.tape, g2.output, g2.size, fun k hk => g2.block k (by have := g1.size; simp at this; omega) (fun e => by cases e; omega)⟩
  exact (b0.trans b1).trans b2
set_option maxHeartbeats 1000000 in
theorem isGateway_any (p q : Bool) (m : Int) (w : World) : Calls Try.prog 59 #[.agg #[.bool p, .bool q, .int .i64 m]] w fun e w' => e = .returned (.bool (decide (1 ≤ m) && decide (m ≤ 4294967295))) ∧ Below w.heap.size w w' := by
  obtain ⟨r, hr⟩ : ∃ r, (decide (1 ≤ m) && decide (m ≤ 4294967295)) = r := ⟨_, rfl⟩
  rw [hr]
  have HR0 := Lib.hid hr
  clear hr
  have HB : Hid (∀ C : Obj, Below w.heap.size w (w.alloc C)) := Lib.hid (fun C => (Below.refl _ w).alloc (Nat.le_refl _) _)
  by_cases h1 : 1 ≤ m
  · by_cases h2 : m ≤ 4294967295
    · have HR : Hid (r = true) := Lib.hid (by rw [← HR0.out]; simp [h1, h2])
      go_enter Try.func59, Try.ntmps59
      go_wp2
      go_ret
      exact ⟨ga_ret HR.out.symm, HB.out _⟩
    · have HR : Hid (r = false) := Lib.hid (by rw [← HR0.out]; simp [h1, h2])
      go_enter Try.func59, Try.ntmps59
      go_wp2
      go_ret
      exact ⟨ga_ret HR.out.symm, HB.out _⟩
  · have HR : Hid (r = false) := Lib.hid (by rw [← HR0.out]; simp [h1])
    go_enter Try.func59, Try.ntmps59
    go_wp2
    go_ret
    exact ⟨ga_ret HR.out.symm, HB.out _⟩
/-- the map of answers of a gateway that speaks so -/
def kOf0 (p : Bool) : Nat := if p then 90 else 93
def kOf2 (q : Bool) : Nat := if q then 91 else 92
def Spk (w w' : World) (gb : Nat) (p q : Bool) (av : Value) : Prop := if p = false ∧ q = false then av = .map none else ∃ am, av = .map (some am) ∧ w.heap.size ≤ am ∧ w'.ownsMap Try.prog 3 (Rf gb) am 2 (ansD (kOf0 p) (kOf2 q))
set_option maxHeartbeats 4000000 in
theorem spoken_any (gb : Nat) (p q : Bool) (m : Int) (w : World) : Calls Try.prog 60 #[.pointer (some ⟨gb, 0, none⟩), .agg #[.bool p, .bool q, .int .i64 m]] w fun e w' => ∃ av, e = .returned av ∧ Spk w w' gb p q av ∧ Below w.heap.size w w' := by
  have hb0 : Below w.heap.size w (w.alloc (.cells #[.bool p, .bool q, .int .i64 m] 70)) := (Below.refl _ w).alloc (Nat.le_refl _) _
  have HB := Lib.hid hb0
  have HMM := @run_makeMap Try.prog
  obtain ⟨W1, W2, r1, r2, o, hb⟩ := ins2 gb (kOf0 p) (kOf2 q) (w.heap.size + 1) (w.alloc (.cells #[.bool p, .bool q, .int .i64 m] 70)) (by simp)
  have HS : Hid (¬ (p = false ∧ q = false) → Spk w W2 gb p q (.map (some (w.heap.size + 1)))) := Lib.hid (fun h => by unfold Spk; rw [if_neg h]; exact ⟨_, rfl, by omega, o⟩)
  have HN : Hid (∀ W, p = false ∧ q = false → Spk w W gb p q (.map none)) := Lib.hid (fun W h => by unfold Spk; rw [if_pos h])
  have HB2 := Lib.hid (hb0.trans (hb.mono (by simp)))
  clear hb0 hb o
  unfold fnV at r1 r2
  cases p <;> cases q <;> simp only [kOf0, kOf2, if_true, if_false, Bool.false_eq_true] at r1 r2
  · go_enter Try.func60, Try.ntmps60
    go_wp2
    go_ret
    exact ⟨_, rfl, HN.out _ (by simp), HB.out⟩
  · go_enter Try.func60, Try.ntmps60
    go_wp2
    go_ret
    exact ⟨_, rfl, HS.out (by simp), HB2.out⟩
  · go_enter Try.func60, Try.ntmps60
    go_wp2
    go_ret
    exact ⟨_, rfl, HS.out (by simp), HB2.out⟩
  · go_enter Try.func60, Try.ntmps60
    go_wp2
    go_ret
    exact ⟨_, rfl, HS.out (by simp), HB2.out⟩
end Go.Proofs.Ytemlnkcokeckmaa
namespace Go.Proofs.Ytemlnkcokeckmaa.Pp
open Go.RowKit
set_option linter.unusedVariables false
set_option linter.unusedSimpArgs false

/-- a lease's fields may be so in an answer -/
def Pan (l : Le) : Prop := l.ver = 2 ∧ (0 ≤ l.ins ∧ l.ins ≤ 65535) ∧ (0 ≤ l.prt ∧ l.prt ≤ 65535) ∧ (0 ≤ l.secs ∧ l.secs ≤ 4294967295) ∧ (0 ≤ l.res ∧ l.res ≤ 255) ∧ (0 ≤ l.epo ∧ l.epo ≤ 4294967295)
def Pas (l : Le) : Prop := Pan l ∧ l.res = 0 ∧ l.epo = 0
instance (l : Le) : Decidable (Pan l) := by unfold Pan; infer_instance
instance (l : Le) : Decidable (Pas l) := by unfold Pas; infer_instance
theorem fits1 (v : Int) (w : World) (h : W64 v) : Calls Try.prog 120 #[.int .i64 1, .int .i64 v] w fun e w' => e = .returned (.bool (fitsB 255 v)) ∧ w = w' := by
  obtain ⟨h1, h2⟩ := h
  have e : fitsB 255 v = (v / 256 == 0) := by unfold fitsB; rw [Bool.eq_iff_iff]; simp; omega
  rw [e]
  clear e
  go_enter Try.func120, Try.ntmps120
  go_wp2
  go_ret
  exact ⟨rfl, rfl⟩
theorem fitsB_yes {m v : Int} (h : 0 ≤ v ∧ v ≤ m) : fitsB m v = true := by unfold fitsB; exact decide_eq_true h
theorem fitsB_no {m v : Int} (h : ¬ (0 ≤ v ∧ v ≤ m)) : fitsB m v = false := by unfold fitsB; exact decide_eq_false h

set_option maxHeartbeats 2000000 in
theorem pmayAnswer_any (l : Le) (w : World) (hl : isL l) : Calls Try.prog 100 #[leV l] w fun e w' => e = .returned (.bool (decide (Pan l))) ∧ Below w.heap.size w w' := by
  obtain ⟨Xver, Xins, Xprt, Xsecs, Xnon, Xres, Xepo, Xhst⟩ := hl
  obtain ⟨ver, ins, prt, secs, non, res, epo, hst⟩ := l
  unfold leV leA
  obtain ⟨r, hr⟩ : ∃ r, decide (Pan ⟨ver, ins, prt, secs, non, res, epo, hst⟩) = r := ⟨_, rfl⟩
  rw [hr]
  have HR := Lib.hid hr; clear hr
  dsimp only at *
  have HBE : Hid (∀ C : Obj, Below w.heap.size w (w.alloc C)) := Lib.hid (fun C => (Below.refl _ w).alloc (Nat.le_refl _) _)
  go_enter Try.func100, Try.ntmps100
  by_cases h0 : ver = 2
  · subst h0
    by_cases h1 : 0 ≤ ins ∧ ins ≤ 65535
    · go_wp2_with fail
      refine (fits2 ins _ Xins).mono ?_
      rw [fitsB_yes h1]
      rintro e w' ⟨rfl, rfl⟩
      by_cases h2 : 0 ≤ prt ∧ prt ≤ 65535
      · go_wp2_with fail
        refine (fits2 prt _ Xprt).mono ?_
        rw [fitsB_yes h2]
        rintro e w' ⟨rfl, rfl⟩
        by_cases h3 : 0 ≤ secs ∧ secs ≤ 4294967295
        · go_wp2_with fail
          refine (fits4 secs _ Xsecs).mono ?_
          rw [fitsB_yes h3]
          rintro e w' ⟨rfl, rfl⟩
          by_cases h4 : 0 ≤ res ∧ res ≤ 255
          · go_wp2_with fail
            refine (fits1 res _ Xres).mono ?_
            rw [fitsB_yes h4]
            rintro e w' ⟨rfl, rfl⟩
            by_cases h5 : 0 ≤ epo ∧ epo ≤ 4294967295
            · go_wp2_with fail
              refine (fits4 epo _ Xepo).mono ?_
              rw [fitsB_yes h5]
              rintro e w' ⟨rfl, rfl⟩
              go_wp2
              go_ret
              exact ⟨ret_bool (by rw [← HR.out]; exact (decide_eq_true (by unfold Pan; dsimp only; omega)).symm), HBE.out _⟩
            · go_wp2_with fail
              refine (fits4 epo _ Xepo).mono ?_
              rw [fitsB_no h5]
              rintro e w' ⟨rfl, rfl⟩
              go_wp2
              go_ret
              exact ⟨ret_bool (by rw [← HR.out]; exact (decide_eq_false (by unfold Pan; dsimp only; omega)).symm), HBE.out _⟩
          · go_wp2_with fail
            refine (fits1 res _ Xres).mono ?_
            rw [fitsB_no h4]
            rintro e w' ⟨rfl, rfl⟩
            go_wp2
            go_ret
            exact ⟨ret_bool (by rw [← HR.out]; exact (decide_eq_false (by unfold Pan; dsimp only; omega)).symm), HBE.out _⟩
        · go_wp2_with fail
          refine (fits4 secs _ Xsecs).mono ?_
          rw [fitsB_no h3]
          rintro e w' ⟨rfl, rfl⟩
          go_wp2
          go_ret
          exact ⟨ret_bool (by rw [← HR.out]; exact (decide_eq_false (by unfold Pan; dsimp only; omega)).symm), HBE.out _⟩
      · go_wp2_with fail
        refine (fits2 prt _ Xprt).mono ?_
        rw [fitsB_no h2]
        rintro e w' ⟨rfl, rfl⟩
        go_wp2
        go_ret
        exact ⟨ret_bool (by rw [← HR.out]; exact (decide_eq_false (by unfold Pan; dsimp only; omega)).symm), HBE.out _⟩
    · go_wp2_with fail
      refine (fits2 ins _ Xins).mono ?_
      rw [fitsB_no h1]
      rintro e w' ⟨rfl, rfl⟩
      go_wp2
      go_ret
      exact ⟨ret_bool (by rw [← HR.out]; exact (decide_eq_false (by unfold Pan; dsimp only; omega)).symm), HBE.out _⟩
  · have n0 : (ver == 2) = false := by simpa using h0
    go_wp2
    go_ret
    exact ⟨ret_bool (by rw [← HR.out]; exact (decide_eq_false (by unfold Pan; dsimp only; omega)).symm), HBE.out _⟩

set_option maxHeartbeats 2000000 in
theorem pmayAsk_any (l : Le) (w : World) (hl : isL l) : Calls Try.prog 73 #[leV l] w fun e w' => e = .returned (.bool (decide (Pas l))) ∧ Below w.heap.size w w' := by
  have HM := Lib.hid (fun W => pmayAnswer_any l W hl)
  have HAB : decide (Pas l) = (decide (Pan l) && ((l.res == 0) && (l.epo == 0))) := by rw [Bool.eq_iff_iff]; simp only [Bool.and_eq_true, decide_eq_true_iff, beq_iff_eq]; rfl
  rw [HAB]
  clear HAB
  generalize decide (Pan l) = a at *
  obtain ⟨Xver, Xins, Xprt, Xsecs, Xnon, Xres, Xepo, Xhst⟩ := hl
  obtain ⟨ver, ins, prt, secs, non, res, epo, hst⟩ := l
  unfold leV leA at *
  obtain ⟨r, hr⟩ : ∃ r, (a && ((res == 0) && (epo == 0))) = r := ⟨_, rfl⟩
  dsimp only at *
  rw [hr]
  have HR := Lib.hid hr; clear hr
  go_enter Try.func73, Try.ntmps73
  go_wp2_with fail
  refine (HM.out _).mono ?_
  rintro e w1 ⟨rfl, hb⟩
  have HB1 : Hid (Below w.heap.size w w1) := Lib.hid (((Below.refl _ w).alloc (Nat.le_refl _) _).trans (hb.mono (by simp)))
  have c5 : w1.cell? ⟨w.heap.size, 5, none⟩ = some (.int .i64 res) := (hb.cell (p := ⟨w.heap.size, 5, none⟩) (by simp)).trans (by go_simp)
  have c6 : w1.cell? ⟨w.heap.size, 6, none⟩ = some (.int .i64 epo) := (hb.cell (p := ⟨w.heap.size, 6, none⟩) (by simp)).trans (by go_simp)
  clear hb
  cases a with
  | false =>
    go_wp2
    go_ret
    exact ⟨ret_bool (by rw [← HR.out]; rfl), HB1.out⟩
  | true =>
    cases t0 : (res == 0) with
    | false =>
      go_wp2
      go_ret
      exact ⟨ret_bool (by rw [← HR.out, t0]; rfl), HB1.out⟩
    | true =>
      cases t1 : (epo == 0) with
      | false =>
        go_wp2
        go_ret
        exact ⟨ret_bool (by rw [← HR.out, t0, t1]; rfl), HB1.out⟩
      | true =>
        go_wp2
        go_ret
        exact ⟨ret_bool (by rw [← HR.out, t0, t1]; rfl), HB1.out⟩

end Go.Proofs.Ytemlnkcokeckmaa.Pp
