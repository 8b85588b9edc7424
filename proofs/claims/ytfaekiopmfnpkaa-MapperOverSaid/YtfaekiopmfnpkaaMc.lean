/-
  A client that asks: contracts of ask, askIn, begin and renew. Conditions: the client stands; its fields are of their types, its tries and its time within bounds.
-/
import Derived.Test.YtfaekiopmfnpkaaMb
namespace Go.Proofs.Ytfaekiopmfnpkaa.Mp
open Go.RowKit Go.Maps
attribute [local go_sem] Oper.semAt_some
set_option linter.unusedVariables false
set_option linter.unusedSimpArgs false

/-- rows that are told -/
def OutR (W : World) (v : Value) (rs : List (List Int)) : Prop := ∃ A c, v = .slice A rs.length c ∧ rs.length ≤ c ∧ c ≤ maxLen ∧ ∀ (k : Nat) (z : List Int), rs[k]? = some z → ∃ g u, A = some ⟨g, 0, none⟩ ∧ W.cell? ⟨g, k, none⟩ = some u ∧ Pp.Row W u z
theorem outR_nil (W : World) : OutR W (.slice none 0 0) [] := ⟨none, 0, rfl, Nat.le_refl _, Nat.zero_le _, fun k z h => absurd h (by simp)⟩
/-- what is sent: rows that are held from then on; and the client's state -/
def Sends (V : World) (mb : Nat) (sv : Value) (m' : Mpr) (rs : List (List Int)) : Ending → World → Prop := fun e V' => ∃ v OB, e = .returned v ∧ Held OB V' ∧ (∀ r ∈ OB, V.heap.size ≤ r.1) ∧ (∀ W, Held OB W → OutR W v rs) ∧ MpAt V' mb m' sv ∧ Kp mb V V'
/-- behind the asking -/
def asked (m : Mpr) (t : Int) : Mpr := { m with tries := m.tries + 1, next := t + Bk.wv 1 64 m.tries }
def askRs (m : Mpr) : List (List Int) := (if m.ver = 0 then [Pp.askR Pp.zeroL true] else []) ++ [reqR m m.secs]
theorem wv_bd (n : Int) : 0 ≤ Bk.wv 1 64 n ∧ Bk.wv 1 64 n ≤ 64 := by
  unfold Bk.wv
  split
  · have := Bk.W_le (1 : Int).toNat (64 : Int).toNat n.toNat
    have e : (64 : Int).toNat = 64 := rfl
    rw [e] at this ⊢
    omega
  · omega
theorem own_out {W : World} {B : Nat} {v : Value} {us : List Value} {rs : List (List Int)} (ho : W.ownsRow B 38 1 v us.length us) (hl : us.length = rs.length) (h0 : 0 < rs.length) :
    ∃ (g : Nat) (C : Array Value), B ≤ g ∧ W.heap[g]? = some (.cells C 38 (0, 0)) ∧ ∀ W' : World, W'.heap[g]? = some (.cells C 38 (0, 0)) → (∀ (k : Nat) u z, us[k]? = some u → rs[k]? = some z → Pp.Row W' u z) → OutR W' v rs := by
  rcases ho.2 with hn | ⟨g, cap, cur, rfl, hg, hobj, hn, hm, hsz, htk⟩
  · omega
  · refine ⟨g, cur, hg, hobj, fun W' hW hr => ⟨some ⟨g, 0, none⟩, cap, by rw [hl], by omega, hm, fun k z hz => ?_⟩⟩
    have hk : k < us.length := by rw [hl]; exact (List.getElem?_eq_some_iff.1 hz).1
    have hu : us[k]? = some us[k] := List.getElem?_eq_getElem hk
    refine ⟨g, us[k], rfl, ?_, hr k _ z hu hz⟩
    rw [(cells_of hW k).1]
    have e : cur.toList.take (us.length * 1) = us := htk
    have : cur.toList[k]? = us[k]? := by
      rw [← e, List.getElem?_take]
      rw [Nat.mul_one, if_pos hk]
    rw [← Array.getElem?_toList, this, hu]
/-- a row is put behind others -/
theorem put_row {W : World} {B : Nat} {v : Value} {us : List Value} (u : Value) (hu : ∃ A n c, u = .slice A n c) (ho : W.ownsRow B 38 1 v us.length us) (hl : us.length ≤ 10) (hB : B ≤ W.heap.size) :
    ∃ v' w', (∀ ty, (Builtin.append_ #[33, 33] ty #[v, .slice (some ⟨W.heap.size, 0, none⟩) 1 1]).run Try.prog (W.alloc (.cells #[u] 38)) = .ok v' w') ∧ (∃ A n c, v' = .slice A n c) ∧ w'.ownsRow B 38 1 v' (us ++ [u]).length (us ++ [u]) ∧ Below B W w' := by
  obtain ⟨i0, hi0, hz0, hz1, hz2⟩ := info_parts sl_info
  have h1 : (W.alloc (.cells #[u] 38)).ownsRow B 38 1 v us.length us := ho.alloc _
  have hone : ∀ x ∈ [u], x.oneCell' = true := by
    intro x hx
    simp only [List.mem_singleton] at hx
    obtain ⟨A, n, c, rfl⟩ := hu
    subst hx; rfl
  have hrun := fun ty => run_append_own_at (P := Try.prog) (W.alloc (.cells #[u] 38)) B 33 ty 38 i0 _ 1 24 Try.underlying33 hi0 hz0 hz1 hz2 rfl (by decide) v us.length us h1 ⟨W.heap.size, 0, none⟩ 1 1 [u] rfl (cell_one_new W u 38) hone (by unfold maxLen; omega) (by omega) (by simp; omega)
  obtain ⟨v', w', r0, r1, r2, r3, r4⟩ := hrun 33
  refine ⟨v', w', fun ty => ?_, ?_, ?_, ?_⟩
  · rw [← r0]; rfl
  · rcases r1.2 with ⟨e, _⟩ | ⟨g, cap, cur, e, _⟩
    · exact ⟨_, _, _, e⟩
    · exact ⟨_, _, _, e⟩
  · rw [List.length_append]; exact r1
  · exact ((Below.refl _ W).alloc hB _).trans ⟨r2.os, r2.tape, r2.output, r2.size, fun k hk => r2.block k (by simp; omega) (fun e => by have := (ho.lt k e.symm).1; omega)⟩
theorem row_form {w : World} {v : Value} {zs : List Int} (h : Pp.Row w v zs) : ∃ A c, v = .slice A zs.length c := by obtain ⟨A, c, e, _⟩ := h; exact ⟨A, c, e⟩
theorem tells_form {V : World} {zs : List Int} {e : Ending} {V' : World} (h : Tells V zs e V') : ∃ A c OB, e = .returned (.slice A zs.length c) ∧ Held OB V' ∧ (∀ r ∈ OB, V.heap.size ≤ r.1) ∧ (∀ W, Held OB W → Pp.Row W (.slice A zs.length c) zs) ∧ Below V.heap.size V V' := by
  obtain ⟨u, OB, h1, h2, h3, h4, h5⟩ := h
  obtain ⟨A, c, rfl⟩ := row_form (h4 _ h2)
  exact ⟨A, c, OB, h1, h2, h3, h4, h5⟩
section
variable {V V' : World} {mb : Nat} {m : Mpr} {sv : Value}
theorem IsM.asked (h : IsM m) (t : Int) (ht : m.tries < 1099511627776) : IsM (asked m t) := by
  obtain ⟨h1, h2, h3, h4, h5, h6, h7, h8, h9⟩ := h
  exact ⟨h1, h2, h3, h4, h5, h6, h7, h8, by show 0 ≤ m.tries + 1 ∧ m.tries + 1 ≤ 1099511627776; omega⟩
set_option maxHeartbeats 8000000 in
/-- PCP alone: one row -/
theorem ask_two (h : MpAt V mb m sv) (hm : IsM m) (t : Int) (ht : 0 ≤ t ∧ t ≤ 1099511627776) (htr : m.tries < 1099511627776) (hv : m.ver ≠ 0) : Calls Try.prog 14 #[pt mb, .int .i64 t] V (Sends V mb sv (asked m t) (askRs m)) := by
  have hw := wv_bd m.tries
  have HWT := Lib.hid (fun W => Wait_any 1 64 m.tries W (by have := hm.tries; omega))
  have h1 := h.set (v := .int .i64 (t + Bk.wv 1 64 m.tries)) (m' := { m with next := t + Bk.wv 1 64 m.tries }) (sv' := sv) 10 rfl
  have h2 := h1.set (v := .int .i64 (m.tries + 1)) (m' := asked m t) (sv' := sv) 9 rfl
  have HM1 := Lib.hid h1
  have HM2 := Lib.hid h2
  have HK := Lib.hid (((Kp.refl mb V).set 10 (.int .i64 (t + Bk.wv 1 64 m.tries))).set 9 (.int .i64 (m.tries + 1)))
  have HREQ : Hid (reqR (asked m t) m.secs = reqR m m.secs) := Lib.hid rfl
  have HRS : Hid (askRs m = [reqR m m.secs]) := Lib.hid (by unfold askRs; rw [if_neg hv]; rfl)
  have HQ := Lib.hid (request_any h2 (hm.asked t htr) m.secs hm.secs)
  obtain ⟨c0, c1, c2, c3, c4, c5, c6, c7, c8, c9, c10, c11, c12, c13, c14, c15, c16, c17, cf, cl⟩ := h.cells
  have d9 := h1.cells.c9
  have d4 := h2.cells.c4
  have d1 := h2.cells.c1
  have e9 : (asked m t).ver = m.ver := rfl
  have e1 : (asked m t).secs = m.secs := rfl
  rw [e9] at d4
  rw [e1] at d1
  dsimp only at d9
  have hvb : (m.ver == (0 : Int)) = false := by simpa using hv
  obtain ⟨t0, t1⟩ := hm.tries
  obtain ⟨ht0, ht1⟩ := ht
  obtain ⟨w0, w1⟩ := hw
  clear h h1 h2 hm hv e9 e1
  unfold pt at HQ ⊢
  generalize Bk.wv 1 64 m.tries = wt at *
  have HSZ : Hid (V.heap.size ≤ ((V.setCell ⟨mb, 10, none⟩ (.int .i64 (t + wt))).setCell ⟨mb, 9, none⟩ (.int .i64 (m.tries + 1))).heap.size) := Lib.hid HK.out.size
  go_enter Try.func14, Try.ntmps14
  go_wp2_with fail
  refine (HWT.out _).mono ?_
  rintro e W0 ⟨rfl, rfl⟩
  go_wp2_with fail
  refine HQ.out.mono ?_
  intro e W1 htl
  obtain ⟨A, cc, OB, rfl, hheld, hold, hrow, hb⟩ := tells_form htl
  have HHD := Lib.hid hheld
  have HHO := Lib.hid hold
  have HRW := Lib.hid hrow
  have HB := Lib.hid hb
  rw [HREQ.out] at HRW ⊢
  obtain ⟨v', W3, hrun, hform, hown, hb3⟩ := put_row (W := W1) (B := W1.heap.size) (v := .slice none 0 0) (us := []) (.slice A (reqR m m.secs).length cc) ⟨_, _, _, rfl⟩ (World.ownsRow_nil _ _ _ _) (by simp) (Nat.le_refl _)
  have HRUN := Lib.hid hrun
  have HFIN : Hid (Sends V mb sv (asked m t) (askRs m) (.returned v') W3) := Lib.hid (by
    rw [HRS.out]
    obtain ⟨g, C, hg1, hg2, hg3⟩ := own_out (rs := [reqR m m.secs]) hown (by simp) (by simp)
    have hld : Held OB W3 := HHD.out.below hb3
    refine ⟨v', (g, .cells C 38 (0, 0)) :: OB, rfl, fun r hr => ?_, fun r hr => ?_, fun W hW => ?_, (HM2.out.below HB.out).below hb3, (HK.out.trans (.below HB.out)).trans (.below hb3)⟩
    · rcases List.mem_cons.1 hr with rfl | hr
      · exact hg2
      · exact hld r hr
    · rcases List.mem_cons.1 hr with rfl | hr
      · exact Nat.le_trans (Nat.le_trans HSZ.out HB.out.size) hg1
      · exact Nat.le_trans HSZ.out (HHO.out r hr)
    · refine hg3 W (hW (g, .cells C 38 (0, 0)) (by simp)) (fun k u z hu hz => ?_)
      have hr := HRW.out W (fun r hr => hW r (List.mem_cons_of_mem _ hr))
      cases k with
      | zero => simp at hu hz; subst hu hz; exact hr
      | succ k => simp at hz)
  obtain ⟨a1, a2, a3, rfl⟩ := hform
  clear htl hheld hold hrow hb hown hb3 hrun
  go_wp2_with (at_builtin; refine wpList_run rfl (.tmp 44) (.tmp 51) 33 rfl rfl rfl HRUN.out ?_)
  go_wp2
  go_ret
  exact HFIN.out
end
end Go.Proofs.Ytfaekiopmfnpkaa.Mp
