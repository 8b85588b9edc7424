/-
  A client's Tick and Start: what a state does as the time goes on lies in a map of bound methods. Conditions: the client stands; it asks by PCP.
-/
import Derived.Test.YtfaekiopmfnpkaaMd
namespace Go.Proofs.Ytfaekiopmfnpkaa.Mp
open Go.RowKit Go.Maps Go.ChangeMaps Go.MapKept
attribute [local go_sem] Oper.semAt_some
set_option linter.unusedVariables false
set_option linter.unusedSimpArgs false

/-- a method of the client mb, bound -/
def fnV (mb k : Nat) : Value := .func (.func k) #[.pointer (some ⟨mb, 0, none⟩)] #[]
theorem fnV_inj {mb k j : Nat} (h : fnV mb k = fnV mb j) : k = j := by
  unfold fnV at h
  simpa using h
theorem fnV_nil {mb k : Nat} : fnV mb k ≠ Value.nilFunc := by
  unfold fnV
  intro h
  cases h
open Classical in
/-- what such a value reads as -/
noncomputable def Rf (mb : Nat) (v : Value) : Option (DataW Unit × List MemPlace) := if v = Value.nilFunc then some (.nil, []) else if h : ∃ k : Nat, v = fnV mb k then some (.lit (.int .i64 (h.choose : Nat)), []) else none
theorem Rf_fn (mb k : Nat) : Rf mb (fnV mb k) = some (.lit (.int .i64 (k : Nat)), []) := by
  unfold Rf
  rw [if_neg fnV_nil, dif_pos ⟨k, rfl⟩]
  have h : ∃ j : Nat, fnV mb k = fnV mb j := ⟨k, rfl⟩
  have := fnV_inj h.choose_spec
  simp only [Option.some.injEq, Prod.mk.injEq, DataW.lit.injEq, Lit.int.injEq, true_and, and_true]
  omega
theorem Rf_nil (mb : Nat) : Rf mb Value.nilFunc = some (.nil, []) := by unfold Rf; rw [if_pos rfl]
theorem Rf_lit {mb k : Nat} {v : Value} {ps : List MemPlace} (h : Rf mb v = some (.lit (.int .i64 (k : Nat)), ps)) : v = fnV mb k := by
  unfold Rf at h
  split at h
  · simp at h
  · split at h
    · rename_i hk
      simp only [Option.some.injEq, Prod.mk.injEq, DataW.lit.injEq, Lit.int.injEq, true_and] at h
      have e := hk.choose_spec
      have : hk.choose = k := by omega
      rw [this] at e
      exact e
    · cases h
theorem Rf_none {mb : Nat} {v : Value} {ps : List MemPlace} (h : Rf mb v = some (.nil, ps)) : v = Value.nilFunc := by
  unfold Rf at h
  split at h
  · assumption
  · split at h
    · simp at h
    · cases h
theorem lawI : Keyed Try.prog 3 := int_keyed Try.underlying3
def k1I : Lit := .int .i64 1
def k2I : Lit := .int .i64 2
def k3I : Lit := .int .i64 3
/-- what the states 1 to 3 do -/
def stD : DataW Unit := (((DataW.map []).put k1I (.lit (.int .i64 (12 : Nat)))).put k2I (.lit (.int .i64 (13 : Nat)))).put k3I (.lit (.int .i64 (14 : Nat)))
def kSt (s : Int) : Option Nat := if s = 1 then some 12 else if s = 2 then some 13 else if s = 3 then some 14 else none
theorem stD_at (s : Int) (z : DataW Unit) : stD.atKey (.int .i64 s) z = match kSt s with | some k => .lit (.int .i64 (k : Nat)) | none => z := by
  unfold stD kSt
  by_cases h3 : s = 3
  · subst h3
    exact (atKey_put_same ((isMap_empty.put _ _).put _ _) (show WideAt.IsKeyLit k3I by unfold k3I; trivial) _ _).trans rfl
  · rw [atKey_put_other (by unfold k3I; simpa using h3)]
    by_cases h2 : s = 2
    · subst h2
      exact (atKey_put_same (isMap_empty.put _ _) (show WideAt.IsKeyLit k2I by unfold k2I; trivial) _ _).trans rfl
    · rw [atKey_put_other (by unfold k2I; simpa using h2)]
      by_cases h1 : s = 1
      · subst h1
        exact (atKey_put_same isMap_empty (show WideAt.IsKeyLit k1I by unfold k1I; trivial) _ _).trans rfl
      · rw [atKey_put_other (by unfold k1I; simpa using h1), if_neg h1, if_neg h2, if_neg h3]
        rfl
/-- the map of steps is laid -/
def StAt (W : World) (mb am : Nat) : Prop := W.ownsMap Try.prog 3 (Rf mb) am 3 stD
theorem StAt.lt {W : World} {mb am : Nat} (h : StAt W mb am) : am < W.heap.size := by
  obtain ⟨es, clk, hb, _⟩ := h
  exact (Array.getElem?_eq_some_iff.1 hb).1
theorem StAt.kept {W W' : World} {mb am : Nat} (h : StAt W mb am) (hb : W'.heap[am]? = W.heap[am]?) : StAt W' mb am := by
  obtain ⟨es, clock, h1, h2⟩ := h
  exact ⟨es, clock, hb.trans h1, h2⟩
theorem StAt.kp {W W' : World} {mb am : Nat} (h : StAt W mb am) (hk : Kp mb W W') (hn : am ≠ mb) : StAt W' mb am := h.kept (hk.block _ h.lt hn)
theorem StAt.look {W : World} {mb am : Nat} (h : StAt W mb am) (s : Int) (hs : (Lit.int .i64 s).wf = true) :
    (Instr.lookup 46 (.map (some am)) (.int .i64 s) false).run Try.prog W = .ok (match kSt s with | some k => fnV mb k | none => Value.nilFunc) W := by
  have hz : (zeroValue 57).run Try.prog W = .ok Value.nilFunc W := by kernel_rfl
  obtain ⟨u, ps, hrun, hR⟩ := World.ownsMap.lookup h lawI Try.underlying46 hz (Rf_nil mb) (keyOf_int_mk Try.underlying3 hs)
  rw [hrun, stD_at] at *
  cases hk : kSt s with
  | none => rw [hk] at hR; dsimp only at hR ⊢; rw [Rf_none hR]
  | some k => rw [hk] at hR; dsimp only at hR ⊢; rw [Rf_lit hR]
/-- three entries are laid -/
theorem ins3 (mb g : Nat) (W : World) (hg : g = W.heap.size) :
    ∃ W1 W2 W3, (Instr.mapUpdate 46 (.map (some g)) (.int .i64 1) (fnV mb 12)).run Try.prog (W.alloc (.map #[] 0)) = .ok () W1 ∧ (Instr.mapUpdate 46 (.map (some g)) (.int .i64 2) (fnV mb 13)).run Try.prog W1 = .ok () W2 ∧ (Instr.mapUpdate 46 (.map (some g)) (.int .i64 3) (fnV mb 14)).run Try.prog W2 = .ok () W3 ∧
      StAt W3 mb g ∧ Below W.heap.size W W3 := by
  subst hg
  have h0 := World.ownsMap_made W Try.prog 3 (Rf mb)
  obtain ⟨W1, r1, o1, g1⟩ := h0.update lawI Try.underlying46 (by unfold maxLen; omega) (keyOf_int_mk Try.underlying3 (a := 1) (by decide)) (Rf_fn mb 12)
  obtain ⟨W2, r2, o2, g2⟩ := o1.update lawI Try.underlying46 (by unfold maxLen; omega) (keyOf_int_mk Try.underlying3 (a := 2) (by decide)) (Rf_fn mb 13)
  obtain ⟨W3, r3, o3, g3⟩ := o2.update lawI Try.underlying46 (by unfold maxLen; omega) (keyOf_int_mk Try.underlying3 (a := 3) (by decide)) (Rf_fn mb 14)
  refine ⟨W1, W2, W3, r1, r2, r3, o3, ?_⟩
  have b0 : Below W.heap.size W (W.alloc (.map #[] 0)) := (Below.refl _ W).alloc (Nat.le_refl _) _
  have b1 : Below W.heap.size (W.alloc (.map #[] 0)) W1 := ⟨g1.os, g1.tape, g1.output, g1.size, fun k hk => g1.block k (by simp; omega) (fun e => by cases e; omega)⟩
  have b2 : Below W.heap.size W1 W2 := ⟨g2.os, g2.tape, g2.output, g2.size, fun k hk => g2.block k (by have := g1.size; simp at this; omega) (fun e => by cases e; omega)⟩
  have b3 : Below W.heap.size W2 W3 := ⟨g3.os, g3.tape, g3.output, g3.size, fun k hk => g3.block k (by have := g1.size; have := g2.size; simp at *; omega) (fun e => by cases e; omega)⟩
  exact ((b0.trans b1).trans b2).trans b3
theorem eql_nil (W : World) : (binOp .eql 57 Value.nilFunc Value.nilFunc).run Try.prog W = .ok (.bool true) W := by kernel_rfl
theorem eql_fn (mb k : Nat) (W : World) : (binOp .eql 57 (.func (.func k) #[.pointer (some ⟨mb, 0, none⟩)] #[]) Value.nilFunc).run Try.prog W = .ok (.bool false) W := by kernel_rfl
theorem kSt_cases (s : Int) : (s = 1 ∧ kSt s = some 12) ∨ (s = 2 ∧ kSt s = some 13) ∨ (s = 3 ∧ kSt s = some 14) ∨ (s ≠ 1 ∧ s ≠ 2 ∧ s ≠ 3 ∧ kSt s = none) := by
  unfold kSt
  by_cases h1 : s = 1
  · simp [h1]
  · by_cases h2 : s = 2
    · simp [h2]
    · by_cases h3 : s = 3
      · simp [h3]
      · simp [h1, h2, h3]
section
variable {V V' : World} {mb am : Nat} {m : Mpr}
set_option maxHeartbeats 8000000 in
/-- what it has is over -/
theorem tick_over (h : MpAt V mb m (.map (some am))) (hm : IsM m) (t : Int) (hg : goesB m t = true) (hh : hasB m = true) (hl : m.til ≤ t) :
    Calls Try.prog 11 #[pt mb, .int .i64 t] V (Sends V mb (.map (some am)) (asked (bare { m with now := t } 2) t) (askRs (bare { m with now := t } 2))) := by
  have ht : 0 ≤ t ∧ t ≤ 1099511627776 := by
    unfold goesB at hg; simp only [Bool.and_eq_true, decide_eq_true_eq] at hg
    have := hm.now; omega
  have hm2 : IsM { m with now := t } := by obtain ⟨g1, g2, g3, g4, g5, g6, g7, g8, g9⟩ := hm; exact ⟨g1, g2, g3, g4, g5, g6, g7, ht, g9⟩
  have HG := Lib.hid (goesOn_yes h t hg)
  have HH := Lib.hid (fun W (hW : MpAt W mb { m with now := t } (.map (some am))) => has_any hW)
  rw [show hasB { m with now := t } = hasB m from rfl, hh] at HH
  have HB := Lib.hid (fun W (hW : MpAt W mb { m with now := t } (.map (some am))) => begin_any hW hm2 t ht)
  clear h hm hm2 hg hh ht
  unfold pt at *
  go_enter Try.func11, Try.ntmps11
  go_wp2_with fail
  refine HG.out.mono ?_
  rintro e W1 ⟨rfl, h1, k1⟩
  have H1 := Lib.hid h1
  have K1 := Lib.hid k1
  have HHW := Lib.hid (HH.out _ h1)
  have HBW := Lib.hid (HB.out _ h1)
  obtain ⟨c0, c1, c2, c3, c4, c5, c6, c7, c8, c9, c10, c11, c12, c13, c14, c15, c16, c17, cf, cl⟩ := h1.cells
  dsimp only at c8
  clear h1 k1
  go_wp2_with fail
  refine HHW.out.mono ?_
  rintro e W2 ⟨rfl, rfl⟩
  go_wp2_with fail
  refine HBW.out.mono ?_
  intro e W3 hs
  have hs2 := hs.of K1.out
  obtain ⟨A, c, rfl⟩ := hs2.back
  have HS := Lib.hid hs2
  clear hs hs2
  go_wp2
  go_ret
  exact HS.out
set_option maxHeartbeats 16000000 in
/-- it isn't its time, or there is nothing to do -/
theorem tick_wait (h : MpAt V mb m (.map (some am))) (hst : StAt V mb am) (hne : am ≠ mb) (hw : Pp.W64 m.st) (t : Int) (hg : goesB m t = true) (hh : ¬ (hasB m = true ∧ m.til ≤ t)) (hn : kSt m.st = none ∨ t < m.next) :
    Calls Try.prog 11 #[pt mb, .int .i64 t] V fun e V' => e = .returned (.slice none 0 0) ∧ MpAt V' mb { m with now := t } (.map (some am)) ∧ Kp mb V V' := by
  have HG := Lib.hid (goesOn_yes h t hg)
  have HH := Lib.hid (fun W (hW : MpAt W mb { m with now := t } (.map (some am))) => has_any hW)
  rw [show hasB { m with now := t } = hasB m from rfl] at HH
  have HST := Lib.hid hst
  have HNE := Lib.hid hne
  have HNN := Lib.hid hn
  obtain ⟨fv, hfv⟩ : ∃ fv, fv = (match kSt m.st with | some k => fnV mb k | none => Value.nilFunc) := ⟨_, rfl⟩
  have HFV := Lib.hid hfv
  have HLK : Hid (∀ W, Kp mb V W → (Instr.lookup 46 (.map (some am)) (.int .i64 m.st) false).run Try.prog W = .ok fv W) := Lib.hid (fun W hW => by
    rw [hfv]
    exact (hst.kp hW hne).look m.st (by simp [Lit.wf, IntKind.min, IntKind.max, IntKind.signed, IntKind.bits]; unfold Pp.W64 at hw; omega))
  obtain ⟨hb, hhb⟩ : ∃ hb, hb = hasB m := ⟨_, rfl⟩
  rw [← hhb] at hh HH
  clear h hg hst hne hfv hhb hn hw
  unfold pt at *
  cases hb with
  | true =>
    have htl : t < m.til := by
      by_cases e : m.til ≤ t
      · exact absurd ⟨rfl, e⟩ hh
      · omega
    clear hh
    go_enter Try.func11, Try.ntmps11
    go_wp2_with fail
    refine HG.out.mono ?_
    rintro e W1 ⟨rfl, h1, k1⟩
    have H1 := Lib.hid h1
    have K1 := Lib.hid k1
    have HHW := Lib.hid (HH.out _ h1)
    obtain ⟨c0, c1, c2, c3, c4, c5, c6, c7, c8, c9, c10, c11, c12, c13, c14, c15, c16, c17, cf, cl⟩ := h1.cells
    dsimp only at c3 c8 c10
    clear h1 k1
    have hlk := HLK.out W1.drew (K1.out.drewN 1)
    have HM := Lib.hid (show MpAt W1.drew mb { m with now := t } (.map (some am)) from H1.out.drewN 1)
    have HKD := Lib.hid (show Kp mb V W1.drew from K1.out.drewN 1)
    go_wp2_with fail
    refine HHW.out.mono ?_
    rintro e W2 ⟨rfl, rfl⟩
    go_upto_region 5 with (fail)
    go_cut [5] from 6 (fun v5 wc => v5 = fv ∧ wc = W2.drew)
    case first =>
      go_region_with (fail)
      all_goals go_wp2
      all_goals (go_meet; case rel => exact ⟨rfl, rfl⟩)
    case rest =>
      obtain ⟨rfl, rfl⟩ := hcut
      clear hlk c0 c1 c2 c3 c4 c5 c6 c7 c8 c9 c10 c11 c12 c13 c14 c15 c16 c17 cf cl
      obtain ⟨c0, c1, c2, c3, c4, c5, c6, c7, c8, c9, c10, c11, c12, c13, c14, c15, c16, c17, cf, cl⟩ := HM.out.cells
      dsimp only at c10
      rcases kSt_cases m.st with ⟨hs1, hk⟩ | ⟨hs1, hk⟩ | ⟨hs1, hk⟩ | ⟨hs1, hs2, hs3, hk⟩
      · rw [hk] at HFV
        clear hs1
        have hlt : t < m.next := by
          rcases HNN.out with e | e
          · rw [hk] at e; cases e
          · exact e
        dsimp only at HFV
        obtain rfl := HFV.out
        clear HFV hk
        unfold fnV
        have hq := fun W => eql_fn mb 12 W
        go_wp2
        go_ret
        exact ⟨rfl, HM.out, HKD.out⟩
      · rw [hk] at HFV
        clear hs1
        have hlt : t < m.next := by
          rcases HNN.out with e | e
          · rw [hk] at e; cases e
          · exact e
        dsimp only at HFV
        obtain rfl := HFV.out
        clear HFV hk
        unfold fnV
        have hq := fun W => eql_fn mb 13 W
        go_wp2
        go_ret
        exact ⟨rfl, HM.out, HKD.out⟩
      · rw [hk] at HFV
        clear hs1
        have hlt : t < m.next := by
          rcases HNN.out with e | e
          · rw [hk] at e; cases e
          · exact e
        dsimp only at HFV
        obtain rfl := HFV.out
        clear HFV hk
        unfold fnV
        have hq := fun W => eql_fn mb 14 W
        go_wp2
        go_ret
        exact ⟨rfl, HM.out, HKD.out⟩
      · rw [hk] at HFV
        clear hs1 hs2 hs3
        dsimp only at HFV
        obtain rfl := HFV.out
        clear HFV hk
        have hq := eql_nil
        go_wp2
        go_ret
        exact ⟨rfl, HM.out, HKD.out⟩
  | false =>
    clear hh
    go_enter Try.func11, Try.ntmps11
    go_wp2_with fail
    refine HG.out.mono ?_
    rintro e W1 ⟨rfl, h1, k1⟩
    have H1 := Lib.hid h1
    have K1 := Lib.hid k1
    have HHW := Lib.hid (HH.out _ h1)
    obtain ⟨c0, c1, c2, c3, c4, c5, c6, c7, c8, c9, c10, c11, c12, c13, c14, c15, c16, c17, cf, cl⟩ := h1.cells
    dsimp only at c3 c8 c10
    clear h1 k1
    have hlk := HLK.out W1.drew (K1.out.drewN 1)
    have HM := Lib.hid (show MpAt W1.drew mb { m with now := t } (.map (some am)) from H1.out.drewN 1)
    have HKD := Lib.hid (show Kp mb V W1.drew from K1.out.drewN 1)
    go_wp2_with fail
    refine HHW.out.mono ?_
    rintro e W2 ⟨rfl, rfl⟩
    go_upto_region 5 with (fail)
    go_cut [5] from 6 (fun v5 wc => v5 = fv ∧ wc = W2.drew)
    case first =>
      go_region_with (fail)
      all_goals go_wp2
      all_goals (go_meet; case rel => exact ⟨rfl, rfl⟩)
    case rest =>
      obtain ⟨rfl, rfl⟩ := hcut
      clear hlk c0 c1 c2 c3 c4 c5 c6 c7 c8 c9 c10 c11 c12 c13 c14 c15 c16 c17 cf cl
      obtain ⟨c0, c1, c2, c3, c4, c5, c6, c7, c8, c9, c10, c11, c12, c13, c14, c15, c16, c17, cf, cl⟩ := HM.out.cells
      dsimp only at c10
      rcases kSt_cases m.st with ⟨hs1, hk⟩ | ⟨hs1, hk⟩ | ⟨hs1, hk⟩ | ⟨hs1, hs2, hs3, hk⟩
      · rw [hk] at HFV
        clear hs1
        have hlt : t < m.next := by
          rcases HNN.out with e | e
          · rw [hk] at e; cases e
          · exact e
        dsimp only at HFV
        obtain rfl := HFV.out
        clear HFV hk
        unfold fnV
        have hq := fun W => eql_fn mb 12 W
        go_wp2
        go_ret
        exact ⟨rfl, HM.out, HKD.out⟩
      · rw [hk] at HFV
        clear hs1
        have hlt : t < m.next := by
          rcases HNN.out with e | e
          · rw [hk] at e; cases e
          · exact e
        dsimp only at HFV
        obtain rfl := HFV.out
        clear HFV hk
        unfold fnV
        have hq := fun W => eql_fn mb 13 W
        go_wp2
        go_ret
        exact ⟨rfl, HM.out, HKD.out⟩
      · rw [hk] at HFV
        clear hs1
        have hlt : t < m.next := by
          rcases HNN.out with e | e
          · rw [hk] at e; cases e
          · exact e
        dsimp only at HFV
        obtain rfl := HFV.out
        clear HFV hk
        unfold fnV
        have hq := fun W => eql_fn mb 14 W
        go_wp2
        go_ret
        exact ⟨rfl, HM.out, HKD.out⟩
      · rw [hk] at HFV
        clear hs1 hs2 hs3
        dsimp only at HFV
        obtain rfl := HFV.out
        clear HFV hk
        have hq := eql_nil
        go_wp2
        go_ret
        exact ⟨rfl, HM.out, HKD.out⟩
set_option maxHeartbeats 16000000 in
/-- it is time to do something -/
theorem tick_do (h : MpAt V mb m (.map (some am))) (hst : StAt V mb am) (hne : am ≠ mb) (hw : Pp.W64 m.st) (t : Int) (hg : goesB m t = true) (hh : ¬ (hasB m = true ∧ m.til ≤ t)) (hn : m.next ≤ t) {k : Nat} (hk : kSt m.st = some k) {m' : Mpr} {rs : List (List Int)}
    (hc : ∀ W, MpAt W mb { m with now := t } (.map (some am)) → Calls Try.prog k #[pt mb, .int .i64 t] W (Sends W mb (.map (some am)) m' rs)) :
    Calls Try.prog 11 #[pt mb, .int .i64 t] V (Sends V mb (.map (some am)) m' rs) := by
  have HG := Lib.hid (goesOn_yes h t hg)
  have HH := Lib.hid (fun W (hW : MpAt W mb { m with now := t } (.map (some am))) => has_any hW)
  rw [show hasB { m with now := t } = hasB m from rfl] at HH
  have HC := Lib.hid hc
  obtain ⟨fv, hfv⟩ : ∃ fv, fv = fnV mb k := ⟨_, rfl⟩
  have HFV := Lib.hid hfv
  have HLK : Hid (∀ W, Kp mb V W → (Instr.lookup 46 (.map (some am)) (.int .i64 m.st) false).run Try.prog W = .ok fv W) := Lib.hid (fun W hW => by
    have := (hst.kp hW hne).look m.st (by simp [Lit.wf, IntKind.min, IntKind.max, IntKind.signed, IntKind.bits]; unfold Pp.W64 at hw; omega)
    rw [hk] at this
    rw [hfv]
    exact this)
  have hkk : k = 12 ∨ k = 13 ∨ k = 14 := by
    rcases kSt_cases m.st with ⟨_, e⟩ | ⟨_, e⟩ | ⟨_, e⟩ | ⟨_, _, _, e⟩ <;> rw [hk] at e
    · exact .inl (Option.some.inj e)
    · exact .inr (.inl (Option.some.inj e))
    · exact .inr (.inr (Option.some.inj e))
    · cases e
  obtain ⟨hb, hhb⟩ : ∃ hb, hb = hasB m := ⟨_, rfl⟩
  rw [← hhb] at hh HH
  clear h hg hst hne hfv hhb hw hk hc
  unfold pt at *
  cases hb with
  | true =>
    have htl : t < m.til := by
      by_cases e : m.til ≤ t
      · exact absurd ⟨rfl, e⟩ hh
      · omega
    clear hh
    go_enter Try.func11, Try.ntmps11
    go_wp2_with fail
    refine HG.out.mono ?_
    rintro e W1 ⟨rfl, h1, k1⟩
    have H1 := Lib.hid h1
    have K1 := Lib.hid k1
    have HHW := Lib.hid (HH.out _ h1)
    obtain ⟨c0, c1, c2, c3, c4, c5, c6, c7, c8, c9, c10, c11, c12, c13, c14, c15, c16, c17, cf, cl⟩ := h1.cells
    dsimp only at c3 c8 c10
    clear h1 k1
    have hlk := HLK.out W1.drew (K1.out.drewN 1)
    have HM := Lib.hid (show MpAt W1.drew mb { m with now := t } (.map (some am)) from H1.out.drewN 1)
    have HKD := Lib.hid (show Kp mb V W1.drew from K1.out.drewN 1)
    go_wp2_with fail
    refine HHW.out.mono ?_
    rintro e W2 ⟨rfl, rfl⟩
    go_upto_region 5 with (fail)
    go_cut [5] from 6 (fun v5 wc => v5 = fv ∧ wc = W2.drew)
    case first =>
      go_region_with (fail)
      all_goals go_wp2
      all_goals (go_meet; case rel => exact ⟨rfl, rfl⟩)
    case rest =>
      obtain ⟨rfl, rfl⟩ := hcut
      clear hlk c0 c1 c2 c3 c4 c5 c6 c7 c8 c9 c10 c11 c12 c13 c14 c15 c16 c17 cf cl
      obtain ⟨c0, c1, c2, c3, c4, c5, c6, c7, c8, c9, c10, c11, c12, c13, c14, c15, c16, c17, cf, cl⟩ := HM.out.cells
      dsimp only at c10
      rcases hkk with rfl | rfl | rfl
      · obtain rfl := HFV.out
        clear HFV
        have HCW := Lib.hid (HC.out _ HM.out)
        unfold fnV
        have hq := fun W => eql_fn mb 12 W
        go_wp2_with fail
        refine HCW.out.mono ?_
        intro e W3 hs
        have hs2 := hs.of HKD.out
        obtain ⟨A, c, rfl⟩ := hs2.back
        have HS := Lib.hid hs2
        clear hs hs2
        go_wp2
        go_ret
        exact HS.out
      · obtain rfl := HFV.out
        clear HFV
        have HCW := Lib.hid (HC.out _ HM.out)
        unfold fnV
        have hq := fun W => eql_fn mb 13 W
        go_wp2_with fail
        refine HCW.out.mono ?_
        intro e W3 hs
        have hs2 := hs.of HKD.out
        obtain ⟨A, c, rfl⟩ := hs2.back
        have HS := Lib.hid hs2
        clear hs hs2
        go_wp2
        go_ret
        exact HS.out
      · obtain rfl := HFV.out
        clear HFV
        have HCW := Lib.hid (HC.out _ HM.out)
        unfold fnV
        have hq := fun W => eql_fn mb 14 W
        go_wp2_with fail
        refine HCW.out.mono ?_
        intro e W3 hs
        have hs2 := hs.of HKD.out
        obtain ⟨A, c, rfl⟩ := hs2.back
        have HS := Lib.hid hs2
        clear hs hs2
        go_wp2
        go_ret
        exact HS.out
  | false =>
    clear hh
    go_enter Try.func11, Try.ntmps11
    go_wp2_with fail
    refine HG.out.mono ?_
    rintro e W1 ⟨rfl, h1, k1⟩
    have H1 := Lib.hid h1
    have K1 := Lib.hid k1
    have HHW := Lib.hid (HH.out _ h1)
    obtain ⟨c0, c1, c2, c3, c4, c5, c6, c7, c8, c9, c10, c11, c12, c13, c14, c15, c16, c17, cf, cl⟩ := h1.cells
    dsimp only at c3 c8 c10
    clear h1 k1
    have hlk := HLK.out W1.drew (K1.out.drewN 1)
    have HM := Lib.hid (show MpAt W1.drew mb { m with now := t } (.map (some am)) from H1.out.drewN 1)
    have HKD := Lib.hid (show Kp mb V W1.drew from K1.out.drewN 1)
    go_wp2_with fail
    refine HHW.out.mono ?_
    rintro e W2 ⟨rfl, rfl⟩
    go_upto_region 5 with (fail)
    go_cut [5] from 6 (fun v5 wc => v5 = fv ∧ wc = W2.drew)
    case first =>
      go_region_with (fail)
      all_goals go_wp2
      all_goals (go_meet; case rel => exact ⟨rfl, rfl⟩)
    case rest =>
      obtain ⟨rfl, rfl⟩ := hcut
      clear hlk c0 c1 c2 c3 c4 c5 c6 c7 c8 c9 c10 c11 c12 c13 c14 c15 c16 c17 cf cl
      obtain ⟨c0, c1, c2, c3, c4, c5, c6, c7, c8, c9, c10, c11, c12, c13, c14, c15, c16, c17, cf, cl⟩ := HM.out.cells
      dsimp only at c10
      rcases hkk with rfl | rfl | rfl
      · obtain rfl := HFV.out
        clear HFV
        have HCW := Lib.hid (HC.out _ HM.out)
        unfold fnV
        have hq := fun W => eql_fn mb 12 W
        go_wp2_with fail
        refine HCW.out.mono ?_
        intro e W3 hs
        have hs2 := hs.of HKD.out
        obtain ⟨A, c, rfl⟩ := hs2.back
        have HS := Lib.hid hs2
        clear hs hs2
        go_wp2
        go_ret
        exact HS.out
      · obtain rfl := HFV.out
        clear HFV
        have HCW := Lib.hid (HC.out _ HM.out)
        unfold fnV
        have hq := fun W => eql_fn mb 13 W
        go_wp2_with fail
        refine HCW.out.mono ?_
        intro e W3 hs
        have hs2 := hs.of HKD.out
        obtain ⟨A, c, rfl⟩ := hs2.back
        have HS := Lib.hid hs2
        clear hs hs2
        go_wp2
        go_ret
        exact HS.out
      · obtain rfl := HFV.out
        clear HFV
        have HCW := Lib.hid (HC.out _ HM.out)
        unfold fnV
        have hq := fun W => eql_fn mb 14 W
        go_wp2_with fail
        refine HCW.out.mono ?_
        intro e W3 hs
        have hs2 := hs.of HKD.out
        obtain ⟨A, c, rfl⟩ := hs2.back
        have HS := Lib.hid hs2
        clear hs hs2
        go_wp2
        go_ret
        exact HS.out
set_option maxHeartbeats 4000000 in
/-- it begins -/
theorem start_any {sv : Value} (h : MpAt V mb m sv) (hm : IsM m) (t : Int) (hg : goesB m t = true) (hr : restsB m = true) :
    Calls Try.prog 7 #[pt mb, .int .i64 t] V (Sends V mb sv (asked (bare { m with now := t } 2) t) (askRs (bare { m with now := t } 2))) := by
  have ht : 0 ≤ t ∧ t ≤ 1099511627776 := by
    unfold goesB at hg; simp only [Bool.and_eq_true, decide_eq_true_eq] at hg
    have := hm.now; omega
  have hm2 : IsM { m with now := t } := by obtain ⟨g1, g2, g3, g4, g5, g6, g7, g8, g9⟩ := hm; exact ⟨g1, g2, g3, g4, g5, g6, g7, ht, g9⟩
  have HR := Lib.hid (rests_any h)
  rw [hr] at HR
  have HG := Lib.hid (goesOn_yes h t hg)
  have HB := Lib.hid (fun W (hW : MpAt W mb { m with now := t } sv) => begin_any hW hm2 t ht)
  clear h hm hm2 hg hr ht
  unfold pt at *
  go_enter Try.func7, Try.ntmps7
  go_wp2_with fail
  refine HR.out.mono ?_
  rintro e W0 ⟨rfl, rfl⟩
  go_wp2_with fail
  refine HG.out.mono ?_
  rintro e W1 ⟨rfl, h1, k1⟩
  have K1 := Lib.hid k1
  have HBW := Lib.hid (HB.out _ h1)
  clear h1 k1
  go_wp2_with fail
  refine HBW.out.mono ?_
  intro e W3 hs
  have hs2 := hs.of K1.out
  obtain ⟨A, c, rfl⟩ := hs2.back
  have HS := Lib.hid hs2
  clear hs hs2
  go_wp2
  go_ret
  exact HS.out
end
end Go.Proofs.Ytfaekiopmfnpkaa.Mp
