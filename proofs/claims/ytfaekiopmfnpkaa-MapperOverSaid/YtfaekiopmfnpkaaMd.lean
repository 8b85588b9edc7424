/-
  Contracts of a client's askIn, begin, renew and probe, where it asks by PCP. Conditions: the client stands; its fields are of their types.
-/
import Derived.Test.YtfaekiopmfnpkaaMc
namespace Go.Proofs.Ytfaekiopmfnpkaa.Mp
open Go.RowKit Go.Maps
attribute [local go_sem] Oper.semAt_some
set_option linter.unusedVariables false
set_option linter.unusedSimpArgs false

/-- it has nothing, and asks in a version -/
def bare (m : Mpr) (v : Int) : Mpr := { m with st := 1, ver := v, oh := 0, op := 0, til := 0, tries := 0, next := 0 }
theorem Sends.of {V V1 : World} {mb : Nat} {sv : Value} {m' : Mpr} {rs : List (List Int)} {e : Ending} {V' : World} (h : Sends V1 mb sv m' rs e V') (hk : Kp mb V V1) : Sends V mb sv m' rs e V' := by
  obtain ⟨v, OB, h1, h2, h3, h4, h5, h6⟩ := h
  exact ⟨v, OB, h1, h2, fun r hr => Nat.le_trans hk.size (h3 r hr), h4, h5, hk.trans h6⟩
theorem Sends.back {V : World} {mb : Nat} {sv : Value} {m' : Mpr} {rs : List (List Int)} {e : Ending} {V' : World} (h : Sends V mb sv m' rs e V') : ∃ A c, e = .returned (.slice A rs.length c) := by
  obtain ⟨v, OB, h1, h2, h3, h4, h5, h6⟩ := h
  obtain ⟨A, c, e, _⟩ := h4 _ h2
  exact ⟨A, c, by rw [h1, e]⟩
section
variable {V V' : World} {mb : Nat} {m : Mpr} {sv : Value}
theorem IsM.bare (h : IsM m) (v : Int) (hv : Pp.W64 v) : IsM (bare m v) := by
  obtain ⟨h1, h2, h3, h4, h5, h6, h7, h8, h9⟩ := h
  exact ⟨h1, h2, h3, hv, h5, h6, h7, h8, by show (0 : Int) ≤ 0 ∧ (0 : Int) ≤ 1099511627776; omega⟩
set_option maxHeartbeats 4000000 in
theorem askIn_two (h : MpAt V mb m sv) (hm : IsM m) (t : Int) (ht : 0 ≤ t ∧ t ≤ 1099511627776) (v : Int) (hv : v ≠ 0) (hv2 : Pp.W64 v) : Calls Try.prog 31 #[pt mb, .int .i64 t, .int .i64 v] V (Sends V mb sv (asked (bare m v) t) (askRs (bare m v))) := by
  have h1 := (((((((h.set (v := .int .i64 1) (m' := { m with st := 1 }) (sv' := sv) 3 rfl).set (v := .int .i64 v) (m' := { m with st := 1, ver := v }) (sv' := sv) 4 rfl).set (v := .int .i64 m.ins) (m' := { m with st := 1, ver := v }) (sv' := sv) 5 rfl).set (v := .int .u32 0) (m' := { m with st := 1, ver := v, oh := 0 }) (sv' := sv) 6 rfl).set (v := .int .i64 0) (m' := { m with st := 1, ver := v, oh := 0, op := 0 }) (sv' := sv) 7 rfl).set (v := .int .i64 0) (m' := { m with st := 1, ver := v, oh := 0, op := 0, til := 0 }) (sv' := sv) 8 rfl).set (v := .int .i64 0) (m' := { m with st := 1, ver := v, oh := 0, op := 0, til := 0, tries := 0 }) (sv' := sv) 9 rfl).set (v := .int .i64 0) (m' := bare m v) (sv' := sv) 10 rfl
  have HK := Lib.hid ((((((((Kp.refl mb V).set 3 (.int .i64 1)).set 4 (.int .i64 v)).set 5 (.int .i64 m.ins)).set 6 (.int .u32 0)).set 7 (.int .i64 0)).set 8 (.int .i64 0)).set 9 (.int .i64 0) |>.set 10 (.int .i64 0))
  have HA := Lib.hid (ask_two h1 (hm.bare v hv2) t ht (by show (0 : Int) < 1099511627776; decide) hv)
  obtain ⟨c0, c1, c2, c3, c4, c5, c6, c7, c8, c9, c10, c11, c12, c13, c14, c15, c16, c17, cf, cl⟩ := h.cells
  have HF : Hid (∀ A n c W, Sends V mb sv (asked (bare m v) t) (askRs (bare m v)) (.returned (.slice A n c)) W → Sends V mb sv (asked (bare m v) t) (askRs (bare m v)) (.returned (.slice A n c)) W) := Lib.hid (fun _ _ _ _ h => h)
  clear h h1 hm
  unfold pt at HA ⊢
  go_enter Try.func31, Try.ntmps31
  go_wp2_with fail
  refine HA.out.mono ?_
  intro e W1 hs
  have hs2 := hs.of HK.out
  obtain ⟨A, c, rfl⟩ := hs2.back
  have HS := Lib.hid hs2
  clear hs hs2
  go_wp2
  go_ret
  exact HS.out
set_option maxHeartbeats 4000000 in
theorem begin_any (h : MpAt V mb m sv) (hm : IsM m) (t : Int) (ht : 0 ≤ t ∧ t ≤ 1099511627776) : Calls Try.prog 17 #[pt mb, .int .i64 t] V (Sends V mb sv (asked (bare m 2) t) (askRs (bare m 2))) := by
  have HA := Lib.hid (askIn_two h hm t ht 2 (by decide) (by unfold Pp.W64; decide))
  have hl := h.lt
  clear h hm
  unfold pt at HA ⊢
  go_enter Try.func17, Try.ntmps17
  go_wp2_with fail
  refine HA.out.mono ?_
  intro e W1 hs
  obtain ⟨A, c, rfl⟩ := hs.back
  have HS := Lib.hid hs
  clear hs
  go_wp2
  go_ret
  exact HS.out
set_option maxHeartbeats 4000000 in
theorem renew_two (h : MpAt V mb m sv) (hm : IsM m) (t : Int) (ht : 0 ≤ t ∧ t ≤ 1099511627776) (hv : m.ver ≠ 0) : Calls Try.prog 13 #[pt mb, .int .i64 t] V (Sends V mb sv (asked { m with st := 3, tries := 0 } t) (askRs { m with st := 3, tries := 0 })) := by
  have h1 := (h.set (v := .int .i64 3) (m' := { m with st := 3 }) (sv' := sv) 3 rfl).set (v := .int .i64 0) (m' := { m with st := 3, tries := 0 }) (sv' := sv) 9 rfl
  have HK := Lib.hid (((Kp.refl mb V).set 3 (.int .i64 3)).set 9 (.int .i64 0))
  have HA := Lib.hid (ask_two h1 (by obtain ⟨g1, g2, g3, g4, g5, g6, g7, g8, g9⟩ := hm; exact ⟨g1, g2, g3, g4, g5, g6, g7, g8, by show (0 : Int) ≤ 0 ∧ (0 : Int) ≤ 1099511627776; omega⟩) t ht (by show (0 : Int) < 1099511627776; decide) hv)
  obtain ⟨c0, c1, c2, c3, c4, c5, c6, c7, c8, c9, c10, c11, c12, c13, c14, c15, c16, c17, cf, cl⟩ := h.cells
  clear h h1 hm
  unfold pt at HA ⊢
  go_enter Try.func13, Try.ntmps13
  go_wp2_with fail
  refine HA.out.mono ?_
  intro e W1 hs
  have hs2 := hs.of HK.out
  obtain ⟨A, c, rfl⟩ := hs2.back
  have HS := Lib.hid hs2
  clear hs hs2
  go_wp2
  go_ret
  exact HS.out
set_option maxHeartbeats 4000000 in
theorem probe_two (h : MpAt V mb m sv) (hm : IsM m) (t : Int) (ht : 0 ≤ t ∧ t ≤ 1099511627776) (hv : m.ver ≠ 0) (htr : m.tries < 5) : Calls Try.prog 12 #[pt mb, .int .i64 t] V (Sends V mb sv (asked m t) (askRs m)) := by
  have HA := Lib.hid (ask_two h hm t ht (by omega) hv)
  obtain ⟨c0, c1, c2, c3, c4, c5, c6, c7, c8, c9, c10, c11, c12, c13, c14, c15, c16, c17, cf, cl⟩ := h.cells
  clear h hm
  unfold pt at HA ⊢
  go_enter Try.func12, Try.ntmps12
  go_wp2_with fail
  refine HA.out.mono ?_
  intro e W1 hs
  obtain ⟨A, c, rfl⟩ := hs.back
  have HS := Lib.hid hs
  clear hs
  go_wp2
  go_ret
  exact HS.out
end
end Go.Proofs.Ytfaekiopmfnpkaa.Mp
