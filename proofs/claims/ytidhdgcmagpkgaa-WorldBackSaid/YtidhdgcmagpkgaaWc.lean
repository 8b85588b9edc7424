/-
  Contracts of slices.Clone, Grow and Concat at sites. Conditions: as each lemma states.
-/
import Derived.Test.YtidhdgcmagpkgaaWs
import Derived.Lib.AppendZeros
import Derived.Lib.SmallJoins
namespace Go.Proofs.Ytidhdgcmagpkgaa
open Go.RowKit
attribute [local go_sem] Oper.semAt_some
set_option linter.unusedVariables false
set_option linter.unusedSimpArgs false

theorem infoS : (Try.prog.info? 42).map (fun i => (i.zero, i.size, i.bytes)) = some (some (.agg #[.int .u32 0, .int .i64 0]), 2, 16) := by kernel_rfl
theorem cellsS_one (l : List St) : ∀ u ∈ cellsS l, u.oneCell' = true := cellsA_one l
theorem own_form {w : World} {base : Nat} {e : TypeId} {k n : Nat} {v : Value} {xs : List Value} (h : w.ownsRow base e k v n xs) : ∃ A c, v = .slice A n c ∧ n ≤ c ∧ c ≤ maxLen := by
  rcases h.2 with ⟨rfl, rfl⟩ | ⟨g, cap, cur, rfl, _, _, h1, h2, _⟩
  · exact ⟨none, 0, rfl, by omega, by simp⟩
  · exact ⟨_, cap, rfl, h1, by omega⟩
/-- sites behind a row of one's own -/
theorem run_app_s {B : Nat} {w : World} {v : Value} {l m : List St} {A : Option Addr} {c : Nat} (hr : w.ownsRow B 42 2 v l.length (cellsS l)) (hm : SAt w A m) (hnil : A = none → m = [] ∧ c = 0) (hl : l.length + m.length ≤ 1000) (hB : B ≤ w.heap.size) :
    ∃ v' w', (∀ ty, (Builtin.append_ #[24, 24] ty #[v, .slice A m.length c]).run Try.prog w = .ok v' w') ∧ w'.ownsRow B 42 2 v' (l ++ m).length (cellsS (l ++ m)) ∧ w.grownBy w' v.ownBlock ∧ Below B w w' := by
  obtain ⟨i0, hi0, hz0, hz1, hz2⟩ := info_parts infoS
  cases A with
  | none =>
    obtain ⟨rfl, rfl⟩ := hnil rfl
    exact ⟨v, w, fun ty => run_append_owned_none (P := Try.prog) w B 24 ty 42 i0 2 Try.underlying24 hi0 v l.length (cellsS l) hr, by simpa using hr, World.grownBy.refl w _, Below.refl _ _⟩
  | some ad =>
    have hc : ∀ (j : Nat) u, (cellsS m)[j]? = some u → w.cell? (ad.add j) = some u := by
      intro j u hj
      have hjl := (List.getElem?_eq_some_iff.1 hj).1
      rw [cellsS_len] at hjl
      obtain ⟨b, off, e, _, h2⟩ := hm (by omega)
      cases e
      obtain ⟨s, hs⟩ : ∃ s, m[j / 2]? = some s := ⟨_, List.getElem?_eq_getElem (by omega)⟩
      obtain ⟨h3, h4⟩ := h2 (j / 2) s hs
      obtain ⟨h5, h6⟩ := cellsS_at hs
      rw [add_spot]
      rcases Nat.mod_two_eq_zero_or_one j with h | h
      · have e : j / 2 * 2 = j := by omega
        rw [e] at h3 h5
        rw [h5] at hj
        rw [h3]; exact hj
      · have e : j / 2 * 2 + 1 = j := by omega
        rw [e] at h6
        have e2 : off + j / 2 * 2 + 1 = off + j := by omega
        rw [e2] at h4
        rw [h6] at hj
        rw [h4]; exact hj
    have hrun := fun ty => run_append_own_at (P := Try.prog) w B 24 ty 42 i0 _ 2 16 Try.underlying24 hi0 hz0 hz1 hz2 rfl (by decide) v l.length (cellsS l) hr ad m.length c (cellsS m) (cellsS_len m) hc (cellsS_one m) (by unfold maxLen; omega) (by omega) hB
    obtain ⟨v', w', r0, r1, r2, r3, r4⟩ := hrun 24
    refine ⟨v', w', fun ty => ?_, ?_, r2, ?_⟩
    · rw [← r0]; rfl
    · rw [List.length_append, cellsS_append]; exact r1
    · exact ⟨r2.os, r2.tape, r2.output, r2.size, fun k hk => r2.block k (by omega) (fun e => by have := (hr.lt k e.symm).1; omega)⟩
set_option maxHeartbeats 1000000 in
theorem clone_s (A : Option Addr) (c : Nat) (l : List St) (w : World) (h : SAt w A l) (hnil : A = none → l = [] ∧ c = 0) (hl : l.length ≤ 1000) :
    Calls Try.prog 14 #[.slice A l.length c] w fun e w' => ∃ v, e = .returned v ∧ w'.ownsRow w.heap.size 42 2 v l.length (cellsS l) ∧ Below w.heap.size w w' := by
  have q22 : ∀ (w : World) (a : Option Addr) (n c n' c' : Nat), (binOp .eql 24 (.slice a n c) (.slice none n' c')).run Try.prog w = .ok (.bool a.isNone) w := fun w a n c n' c' => Lib.run_eql_slice_nil w _ _ a n c n' c' Try.underlying24
  cases A with
  | none =>
    obtain ⟨rfl, rfl⟩ := hnil rfl
    clear h hnil hl
    go_enter Try.func14, Try.ntmps14
    go_wp2
    go_ret
    exact ⟨_, rfl, World.ownsRow_nil _ _ _ _, Below.refl _ _⟩
  | some ad =>
    have hb0 : Below w.heap.size w (w.alloc (.cells #[] 42)) := (Below.refl _ w).alloc (Nat.le_refl _) _
    have h0 : (w.alloc (.cells #[] 42)).ownsRow w.heap.size 42 2 (.slice (some ⟨w.heap.size, 0, none⟩) 0 0) ([] : List St).length (cellsS []) := World.ownsRow_lit w #[] 0 (Nat.le_refl _) (Nat.zero_le _) rfl
    obtain ⟨v', w', r1, r2, r3, r4⟩ := run_app_s (c := c) h0 (h.below hb0) (fun e => by cases e) (by simpa using hl) hb0.size
    have R1 := Lib.hid r1; have R2 := Lib.hid r2; have R4 := Lib.hid (hb0.trans r4)
    obtain ⟨n, hn⟩ : ∃ n, l.length = n := ⟨_, rfl⟩
    have HN := Lib.hid hn
    rw [hn] at R1 ⊢
    clear h hnil hl hb0 h0 r1 r2 r3 r4 hn
    go_enter Try.func14, Try.ntmps14
    go_wp2_with (at_builtin; refine wpList_run rfl (.tmp 5) (.tmp 6) 24 rfl rfl rfl R1.out ?_)
    go_ret
    exact ⟨v', rfl, by rw [← HN.out]; simpa using R2.out, R4.out⟩
set_option maxRecDepth 100000 in
theorem grow_s (n : Nat) (w : World) (hn : n ≤ 1000) :
    Calls Try.prog 38 #[.slice none 0 0, .int .i64 (n : Int)] w fun e w' => ∃ A c, e = .returned (.slice A 0 c) ∧ w'.ownsRow w.heap.size 42 2 (.slice A 0 c) 0 (cellsS []) ∧ Below w.heap.size w w' := by
  rcases Nat.eq_zero_or_pos n with rfl | h0
  · go_enter Try.func38, Try.ntmps38
    go_wp2
    go_ret
    exact ⟨none, 0, rfl, World.ownsRow_nil _ _ _ _, Below.refl _ _⟩
  · obtain ⟨i0, hi0, hz0, hz1, hz2⟩ := info_parts infoS
    have hr := fun (W : World) (ty : TypeId) => Go.Lib.run_append_nil_zeros (P := Try.prog) W 24 3 ty 42 i0 (.agg #[.int .u32 0, .int .i64 0]) .i64 .i64 Try.underlying24 Try.underlying3 hi0 hz0 n h0 (by omega) (by omega) (by rw [hz2]; omega)
    have hc1 := fun W : World => grownCap_ge W n 0 42
    have hc2 := fun W : World => grownCap_le_maxLen W n 0 42 (by unfold maxLen; omega)
    have HR := Lib.hid hr; clear hr
    have HC1 := Lib.hid hc1; clear hc1
    have HC2 := Lib.hid hc2; clear hc2
    go_enter Try.func38, Try.ntmps38
    go_wp2_with (at_builtin; refine Lib.wpList_append_run _ rfl _ _ _ _ rfl _ _ rfl rfl _ _ (HR.out _ _) ?_)
    obtain ⟨c, hc⟩ : ∃ c, grownCap w n 0 42 = c := ⟨_, rfl⟩
    have hcA := HC1.out w
    have hcB := HC2.out w
    rw [hc] at hcA hcB ⊢
    unfold maxLen at hcB
    go_wp2
    go_ret
    refine ⟨_, _, rfl, ⟨by simp [cellsS], .inr ⟨w.heap.size, c, Builtin.zeroCells (Value.agg #[.int .u32 0, .int .i64 0]).cells n ++ Builtin.zeroCells (Value.agg #[.int .u32 0, .int .i64 0]).cells (c - n), rfl, Nat.le_refl _, ?_, by omega, by unfold maxLen; omega, ?_, by simp [cellsS]⟩⟩, ?_⟩
    · exact heap_alloc_new w.drew _
    · simp [Builtin.zeroCells, Value.cells]; omega
    · exact (below_drw (Below.refl _ w) 1).alloc (Nat.le_refl _) _
end Go.Proofs.Ytidhdgcmagpkgaa
