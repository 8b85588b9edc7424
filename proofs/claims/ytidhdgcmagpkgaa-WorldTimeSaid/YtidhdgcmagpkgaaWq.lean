/-
  Words for WorldTime: a way is refused just where it may not be; Box and All of a box without bindings. Conditions: as each lemma states.
-/
import Derived.Test.YtidhdgcmagpkgaaWj
import Derived.Test.YtidhdgcmagpkgaaAlw
namespace Go.Proofs.Ytidhdgcmagpkgaa
open Go.RowKit
attribute [local go_sem] Oper.semAt_some
set_option linter.unusedVariables false
set_option linter.unusedSimpArgs false

theorem goes_t {now t : Int} (h1 : now ≤ t) (h2 : t ≤ 1099511627776) : goes now t = true := by
  unfold goes
  rw [Bool.and_eq_true, decide_eq_true_eq, decide_eq_true_eq]
  exact ⟨h1, h2⟩
theorem in_code {b : Bp} {t p : Int} {f : A2} (h1 : b.now ≤ t) (h2 : t ≤ 1099511627776) (hf : mayA f = true) : ¬ (inP b t p f).1.2 = 1 ∧ (inP b t p f).2.now = t := by
  show ¬ (inS b.x b.now b.M t p f).2.1 = 1 ∧ (inS b.x b.now b.M t p f).2.2.1 = t
  unfold inS
  rw [if_pos (goes_t h1 h2)]
  refine ⟨?_, rfl⟩
  show ¬ (inM b.x (liveM b.M t) p f).2 = 1
  unfold inM
  rw [if_pos hf]
  split <;> simp
theorem out_code {b : Bp} {t : Int} {f g : A2} (h1 : b.now ≤ t) (h2 : t ≤ 1099511627776) (hf : mayA f = true) (hg : mayA g = true) : ¬ (outP b t f g).1.2 = 1 ∧ (outP b t f g).2.now = t := by
  show ¬ (outS b.x b.now b.M t f g).2.1 = 1 ∧ (outS b.x b.now b.M t f g).2.2.1 = t
  unfold outS
  rw [if_pos (goes_t h1 h2)]
  refine ⟨?_, rfl⟩
  show ¬ (outM b.x (liveM b.M t) t f g).2.1 = 1
  unfold outM
  rw [if_pos ⟨hf, hg⟩]
  split
  · simp
  · split <;> simp
/-- boxes as they may be, none of a later time -/
def OkT (t : Int) (bs : List Bp) : Prop := ∀ b ∈ bs, OkP b ∧ b.now ≤ t
theorem OkT.set {t : Int} {bs : List Bp} {b : Bp} (h : OkT t bs) (hb : OkP b ∧ b.now ≤ t) (k : Nat) : OkT t (bs.set k b) := fun c hc => (List.mem_or_eq_of_mem_set hc).elim (h c) (fun e => e ▸ hb)
theorem folM_code {S H : List St} {t : Int} (ht : t ≤ 1099511627776) : ∀ (n : Nat) (bs : List Bp) (f g : A2) (a l : Int) (ent : Bool), OkT t bs → isA f → mayA f = true → isA g → mayA g = true → ¬ (folM S H t n bs f g a l ent).1.2.2.2 = 1 ∧ OkT t (folM S H t n bs f g a l ent).2
  | 0, bs, f, g, a, l, ent, h, _, _, _, _ => ⟨by simp [folM, noWay], h⟩
  | n + 1, bs, f, g, a, l, ent, h, hf, hmf, hg, hmg => by
    rw [folM]
    split
    · exact ⟨by simp, h⟩
    · split
      · split
        · exact ⟨by simp [noWay], h⟩
        · rename_i b hb
          have hb1 := h b (List.mem_of_getElem? hb)
          obtain ⟨c1, c2⟩ := in_code (p := g.2) hb1.2 ht hmf
          obtain ⟨i1, i2, i3, i4⟩ := in_ok (t := t) (p := g.2) (f := f) hb1.1
          have hset := h.set (b := (inP b t g.2 f).2) ⟨i1, by rw [c2]; exact Int.le_refl _⟩ (idxS S (g.1, a)).toNat
          split
          · rename_i h0
            exact folM_code ht n _ f _ _ l true hset hf hmf i2 (i3 h0)
          · exact ⟨c1, hset⟩
      · split
        · split
          · exact ⟨by simp [noWay], h⟩
          · rename_i b hb
            have hb1 := h b (List.mem_of_getElem? hb)
            obtain ⟨c1, c2⟩ := out_code (f := f) (g := g) hb1.2 ht hmf hmg
            obtain ⟨i1, i2, i3, i4⟩ := out_ok (t := t) (g := g) hb1.1 hf hmf
            have hset := h.set (b := (outP b t f g).2) ⟨i1, by rw [c2]; exact Int.le_refl _⟩ a.toNat
            split
            · rename_i h0
              exact folM_code ht n _ _ g _ _ ent hset i2 (i3 h0) hg hmg
            · exact ⟨c1, hset⟩
        · exact ⟨by simp [noWay], h⟩
/-- a way that may be -/
def rightB (H : List St) (g : Gs) (now : Int) : Bool := decide (0 ≤ now ∧ now ≤ 1099511627776 ∧ 0 ≤ g.host ∧ g.host < (H.length : Int) ∧ 1 ≤ g.port ∧ g.port ≤ 65535 ∧ g.to.1 ≠ 0 ∧ 1 ≤ g.to.2 ∧ g.to.2 ≤ 65535)
theorem way_right {S H : List St} {bs : List Bp} (h : OkPlan S H bs) (hn : OkT 0 bs) {g : Gs} (hg : isG g) {now : Int} (hr : rightB H g now = true) : ¬ (wayM S H bs 0 now g.host g.port g.to).1.2.2.2 = 1 := by
  unfold rightB at hr
  rw [decide_eq_true_eq] at hr
  obtain ⟨h1, h2, h3, h4, h5, h6, h7, h8, h9⟩ := hr
  obtain ⟨k, hk⟩ := Int.eq_ofNat_of_zero_le h3
  have hkl : k < H.length := by omega
  have hb : inB g.host H.length = true := by rw [hk, inB_nat]; simpa using hkl
  have ho : ownA H g.host g.port = ((getS H g.host).1, g.port) := by unfold ownA; rw [if_pos hb]
  obtain ⟨s, hs⟩ : ∃ s, H[k]? = some s := ⟨_, List.getElem?_eq_getElem hkl⟩
  have hs1 := h.okH s (List.mem_of_getElem? hs)
  have hgs : getS H g.host = s := by rw [hk]; exact getS_at hs
  rw [hgs] at ho
  have hm1 : mayA (ownA H g.host g.port) = true := by rw [ho]; exact mayA_t hs1.2.1 h5 h6
  have hi1 : isA (ownA H g.host g.port) := own_is h.okH hg.2.2.1
  have hm2 : mayA g.to = true := mayA_t h7 h8 h9
  unfold wayM
  rw [if_pos ⟨h1, h2, hm1, hm2⟩]
  exact (folM_code h2 100 bs _ _ _ _ _ (fun b hb => ⟨(hn b hb).1, by have := (hn b hb).2; omega⟩) hi1 hm1 hg.2.2.2 hm2).1
theorem way_wrong {S H : List St} {bs : List Bp} (h : OkPlan S H bs) {g : Gs} {now : Int} (hr : rightB H g now = false) : wayM S H bs 0 now g.host g.port g.to = (noWay 1, bs, 0) := by
  unfold wayM
  rw [if_neg]
  rintro ⟨h1, h2, h3, h4⟩
  unfold rightB at hr
  rw [decide_eq_false_iff_not] at hr
  unfold ownA at h3
  split at h3
  · rename_i hb
    obtain ⟨k, hk, hkl⟩ := inB_t hb
    rw [mayA_iff] at h3 h4
    exact hr ⟨h1, h2, by omega, by omega, h3.2.1, h3.2.2, h4.1, h4.2.1, h4.2.2⟩
  · simp [mayA] at h3
section
variable {w0 V V' : World} {wb : Nat} {bv sv hv : Value} {S H : List St} {bs : List Bp} {now now' : Int} {os : List (Nat × Obj)}
set_option maxHeartbeats 1000000 in
/-- a box without bindings: Box, and All of it -/
theorem box_all (h : Wp w0 wb bv sv hv S H bs now os V) (hn : bs.length ≤ 16) {i : Nat} {b : Bp} (hi : bs[i]? = some b) (hM : b.M = []) (t : Int) : ∃ nb, Calls Try.prog 11 #[.pointer (some ⟨wb, 0, none⟩), .int .i64 i] V (fun e V' => e = .returned (.pointer (some ⟨nb, 0, none⟩)) ∧ V' = V) ∧
    Calls Try.prog 12 #[.pointer (some ⟨nb, 0, none⟩), .int .i64 t] V fun e V' => ∃ A c t', e = .returned (.slice A 0 c) ∧ Wp w0 wb bv sv hv S H (bs.set i ⟨b.x, t', []⟩) now os V' := by
  have hI := isBox_wp h (by omega) (i : Int)
  have t1 := h.top.1
  have hil := (List.getElem?_eq_some_iff.1 hi).1
  rw [inB_nat, decide_eq_true hil] at hI
  obtain ⟨g, c, nb, rfl, c2, hg, hcell, kv, L, hna, hL, hupd⟩ := h.box_of hi
  have hL0 : L = [] := by rw [hM] at hL; exact List.map_eq_nil_iff.1 hL
  refine ⟨nb, ?_, ?_⟩
  · have HI := Lib.hid hI
    unfold maxLen at c2
    obtain ⟨n, hq⟩ : ∃ n, bs.length = n := ⟨_, rfl⟩
    rw [hq] at *
    clear hna hL hupd h hi hq hL0
    go_enter Try.func11, Try.ntmps11
    go_wp2_with fail
    refine HI.out.mono ?_
    rintro e V1 ⟨rfl, rfl⟩
    go_wp2
    go_ret
    exact ⟨rfl, rfl⟩
  · refine (all_any nb b.x b.now kv L t V hna ⟨by rw [hL0]; simp, by rw [hL0]; simp⟩).mono fun e V' hr => ?_
    unfold AllR at hr
    subst hL0
    split at hr
    · obtain ⟨kv', v, l', rfl, hp, _, ⟨A, c', rfl, _⟩, hm⟩ := hr
      have hl : l' = [] := by simpa [liveM] using hp
      subst hl
      exact ⟨A, c', t, rfl, hupd V' t kv' _ [] hm (by simp [liveN])⟩
    · exact ⟨none, 0, _, hr.1, hupd V' _ kv _ [] hr.2 rfl⟩
end
end Go.Proofs.Ytidhdgcmagpkgaa
