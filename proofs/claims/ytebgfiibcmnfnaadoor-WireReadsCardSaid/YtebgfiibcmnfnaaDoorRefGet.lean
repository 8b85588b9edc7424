/-
  The contract of the document's own embrasureref02.Get: the row of the frame with which bytes begin, in a row of its own. Conditions: the slice reads as bytes.
-/
import Derived.Test.YtebgfiibcmnfnaaDoorPuts
namespace Go.Proofs.YtebgfiibcmnfnaaDoor
open Go.RowKit
set_option linter.unusedVariables false

set_option maxHeartbeats 1000000 in
theorem ref_fget_any (A : Option Addr) (n c : Nat) (zs : List Int) (w : World) (h : Bts w A n zs) (hnc : n ≤ c) (hc : c ≤ maxLen) :
    Calls Tryd.prog 33 #[.slice A n c] w fun e w' => ∃ v, e = .returned (ftup v zs) ∧ w'.ownsRow w.heap.size 5 1 v (Fr.row zs).length (B (Fr.row zs)) ∧ Below w.heap.size w w' := by
  have HC := Lib.hid hc
  unfold maxLen at hc
  have HB := Lib.hid h; clear h
  rcases Uv.got_cases zs with ⟨h1, h2, h3, h4⟩ | ⟨h1, h2⟩
  · have hv := Uv.val_bd zs
    have hl := HB.out.len
    have HG := Lib.hid h4
    have HF : Hid (∀ x : Int, (1200 < Uv.val zs → x = 4) → (Uv.val zs ≤ 1200 → zs.length < Uv.size zs + (Uv.val zs).toNat → x = 2) → (Uv.val zs ≤ 1200 → ¬ zs.length < Uv.size zs + (Uv.val zs).toNat → x = 0) → Fr.code zs = x) := Lib.hid (by
      intro x h4 h2 h0
      unfold Fr.code
      rw [if_neg (by omega)]
      split
      · exact (h4 (by assumption)).symm
      · split
        · exact (h2 (by omega) (by assumption)).symm
        · exact (h0 (by omega) (by assumption)).symm)
    have HS : Hid (Fr.code zs = 0 → Fr.size zs = Uv.size zs + (Uv.val zs).toNat ∧ Fr.row zs = (zs.drop (Uv.size zs)).take (Uv.val zs).toNat) := Lib.hid (fun h => ⟨(Fr.size_ok h).1, by simp [Fr.row, h]⟩)
    clear h4
    have hk9 := Fr.size_le9 zs
    obtain ⟨V, hV⟩ : ∃ V : Nat, Uv.val zs = (V : Int) := ⟨(Uv.val zs).toNat, by omega⟩
    rw [hV] at HG HF HS hv
    simp only [Int.toNat_natCast] at HF HS
    generalize Uv.size zs = k at *
    rw [hl] at h3
    clear hV h1
    by_cases hbig : 1200 < V
    · have t1 : decide ((1200 : Int) < (V : Int)) = true := by simp; omega
      have E := Lib.hid (HF.out 4 (fun _ => rfl) (by omega) (by omega))
      clear HF HS
      go_enter Tryd.func33, Tryd.ntmps33
      go_wp2_with (go_at_call 31; refine (ref_get_at _ _ _ zs _ _ _ _ HG.out hnc HC.out HB.out).mono ?_; rintro e w' ⟨rfl, rfl⟩)
      go_ret3
      exact ⟨_, by rw [ftup, E.out, Fr.size_no (by rw [E.out]; decide)]; rfl, by rw [Fr.row_no (by rw [E.out]; decide)]; exact World.ownsRow_nil _ _ _ _, Below.refl _ _⟩
    · have t1 : decide ((1200 : Int) < (V : Int)) = false := by simp; omega
      by_cases hsh : n < k + V
      · have t2 : decide ((n : Int) - (k : Int) < (V : Int)) = true := by simp; omega
        have E := Lib.hid (HF.out 2 (by omega) (fun _ _ => rfl) (by omega))
        clear HF HS
        go_enter Tryd.func33, Tryd.ntmps33
        go_wp2_with (go_at_call 31; refine (ref_get_at _ _ _ zs _ _ _ _ HG.out hnc HC.out HB.out).mono ?_; rintro e w' ⟨rfl, rfl⟩)
        go_ret3
        exact ⟨_, by rw [ftup, E.out, Fr.size_no (by rw [E.out]; decide)]; rfl, by rw [Fr.row_no (by rw [E.out]; decide)]; exact World.ownsRow_nil _ _ _ _, Below.refl _ _⟩
      · have t2 : decide ((n : Int) - (k : Int) < (V : Int)) = false := by simp; omega
        have E := Lib.hid (HF.out 0 (by omega) (by omega) (fun _ _ => rfl))
        have ES := Lib.hid (HS.out E.out)
        clear HF HS
        obtain ⟨ad, rfl⟩ := HB.out.some_of (by omega)
        rw [ES.out.2]
        have hll : ((zs.drop k).take V).length = V := by simp; omega
        rw [hll]
        by_cases hck : c = k
        · obtain rfl : V = 0 := by omega
          subst hck
          rw [List.take_zero]
          go_enter Tryd.func33, Tryd.ntmps33
          go_wp2_with (first
            | (go_at_call 31; refine (ref_get_at _ _ _ zs _ _ _ _ HG.out hnc HC.out HB.out).mono ?_; rintro e w' ⟨rfl, rfl⟩)
            | (at_builtin; refine wpList_append_bts rfl (.tmp 26) (.tmp 33) rfl w.heap.size _ 0 [] rfl (lit_own w) (some ad) 0 0 [] rfl Bts.zero (by intro h; cases h) (by omega) (by simp) ?_; intro v5 w5 ho5 hg5; rw [List.nil_append, Nat.zero_add] at ho5; have HB5 := Lib.hid (own_grown_below (lit_own w) ((Below.refl w.heap.size w).alloc (Nat.le_refl _) _) (Nat.le_refl _) hg5); clear hg5; have HO5 := Lib.hid ho5; clear ho5))
          go_ret3
          exact ⟨_, by rw [ftup, E.out, ES.out.1]; rfl, HO5.out, HB5.out⟩
        · go_enter Tryd.func33, Tryd.ntmps33
          go_wp2_with (first
            | (go_at_call 31; refine (ref_get_at _ _ _ zs _ _ _ _ HG.out hnc HC.out HB.out).mono ?_; rintro e w' ⟨rfl, rfl⟩)
            | (at_builtin; refine wpList_append_bts rfl (.tmp 26) (.tmp 33) rfl w.heap.size _ 0 [] rfl (lit_own w) (some (ad.add k)) V (c - k) ((zs.drop k).take V) (congrArg (fun m => Value.slice (some (ad.add k)) m (c - k)) (Nat.add_sub_cancel_left k V)) ((HB.out.piece (by omega)).alloc _) (by intro h; cases h) (by omega) (by simp) ?_; intro v5 w5 ho5 hg5; rw [List.nil_append, Nat.zero_add] at ho5; have HB5 := Lib.hid (own_grown_below (lit_own w) ((Below.refl w.heap.size w).alloc (Nat.le_refl _) _) (Nat.le_refl _) hg5); clear hg5; have HO5 := Lib.hid ho5; clear ho5))
          go_ret3
          exact ⟨_, by rw [ftup, E.out, ES.out.1]; rfl, HO5.out, HB5.out⟩
  · obtain ⟨⟨x, k, cd⟩, hg⟩ : ∃ t, Uv.got zs = t := ⟨_, rfl⟩
    have hcd : Uv.code zs = cd := by simp [Uv.code, hg]
    have E : Hid (Fr.code zs = cd) := Lib.hid (by unfold Fr.code; rw [if_pos (by omega), hcd])
    have t1 : (cd != 0) = true := by rw [bne_iff_ne]; omega
    have E2 : Hid (¬ Fr.code zs = 0) := Lib.hid (by rw [E.out]; omega)
    clear hcd h1 h2
    have HG := Lib.hid hg; clear hg
    go_enter Tryd.func33, Tryd.ntmps33
    go_wp2_with (go_at_call 31; refine (ref_get_at _ _ _ zs _ _ _ _ HG.out hnc HC.out HB.out).mono ?_; rintro e w' ⟨rfl, rfl⟩)
    go_ret3
    exact ⟨_, by rw [ftup, Fr.size_no E2.out, E.out]; rfl, by rw [Fr.row_no E2.out]; exact World.ownsRow_nil _ _ _ _, Below.refl _ _⟩

end Go.Proofs.YtebgfiibcmnfnaaDoor
