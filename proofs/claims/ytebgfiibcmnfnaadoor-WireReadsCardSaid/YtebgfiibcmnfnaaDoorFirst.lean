/-
  Contracts of embrasure/frame.first: the row of the frame with which bytes begin, as a piece of them, what it takes, and why there is none. Conditions: the slice reads as bytes.
-/
import Derived.Test.YtebgfiibcmnfnaaDoorWords
import Derived.Test.YtebgfiibcmnfnaaDoorFr
namespace Go.Proofs.YtebgfiibcmnfnaaDoor
open Go.RowKit
set_option linter.unusedVariables false

theorem Bts.from {w : World} {A : Option Addr} {n c k : Nat} {zs : List Int} (h : Bts w A n zs) (hk : k ≤ n) (hc : n ≤ c) : Bts w (if c = k then A else A.map (·.add k)) (n - k) (zs.drop k) := by
  obtain ⟨h1, h2, h3⟩ := h
  refine ⟨by simp; omega, fun z hz => h2 z (List.mem_of_mem_drop hz), fun hn => ?_⟩
  obtain ⟨b, off, rfl, hb, hcell⟩ := h3 (by omega)
  rw [if_neg (by omega)]
  refine ⟨b, off + k, ?_, hb, fun j hj => ?_⟩
  · simp only [Option.map_some]
    unfold Addr.add
    split <;> simp_all
  · rw [Nat.add_assoc, hcell (k + j) (by omega)]
    simp [List.getD]
theorem Bts.tail {w : World} {A : Option Addr} {n k : Nat} {zs : List Int} (h : Bts w A n zs) (hk : k < n) : Bts w (Option.map (fun x => x.add k) A) (n - k) (zs.drop k) := by
  have := h.from (c := n) (k := k) (by omega) (Nat.le_refl _)
  rwa [if_neg (by omega)] at this

theorem Bts.zero {w : World} {A : Option Addr} : Bts w A 0 [] := ⟨rfl, by simp, fun h => by omega⟩
theorem Bts.piece {w : World} {A : Option Addr} {n k V : Nat} {zs : List Int} (h : Bts w A n zs) (hk : k + V ≤ n) : Bts w (Option.map (fun x => x.add k) A) V ((zs.drop k).take V) := by
  rcases Nat.eq_zero_or_pos V with h0 | h0
  · subst h0; simpa using Bts.zero
  · exact (h.tail (by omega)).cut (by omega)
theorem add_block (ad : Addr) (k : Nat) : (ad.add k).block = ad.block := by unfold Addr.add; split <;> rfl

/-- v is a slice that reads as zs; what it leads to lies in the blocks that p says -/
def Sl (w : World) (v : Value) (zs : List Int) (p : Nat → Prop) : Prop :=
  ∃ A n c, v = .slice A n c ∧ Bts w A n zs ∧ n ≤ c ∧ c ≤ maxLen ∧ (A = none → n = 0 ∧ c = 0) ∧ ∀ ad, A = some ad → p ad.block
theorem Sl.nil (w : World) (p : Nat → Prop) : Sl w (.slice none 0 0) [] p := ⟨none, 0, 0, rfl, ⟨rfl, by simp, fun h => by omega⟩, Nat.le_refl _, Nat.zero_le _, fun _ => ⟨rfl, rfl⟩, fun _ h => by cases h⟩

def ftup (v : Value) (zs : List Int) : Value := .tuple #[v, .int .i64 (Fr.size zs : Int), .int .i64 (Fr.code zs)]

set_option maxHeartbeats 1000000 in
theorem first_any (A : Option Addr) (n c : Nat) (zs : List Int) (w : World) (h : Bts w A n zs) (hnc : n ≤ c) (hc : c ≤ maxLen) :
    Calls Tryd.prog 44 #[.slice A n c] w fun e w' => ∃ v, e = .returned (ftup v zs) ∧ Sl w v (Fr.row zs) (fun b => ∃ ad, A = some ad ∧ b = ad.block) ∧ w = w' := by
  have HC := Lib.hid hc
  unfold maxLen at hc
  have HB := Lib.hid h; clear h
  rcases Uv.got_cases zs with ⟨h1, h2, h3, h4⟩ | ⟨h1, h2⟩
  · have hv := Uv.val_bd zs
    have hl := HB.out.len
    have HG := Lib.hid h4
    have HF : Hid (∀ x : Int, (1200 < Uv.val zs → x = 4) → (Uv.val zs ≤ 1200 → zs.length < Uv.size zs + (Uv.val zs).toNat → x = 2) → (Uv.val zs ≤ 1200 → ¬ zs.length < Uv.size zs + (Uv.val zs).toNat → x = 0) → Fr.code zs = x) := Lib.hid (by
      intro x h4 h2 h0
      unfold Fr.code
      rw [if_neg (by omega)]
      split
      · exact (h4 (by assumption)).symm
      · split
        · exact (h2 (by omega) (by assumption)).symm
        · exact (h0 (by omega) (by assumption)).symm)
    have HS : Hid (Fr.code zs = 0 → Fr.size zs = Uv.size zs + (Uv.val zs).toNat ∧ Fr.row zs = (zs.drop (Uv.size zs)).take (Uv.val zs).toNat) := Lib.hid (fun h => ⟨(Fr.size_ok h).1, by simp [Fr.row, h]⟩)
    clear h4
    have hk9 := Fr.size_le9 zs
    obtain ⟨V, hV⟩ : ∃ V : Nat, Uv.val zs = (V : Int) := ⟨(Uv.val zs).toNat, by omega⟩
    rw [hV] at HG HF HS hv
    simp only [Int.toNat_natCast] at HF HS
    generalize Uv.size zs = k at *
    clear hV h1
    by_cases hbig : 1200 < V
    · have t1 : decide ((1200 : Int) < (V : Int)) = true := by simp; omega
      have E := Lib.hid (HF.out 4 (fun _ => rfl) (by omega) (by omega))
      clear HF HS
      go_enter Tryd.func44, Tryd.ntmps44
      go_wp2_with (go_at_call 38; refine (get_at _ _ _ zs _ _ _ _ HG.out hnc HC.out HB.out).mono ?_; rintro e w' ⟨rfl, rfl⟩)
      go_ret3
      exact ⟨_, by rw [ftup, E.out, Fr.size_no (by rw [E.out]; decide)]; rfl, by rw [Fr.row_no (by rw [E.out]; decide)]; exact Sl.nil _ _, rfl⟩
    · have t1 : decide ((1200 : Int) < (V : Int)) = false := by simp; omega
      by_cases hsh : n < k + V
      · have t2 : decide ((n : Int) < (k : Int) + (V : Int)) = true := by simp; omega
        have E := Lib.hid (HF.out 2 (by omega) (fun _ _ => rfl) (by omega))
        clear HF HS
        go_enter Tryd.func44, Tryd.ntmps44
        go_wp2_with (go_at_call 38; refine (get_at _ _ _ zs _ _ _ _ HG.out hnc HC.out HB.out).mono ?_; rintro e w' ⟨rfl, rfl⟩)
        go_ret3
        exact ⟨_, by rw [ftup, E.out, Fr.size_no (by rw [E.out]; decide)]; rfl, by rw [Fr.row_no (by rw [E.out]; decide)]; exact Sl.nil _ _, rfl⟩
      · have t2 : decide ((n : Int) < (k : Int) + (V : Int)) = false := by simp; omega
        have E := Lib.hid (HF.out 0 (by omega) (by omega) (fun _ _ => rfl))
        have ES := Lib.hid (HS.out E.out)
        clear HF HS
        go_enter Tryd.func44, Tryd.ntmps44
        go_wp2_with (go_at_call 38; refine (get_at _ _ _ zs _ _ _ _ HG.out hnc HC.out HB.out).mono ?_; rintro e w' ⟨rfl, rfl⟩)
        · obtain rfl : V = 0 := by omega
          go_ret3
          refine ⟨_, by rw [ftup, E.out, ES.out.1]; rfl, ⟨A, 0, 0, rfl, ?_, Nat.le_refl _, Nat.zero_le _, fun _ => ⟨rfl, rfl⟩, fun ad e => ⟨ad, e, rfl⟩⟩, rfl⟩
          rw [ES.out.2, List.take_zero]
          exact Bts.zero
        · obtain ⟨ad, rfl⟩ := HB.out.some_of (by omega)
          go_ret3
          refine ⟨_, by rw [ftup, E.out, ES.out.1]; rfl, ⟨_, _, _, rfl, ?_, by omega, by unfold maxLen; omega, fun h => by simp at h, fun ad2 e => ⟨ad, rfl, ?_⟩⟩, rfl⟩
          · rw [ES.out.2]
            exact HB.out.piece (by omega)
          · simp at e; rw [← e]; exact add_block _ _
  · obtain ⟨⟨x, k, cd⟩, hg⟩ : ∃ t, Uv.got zs = t := ⟨_, rfl⟩
    have hcd : Uv.code zs = cd := by simp [Uv.code, hg]
    have E : Hid (Fr.code zs = cd) := Lib.hid (by unfold Fr.code; rw [if_pos (by omega), hcd])
    have t1 : (cd != 0) = true := by rw [bne_iff_ne]; omega
    have E2 : Hid (¬ Fr.code zs = 0) := Lib.hid (by rw [E.out]; omega)
    clear hcd h1 h2
    have HG := Lib.hid hg; clear hg
    go_enter Tryd.func44, Tryd.ntmps44
    go_wp2_with (go_at_call 38; refine (get_at _ _ _ zs _ _ _ _ HG.out hnc HC.out HB.out).mono ?_; rintro e w' ⟨rfl, rfl⟩)
    go_ret3
    exact ⟨_, by rw [ftup, Fr.size_no E2.out, E.out]; rfl, by rw [Fr.row_no E2.out]; exact Sl.nil _ _, rfl⟩

end Go.Proofs.YtebgfiibcmnfnaaDoor
