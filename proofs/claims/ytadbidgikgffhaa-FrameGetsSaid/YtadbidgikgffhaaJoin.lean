/-
  The contract of embrasure/frame.Join: rows' frames, one behind the other, in a row of its own, or none if one is too long. Conditions: the slice reads as rows of bytes.
-/
import Derived.Test.YtadbidgikgffhaaRowsSame
namespace Go.Proofs.Ytadbidgikgffhaa
open Go.RowKit
set_option linter.unusedVariables false

def Shorts (rss : List (List Int)) : Prop := ∀ r ∈ rss, r.length ≤ 1200
def JoinAns (rss : List (List Int)) (w : World) (e : Ending) (w' : World) : Prop :=
  Below w.heap.size w w' ∧ ((Shorts rss ∧ ∃ v, e = .returned (.tuple #[v, .int .i64 0]) ∧ w'.ownsRow w.heap.size 5 1 v (Fr.join rss).length (B (Fr.join rss))) ∨ (¬ Shorts rss ∧ e = .returned (.tuple #[.slice none 0 0, .int .i64 4])))
def RelJ (w : World) (rss : List (List Int)) (k : Nat) (v : Value) (wr : World) : Prop :=
  Shorts (rss.take k) ∧ wr.ownsRow w.heap.size 5 1 v (Fr.join (rss.take k)).length (B (Fr.join (rss.take k))) ∧ Below w.heap.size w wr
theorem take_succ_getD (rss : List (List Int)) (k : Nat) (h : k < rss.length) : rss.take (k + 1) = rss.take k ++ [rss.getD k []] := by
  rw [List.take_add_one]; simp [List.getD, h]
theorem join_snoc (rss : List (List Int)) (r : List Int) : Fr.join (rss ++ [r]) = Fr.join rss ++ Fr.put r := by
  rw [Fr.join_append]; simp [Fr.join]

theorem put_bd {r : List Int} (h : ∀ z ∈ r, 0 ≤ z ∧ z ≤ 255) : ∀ z ∈ Fr.put r, 0 ≤ z ∧ z ≤ 255 := by
  intro z hz
  refine Fr.join_bd [r] (by simpa using h) z (by simpa [Fr.join] using hz)

set_option maxHeartbeats 1000000 in
theorem join_run (A : Option Addr) (n c : Nat) (rss : List (List Int)) (w : World) (h : Rs w A n rss) (hn : n ≤ 100) :
    Calls Try.prog 19 #[.slice A n c] w (JoinAns rss w) := by
  have HR := Lib.hid h; clear h
  go_enter Try.func19, Try.ntmps19
  go_wp2
  go_loopw [11, 4] (fun p v wr => ∃ k : Nat, p = .int .i64 (k : Int) ∧ k ≤ n ∧ RelJ w rss k v wr) (fun p _ _ => n - (intOf p).toNat)
  case atStart => exact ⟨0, rfl, by omega, by simp [Shorts], World.ownsRow_nil _ _ _ _, Below.refl _ _⟩
  case round =>
    obtain ⟨k, rfl, hk, hsh, hown, hbel⟩ := hrel
    have HSH := Lib.hid hsh; clear hsh
    have HBL := Lib.hid hbel; clear hbel
    have HL : Hid (rss.length = n) := Lib.hid HR.out.1
    have hsz := HBL.out.size
    by_cases hkn : k < n
    · obtain ⟨b, off, rfl, _⟩ := HR.out.some_of (by omega)
      have HR2 := Lib.hid (HR.out.below HBL.out)
      obtain ⟨A1, m1, d1, hc1, hb1, hmd, hd1, hnil⟩ := HR2.out.cell hkn
      have HT := Lib.hid (take_succ_getD rss k (by have := HL.out; omega))
      have HB1 := Lib.hid hb1; have HN1 := Lib.hid hnil; have HLR := Lib.hid hb1.len
      have hjl := (Fr.join_len _ HSH.out).1
      have hjk : (rss.take k).length ≤ 100 := by simp; omega
      have HOWN := Lib.hid hown; clear hb1 hnil hown
      have HJS := Lib.hid (join_snoc (rss.take k) (rss.getD k []))
      have HPL := Lib.hid (Fr.put_le (rss.getD k []))
      have hjl' : (Fr.join (rss.take k)).length ≤ 120200 := by omega
      clear hjl hjk
      generalize rss.getD k [] = r at *
      generalize hjj : Fr.join (rss.take k) = js at *
      by_cases hm : m1 ≤ 1200
      · have hpl := (HPL.out (by have := HLR.out; omega)).1
        clear HPL
        go_wp2_with (first
          | (go_at_call 11; refine (fput_ok _ _ _ _ _ HB1.out HN1.out hm).mono ?_; rintro e w2 ⟨v2, rfl, hor, hb2⟩; obtain ⟨A2, c2, rfl, _, _, hbt⟩ := own_form hor (put_bd HB1.out.bd); have HN2 := Lib.hid (own_nil hor); have HBT := Lib.hid hbt; clear hor hbt; have HB2 := Lib.hid hb2; clear hb2)
          | (at_builtin; refine wpList_append_bts rfl (.tmp 23) (.tmp 24) rfl w.heap.size _ js.length js rfl (own_below' HOWN.out HB2.out) A2 (Fr.put r).length c2 (Fr.put r) rfl HBT.out HN2.out (by omega) (by have := HB2.out.size; omega) ?_; intro v5 w5 ho5 hg5; have HO5 := Lib.hid ho5; clear ho5; have HG5 := Lib.hid (own_grown_below (own_below' HOWN.out HB2.out) (HBL.out.trans (HB2.out.mono HBL.out.size)) (Nat.le_refl _) hg5); clear hg5))
        go_roundw
        case rel =>
          refine ⟨k + 1, by go_num, by omega, ?_, ?_, HG5.out⟩
          · rw [HT.out]; intro x hx
            rcases List.mem_append.1 hx with hx | hx
            · exact HSH.out x hx
            · obtain rfl : x = r := by simpa using hx
              have := HLR.out; omega
          · rw [HT.out, HJS.out, List.length_append]; exact HO5.out
        case measure => simp [intOf]; omega
      · go_wp2_with (go_at_call 11; refine (fput_long _ _ _ _ (by omega)).mono ?_; rintro e w2 ⟨rfl, rfl⟩)
        go_ret2
        refine ⟨HBL.out, .inr ⟨fun hs => ?_, rfl⟩⟩
        have hm2 : r ∈ rss := List.mem_of_mem_take (HT.out ▸ (by simp : r ∈ rss.take k ++ [r]))
        have := hs r hm2; have := HLR.out; omega
    · have hf : rss.take k = rss := List.take_of_length_le (by have := HL.out; omega)
      rw [hf] at hown
      have HSH2 : Hid (Shorts rss) := Lib.hid (hf ▸ HSH.out)
      have HO := Lib.hid hown; clear hown hf
      go_wp2
      go_ret2
      exact ⟨HBL.out, .inl ⟨HSH2.out, _, rfl, HO.out⟩⟩

end Go.Proofs.Ytadbidgikgffhaa
