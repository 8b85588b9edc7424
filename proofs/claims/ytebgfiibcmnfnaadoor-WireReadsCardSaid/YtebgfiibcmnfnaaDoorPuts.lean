/-
  Contracts of bytes.Clone, embrasure/frame.Get, embrasure/frame.Put, and of the document's own embrasureref02.Get and embrasureref02.Put: what they answer is what 'Fr' says, in a row of its own. Conditions: the slice reads as bytes.
-/
import Derived.Test.YtebgfiibcmnfnaaDoorFirst
namespace Go.Proofs.YtebgfiibcmnfnaaDoor
open Go.RowKit
set_option linter.unusedVariables false

set_option maxHeartbeats 400000 in
theorem clone_any (A : Option Addr) (n c : Nat) (zs : List Int) (w : World) (h : Bts w A n zs) (hnil : A = none → n = 0 ∧ c = 0) (hn : n ≤ 140737488355328) :
    Calls Tryd.prog 45 #[.slice A n c] w fun e w' => ∃ r, e = .returned r ∧ w'.ownsRow w.heap.size 5 1 r n (B zs) ∧ Below w.heap.size w w' := by
  have q22 : ∀ (w : World) (a : Option Addr) (n c n' c' : Nat), (binOp .eql 24 (.slice a n c) (.slice none n' c')).run Tryd.prog w = .ok (.bool a.isNone) w := fun w a n c n' c' => Lib.run_eql_slice_nil w _ _ a n c n' c' Tryd.underlying24
  cases A with
  | none =>
    obtain ⟨rfl, rfl⟩ := hnil rfl
    have hz : zs = [] := List.eq_nil_of_length_eq_zero h.len
    subst hz
    clear hnil h
    go_enter Tryd.func45, Tryd.ntmps45
    go_wp2
    go_ret
    exact ⟨_, rfl, World.ownsRow_nil _ _ _ _, Below.refl _ _⟩
  | some ad =>
    clear hnil
    have H := Lib.hid h; clear h
    go_enter Tryd.func45, Tryd.ntmps45
    go_wp2_with (at_builtin; refine wpList_append_bts rfl (.tmp 5) (.tmp 6) rfl w.heap.size _ 0 [] rfl (lit_own w) (some ad) n c zs rfl (H.out.alloc _) (by intro h; cases h) (by omega) (by simp) ?_; intro v5 w5 ho5 hg5; rw [List.nil_append, Nat.zero_add] at ho5; have HB5 := Lib.hid (own_grown_below (lit_own w) ((Below.refl w.heap.size w).alloc (Nat.le_refl _) _) (Nat.le_refl _) hg5); clear hg5)
    go_ret
    exact ⟨_, rfl, ho5, HB5.out⟩
theorem clone_sl (v : Value) (zs : List Int) (p : Nat → Prop) (w : World) (h : Sl w v zs p) (hn : zs.length ≤ 140737488355328) :
    Calls Tryd.prog 45 #[v] w fun e w' => ∃ r, e = .returned r ∧ w'.ownsRow w.heap.size 5 1 r zs.length (B zs) ∧ Below w.heap.size w w' := by
  obtain ⟨A, n, c, rfl, hb, _, _, hnil, _⟩ := h
  have hl := hb.len
  rw [hl] at hn ⊢
  exact clone_any A n c zs w hb hnil hn

set_option maxHeartbeats 400000 in
/-- frame.Get -/
theorem fget_any (A : Option Addr) (n c : Nat) (zs : List Int) (w : World) (h : Bts w A n zs) (hnc : n ≤ c) (hc : c ≤ maxLen) :
    Calls Tryd.prog 42 #[.slice A n c] w fun e w' => ∃ v, e = .returned (ftup v zs) ∧ w'.ownsRow w.heap.size 5 1 v (Fr.row zs).length (B (Fr.row zs)) ∧ Below w.heap.size w w' := by
  have H := Lib.hid (first_any A n c zs w h hnc hc); clear h hc
  have hl := Fr.row_le zs
  go_enter Tryd.func42, Tryd.ntmps42
  go_wp2_with (first
    | (go_at_call 44; refine H.out.mono ?_; rintro e w' ⟨v, rfl, hs, rfl⟩; have HS := Lib.hid hs; clear hs; unfold ftup)
    | (go_at_call 45; refine (clone_sl _ _ _ _ HS.out (by omega)).mono ?_; rintro e w' ⟨r, rfl, ho, hb⟩; have HO := Lib.hid ho; clear ho; have HB := Lib.hid hb; clear hb))
  go_ret3
  exact ⟨_, rfl, HO.out, HB.out⟩

theorem put_app (n : Nat) (zs : List Int) (h : zs.length = n) : Fr.put zs = Uv.enc n ++ zs := by rw [← h]; rfl

set_option maxHeartbeats 400000 in
/-- frame.Put -/
theorem fput_ok (A : Option Addr) (n c : Nat) (zs : List Int) (w : World) (h : Bts w A n zs) (hnil : A = none → n = 0 ∧ c = 0) (hn : n ≤ 1200) :
    Calls Tryd.prog 23 #[.slice A n c] w fun e w' => ∃ v, e = .returned (.tuple #[v, .int .i64 0]) ∧ w'.ownsRow w.heap.size 5 1 v (Fr.put zs).length (B (Fr.put zs)) ∧ Below w.heap.size w w' := by
  have t1 : decide ((1200 : Int) < (n : Int)) = false := by simp; omega
  have H := Lib.hid h; have HN := Lib.hid hnil; clear h hnil
  have HP := Lib.hid (put_any n w (by omega))
  have hl9 : (Uv.enc n).length ≤ 9 := by rw [Uv.enc_length n (by omega)]; exact Uv.len_small n (by omega)
  rw [put_app n zs H.out.len, List.length_append, H.out.len]
  generalize Uv.enc n = es at *
  generalize hel : es.length = el at *
  go_enter Tryd.func23, Tryd.ntmps23
  go_wp2_with (first
    | (go_at_call 21; refine HP.out.mono ?_; rintro e w1 ⟨r, rfl, ho, hb⟩; have HO := Lib.hid ho; clear ho; have HB := Lib.hid hb; clear hb)
    | (at_builtin; refine wpList_append_bts rfl (.tmp 10) (.tmp 11) rfl w.heap.size _ el es rfl HO.out A n c zs rfl (H.out.below HB.out) HN.out (by omega) HB.out.size ?_; intro v5 w5 ho5 hg5; have HB5 := Lib.hid (own_grown_below HO.out HB.out (Nat.le_refl _) hg5); clear hg5; have HO5 := Lib.hid ho5; clear ho5))
  go_ret2
  exact ⟨_, rfl, HO5.out, HB5.out⟩
set_option maxHeartbeats 400000 in
theorem fput_long (A : Option Addr) (n c : Nat) (w : World) (hn : 1200 < n) :
    Calls Tryd.prog 23 #[.slice A n c] w fun e w' => e = .returned (.tuple #[.slice none 0 0, .int .i64 4]) ∧ w = w' := by
  have t1 : decide ((1200 : Int) < (n : Int)) = true := by simp; omega
  go_enter Tryd.func23, Tryd.ntmps23
  go_wp2
  go_ret2
  exact ⟨rfl, rfl⟩

set_option maxHeartbeats 400000 in
/-- the document's own Put -/
theorem ref_fput_ok (A : Option Addr) (n c : Nat) (zs : List Int) (w : World) (h : Bts w A n zs) (hnil : A = none → n = 0 ∧ c = 0) (hn : n ≤ 1200) :
    Calls Tryd.prog 29 #[.slice A n c] w fun e w' => ∃ v, e = .returned (.tuple #[v, .int .i64 0]) ∧ w'.ownsRow w.heap.size 5 1 v (Fr.put zs).length (B (Fr.put zs)) ∧ Below w.heap.size w w' := by
  have t1 : decide ((1200 : Int) < (n : Int)) = false := by simp; omega
  have H := Lib.hid h; have HN := Lib.hid hnil; clear h hnil
  have HP := Lib.hid (ref_put_any n w)
  have hl9 : (Uv.enc n).length ≤ 9 := by rw [Uv.enc_length n (by omega)]; exact Uv.len_small n (by omega)
  rw [put_app n zs H.out.len, List.length_append, H.out.len]
  generalize Uv.enc n = es at *
  generalize hel : es.length = el at *
  go_enter Tryd.func29, Tryd.ntmps29
  go_wp2_with (first
    | (go_at_call 27; refine HP.out.mono ?_; rintro e w1 ⟨r, rfl, ho, hb⟩; have HO := Lib.hid ho; clear ho; have HB := Lib.hid hb; clear hb)
    | (at_builtin; refine wpList_append_bts rfl (.tmp 10) (.tmp 11) rfl w.heap.size _ el es rfl HO.out A n c zs rfl (H.out.below HB.out) HN.out (by omega) HB.out.size ?_; intro v5 w5 ho5 hg5; have HB5 := Lib.hid (own_grown_below HO.out HB.out (Nat.le_refl _) hg5); clear hg5; have HO5 := Lib.hid ho5; clear ho5))
  go_ret2
  exact ⟨_, rfl, HO5.out, HB5.out⟩
set_option maxHeartbeats 400000 in
theorem ref_fput_long (A : Option Addr) (n c : Nat) (w : World) (hn : 1200 < n) :
    Calls Tryd.prog 29 #[.slice A n c] w fun e w' => e = .returned (.tuple #[.slice none 0 0, .int .i64 4]) ∧ w = w' := by
  have t1 : decide ((1200 : Int) < (n : Int)) = true := by simp; omega
  go_enter Tryd.func29, Tryd.ntmps29
  go_wp2
  go_ret2
  exact ⟨rfl, rfl⟩

end Go.Proofs.YtebgfiibcmnfnaaDoor
