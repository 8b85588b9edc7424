/-
  The contract of the statements' own 'awake' and 'small', and Mint, Check and Count where all that was there ahead of the call is as it was. Conditions: as each states.
-/
import Derived.Test.YtcinjfmmmmaelaaChk
import Derived.Lib.SlBytesConst
namespace Go.Proofs.Ytcinjfmmmmaelaa
open Go.RowKit Go.Maps
set_option linter.unusedVariables false

theorem mint_any (nb : Nat) (S : Nat → Prop) (L : List Item) (p : Int) (A : Option Addr) (n c : Nat) (zs : List Int) (w : World) (h : Nota w S nb L) (hp : 1 ≤ p ∧ p ≤ 2147483647) (hnc : n ≤ c) (hc : c ≤ maxLen) (hb : Bts w A n zs) (hL : L.length ≤ 1000000) :
    Calls Try.prog 12 #[.pointer (some ⟨nb, 0, none⟩), .int .i64 p, .slice A n c] w fun e w' => e = .returned (.tuple #[.int .u64 (tagL L (p, zs) : Nat), .int .i64 0]) ∧ Nota w' (fun k => S k ∨ w.heap.size ≤ k) nb (mintL L (p, zs)) ∧ Keeps S w w' := by
  by_cases hx : (p, zs) ∈ L
  · refine (mint_old nb S L p A n c zs w h hp hnc hc hb hx).mono fun e w' h' => ⟨h'.1, ?_, ?_⟩
    · rw [mintL, if_pos hx]
      exact (h.kept (fun k hk _ => h'.2.block k hk)).mono (fun k hk => .inl hk)
    · have b := h'.2
      exact ⟨b.os, b.tape, b.output, b.size, fun k hk _ => b.block k hk⟩
  · refine (mint_new nb S L p A n c zs w h hp hnc hc hb hx hL).mono fun e w' h' => ⟨?_, ?_, h'.2.2⟩
    · rw [tagL_new hx]; exact h'.1
    · rw [mintL, if_neg hx]; exact h'.2.1

/-- .. all that the notary is made of lies from block Z on -/
theorem mint_b (Z nb : Nat) (L : List Item) (p : Int) (A : Option Addr) (n c : Nat) (zs : List Int) (w : World) (h : Nota w (Z ≤ ·) nb L) (hZ : Z ≤ w.heap.size) (hp : 1 ≤ p ∧ p ≤ 2147483647) (hnc : n ≤ c) (hc : c ≤ maxLen) (hb : Bts w A n zs) (hL : L.length ≤ 1000000)
    (t : Nat) (L' : List Item) (ht : tagL L (p, zs) = t) (hl : mintL L (p, zs) = L') :
    Calls Try.prog 12 #[.pointer (some ⟨nb, 0, none⟩), .int .i64 p, .slice A n c] w fun e w' => e = .returned (.tuple #[.int .u64 (t : Nat), .int .i64 0]) ∧ Nota w' (Z ≤ ·) nb L' ∧ Below Z w w' := by
  subst ht; subst hl
  refine (mint_any nb _ L p A n c zs w h hp hnc hc hb hL).mono fun e w' h' => ⟨h'.1, h'.2.1.mono (fun k hk => ?_), h'.2.2.below (fun _ h => h) hZ⟩
  rcases hk with hk | hk <;> omega
theorem check_b (nb : Nat) (S : Nat → Prop) (L : List Item) (p : Int) (A : Option Addr) (n c T : Nat) (zs : List Int) (w : World) (h : Nota w S nb L) (hL : L.length ≤ 1000000) (hb : Bts w A n zs) (hT : T < 18446744073709551616) (r : Int) (hr : checkL L (p, zs) T = r) :
    Calls Try.prog 10 #[.pointer (some ⟨nb, 0, none⟩), .int .i64 p, .slice A n c, .int .u64 (T : Int)] w fun e w' => e = .returned (.int .i64 r) ∧ ∃ q, w' = w.drewN q := by
  subst hr
  exact check_any nb S L p A n c T zs w h hL hb hT

theorem lit1m (W : World) (z : Int) (h : 0 ≤ z ∧ z ≤ 255) (a b : Nat) : Bts (W.alloc (.cells #[.int .u8 z] 5 (a, b))) (some ⟨W.heap.size, 0, none⟩) 1 [z] := by
  refine ⟨rfl, by simpa using h, fun _ => ⟨W.heap.size, 0, rfl, by simp, fun j hj => ?_⟩⟩
  obtain rfl : j = 0 := by omega
  simp [World.cell?_alloc_mark]

set_option maxRecDepth 100000 in
set_option maxHeartbeats 2000000 in
theorem awake_any (w : World) : Calls Try.prog 7 #[] w fun e w' => e = .returned (.bool true) ∧ Below w.heap.size w w' := by
  have kc := fun (w : World) (C : Array Value) (n c : Nat) => Lib.run_convert_bytes_const (P := Try.prog) w 31 5 C n c Try.underlying31 Try.underlying5
  go_enter Try.func7, Try.ntmps7
  go_wp2_with fail
  refine (new_any _).mono ?_
  rintro e w1 ⟨nb, rfl, hN1, hb1⟩
  have HN1 := Lib.hid hN1; have HB1 := Lib.hid hb1; clear hN1 hb1
  go_wp2_with fail
  refine (mint_b w.heap.size nb [] 7 _ 1 1 [97] _ (HN1.out.alloc _) (by have := HB1.out.size; simp; omega) (by omega) (by omega) (by unfold maxLen; omega) (lit1m w1 97 (by omega) _ _) (by simp) 1 [(7, [97])] (by decide) (by decide)).mono ?_
  rintro e w2 ⟨rfl, hN2, hb2⟩
  have HN2 := Lib.hid hN2; have HB2 : Hid (Below w.heap.size w w2) := Lib.hid ((HB1.out.alloc HB1.out.size _).trans hb2); clear hN2 hb2
  go_wp2_with fail
  refine (mint_b w.heap.size nb [(7, [97])] 7 _ 1 1 [98] _ (HN2.out.alloc _) (by have := HB2.out.size; simp; omega) (by omega) (by omega) (by unfold maxLen; omega) (lit1m w2 98 (by omega) _ _) (by simp) 2 [(7, [97]), (7, [98])] (by decide) (by decide)).mono ?_
  rintro e w3 ⟨rfl, hN3, hb3⟩
  have HN3 := Lib.hid hN3; have HB3 : Hid (Below w.heap.size w w3) := Lib.hid ((HB2.out.alloc HB2.out.size _).trans hb3); clear hN3 hb3
  go_wp2_with fail
  refine (check_b nb _ _ 7 _ 1 1 1 [97] _ (HN3.out.alloc _) (by simp) (lit1m w3 97 (by omega) _ _) (by omega) 0 (by decide)).mono ?_
  rintro e w4 ⟨rfl, q4, rfl⟩
  have HW4 : Hid (Below w.heap.size w ((w3.alloc (.cells #[.int .u8 97] 5 (1, 2))).drewN q4)) := Lib.hid (below_drewN' (HB3.out.alloc HB3.out.size _) _)
  have HN4 : Hid (Nota ((w3.alloc (.cells #[.int .u8 97] 5 (1, 2))).drewN q4) (w.heap.size ≤ ·) nb [(7, [97]), (7, [98])]) := Lib.hid ((HN3.out.alloc _).drewN _)
  generalize (w3.alloc (.cells #[.int .u8 97] 5 (1, 2))).drewN q4 = w4 at *
  go_wp2_with fail
  refine (check_b nb _ _ 8 _ 1 1 1 [97] _ (HN4.out.alloc _) (by simp) (lit1m w4 97 (by omega) _ _) (by omega) 12 (by decide)).mono ?_
  rintro e w5 ⟨rfl, q5, rfl⟩
  have HW5 : Hid (Below w.heap.size w ((w4.alloc (.cells #[.int .u8 97] 5 (1, 2))).drewN q5)) := Lib.hid (below_drewN' (HW4.out.alloc HW4.out.size _) _)
  have HN5 : Hid (Nota ((w4.alloc (.cells #[.int .u8 97] 5 (1, 2))).drewN q5) (w.heap.size ≤ ·) nb [(7, [97]), (7, [98])]) := Lib.hid ((HN4.out.alloc _).drewN _)
  generalize (w4.alloc (.cells #[.int .u8 97] 5 (1, 2))).drewN q5 = w5 at *
  go_wp2_with fail
  refine (count_any nb _ _ w5 HN5.out (by simp)).mono ?_
  rintro e w6 ⟨rfl, rfl⟩
  go_wp2
  go_ret
  exact ⟨rfl, HW5.out⟩

end Go.Proofs.Ytcinjfmmmmaelaa
