/-
  Contracts of embrasure/pmp's number (a closure over two boxes), of what it hands back, and of join. Conditions: as each lemma states.
-/
import Derived.Test.YtaeaifhodeiajaaNum
namespace Go.Proofs.Ytaeaifhodeiajaa
open Go.RowKit
set_option linter.unusedVariables false

/-- a part: the closure over the boxes p and p + 1 -/
def part (p : Nat) : Value := .func (.func 27) #[] #[.pointer (some ⟨p, 0, none⟩), .pointer (some ⟨p + 1, 0, none⟩)]
/-- the boxes p and p + 1 hold a size and a number -/
def Held2 (w : World) (p : Nat) (n : Nat) (v : Int) : Prop := w.cell? ⟨p, 0, none⟩ = some (.int .i64 (n : Int)) ∧ w.cell? ⟨p + 1, 0, none⟩ = some (.int .i64 v)
theorem Held2.below {w w' : World} {b p n : Nat} {v : Int} (h : Held2 w p n v) (hb : Below b w w') (hp : p + 1 < b) : Held2 w' p n v :=
  ⟨(hb.cell (p := ⟨p, 0, none⟩) (by show p < b; omega)).trans h.1, (hb.cell (p := ⟨p + 1, 0, none⟩) hp).trans h.2⟩
theorem Held2.lt {w : World} {p n : Nat} {v : Int} (h : Held2 w p n v) : p + 1 < w.heap.size := lt_of_cell h.2

theorem number_any (n : Nat) (v : Int) (w : World) :
    Calls Try.prog 19 #[.int .i64 (n : Int), .int .i64 v] w fun e w' => e = .returned (part w.heap.size) ∧ Held2 w' w.heap.size n v ∧ Below w.heap.size w w' ∧ w.heap.size + 1 < w'.heap.size := by
  go_enter Try.func19, Try.ntmps19
  go_wp2
  go_ret
  refine ⟨rfl, ⟨by go_simp, by go_simp⟩, ((Below.refl _ w).alloc (Nat.le_refl _) _).alloc (by simp) _, by simp⟩

theorem pow8 {j : Nat} (hj : j < 4) (v : Int) : v / 2 ^ (8 * j) = v / 256 ^ j := by
  match j, hj with
  | 0, _ => rfl
  | 1, _ => rfl
  | 2, _ => rfl
  | 3, _ => rfl
theorem own_grown {w w' : World} {base k : Nat} {V : Value} {xs : List Value} {b : Nat} (hown : w.ownsRow base 5 1 V k xs) (hg : w.grownBy w' V.ownBlock) (hb : b ≤ base) (hs : b ≤ w.heap.size) : Below b w w' :=
  (Below.refl b w).grown hg hs (fun g h => Nat.le_trans hb (hown.lt g h).1)

set_option maxHeartbeats 1000000 in
/-- what number hands back puts a number's bytes behind others -/
theorem part_any (p base n : Nat) (v : Int) (V : Value) (xs : List Int) (w : World) (h : Held2 w p n v) (hp : p + 1 < base) (hbase : base ≤ w.heap.size) (hown : w.ownsRow base 5 1 V xs.length (B xs)) (hx : xs.length ≤ 100) (hn : n ≤ 4) (hv : W64 v) :
    Calls Try.prog 27 #[V, .pointer (some ⟨p, 0, none⟩), .pointer (some ⟨p + 1, 0, none⟩)] w fun e w' => ∃ V', e = .returned V' ∧ w'.ownsRow base 5 1 V' (xs ++ be n v).length (B (xs ++ be n v)) ∧ Below base w w' := by
  have HH := Lib.hid h
  obtain ⟨c0, c1⟩ := h
  obtain ⟨v1, v2⟩ := hv
  have HO0 := Lib.hid hown; clear hown
  obtain ⟨m, hm⟩ : ∃ m, xs.length = m := ⟨_, rfl⟩
  have HM := Lib.hid hm
  rw [List.length_append, be_length, hm]
  rw [hm] at hx HO0
  clear hm
  go_enter Try.func27, Try.ntmps27
  go_wp2
  clear c0 c1
  go_loopw [5, 0] (fun i b wr => ∃ k : Nat, k ≤ n ∧ i = .int .i64 ((n : Int) - 1 - k) ∧ wr.ownsRow base 5 1 b (m + k) (B (xs ++ (be n v).take k)) ∧ Below base w wr)
    (fun i _ _ => (intOf i + 1).toNat)
  case atStart => exact ⟨0, by omega, by go_num, by simpa using HO0.out, Below.refl _ _⟩
  case round =>
    obtain ⟨k, hk, rfl, hown, hbel⟩ := hrel
    have HB := Lib.hid hbel; clear hbel
    have HO := Lib.hid hown; clear hown
    obtain ⟨c0, c1⟩ := HH.out.below HB.out hp
    clear c0
    by_cases hkn : k < n
    · obtain ⟨j, hj⟩ : ∃ j, n - 1 - k = j := ⟨_, rfl⟩
      have hj2 : (n : Int) - 1 - (k : Int) = (j : Int) := by omega
      have hj4 : j < 4 := by omega
      have HT := Lib.hid (be_take v hkn)
      rw [hj] at HT
      have HP := Lib.hid (pow8 hj4 v)
      have hz : 0 ≤ v / 256 ^ j % 256 ∧ v / 256 ^ j % 256 ≤ 255 := by omega
      have HJ := Lib.hid hj; clear hj
      have hs := HB.out.size
      rw [hj2]
      have hz2 : 0 ≤ v / 2 ^ (8 * j) % 256 ∧ v / 2 ^ (8 * j) % 256 ≤ 255 := by omega
      go_wp2_with (at_builtin; refine wpList_append_bts rfl (.tmp 12) (.tmp 18) rfl base _ (m + k) _ rfl (HO.out.alloc _) (some ⟨_, 0, none⟩) 1 1 [v / 2 ^ (8 * j) % 256] rfl (lit1 _ _ hz2) (by intro hh; cases hh) (by omega) (by simp; omega) ?_; intro v5 w5 ho5 hg5; have HO5 := Lib.hid ho5; have HG5 := Lib.hid (HB.out.trans (((Below.refl base _).alloc (Nat.le_trans hbase hs) _).trans (own_grown (HO.out.alloc _) hg5 (Nat.le_refl _) (by simp; omega)))); clear ho5 hg5)
      go_roundw
      case rel =>
        refine ⟨k + 1, by omega, by have := HJ.out; go_num, ?_, HG5.out⟩
        have := HO5.out
        rw [HT.out, ← HP.out, ← List.append_assoc]
        exact this
      case measure => simp [intOf]
    · obtain rfl : k = n := by omega
      have e : (be k v).take k = be k v := List.take_of_length_le (by simp)
      rw [e] at HO
      go_wp2
      go_ret
      exact ⟨_, rfl, HO.out, HB.out⟩

/-- parts: each its first box, its size, its number -/
abbrev Ps := List (Nat × Nat × Int)
def flat (ps : Ps) : List Int := ps.flatMap fun q => be q.2.1 q.2.2
structure Parts (w : World) (g : Nat) (ps : Ps) : Prop where
  lt : g < w.heap.size
  cell : ∀ k q, ps[k]? = some q → w.cell? ⟨g, k, none⟩ = some (part q.1)
  held : ∀ q ∈ ps, Held2 w q.1 q.2.1 q.2.2 ∧ q.2.1 ≤ 4 ∧ W64 q.2.2
theorem Parts.below {w w' : World} {g : Nat} {ps : Ps} (h : Parts w g ps) (hb : Below w.heap.size w w') : Parts w' g ps :=
  ⟨Nat.lt_of_lt_of_le h.lt hb.size, fun k q hq => (hb.cell (p := ⟨g, k, none⟩) h.lt).trans (h.cell k q hq), fun q hq => ⟨(h.held q hq).1.below hb (h.held q hq).1.lt, (h.held q hq).2⟩⟩
theorem flat_take (ps : Ps) (k : Nat) (q : Nat × Nat × Int) (h : ps[k]? = some q) : flat (ps.take (k + 1)) = flat (ps.take k) ++ be q.2.1 q.2.2 := by
  rw [List.take_add_one, h]; simp [flat]
theorem flat_le (ps : Ps) (h : ∀ q ∈ ps, q.2.1 ≤ 4) : (flat ps).length ≤ 4 * ps.length := by
  induction ps with
  | nil => simp [flat]
  | cons q ps ih =>
    have h1 := ih (fun q hq => h q (by simp [hq]))
    have h2 := h q (by simp)
    simp only [flat, List.flatMap_cons, List.length_append, be_length, List.length_cons] at h1 ⊢
    omega

set_option maxHeartbeats 1000000 in
/-- join puts parts together, one behind the other -/
theorem join_any (g : Nat) (ps : Ps) (w : World) (h : Parts w g ps) (hn : ps.length ≤ 20) :
    Calls Try.prog 18 #[.slice (some ⟨g, 0, none⟩) ps.length ps.length] w fun e w' => ∃ V, e = .returned V ∧ w'.ownsRow w.heap.size 5 1 V (flat ps).length (B (flat ps)) ∧ Below w.heap.size w w' := by
  have HH := Lib.hid h; clear h
  obtain ⟨n, hl⟩ : ∃ n, ps.length = n := ⟨_, rfl⟩
  have HL := Lib.hid hl
  rw [hl] at hn ⊢
  clear hl
  go_enter Try.func18, Try.ntmps18
  go_wp2
  go_loopw [8, 3] (fun i v wr => ∃ k : Nat, k ≤ n ∧ i = .int .i64 (k : Int) ∧ wr.ownsRow w.heap.size 5 1 v (flat (ps.take k)).length (B (flat (ps.take k))) ∧ Below w.heap.size w wr)
    (fun i _ _ => n - (intOf i).toNat)
  case atStart => exact ⟨0, by omega, rfl, World.ownsRow_nil _ _ _ _, Below.refl _ _⟩
  case round =>
    obtain ⟨k, hk, rfl, hown, hbel⟩ := hrel
    have HB := Lib.hid hbel; clear hbel
    have HO := Lib.hid hown; clear hown
    by_cases hkn : k < n
    · obtain ⟨q, hq⟩ : ∃ q, ps[k]? = some q := ⟨_, List.getElem?_eq_getElem (by have := HL.out; omega)⟩
      obtain ⟨p, s, v⟩ := q
      have hc := (HH.out.below HB.out).cell k _ hq
      obtain ⟨hd, hs4, hv⟩ := (HH.out.below HB.out).held _ (List.mem_of_getElem? hq)
      have hd0 := (HH.out.held _ (List.mem_of_getElem? hq)).1.lt
      have hfl : (flat (ps.take k)).length ≤ 80 := by
        have h1 := flat_le (ps.take k) (fun q hq => (HH.out.held q (List.mem_of_mem_take hq)).2.1)
        simp at h1; omega
      have HC := Lib.hid (part_any p w.heap.size s v _ (flat (ps.take k)) wr hd hd0 HB.out.size HO.out (by omega) hs4 hv)
      have HT := Lib.hid (flat_take ps k _ hq)
      unfold part at hc
      dsimp only at hc
      clear hd hd0 hs4 hv hfl hq
      go_wp2_with (go_at_call 27; refine HC.out.mono ?_; rintro e w5 ⟨V5, rfl, ho5, hb5⟩; have HO5 := Lib.hid ho5; have HB5 := Lib.hid hb5; clear ho5 hb5)
      go_roundw
      case rel => exact ⟨k + 1, by omega, by go_num, by rw [HT.out]; exact HO5.out, HB.out.trans HB5.out⟩
      case measure => simp [intOf]; omega
    · have e : ps.take k = ps := List.take_of_length_le (by have := HL.out; omega)
      rw [e] at HO
      go_wp2
      go_ret
      exact ⟨_, rfl, HO.out, HB.out⟩
end Go.Proofs.Ytaeaifhodeiajaa
