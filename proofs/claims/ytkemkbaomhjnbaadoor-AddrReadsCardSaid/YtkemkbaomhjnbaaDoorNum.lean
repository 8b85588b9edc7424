/-
  The contract of embrasure/addr's number: the number of which a text is the decimal digits, and whether it is one from least to most. Conditions: most is from 9 to 2^31 - 1.
-/
import Derived.Test.YtkemkbaomhjnbaaDoorRows
import Derived.WalkKit
import Derived.WalkSpells
import Derived.WalkLawsBesides
import Derived.Below
import Derived.Lib.Hide
import Derived.Deep.QuietTactic
import Derived.BigQuiet
namespace Go.Proofs.YtkemkbaomhjnbaaDoor
open Go.RowKit
set_option linter.unusedVariables false

/-- the number of digits behind v, k of them being there: none where one is no digit, or where it is too great, or has a 0 ahead -/
def numF (most : Int) : List UInt8 → Nat → Int → Option Int
  | [], _, v => some v
  | c :: r, k, v => if c.toNat < 48 ∨ 57 < c.toNat then none else if (0 < k ∧ v = 0) ∨ (most - ((c.toNat : Int) - 48)) / 10 < v then none else numF most r (k + 1) (10 * v + ((c.toNat : Int) - 48))
def numV (least most : Int) (l : List UInt8) : Int × Bool := match numF most l 0 0 with
  | none => (0, false)
  | some v => (v, !l.isEmpty && decide (least ≤ v))

theorem run_next_any {P : Program} (w : World) (s : ByteArray) (pos : Nat) (ty : TypeId) (h : pos < s.size) :
    (Instr.next (.pointer (some ⟨w.heap.size, 0, none⟩)) true ty).run P (w.iter s pos) = .ok (.tuple #[.bool true, .int .i64 pos, .int .i32 (Utf8.decode s pos).1]) (w.iter s (pos + (Utf8.decode s pos).2)) := by
  simp only [Instr.next, getObj, setObj, Sem.run_bind, Sem.run, World.iter_heap, Result.andThen, h, if_true, World.iter_set]
  simp [goInt]
theorem decode_big (s : ByteArray) (pos : Nat) (h : pos < s.size) (ha : 128 ≤ (s[pos]'h).toNat) : 57 < (Utf8.decode s pos).1 := by
  have e : s.get! (pos + 0) = s[pos]'h := by
    show s.get! pos = _
    simp [ByteArray.get!, getElem!_pos, h]
    rfl
  have hre : 57 < Utf8.runeError := by decide
  simp only [Utf8.decode, e]
  rw [if_neg (by omega)]
  split
  · split
    · rename_i h1; simp at h1 ⊢; omega
    · exact hre
  · split
    · split
      · rename_i h1; simp at h1 ⊢; omega
      · exact hre
    · split
      · split
        · rename_i h1; simp at h1 ⊢; omega
        · exact hre
      · exact hre

def lft (b : Nat) (wr : World) : Nat := match wr.heap[b]? with
  | some (.stringIter s p) => s.size - p
  | _ => 0
theorem lft_iter (w : World) (s : ByteArray) (p : Nat) : lft w.heap.size (w.iter s p) = s.size - p := by unfold lft; rw [World.iter_heap]
theorem drop_cons (s : ByteArray) (k : Nat) (h : k < s.size) : s.data.toList.drop k = s[k] :: s.data.toList.drop (k + 1) := by
  rw [List.drop_eq_getElem_cons (by simpa using h)]
  rfl
def NumAt (most : Int) (l : List UInt8) (k : Nat) (v : Int) : Prop := numF most l 0 0 = numF most (l.drop k) k v
theorem iter_below (w : World) (s : ByteArray) (p : Nat) : Below w.heap.size w (w.iter s p) := (Below.refl _ _).alloc (Nat.le_refl _) _

set_option maxHeartbeats 2000000 in
theorem number_any (s : ByteArray) (least most : Int) (w : World) (hs : s.size ≤ maxLen) (h0 : 9 ≤ most) (h1 : most ≤ 2147483647) (h2 : 0 ≤ least) (h3 : least ≤ 1) :
    Calls Tryd.prog 33 #[.string s, .int .i64 least, .int .i64 most] w fun e w' => e = .returned (.tuple #[.int .i64 (numV least most s.data.toList).1, .bool (numV least most s.data.toList).2]) ∧ Below w.heap.size w w' := by
  unfold maxLen at hs
  go_enter Tryd.func33, Tryd.ntmps33
  go_wp2
  go_loopw [8] (fun v wr => ∃ (k : Nat) (vv : Int), k ≤ s.size ∧ v = .int .i64 vv ∧ wr = w.iter s k ∧ 0 ≤ vv ∧ vv ≤ most ∧ NumAt most s.data.toList k vv) (fun _ wr => lft w.heap.size wr)
  case atStart => exact ⟨0, 0, by omega, rfl, rfl, by omega, by omega, by simp [NumAt]⟩
  case round =>
    obtain ⟨k, vv, hk, rfl, rfl, hv0, hv1, hN⟩ := hrel
    have HN := Lib.hid hN; clear hN
    by_cases hlt : k < s.size
    · obtain ⟨c, hc⟩ : ∃ c, s[k] = c := ⟨_, rfl⟩
      have hd := drop_cons s k hlt
      by_cases ha : (s[k]).toNat < 128
      · have hnx := fun ty => run_next_ascii (P := Tryd.prog) w s k ty hlt ha
        rw [hc] at hnx hd ha
        have HD := Lib.hid hd; clear hd hc
        have hbad : (c.toNat < 48 ∨ 57 < c.toNat) → numV least most s.data.toList = (0, false) := fun h => by
          unfold numV
          rw [HN.out, HD.out]
          unfold numF
          rw [if_pos h]
        have HBAD := Lib.hid hbad; clear hbad
        by_cases c1 : c.toNat < 48
        · have HV := Lib.hid (HBAD.out (.inl c1))
          go_wp2
          go_ret2
          exact ⟨by rw [HV.out]; rfl, iter_below _ _ _⟩
        · by_cases c2 : 57 < c.toNat
          · have HV := Lib.hid (HBAD.out (.inr c2))
            go_wp2
            go_ret2
            exact ⟨by rw [HV.out]; rfl, iter_below _ _ _⟩
          · obtain ⟨d, hdd⟩ : ∃ d : Nat, c.toNat = d + 48 := ⟨c.toNat - 48, by omega⟩
            have HDD := Lib.hid hdd
            rw [hdd] at hnx
            have hd9 : d ≤ 9 := by omega
            have hstep : numF most (s.data.toList.drop k) k vv = if (0 < k ∧ vv = 0) ∨ (most - (d : Int)) / 10 < vv then none else numF most (s.data.toList.drop (k + 1)) (k + 1) (10 * vv + (d : Int)) := by
              rw [HD.out]
              conv => lhs; unfold numF
              rw [if_neg (by omega), hdd, show (((d + 48 : Nat) : Int) - 48) = (d : Int) by omega]
            have HS := Lib.hid hstep; clear hstep hdd c1 c2 ha
            by_cases b1 : 0 < k ∧ vv = 0
            · have HV : Hid (numV least most s.data.toList = (0, false)) := Lib.hid (by unfold numV; rw [HN.out, HS.out, if_pos (.inl b1)])
              obtain ⟨b2, rfl⟩ := b1
              go_wp2
              go_ret2
              exact ⟨by rw [HV.out]; rfl, iter_below _ _ _⟩
            · by_cases b2 : (most - (d : Int)) / 10 < vv
              · have HV : Hid (numV least most s.data.toList = (0, false)) := Lib.hid (by unfold numV; rw [HN.out, HS.out, if_pos (.inr b2)])
                by_cases b3 : 0 < k
                · have b4 : ¬ vv = 0 := fun h => b1 ⟨b3, h⟩
                  have t4 : (vv == 0) = false := by simpa using b4
                  clear b1
                  go_wp2
                  go_ret2
                  exact ⟨by rw [HV.out]; rfl, iter_below _ _ _⟩
                · clear b1
                  go_wp2
                  go_ret2
                  exact ⟨by rw [HV.out]; rfl, iter_below _ _ _⟩
              · have HV : Hid (NumAt most s.data.toList (k + 1) (10 * vv + (d : Int))) := Lib.hid (by unfold NumAt; rw [HN.out, HS.out, if_neg (by rintro (h | h); exact b1 h; exact b2 h)])
                have hle : 10 * vv + (d : Int) ≤ most := by omega
                by_cases b3 : 0 < k
                · have b4 : ¬ vv = 0 := fun h => b1 ⟨b3, h⟩
                  have t4 : (vv == 0) = false := by simpa using b4
                  clear b1
                  go_wp2
                  go_roundw
                  case rel => exact ⟨k + 1, 10 * vv + (d : Int), by omega, rfl, rfl, by omega, by omega, HV.out⟩
                  case measure => rw [lft_iter, lft_iter]; omega
                · clear b1
                  go_wp2
                  go_roundw
                  case rel => exact ⟨k + 1, 10 * vv + (d : Int), by omega, rfl, rfl, by omega, by omega, HV.out⟩
                  case measure => rw [lft_iter, lft_iter]; omega
      · have hnx := fun ty => run_next_any (P := Tryd.prog) w s k ty hlt
        have hbig := decode_big s k hlt (by omega)
        obtain ⟨r, hr⟩ : ∃ r, (Utf8.decode s k).1 = r := ⟨_, rfl⟩
        obtain ⟨r2, hr2⟩ : ∃ r, (Utf8.decode s k).2 = r := ⟨_, rfl⟩
        rw [hr, hr2] at hnx
        rw [hr] at hbig
        have HV : Hid (numV least most s.data.toList = (0, false)) := Lib.hid (by
          unfold numV
          rw [HN.out, hd]
          unfold numF
          rw [if_pos (.inr (by omega))])
        clear hd hr hr2 hc
        go_wp2
        go_ret2
        exact ⟨by rw [HV.out]; rfl, iter_below _ _ _⟩
    · obtain rfl : k = s.size := by omega
      have hnx := fun ty => run_next_end (P := Tryd.prog) w s s.size ty (by omega)
      have hdrop : s.data.toList.drop s.size = [] := List.drop_eq_nil_of_le (by rw [Array.length_toList]; exact Nat.le_refl _)
      have HV : Hid (numV least most s.data.toList = (vv, !s.data.toList.isEmpty && decide (least ≤ vv))) := Lib.hid (by
        unfold numV
        rw [HN.out, hdrop]
        rfl)
      clear hdrop
      have HL : Hid (s.toList = s.data.toList) := Lib.hid (ByteArray.toList_eq s)
      by_cases he : s.toList = []
      · have hx : (!s.toList.isEmpty) = false := by rw [he]; rfl
        have HE := Lib.hid he
        go_wp2
        go_ret2
        exact ⟨by rw [HV.out, ← HL.out, HE.out]; rfl, iter_below _ _ _⟩
      · have hx : s.toList.isEmpty = false := by rw [List.isEmpty_eq_false_iff]; exact he
        have HE := Lib.hid he
        have HX := Lib.hid hx
        clear he
        go_wp2
        go_ret2
        exact ⟨by rw [HV.out, ← HL.out, HX.out]; rfl, iter_below _ _ _⟩

end Go.Proofs.YtkemkbaomhjnbaaDoor
