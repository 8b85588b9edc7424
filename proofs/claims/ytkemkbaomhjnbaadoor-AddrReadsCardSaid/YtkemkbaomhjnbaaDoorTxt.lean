/-
  Contracts of embrasure/addr's hostText and Text, from what strconv.Itoa answers at the numbers that are told. Conditions: as each states.
-/
import Derived.Test.YtkemkbaomhjnbaaDoorAdr
import Derived.Test.YtkemkbaomhjnbaaDoorShelf
import Derived.Test.YtkemkbaomhjnbaaDoorSeq
import Derived.OwnWalk
namespace Go.Proofs.YtkemkbaomhjnbaaDoor
open Go.RowKit
set_option linter.unusedVariables false

/-- a number's digits -/
def dig (n : Int) : List UInt8 := Lib.decDigits n.toNat
/-- strconv.Itoa answers the digits, in whatever world that is as w below its end -/
def ItoaAt (w : World) (n : Int) : Prop := ∀ W, Below w.heap.size w W → Calls Tryd.prog 30 #[.int .i64 n] W fun e w' => e = .returned (.string (st (dig n))) ∧ Below W.heap.size W w'
theorem itoa_small (w : World) (n : Int) (h0 : 0 ≤ n) (h1 : n < 100) : ItoaAt w n := fun W _ => by
  obtain ⟨m, rfl⟩ := Int.eq_ofNat_of_zero_le h0
  refine (Tryd.strconv_Itoa_small m (by omega) W).mono fun e w' h => ⟨by rw [h.1]; rfl, by rw [h.2]; exact Below.refl _ _⟩
theorem ItoaAt.below {w w' : World} {n : Int} (h : ItoaAt w n) (hb : Below w.heap.size w w') : ItoaAt w' n := fun W hW => h W (hb.trans (hW.mono hb.size))
theorem str_info : (Tryd.prog.info? 9).map (fun i => (i.zero, i.size, i.bytes)) = some (some (.string ByteArray.empty), 1, 16) := by kernel_rfl
def strs (l : List Int) : List Value := l.map fun n => .string (st (dig n))
/-- a host's text -/
def hostL (h p : Int) : List UInt8 := Lib.join (((bytesA h p).take 4).map dig) [46]

theorem hostL_eq (h p : Int) : ((((bytesA h p).take 4).map fun n => st (dig n)).map (·.data.toList)) = ((bytesA h p).take 4).map dig := by
  rw [List.map_map]
  refine List.map_congr_left fun n _ => ?_
  exact st_list _
theorem hostB (h p : Int) : (⟨(Lib.join ((((bytesA h p).take 4).map fun n => st (dig n)).map (·.data.toList)) (st [46]).data.toList).toArray⟩ : ByteArray) = st (hostL h p) := by
  rw [hostL_eq, st_list]
  rfl
theorem dec_len : ∀ (k n : Nat), n < 10 ^ (k + 1) → (Lib.decDigits n).length ≤ k + 1
  | 0, n, h => by rw [Lib.decDigits]; rw [dif_pos (by omega)]; simp
  | k + 1, n, h => by
    rw [Lib.decDigits]
    split
    · simp
    · have := dec_len k (n / 10) (by rw [Nat.pow_succ] at h; omega)
      simp; omega
theorem hostL_len (h p : Int) (h0 : 0 ≤ h) (h1 : h < 4294967296) : (Lib.join (((bytesA h p).take 4).map dig) [46]).length ≤ 140737488355328 := by
  have d : ∀ n : Int, 0 ≤ n → n < 1000 → (dig n).length ≤ 3 := fun n a b => dec_len 2 n.toNat (by omega)
  have d1 := d (h / 16777216) (by omega) (by omega)
  have d2 := d (h / 65536 % 256) (by omega) (by omega)
  have d3 := d (h / 256 % 256) (by omega) (by omega)
  have d4 := d (h % 256) (by omega) (by omega)
  simp [bytesA, Lib.join, List.intercalate, List.intersperse]
  omega
theorem digs_below {w w' : World} {b n : Nat} {v : Value} {xs : List Value} (h : w.ownsRow b 9 1 v n xs) (hb : Below w.heap.size w w') : w'.ownsRow b 9 1 v n xs := by
  refine ⟨h.1, ?_⟩
  rcases h.2 with hn | ⟨g, cap, cur, rfl, h1, hgg, rest⟩
  · exact .inl hn
  · exact .inr ⟨g, cap, cur, rfl, h1, (hb.block g (Array.getElem?_eq_some_iff.1 hgg).1).trans hgg, rest⟩

set_option maxRecDepth 100000 in
set_option maxHeartbeats 2000000 in
theorem host_text (h p : Int) (w : World) (h0 : 0 ≤ h) (h1 : h < 4294967296) (hm : mayA h p = true) (hI : ∀ c ∈ (bytesA h p).take 4, ItoaAt w c) :
    Calls Tryd.prog 29 #[adr h p] w fun e w' => e = .returned (.string (st (hostL h p))) ∧ Below w.heap.size w w' := by
  obtain ⟨i0, hi0, hz0, hz1, hz2⟩ := info_parts str_info
  have HB := Lib.hid (fun W => bytes_ok h p W h0 h1 hm)
  have HI := Lib.hid hI; clear hI
  unfold adr at *
  go_enter Tryd.func29, Tryd.ntmps29
  go_wp2_with fail
  refine (HB.out _).mono ?_
  rintro e w1 ⟨g, rfl, hg, hge, hb1⟩
  have HG := Lib.hid hg
  have HB1 : Hid (Below w.heap.size w w1) := Lib.hid (((Below.refl _ _).alloc (Nat.le_refl _) _).trans (hb1.mono (by simp)))
  have hgl := (Array.getElem?_eq_some_iff.1 hg).1
  clear hb1 hg
  go_wp2
  go_loopw [3, 10] (fun v i wr => ∃ k : Nat, k ≤ 4 ∧ i = .int .i64 k ∧ wr.ownsRow w1.heap.size 9 1 v k (strs ((bytesA h p).take k)) ∧ Below w1.heap.size w1 wr) (fun _ i _ => 4 - (intOf i).toNat)
  case atStart => exact ⟨0, by omega, rfl, World.ownsRow_nil _ _ _ _, Below.refl _ _⟩
  case round =>
    obtain ⟨k, hk, rfl, hO, hB⟩ := hrel
    have HO := Lib.hid hO; have HBr := Lib.hid hB
    by_cases hlt : k < 4
    · obtain ⟨c, hc⟩ : ∃ c, (bytesA h p).getD k 0 = c := ⟨_, rfl⟩
      have hcell : wr.cell? ⟨g, k, none⟩ = some (.int .u8 c) := by
        have e1 := (cells_of ((hB.block g hgl).trans HG.out) k).1
        rw [e1, ← hc]
        rcases (show k = 0 ∨ k = 1 ∨ k = 2 ∨ k = 3 by omega) with rfl | rfl | rfl | rfl <;> simp [bytesA]
      have hmem : c ∈ (bytesA h p).take 4 := by
        rw [← hc]
        rcases (show k = 0 ∨ k = 1 ∨ k = 2 ∨ k = 3 by omega) with rfl | rfl | rfl | rfl <;> simp [bytesA]
      have hcb : 0 ≤ c ∧ c ≤ 255 := by
        rw [← hc]
        rcases (show k = 0 ∨ k = 1 ∨ k = 2 ∨ k = 3 by omega) with rfl | rfl | rfl | rfl <;> simp [bytesA] <;> omega
      have HIT := Lib.hid ((HI.out c hmem) wr (HB1.out.trans (hB.mono HB1.out.size)))
      have HSN : Hid (strs ((bytesA h p).take (k + 1)) = strs ((bytesA h p).take k) ++ [.string (st (dig c))]) := Lib.hid (by
        rw [← hc]
        rcases (show k = 0 ∨ k = 1 ∨ k = 2 ∨ k = 3 by omega) with rfl | rfl | rfl | rfl <;> simp [bytesA, strs])
      clear hO hB hc hmem
      go_wp2_with fail
      refine HIT.out.mono ?_
      rintro e w2 ⟨rfl, hb2⟩
      have HO2 := Lib.hid (digs_below HO.out hb2)
      have HB2 : Hid (Below w1.heap.size w1 w2) := Lib.hid (HBr.out.trans (hb2.mono HBr.out.size))
      clear hb2
      go_wp2_with (at_builtin; refine wpList_append_own_at _ rfl _ _ 66 rfl w1.heap.size 9 i0 (.string ByteArray.empty) 1 16 Tryd.underlying66 hi0 hz0 hz1 hz2 rfl (by decide) _ k (strs ((bytesA h p).take k)) rfl (HO2.out.alloc _) ⟨w2.heap.size, 0, none⟩ 1 1 [.string (st (dig c))] rfl rfl (cell_one_new _ _ _) (by simp [Value.oneCell']) (by unfold maxLen; omega) (by omega) (by have := HB2.out.size; simp; omega) ?_; intro v' w3 hO3 hg3 _ _; have HO3 := Lib.hid hO3; have HB3 : Hid (Below w1.heap.size w1 w3) := Lib.hid ((HB2.out.alloc HB2.out.size _).grown hg3 (by have := HB2.out.size; simp; omega) (fun r e => (HO2.out.lt r e).1)); clear hO3 hg3)
      go_roundw
      case rel => exact ⟨k + 1, by omega, by go_num, by rw [HSN.out]; exact HO3.out, HB3.out⟩
      case measure => simp [intOf]; omega
    · obtain rfl : k = 4 := by omega
      obtain ⟨gd, cap, rfl, hcap, hgd, hcl⟩ : ∃ gd cap : Nat, u3 = Value.slice (some ⟨gd, 0, none⟩) 4 cap ∧ 4 ≤ cap ∧ gd < wr.heap.size ∧ ∀ j x, (((bytesA h p).take 4).map fun n => st (dig n))[j]? = some x → wr.cell? ⟨gd, 0 + j, none⟩ = some (.string x) := by
        rcases hO.2 with ⟨_, e⟩ | ⟨gd, cap, cur, rfl, _, hgg, h2, _, hsz, hcur⟩
        · omega
        · refine ⟨gd, cap, rfl, h2, (Array.getElem?_eq_some_iff.1 hgg).1, fun j x hx => ?_⟩
          rw [Nat.zero_add, (cells_of hgg j).1]
          have hj : j < 4 := by
            have := (List.getElem?_eq_some_iff.1 hx).1
            simp [bytesA] at this
            omega
          have e1 : cur.toList[j]? = (cur.toList.take (4 * 1))[j]? := by rw [List.getElem?_take_of_lt (by omega)]
          rw [← Array.getElem?_toList, e1, hcur]
          simp only [strs, List.getElem?_map] at hx ⊢
          cases h3 : ((bytesA h p).take 4)[j]? with
          | none => rw [h3] at hx; cases hx
          | some y => rw [h3] at hx; simp at hx ⊢; exact hx
      have HCL := Lib.hid hcl
      clear hO hB hcl
      go_wp2_with fail
      refine (Tryd.strings_Join gd 0 cap (((bytesA h p).take 4).map fun n => st (dig n)) (st [46]) wr HCL.out hgd (by simp [bytesA]) (by simp [bytesA]; exact hcap) (by rw [hostL_eq, st_list]; exact hostL_len h p h0 h1)).mono ?_
      rintro e w5 ⟨he, hb5⟩
      obtain rfl : e = .returned (.string (st (hostL h p))) := he.trans (congrArg (fun s => Ending.returned (.string s)) (hostB h p))
      go_wp2
      go_ret
      exact ⟨rfl, (HB1.out.trans (HBr.out.mono HB1.out.size)).trans (hb5.mono (HB1.out.trans (HBr.out.mono HB1.out.size)).size)⟩
end Go.Proofs.YtkemkbaomhjnbaaDoor
