/-
  'append(row, make([]byte, m)...)' onto a row of the call's own; the document's own host and nonce, as bytes. Conditions: as each lemma states.
-/
import Derived.Test.YtfaekiopmfnpkaaQPwds
import Derived.Lib.AppendZerosOnto
namespace Go.Proofs.Ytfaekiopmfnpkaa.Pp
open Go.RowKit
attribute [local go_sem] Oper.semAt_some
set_option linter.unusedVariables false
set_option linter.unusedSimpArgs false

theorem zeros_list (m : Nat) : Builtin.zeroCells (Value.int .u8 0).cells m = (B (List.replicate m 0)).toArray := by
  apply Array.ext'
  simp only [Builtin.zeroCells, Value.cells, B, List.map_replicate]
  apply List.ext_getElem
  · simp
  · intro i h1 h2
    simp [Nat.mod_one]
theorem run_zeros (w : World) (base : Nat) (v : Value) (n : Nat) (xs : List Int) (ty : TypeId) (hown : w.ownsRow base 5 1 v n (B xs)) (m : Nat) (h0 : 0 < n) (hm : 0 < m) (hn : n + m ≤ 1000) (hbase : base ≤ w.heap.size) :
    ∃ v' w', (Builtin.append_ #[38, 3] ty #[v, .int .i64 (m : Int)]).run Try.prog w = .ok v' w' ∧ w'.ownsRow base 5 1 v' (n + m) (B (xs ++ List.replicate m 0)) ∧ w.grownBy w' v.ownBlock := by
  obtain ⟨i0, hi0, hz0, hz1, hz2⟩ := info_parts u8_info
  have hxl : xs.length = n := by have := hown.1; rw [B_length] at this; omega
  have hbl : (B (xs ++ List.replicate m 0)).length = n + m := by simp [B, hxl]
  rcases hown.2 with ⟨rfl, rfl⟩ | ⟨g, cap, cur, rfl, hbg, hg, hnc, hcm, hcs, htake⟩
  · omega
  · by_cases hroom : n + m ≤ cap
    · have hfit : n * 1 + (B (List.replicate m 0)).length ≤ cur.size := by rw [hcs, B_length, List.length_replicate]; omega
      have hst := run_storeCells_at Try.prog g (n * 1) 5 (B (List.replicate m 0)) 0 cur w hg (by simpa using hfit) (B_one _)
      simp only [Nat.add_zero, Nat.mul_one] at hst
      have hw : IntKind.i64.wrap (m : Int) = m := by rw [IntKind.wrap_i64]; omega
      have hneg : ¬ ((m : Int) < 0) := by omega
      have h48i : ¬ (281474976710656 < (m : Int) * ((1 : Nat) : Int)) := by omega
      have hne : m ≠ 0 := by omega
      have hr : (Builtin.append_ #[38, 3] ty #[.slice (some ⟨g, 0, none⟩) n cap, .int .i64 (m : Int)]).run Try.prog w = .ok (.slice (some ⟨g, 0, none⟩) (n + m) cap) (w.setRow g (cur.toList.take n ++ B (List.replicate m 0) ++ cur.toList.drop (n + (B (List.replicate m 0)).length)).toArray) := by
        simp [Builtin.append_, run_underlying Try.underlying38, run_underlying Try.underlying3, sizeOf, typeInfo, zeroValue, hi0, hz0, hz1, hz2, asInt, asIntOf, hw, hneg, hne, hroom, Addr.add_lit, zeros_list, hst]
        omega
      refine ⟨_, _, hr, ⟨by omega, .inr ⟨g, cap, _, rfl, hbg, setRow_heap w g cur _ 5 _ hg, hroom, hcm, ?_, ?_⟩⟩, ⟨rfl, rfl, rfl, by simp, fun k _ hk => setRow_other w g k _ (fun e => hk (by simp [Value.ownBlock, e]))⟩⟩
      · simp only [List.size_toArray, List.length_append, List.length_take, List.length_drop, Array.length_toList, B_length, List.length_replicate]
        omega
      · rw [Nat.mul_one] at htake
        rw [htake, ← B_append, Nat.mul_one, ← hbl]
        exact List.take_left
    · have holds : ∀ j u, (B xs)[j]? = some u → w.drew.cell? ((⟨g, 0, none⟩ : Addr).add j) = some u := fun j u hu => hown.cells (g := g) rfl j u hu
      have hold := run_firstCells_some (P := Try.prog) w.drew i0.size n ⟨g, 0, none⟩ n cap (B xs) (by rw [B_length, hz1]; omega) holds
      have hr := Go.Lib.run_append_grow_zeros (P := Try.prog) w 38 3 ty 5 i0 (.int .u8 0) .i64 .i64 Try.underlying38 Try.underlying3 hi0 hz0 (some ⟨g, 0, none⟩) n cap (B xs) hold m hm (by omega) (by omega) (by omega) (by rw [hz2]; omega) (by rw [hz2]; exact growslice_fits (by omega) (by omega))
      have hge := grownCap_ge w (n + m) cap 5
      have hcm2 := grownCap_le_maxLen w (n + m) cap 5 (by unfold maxLen; omega)
      refine ⟨_, _, hr, ⟨by omega, .inr ⟨w.heap.size, _, _, rfl, hbase, heap_alloc_new w.drew _, hge, hcm2, ?_, ?_⟩⟩, ⟨rfl, rfl, rfl, by simp, fun k hk _ => heap_alloc_old w.drew _ hk⟩⟩
      · rw [zeros_list, zeros_list]
        simp only [Array.size_append, List.size_toArray, B_length, List.length_replicate, hxl]
        omega
      · rw [zeros_list, zeros_list]
        simp only [Array.toList_append, List.append_assoc]
        rw [← List.append_assoc, ← B_append, Nat.mul_one, ← hbl]
        exact List.take_left

/-- a row of the call's own that is put together, and what was there below -/
structure Ow (w W : World) (b : Nat) (V : Value) (xs : List Int) : Prop where
  low : Below w.heap.size w W
  ble : b ≤ W.heap.size
  own : W.ownsRow b 5 1 V xs.length (B xs)
theorem Ow.lit {w W : World} {b : Nat} (hl : Below w.heap.size w W) (hb : b ≤ W.heap.size) (zs : List Int) (hm : zs.length ≤ maxLen) : Ow w (W.alloc (.cells (B zs).toArray 5)) b (.slice (some ⟨W.heap.size, 0, none⟩) zs.length zs.length) zs := by
  refine ⟨hl.alloc hl.size _, by simp; omega, ?_⟩
  have := World.ownsRow_lit W (e := 5) (base := b) (size := 1) (B zs).toArray zs.length hb hm (by simp [B])
  simpa using this
theorem Ow.below {w W W' : World} {b : Nat} {V : Value} {xs : List Int} (h : Ow w W b V xs) (hb : Below W.heap.size W W') : Ow w W' b V xs :=
  ⟨h.low.trans (hb.mono h.low.size), Nat.le_trans h.ble hb.size, own_below h.own hb⟩
theorem Ow.app {w W W' : World} {b : Nat} {V V' : Value} {xs zs : List Int} {m : Nat} (h : Ow w W b V xs) (hw : w.heap.size ≤ b) (hz : zs.length = m) (ho : W'.ownsRow b 5 1 V' (xs.length + m) (B (xs ++ zs))) (hg : W.grownBy W' V.ownBlock) : Ow w W' b V' (xs ++ zs) :=
  ⟨h.low.trans (own_grown h.own hg hw h.low.size), Nat.le_trans h.ble hg.size, by rw [List.length_append, hz]; exact ho⟩

theorem be8_split (n : Int) (h : 0 ≤ n ∧ n < 18446744073709551616) : be 4 (n / 4294967296) ++ be 4 (n % 4294967296) = be 8 n := by
  obtain ⟨h1, h2⟩ := h
  simp only [be, List.cons_append, List.nil_append]
  simp
  omega
end Go.Proofs.Ytfaekiopmfnpkaa.Pp
