/-
  The contract of the document's own embrasureref01.Each: two rows of its own, the numbers of which the bytes are made, and the places where they begin. Conditions: the slice reads as bytes, 4096 at most.
-/
import Derived.Test.YthdbakeafmfmpaaIter
namespace Go.Proofs.Ythdbakeafmfmpaa
open Go.RowKit
set_option linter.unusedVariables false

theorem u64_info : (Try.prog.info? 22).map (fun i => (i.zero, i.size, i.bytes)) = some (some (.int .u64 0), 1, 8) := by kernel_rfl
theorem int_info : (Try.prog.info? 3).map (fun i => (i.zero, i.size, i.bytes)) = some (some (.int .i64 0), 1, 8) := by kernel_rfl

def Vs (l : List (Nat × Int)) : List Value := l.map fun x => .int .u64 x.2
def Ps (l : List (Nat × Int)) : List Value := l.map fun x => .int .i64 (x.1 : Int)
theorem Vs_snoc (l : List (Nat × Int)) (x : Nat × Int) : Vs (l ++ [x]) = Vs l ++ [.int .u64 x.2] := by simp [Vs]
theorem Ps_snoc (l : List (Nat × Int)) (x : Nat × Int) : Ps (l ++ [x]) = Ps l ++ [.int .i64 (x.1 : Int)] := by simp [Ps]

/-- rows of unlike element types: what is appended to one leaves the other -/
theorem other_kept {w w' : World} {base base' : Nat} {e1 e2 : TypeId} {v1 v2 : Value} {n1 n2 : Nat} {xs1 xs2 : List Value} (h1 : w.ownsRow base e1 1 v1 n1 xs1) (h2 : w.ownsRow base' e2 1 v2 n2 xs2) (hne : e1 ≠ e2) (hg : w.grownBy w' v1.ownBlock) :
    w'.ownsRow base' e2 1 v2 n2 xs2 := by
  refine h2.kept hg ?_
  rcases h2.2 with ⟨rfl, _⟩ | ⟨g, cap, cur, rfl, _, hh, _⟩
  · left; rfl
  · right
    rcases h1.2 with ⟨rfl, _⟩ | ⟨g', cap', cur', rfl, _, hh', _⟩
    · simp [Value.ownBlock]
    · simp only [Value.ownBlock, ne_eq, Option.some.injEq]
      rintro rfl
      rw [hh] at hh'
      injection hh' with hh'
      injection hh' with _ ht
      exact hne ht.symm
theorem grow_below' {w wr w1 : World} {u : Value} {k : Nat} {e : TypeId} {xs : List Value} {o : Obj} (hown : wr.ownsRow w.heap.size e 1 u k xs) (hb : Below w.heap.size w wr) (hg : (wr.alloc o).grownBy w1 u.ownBlock) :
    Below w.heap.size w w1 := (hb.alloc hb.size o).grown hg (by have := hb.size; simp; omega) (fun g h => (hown.lt g h).1)

def Rel (w : World) (zs : List Int) (i : Nat) (v1 v2 : Value) (wr : World) : Prop :=
  ∃ pre, pre.length ≤ i ∧ Uv.each 0 zs = pre ++ Uv.each i (zs.drop i) ∧ wr.ownsRow w.heap.size 22 1 v1 pre.length (Vs pre) ∧ wr.ownsRow w.heap.size 3 1 v2 pre.length (Ps pre) ∧ Below w.heap.size w wr

set_option maxHeartbeats 1000000 in
theorem ref_each_any (A : Option Addr) (m c : Nat) (zs : List Int) (w : World) (h : Bts w A m zs) (hmc : m ≤ c) (hc : c ≤ maxLen) (hm : m ≤ 4096) :
    Calls Try.prog 16 #[.slice A m c] w fun e w' => ∃ v1 v2, e = .returned (.tuple #[v1, v2]) ∧ w'.ownsRow w.heap.size 22 1 v1 (Uv.each 0 zs).length (Vs (Uv.each 0 zs)) ∧ w'.ownsRow w.heap.size 3 1 v2 (Uv.each 0 zs).length (Ps (Uv.each 0 zs)) ∧ Below w.heap.size w w' := by
  unfold maxLen at hc
  obtain ⟨i22, hi22, ha0, ha1, ha2⟩ := info_parts u64_info
  obtain ⟨i3, hi3, hb0, hb1, hb2⟩ := info_parts int_info
  have HB := Lib.hid h; clear h
  go_enter Try.func16, Try.ntmps16
  go_wp2
  go_loopw [6, 4, 5] (fun p v1 v2 wr => ∃ i : Nat, p = .int .i64 (i : Int) ∧ i ≤ m ∧ Rel w zs i v1 v2 wr) (fun p _ _ _ => m - (intOf p).toNat)
  case atStart => exact ⟨0, rfl, by omega, [], by simp, by simp, World.ownsRow_nil _ _ _ _, World.ownsRow_nil _ _ _ _, Below.refl _ _⟩
  case round =>
    obtain ⟨i, rfl, hi, pre, hpre, he, ho1, ho2, hbel⟩ := hrel
    have HE := Lib.hid he; clear he
    have HBL := Lib.hid hbel; clear hbel
    have hsz := HBL.out.size
    have HT := Lib.hid (HB.out.below HBL.out)
    by_cases him : i < m
    · have hc2 : c - i ≤ maxLen := by unfold maxLen; omega
      have HC2 := Lib.hid hc2; clear hc2
      rcases Uv.got_cases (zs.drop i) with ⟨h1, h2, h3, h4⟩ | ⟨h1, h2⟩
      · have hl : (zs.drop i).length = m - i := by rw [List.length_drop, HB.out.len]
        have hstep := Uv.drop_step h1
        have he := HE.out
        rw [hstep] at he
        rw [hl] at h3
        have HG := Lib.hid h4
        clear h4 h1 hstep hl
        generalize Uv.val (zs.drop i) = x at *
        generalize Uv.size (zs.drop i) = k at *
        have HE2 := Lib.hid he; clear he
        go_wp2_with (first
          | (go_at_call 15; refine (ref_get_at _ _ _ (zs.drop i) _ _ _ _ HG.out (by omega) HC2.out (HT.out.tail him)).mono ?_; rintro e w' ⟨rfl, rfl⟩)
          | (at_builtin; refine wpList_append_own _ rfl (.tmp 24) (.tmp 26) 33 rfl w.heap.size 22 i22 (.int .u64 0) 1 8 Try.underlying33 hi22 ha0 ha1 ha2 rfl (by decide) _ pre.length (Vs pre) rfl (ho1.alloc _) ⟨wr.heap.size, 0, none⟩ 1 1 [.int .u64 x] rfl rfl (cell_one_new _ _ _) (by simp [Value.oneCell']) (by unfold maxLen; omega) (by omega) (by simp; omega) ?_; intro v1' w1 ho1' hg1 _; have ho2' := other_kept (ho1.alloc _) (ho2.alloc _) (by decide) hg1; have HB1 := Lib.hid (grow_below' ho1 HBL.out hg1); clear hg1; have HO1 := Lib.hid ho1'; clear ho1'; have hsz1 := HB1.out.size)
          | (at_builtin; refine wpList_append_own _ rfl (.tmp 28) (.tmp 30) 34 rfl w.heap.size 3 i3 (.int .i64 0) 1 8 Try.underlying34 hi3 hb0 hb1 hb2 rfl (by decide) _ pre.length (Ps pre) rfl (ho2'.alloc _) ⟨w1.heap.size, 0, none⟩ 1 1 [.int .i64 (i : Int)] rfl rfl (cell_one_new _ _ _) (by simp [Value.oneCell']) (by unfold maxLen; omega) (by omega) (by simp; omega) ?_; intro v2' w2 ho2'' hg2 _; have HO1' := Lib.hid (other_kept (ho2'.alloc _) (HO1.out.alloc _) (by decide) hg2); have HB2 := Lib.hid (grow_below' ho2' HB1.out hg2); clear hg2; have HO2 := Lib.hid ho2''; clear ho2''))
        go_roundw
        case rel => exact ⟨i + k, by go_num, by omega, pre ++ [(i, x)], by simp; omega, by rw [HE2.out]; simp, by rw [Vs_snoc]; simpa using HO1'.out, by rw [Ps_snoc]; simpa using HO2.out, HB2.out⟩
        case measure => simp [intOf]; omega
      · obtain ⟨⟨x, k, cd⟩, hg⟩ : ∃ t, Uv.got (zs.drop i) = t := ⟨_, rfl⟩
        have hcd : Uv.code (zs.drop i) = cd := by simp [Uv.code, hg]
        have hno : Uv.each i (zs.drop i) = [] := Uv.each_no (by omega)
        have E : Hid (pre = Uv.each 0 zs) := Lib.hid (by rw [HE.out, hno, List.append_nil])
        have t1 : (cd != 0) = true := by rw [bne_iff_ne]; omega
        have HG := Lib.hid hg
        clear hcd h1 h2 hno hg
        go_wp2_with (go_at_call 15; refine (ref_get_at _ _ _ (zs.drop i) _ _ _ _ HG.out (by omega) HC2.out (HT.out.tail him)).mono ?_; rintro e w' ⟨rfl, rfl⟩)
        go_ret2
        exact ⟨_, _, rfl, by rw [← E.out]; exact ho1, by rw [← E.out]; exact ho2, HBL.out⟩
    · have E : Hid (pre = Uv.each 0 zs) := Lib.hid (by rw [HE.out, List.drop_of_length_le (by have := HB.out.len; omega), Uv.each_nil, List.append_nil])
      go_wp2
      go_ret2
      exact ⟨_, _, rfl, by rw [← E.out]; exact ho1, by rw [← E.out]; exact ho2, HBL.out⟩

end Go.Proofs.Ythdbakeafmfmpaa
