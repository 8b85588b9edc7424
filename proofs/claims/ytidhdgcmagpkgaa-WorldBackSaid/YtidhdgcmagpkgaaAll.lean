/-
  The contract of nat's All: all bindings, by rising ports. Conditions: the box lies in memory; at most 100 bindings.
-/
import Derived.Test.YtidhdgcmagpkgaaSrp
import Derived.Shelf.SlSortCmp.NoneTotal
import Derived.Test.YtidhdgcmagpkgaaOut
namespace Go.Proofs.Ytidhdgcmagpkgaa
open Go.Shelf Go.RowKit Go.Lib Go.Sort
set_option linter.unusedVariables false

/-- a binding that is told, as values -/
def encB (b : Bn) : List Value := b.cells
instance : Inhabited Bn := ⟨⟨(0, 0), (0, 0), 0, 0, false, []⟩⟩
def cmpB (b c : Bn) : Int := Lib.compareInt b.port c.port
theorem ltB (b c : Bn) : ltOf cmpB b c = decide (b.port < c.port) := by
  unfold ltOf cmpB Lib.compareInt
  by_cases h1 : b.port < c.port
  · simp [h1]
  · by_cases h2 : c.port < b.port <;> simp [h1, h2]
theorem swoB : SWO (ltOf cmpB) where
  irrefl x := by rw [ltB]; simp
  trans x y z h1 h2 := by rw [ltB] at *; simp at *; omega
  ntrans x y z h1 h2 := by rw [ltB] at *; simp at *; omega

set_option maxHeartbeats 1000000 in
theorem closure43 (b c : Bn) (W : World) : Calls Try.prog 24 #[.agg (encB b).toArray, .agg (encB c).toArray] W fun e w' => e = .returned (.int .i64 (cmpB b c)) ∧ ∃ q os', w' = grow (W.drewN q) os' := by
  have hcon := fun W' => AnyG.cmp_Compare_int Try.cmpInt b.port c.port W'
  change ∀ W', Calls Try.prog 25 _ _ _ at hcon
  unfold encB Bn.cells cmpB
  generalize Lib.compareInt b.port c.port = r at hcon ⊢
  go_enter Try.func24, Try.ntmps24
  go_wp2_with (go_at_call 25; refine (hcon _).mono ?_; rintro e w' ⟨rfl, rfl⟩)
  go_ret
  exact ⟨rfl, 0, _, by rw [alloc_eq_grow, alloc_eq_grow, grow_grow]; rfl⟩
theorem encB_len (b : Bn) : (encB b).length = 7 := rfl
theorem encB_one (b : Bn) : ∀ v ∈ encB b, v.oneCell' = true := by
  intro v hv
  simp [encB, Bn.cells] at hv
  rcases hv with rfl | rfl | rfl | rfl | rfl | rfl | rfl <;> rfl
/-- slices.SortFunc at bindings, by ports -/
theorem sortB_any (blk cap : Nat) (d : Array Bn) (w : World) (hH : HoldsK encB 7 w blk 0 d) (hblk : blk < w.heap.size) (hsz : d.size < 4611686018427387904) :
    Calls Try.prog 23 #[.slice (some ⟨blk, 0, none⟩) d.size cap, .func (.func 24) #[] #[]] w fun e w' => e = .returned (.tuple #[]) ∧ ∃ d' n os, PermIn 0 d.size d d' ∧ SortedIn (ltOf cmpB) 0 d.size d' ∧ w' = sortWorldK encB 7 w blk 0 n d' os := by
  have eg : ∀ args w, (callFunc 24 args).run Try.prog w = .ok (.enter 24 args) w := enters_of Try.func24 (by kernel_rfl) rfl
  exact AnyQ.slices_SortFunc Try.sortB 7 Try.isAgg72 Try.sizeOf72 encB encB_len encB_one cmpB swoB 24 #[] blk 0 cap d w eg (fun _ _ _ _ x y => closure43 x y _) hH hblk hsz
theorem info54 : (Try.prog.info? 72).map (fun i => (i.zero, i.size, i.bytes)) = some (some (.agg #[.int .u32 0, .int .i64 0, .int .u32 0, .int .i64 0, .int .i64 0, .int .i64 0, .bool false]), 7, 56) := by kernel_rfl
def cellsB (l : List Bn) : List Value := l.flatMap encB
theorem cellsB_len : ∀ l : List Bn, (cellsB l).length = l.length * 7
  | [] => rfl
  | b :: l => by
    show (encB b ++ cellsB l).length = _
    rw [List.length_append, encB_len, cellsB_len l, List.length_cons]; omega
theorem cellsB_snoc (l : List Bn) (b : Bn) : cellsB (l ++ [b]) = cellsB l ++ encB b := by simp [cellsB]
theorem row_end {B : Nat} {w : World} {v : Value} {l : List Bn} (b : Bn) (hr : w.ownsRow B 72 7 v l.length (cellsB l)) (hl : l.length ≤ 1000) (hB : B ≤ w.heap.size) :
    ∃ v' w', (∀ ty, (Builtin.append_ #[49, 49] ty #[v, .slice (some ⟨w.heap.size, 0, none⟩) 1 1]).run Try.prog (w.alloc (.cells (encB b).toArray 72)) = .ok v' w') ∧ (∃ A n c, v' = .slice A n c) ∧
      w'.ownsRow B 72 7 v' (l ++ [b]).length (cellsB (l ++ [b])) ∧ Below B w w' := by
  obtain ⟨i0, hi0, hz0, hz1, hz2⟩ := info_parts info54
  have h1 : (w.alloc (.cells (encB b).toArray 72)).ownsRow B 72 7 v l.length (cellsB l) := hr.alloc _
  have hc : ∀ j u, (encB b)[j]? = some u → (w.alloc (.cells (encB b).toArray 72)).cell? ((⟨w.heap.size, 0, none⟩ : Addr).add j) = some u := by
    intro j u hj
    rw [add_spot, Nat.zero_add, (cells_of (World.alloc_heap_new w _) j).1]
    simpa using hj
  have hrun := fun ty => run_append_own_at (P := Try.prog) (w.alloc (.cells (encB b).toArray 72)) B 49 ty 72 i0 _ 7 56 Try.underlying49 hi0 hz0 hz1 hz2 rfl (by decide) v l.length (cellsB l) h1 ⟨w.heap.size, 0, none⟩ 1 1 (encB b) rfl hc (encB_one b) (by unfold maxLen; omega) (by omega) (by simp; omega)
  obtain ⟨v', w', r0, r1, r2, r3, r4⟩ := hrun 49
  refine ⟨v', w', fun ty => ?_, ?_, ?_, ?_⟩
  · rw [← r0]; rfl
  · rcases r1.2 with ⟨e, _⟩ | ⟨g, cap, cur, e, _⟩
    · exact ⟨_, _, _, e⟩
    · exact ⟨_, _, _, e⟩
  · rw [List.length_append, cellsB_snoc]; exact r1
  · exact ((Below.refl _ w).alloc hB _).trans ⟨r2.os, r2.tape, r2.output, r2.size, fun k hk => r2.block k (by simp; omega) (fun e => by have := (hr.lt k e.symm).1; omega)⟩
theorem sort_keeps (w : World) (blk n : Nat) (d' : Array Bn) (os : Array Obj) : Keeps (fun k => k = blk) w (sortWorldK encB 7 w blk 0 n d' os) := by
  refine ⟨rfl, rfl, rfl, ?_, fun k hk hn => ?_⟩
  · simp [sortWorldK, grow, putRowK, putRow, mapBlock]
  · have hn2 : ¬ blk = k := fun e => hn e.symm
    simp [sortWorldK, grow, putRowK, putRow, mapBlock, Array.getElem?_append, hk, Array.getElem_modify, hn2]
/-- the slice value reads as these bindings, as they are told -/
def IsBs (w : World) (v : Value) (l : List Bn) : Prop := ∃ A c, v = .slice A l.length c ∧ l.length ≤ c ∧ c ≤ maxLen ∧ (0 < l.length → ∃ b, A = some ⟨b, 0, none⟩ ∧ (∃ C, w.heap[b]? = some (.cells C 72 (0, 0))) ∧ ∀ (j : Nat) (d : Bn), l[j]? = some d → ∀ i, i < 7 → w.cell? ⟨b, j * 7 + i, none⟩ = (encB d)[i]?)
/-- by rising ports -/
def RiseP (l : List Bn) : Prop := ∀ (i j : Nat) (b c : Bn), i < j → l[i]? = some b → l[j]? = some c → b.port ≤ c.port
theorem cellsB_at {l : List Bn} {k : Nat} {b : Bn} (h : l[k]? = some b) (i : Nat) (hi : i < 7) : (cellsB l)[k * 7 + i]? = (encB b)[i]? := by
  induction l generalizing k with
  | nil => simp at h
  | cons c l ih =>
    show (encB c ++ cellsB l)[k * 7 + i]? = _
    cases k with
    | zero =>
      simp only [List.getElem?_cons_zero, Option.some.injEq] at h
      subst h
      rw [Nat.zero_mul, Nat.zero_add, List.getElem?_append_left (by rw [encB_len]; exact hi)]
    | succ k =>
      rw [List.getElem?_append_right (by rw [encB_len]; omega), encB_len, show (k + 1) * 7 + i - 7 = k * 7 + i by omega]
      exact ih (by simpa using h)
theorem holds_of {w : World} {g cap : Nat} {cur : Array Value} {l : List Bn} (hg : w.heap[g]? = some (.cells cur 72 (0, 0))) (ht : cur.toList.take (l.length * 7) = cellsB l) : HoldsK encB 7 w g 0 l.toArray := by
  intro t ht2
  rw [size_flatK, List.size_toArray] at ht2
  rw [get_flatK encB 7 _ _ (by rw [List.size_toArray]; exact ht2), Nat.zero_add]
  refine ⟨?_, (cells_of hg t).2⟩
  have hk : t / 7 < l.length := by omega
  have h1 := cellsB_at (l := l) (k := t / 7) (b := l[t / 7]) (List.getElem?_eq_getElem hk) (t % 7) (by omega)
  rw [show t / 7 * 7 + t % 7 = t by omega, ← ht, List.getElem?_take_of_lt (by omega)] at h1
  rw [(cells_of hg t).1]
  have h2 : cur[t]? = (encB l[t / 7])[t % 7]? := by simpa using h1
  have h3 : (l.toArray)[t / 7]! = l[t / 7] := by rw [getElem!_pos l.toArray (t / 7) (by simpa using hk)]; simp
  rw [h2, h3]
  have h4 : t % 7 < (encB l[t / 7]).length := by rw [encB_len]; omega
  rw [List.getElem?_eq_getElem h4, getElem!_pos (encB l[t / 7]) (t % 7) h4]
  rfl
/-- slices.SortFunc on a row of the call's own -/
theorem sort_list {B : Nat} {w : World} {v : Value} {l : List Bn} (hr : w.ownsRow B 72 7 v l.length (cellsB l)) (hl : l.length ≤ 1000) (hB : B ≤ w.heap.size) :
    Calls Try.prog 23 #[v, .func (.func 24) #[] #[]] w fun e w' => e = .returned (.tuple #[]) ∧ Below B w w' ∧ ∃ l', l'.Perm l ∧ RiseP l' ∧ IsBs w' v l' := by
  rcases hr.2 with ⟨rfl, h0⟩ | ⟨g, cap, cur, rfl, hb, hg, hn, hm, hsz, htake⟩
  · obtain rfl := List.eq_nil_of_length_eq_zero h0
    refine (AnyF.slices_SortFunc_none Try.sortB none 0 _ w).mono ?_
    rintro e w' ⟨rfl, rfl⟩
    exact ⟨rfl, Below.refl _ _, [], List.Perm.refl _, fun i j b c _ h => by simp at h, none, 0, rfl, Nat.le_refl _, Nat.zero_le _, fun h => by simp at h⟩
  · have hH := holds_of (cap := cap) hg htake
    have hgl := (Array.getElem?_eq_some_iff.1 hg).1
    have hS := sortB_any g cap l.toArray w hH hgl (by simp; omega)
    rw [List.size_toArray] at hS
    refine hS.mono ?_
    rintro e w' ⟨rfl, d', n, os, ⟨hp1, hp2, hp3⟩, hs, rfl⟩
    have hp1 : d'.size = l.length := by simpa using hp1
    have hk := sort_keeps w g n d' os
    have hl' : d'.toList.length = l.length := by rw [Array.length_toList, hp1]
    have hH' : HoldsK encB 7 (sortWorldK encB 7 w g 0 n d' os) g 0 d' := holdsK_grow encB 7 _ os g 0 d' (by simpa [putRowK, putRow, mapBlock] using hgl) (holdsK_putRowK encB 7 (Sort.ahead w n) g 0 l.toArray d' (holdsK_ahead encB 7 w n g 0 _ hH) (by simp [hp1]))
    have hcl : ∀ (j : Nat) (d : Bn), d'.toList[j]? = some d → ∀ i, i < 7 → (sortWorldK encB 7 w g 0 n d' os).cell? ⟨g, j * 7 + i, none⟩ = (encB d)[i]? := fun j d hj i hi => by
      obtain ⟨hj1, hj2⟩ := List.getElem?_eq_some_iff.1 hj
      have hj3 : j < d'.size := by simpa using hj1
      have h1 := (hH'.cell hj3 hi).1
      rw [Nat.zero_add] at h1
      rw [h1]
      have h2 : d'[j]! = d := by rw [getElem!_pos d' j hj3]; simpa using hj2
      rw [h2, List.getElem?_eq_getElem (by rw [encB_len]; exact hi), getElem!_pos (encB d) i (by rw [encB_len]; exact hi)]
    refine ⟨rfl, hk.below (fun k e => by rw [e]; exact hb) hB, d'.toList, ?_, fun i j b c hij hi hj => ?_, some ⟨g, 0, none⟩, cap, by rw [hl'], by rw [hl']; exact hn, hm, fun h => ⟨g, rfl, ?_, hcl⟩⟩
    · have e1 : (d'.extract 0 l.length).toList = d'.toList := by rw [← hp1]; simp
      have e2 : (l.toArray.extract 0 l.length).toList = l := by simp
      have hp3 : (d'.extract 0 l.length).toList.Perm (l.toArray.extract 0 l.length).toList := by simpa using hp3
      rw [e1, e2] at hp3
      exact hp3
    · obtain ⟨hi1, hi2⟩ := List.getElem?_eq_some_iff.1 hi
      obtain ⟨hj1, hj2⟩ := List.getElem?_eq_some_iff.1 hj
      have := hs i j (Nat.zero_le _) hij (by rw [← hl']; exact hj1)
      rw [ltB] at this
      have e1 : d'[i]! = b := by rw [getElem!_pos d' i (by simpa using hi1)]; simpa using hi2
      have e2 : d'[j]! = c := by rw [getElem!_pos d' j (by simpa using hj1)]; simpa using hj2
      rw [e1, e2] at this
      simpa using this
    · have hc0 := (hH'.cell (i := 0) (c := 0) (by rw [hp1]; omega) (by omega)).1
      have h2 : (sortWorldK encB 7 w g 0 n d' os).heap[g]? = some (.cells (putCells id 0 (flatK encB 7 d') cur) 72 (0, 0)) := by
        have hg2 : w.heap[g] = .cells cur 72 (0, 0) := (Array.getElem?_eq_some_iff.1 hg).2
        simp [sortWorldK, grow, putRowK, putRow, mapBlock, Array.getElem?_append, hgl, Array.getElem_modify, hg2, onCells]
      exact ⟨_, h2⟩
end Go.Proofs.Ytidhdgcmagpkgaa
