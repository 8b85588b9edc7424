/-
  Contract of the laws' awake. Conditions: as each lemma states.
-/
import Derived.Test.YtidhdgcmagpkgaaWy
import Derived.Test.YtidhdgcmagpkgaaWx
import Derived.Test.YtidhdgcmagpkgaaAwk
namespace Go.Proofs.Ytidhdgcmagpkgaa
open Go.RowKit
attribute [local go_sem] Oper.semAt_some
set_option linter.unusedVariables false
set_option linter.unusedSimpArgs false

theorem Wp.rebase {w0 V V' : World} {wb : Nat} {bv sv hv : Value} {S H : List St} {bs : List Bp} {now : Int} {os : List (Nat × Obj)} (h : Wp V wb bv sv hv S H bs now [] V') (hb : Below w0.heap.size w0 V) (ho : ∀ p ∈ os, V.heap[p.1]? = some p.2) : Wp w0 wb bv sv hv S H bs now os V' := by
  obtain ⟨B, h1, h2, h3⟩ := h.wo
  have hlt : ∀ p ∈ os, p.1 < V.heap.size := fun p hp => (Array.getElem?_eq_some_iff.1 (ho p hp)).1
  refine ⟨⟨B, h1.base_le hb.size, h2, fun p hp => ⟨fun e => ?_, fun g hg e => ?_, fun b hB hf => ?_⟩⟩, fun p hp => (h.low.block _ (hlt p hp)).trans (ho p hp), hb.trans (h.low.mono hb.size)⟩
  · have := hlt p hp; have := h1.low.1; omega
  · have := hlt p hp; have := (h1.row_lt hg).1; omega
  · have := hlt p hp; have := h1.low.2 b hB _ hf; omega
def hAw : List St := [(167772161, 0), (134744072, -1)]
def sAw : List St := [(3405803777, -1)]
def bnAw : Bn := ⟨(167772161, 5), (0, 0), 40000, 31, false, [(134744072, 53)]⟩
def bsAw : List Bp := [⟨bxC 0, 1, [bnAw]⟩]
theorem awk1 : okNew [bxC 0] [-1] hAw = true := by decide
theorem awk2 : sitesOf [bxC 0] [-1] = sAw := rfl
theorem awk3 : wayM sAw hAw [freshP (bxC 0)] 0 1 0 5 (134744072, 53) = ((1, (3405803777, 40000), (134744072, 53), 0), bsAw, 1) := by kernel_rfl
theorem awk4 : wayM sAw hAw bsAw 1 1 1 53 (3405803777, 40000) = ((0, (134744072, 53), (167772161, 5), 0), bsAw, 1) := by kernel_rfl
theorem okS_aw : OkS sAw := fun i s hi => by
  match i, hi with
  | 0, hi => simp [sAw] at hi; subst hi; exact .inl rfl
theorem okH_aw : OkH sAw hAw := fun s hs => by
  simp [hAw] at hs
  rcases hs with rfl | rfl
  · exact ⟨⟨⟨by decide, by decide⟩, by decide, by decide⟩, by decide, .inr ⟨0, rfl, by decide⟩⟩
  · exact ⟨⟨⟨by decide, by decide⟩, by decide, by decide⟩, by decide, .inl rfl⟩
theorem okP_fresh {x : Bx} (h1 : isBx x) (h2 : box2 x = true) : OkP (freshP x) := ⟨h1, h2, Okb.nil (by have := box2_parts h2; show 0 ≤ x.most; omega), Int.le_refl _, fun d hd => by cases hd⟩
theorem okP_aw1 : ∀ b ∈ [freshP (bxC 0)], OkP b := fun b hb => by simp at hb; subst hb; exact okP_fresh (bxC_is 0) (bxC_2 0)
theorem okP_aw2 : ∀ b ∈ bsAw, OkP b := fun b hb => by
  simp [bsAw] at hb
  subst hb
  refine ⟨bxC_is 0, bxC_2 0, ⟨by decide, by decide, fun d hd => ?_⟩, by decide, fun d hd => ?_⟩
  · simp at hd; subst hd; exact ⟨by decide, by decide, by decide⟩
  · simp at hd; subst hd; exact ⟨⟨⟨by decide, by decide⟩, by decide, by decide⟩, by decide⟩
set_option maxRecDepth 100000 in
set_option maxHeartbeats 8000000 in
theorem awake_wd (w : World) : Calls Try.prog 6 #[] w fun e w' => e = .returned (.bool true) ∧ Below w.heap.size w w' := by
  go_enter Try.func6, Try.ntmps6
  have h25 := box25 0 (by omega) w
  unfold boxCells at h25
  go_wp2_with fail
  refine h25.mono ?_
  rintro e V1 ⟨rfl, hb1⟩
  have hsz := hb1.size
  obtain ⟨W, hW⟩ : ∃ W, ((V1.alloc (.cells (boxCells (bxC 0)) 55)).alloc (.cells #[.int .i64 (-1)] 3)).alloc (.cells #[.int .u32 167772161, .int .i64 0, .int .u32 134744072, .int .i64 (-1)] 42) = W := ⟨_, rfl⟩
  have hbW : Below w.heap.size w W := by rw [← hW]; exact ((hb1.alloc hsz _).alloc (by simp; omega) _).alloc (by simp; omega) _
  have c0 : W.heap[V1.heap.size]? = some (.cells (boxCells (bxC 0)) 55 (0, 0)) := by
    rw [← hW, Below.heap_alloc _ _ _ (by simp; omega), Below.heap_alloc _ _ _ (by simp)]
    exact World.alloc_heap_new V1 _
  have c1 : W.heap[V1.heap.size + 1]? = some (.cells #[.int .i64 (-1)] 3 (0, 0)) := by
    rw [← hW, Below.heap_alloc _ _ _ (by simp)]
    have := World.alloc_heap_new (V1.alloc (.cells (boxCells (bxC 0)) 55)) (.cells #[.int .i64 (-1)] 3)
    rwa [World.size_alloc] at this
  have c2 : W.heap[V1.heap.size + 1 + 1]? = some (.cells #[.int .u32 167772161, .int .i64 0, .int .u32 134744072, .int .i64 (-1)] 42 (0, 0)) := by
    rw [← hW]
    have := World.alloc_heap_new ((V1.alloc (.cells (boxCells (bxC 0)) 55)).alloc (.cells #[.int .i64 (-1)] 3)) (.cells #[.int .u32 167772161, .int .i64 0, .int .u32 134744072, .int .i64 (-1)] 42)
    rwa [World.size_alloc, World.size_alloc] at this
  have hnew := new_wd (some ⟨V1.heap.size, 0, none⟩) (some ⟨V1.heap.size + 1, 0, none⟩) (some ⟨V1.heap.size + 1 + 1, 0, none⟩) 1 1 2 [bxC 0] [-1] hAw W
    (fun _ => ⟨_, 0, rfl, (Array.getElem?_eq_some_iff.1 c0).1, fun j x hj i hi => by
      match j, hj with
      | 0, hj => simp at hj; subst hj; simpa using (cells_of c0 i).1⟩)
    (fun _ => ⟨_, 0, rfl, (Array.getElem?_eq_some_iff.1 c1).1, fun j x hj => by
      match j, hj with
      | 0, hj => simp at hj; subst hj; exact (cells_of c1 0).1⟩)
    (fun _ => ⟨_, 0, rfl, (Array.getElem?_eq_some_iff.1 c2).1, fun j x hj => by
      match j, hj with
      | 0, hj => simp [hAw] at hj; subst hj; exact ⟨(cells_of c2 0).1, (cells_of c2 1).1⟩
      | 1, hj => simp [hAw] at hj; subst hj; exact ⟨(cells_of c2 2).1, (cells_of c2 3).1⟩⟩)
    (fun e => by cases e) (fun x hx => by simp at hx; subst hx; exact bxC_is 0)
  have HNEW := Lib.hid hnew
  have HBW := Lib.hid hbW
  dsimp only [List.length_cons, List.length_nil, hAw] at HNEW
  clear c0 c1 c2 hnew hbW hb1 hsz
  unfold boxCells at hW
  go_wp2_with fail
  refine HNEW.out.mono ?_
  intro e V2 hm
  unfold MadeW at hm
  obtain ⟨wb, bv, sv, hv, rfl, hp⟩ : ∃ wb bv sv hv, e = .returned (.tuple #[.pointer (some ⟨wb, 0, none⟩), .int .i64 0]) ∧ Wp w wb bv sv hv sAw hAw [freshP (bxC 0)] 0 [] V2 := by
    rcases hm with ⟨h, _⟩ | ⟨_, wb, bv, sv, hv, rfl, h⟩
    · have := awk1
      unfold hAw at this
      rw [this] at h; cases h
    · exact ⟨wb, bv, sv, hv, rfl, Wp.rebase h HBW.out (by simp)⟩
  clear hm HNEW HBW hW
  have hw1 := way_wp hp okS_aw okP_aw1 rfl (by decide) (by decide) okH_aw 1 0 5 (134744072, 53) (by decide) ⟨⟨by decide, by decide⟩, by decide, by decide⟩
  rw [awk3] at hw1
  unfold adr at hw1
  dsimp only at hw1
  have HW1 := Lib.hid hw1
  clear hw1 hp
  go_wp2_with fail
  refine HW1.out.mono ?_
  rintro e V3 ⟨rfl, hp3⟩
  have hp4 := (hp3.box (k := V3.heap.size) #[.int .u32 3405803777, .int .i64 40000] 36 rfl).box (k := V3.heap.size + 1) #[.int .u32 134744072, .int .i64 53] 36 (by simp)
  have hw2 := way_wp hp4 okS_aw okP_aw2 rfl (by decide) (by decide) okH_aw 1 1 53 (3405803777, 40000) (by decide) ⟨⟨by decide, by decide⟩, by decide, by decide⟩
  rw [awk4] at hw2
  unfold adr at hw2
  dsimp only at hw2
  have HW2 := Lib.hid hw2
  clear hw2 hp4 hp3 HW1
  go_wp2_with fail
  refine HW2.out.mono ?_
  rintro e V5 ⟨rfl, hp5⟩
  obtain ⟨a0, a1, -⟩ := hp5.c2 (k := V3.heap.size) (u := .int .u32 3405803777) (v := .int .i64 40000) (t := 36) (by simp)
  obtain ⟨b0, b1, -⟩ := hp5.c2 (k := V3.heap.size + 1) (u := .int .u32 134744072) (v := .int .i64 53) (t := 36) (by simp)
  have hp6 := (hp5.box (k := V5.heap.size) #[.int .u32 134744072, .int .i64 53] 36 rfl).box (k := V5.heap.size + 1) #[.int .u32 167772161, .int .i64 5] 36 (by simp)
  have HO1 := Lib.hid (outer_any hp6 (by decide) 0)
  have HO2 := Lib.hid (outer_any hp6 (by decide) 1)
  rw [show outerI hAw 0 = 0 from rfl] at HO1
  rw [show outerI hAw 1 = -1 from rfl] at HO2
  have HBX := Lib.hid (box_wp hp6 (by decide) 0)
  have HLOW := Lib.hid hp6.low
  have la := World.block_lt_of_cell? V5 _ a0
  have lb := World.block_lt_of_cell? V5 _ b0
  dsimp only at la lb
  clear hp5 hp6 HW2
  go_wp2_with fail
  refine HO1.out.mono ?_
  rintro e V6 ⟨rfl, rfl⟩
  go_wp2_with fail
  refine HO2.out.mono ?_
  rintro e V7 ⟨rfl, rfl⟩
  go_wp2_with fail
  refine HBX.out.mono ?_
  rintro e V8 ⟨⟨q, rfl, -, hq⟩, rfl⟩
  obtain ⟨nb, b, -, rfl, -⟩ := hq 0 rfl (by decide)
  go_wp2
  go_ret
  exact ⟨rfl, HLOW.out⟩
end Go.Proofs.Ytidhdgcmagpkgaa
