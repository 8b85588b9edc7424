/-
  Contracts of the document's own notary, embrasureref04.Notary: is, Check and Mint, over a notary that stands for a list of entries. Conditions: as each states.
  The program's notary and the document's own one side by side; a script whose texts' nil slices are empty. Conditions: as each lemma states.
  A range over a function whose iterator hands over what it has just made, and may keep state of its own in cells ('ms'): the iterator's word ('Tells') says, at each yield, what is handed there, in the world there ('Ok'); the body is walked with that word. Conditions: as each lemma states.
  Plain lists: the numbers of which bytes are made, one behind the other, with the places where they begin. No program, no conditions beyond those that each lemma states.
-/
import Derived.Test.YtdiilgedicfekaaDoorMh3
import Derived.Deep.RegionLaw
import Derived.RangeFuncNested
import Derived.RangeFuncBound
import Derived.RangeFuncCalls
import Derived.RangeFuncLeaves
import Derived.Test.YtdiilgedicfekaaDoorMh1
namespace Go.Proofs.YtdiilgedicfekaaDoor
open Go.RowKit Go.Maps
set_option linter.unusedVariables false
set_option maxRecDepth 100000

/-- a text of the call's own: bytes in a row of its own -/
def OwnTxt (w : World) (S : Nat → Prop) (u : Value) (zs : List Int) : Prop := w.ownsRow 0 5 1 u zs.length (B zs) ∧ Bd zs ∧ ∀ g, u.ownBlock = some g → S g
/-- block rb of w is a notary of the document that stands for the entries L; all that it is made of lies in blocks of S -/
def RefN (w : World) (S : Nat → Prop) (rb : Nat) (L : List Item) : Prop :=
  ∃ v xs, S rb ∧ (∀ g, v.ownBlock = some g → S g) ∧ w.heap[rb]? = some (.cells #[v] 39 (0, 0)) ∧ w.ownsRow 0 98 2 v L.length xs ∧
    ∀ k x, L[k]? = some x → ∃ u, xs[k * 2]? = some (.int .i64 x.1) ∧ xs[k * 2 + 1]? = some u ∧ OwnTxt w S u x.2

theorem own_keep {w w' : World} {e : TypeId} {sz : Nat} {v : Value} {n : Nat} {xs : List Value} (h : w.ownsRow 0 e sz v n xs) (hb : ∀ g, v.ownBlock = some g → g < w.heap.size → w'.heap[g]? = w.heap[g]?) : w'.ownsRow 0 e sz v n xs := by
  refine ⟨h.1, ?_⟩
  rcases h.2 with hn | ⟨g, cap, cur, rfl, h1, hgg, rest⟩
  · exact .inl hn
  · exact .inr ⟨g, cap, cur, rfl, h1, (hb g rfl (Array.getElem?_eq_some_iff.1 hgg).1).trans hgg, rest⟩
theorem OwnTxt.mono {w : World} {S S' : Nat → Prop} {u : Value} {zs : List Int} (h : OwnTxt w S u zs) (hs : ∀ k, S k → S' k) : OwnTxt w S' u zs := ⟨h.1, h.2.1, fun g hg => hs g (h.2.2 g hg)⟩
theorem OwnTxt.kept {w w' : World} {S : Nat → Prop} {u : Value} {zs : List Int} (h : OwnTxt w S u zs) (hb : ∀ k, k < w.heap.size → u.ownBlock = some k → w'.heap[k]? = w.heap[k]?) : OwnTxt w' S u zs :=
  ⟨own_keep h.1 (fun g hg hl => hb g hl hg), h.2⟩
theorem OwnTxt.form {w : World} {S : Nat → Prop} {u : Value} {zs : List Int} (h : OwnTxt w S u zs) : ∃ A c, u = .slice A zs.length c ∧ zs.length ≤ c ∧ c ≤ maxLen ∧ Bts w A zs.length zs := own_form h.1 h.2.1
theorem RefN.mono {w : World} {S S' : Nat → Prop} {rb : Nat} {L : List Item} (h : RefN w S rb L) (hs : ∀ k, S k → S' k) : RefN w S' rb L := by
  obtain ⟨v, xs, h1, h2, h3, h4, h5⟩ := h
  refine ⟨v, xs, hs _ h1, fun g hg => hs g (h2 g hg), h3, h4, fun k x hk => ?_⟩
  obtain ⟨u, e1, e2, e3⟩ := h5 k x hk
  exact ⟨u, e1, e2, e3.mono hs⟩
theorem RefN.kept {w w' : World} {S : Nat → Prop} {rb : Nat} {L : List Item} (h : RefN w S rb L) (hb : ∀ k, k < w.heap.size → S k → w'.heap[k]? = w.heap[k]?) : RefN w' S rb L := by
  obtain ⟨v, xs, h1, h2, h3, h4, h5⟩ := h
  refine ⟨v, xs, h1, h2, (hb rb (Array.getElem?_eq_some_iff.1 h3).1 h1).trans h3, own_keep h4 (fun g hg hl => hb g hl (h2 g hg)), fun k x hk => ?_⟩
  obtain ⟨u, e1, e2, e3⟩ := h5 k x hk
  exact ⟨u, e1, e2, e3.kept (fun g hl hg => hb g hl (e3.2.2 g hg))⟩
theorem RefN.drewN {w : World} {S : Nat → Prop} {rb : Nat} {L : List Item} (h : RefN w S rb L) (q : Nat) : RefN (w.drewN q) S rb L := h.kept (fun _ _ _ => rfl)
theorem RefN.alloc {w : World} {S : Nat → Prop} {rb : Nat} {L : List Item} (h : RefN w S rb L) (o : Obj) : RefN (w.alloc o) S rb L := h.kept (fun k hk _ => Below.heap_alloc _ _ _ hk)
theorem RefN.size {w : World} {S : Nat → Prop} {rb : Nat} {L : List Item} (h : RefN w S rb L) : rb < w.heap.size := by
  obtain ⟨v, xs, h1, h2, h3, _⟩ := h
  exact (Array.getElem?_eq_some_iff.1 h3).1
theorem RefN.trim {w : World} {S : Nat → Prop} {rb : Nat} {L : List Item} (h : RefN w S rb L) : RefN w (fun k => S k ∧ k < w.heap.size) rb L := by
  obtain ⟨v, xs, h1, h2, h3, h4, h5⟩ := h
  refine ⟨v, xs, ⟨h1, (Array.getElem?_eq_some_iff.1 h3).1⟩, fun g hg => ⟨h2 g hg, (h4.lt g hg).2⟩, h3, h4, fun k x hk => ?_⟩
  obtain ⟨u, e1, e2, e3⟩ := h5 k x hk
  exact ⟨u, e1, e2, e3.1, e3.2.1, fun g hg => ⟨e3.2.2 g hg, (e3.1.lt g hg).2⟩⟩
/-- its entries, in the walk's words -/
theorem RefN.form {w : World} {S : Nat → Prop} {rb : Nat} {L : List Item} (h : RefN w S rb L) : ∃ A c, w.cell? ⟨rb, 0, none⟩ = some (.slice A L.length c) ∧
    ∀ k x, L[k]? = some x → ∃ g A2 c2, A = some ⟨g, 0, none⟩ ∧ g < w.heap.size ∧ w.cell? ⟨g, k * 2, none⟩ = some (.int .i64 x.1) ∧ w.cell? ⟨g, k * 2 + 1, none⟩ = some (.slice A2 x.2.length c2) ∧ Bts w A2 x.2.length x.2 ∧ x.2.length ≤ c2 ∧ c2 ≤ maxLen := by
  obtain ⟨v, xs, h1, h2, h3, h4, h5⟩ := h
  have c1 := (ncells_of h3 0).1
  simp at c1
  have hxl := h4.1
  rcases h4.2 with ⟨rfl, e⟩ | ⟨g, cap, cur, rfl, _, hg, hle, hm, hsz, hcur⟩
  · exact ⟨none, 0, by rw [c1, e], fun k x hk => by have := (List.getElem?_eq_some_iff.1 hk).1; omega⟩
  · refine ⟨_, cap, c1, fun k x hk => ?_⟩
    obtain ⟨u, e1, e2, e3⟩ := h5 k x hk
    obtain ⟨A2, c2, rfl, h6, h7, h8⟩ := e3.form
    have hkl := (List.getElem?_eq_some_iff.1 hk).1
    refine ⟨g, A2, c2, rfl, (Array.getElem?_eq_some_iff.1 hg).1, ?_, ?_, h8, h6, h7⟩
    · rw [(ncells_of hg (k * 2)).1]
      rw [← hcur, List.getElem?_take_of_lt (by omega)] at e1
      simpa using e1
    · rw [(ncells_of hg (k * 2 + 1)).1]
      rw [← hcur, List.getElem?_take_of_lt (by omega)] at e2
      simpa using e2

set_option maxHeartbeats 1000000 in
theorem is_any (rb k : Nat) (S : Nat → Prop) (L : List Item) (x : Item) (p : Int) (A : Option Addr) (n c : Nat) (zs : List Int) (w : World) (h : RefN w S rb L) (hL : L.length ≤ 1000000) (hk : L[k]? = some x) (hb : Bts w A n zs) :
    Calls Tryd.prog 45 #[.pointer (some ⟨rb, 0, none⟩), .int .i64 (k : Int), .int .i64 p, .slice A n c] w fun e w' => e = .returned (.bool (decide (x = (p, zs)))) ∧ ∃ q, w' = w.drewN q := by
  have hrb := h.size
  obtain ⟨A1, c1, d0, hf⟩ := h.form
  obtain ⟨g, A2, c2, rfl, hg, d1, d2, hbt, hn2, hm2⟩ := hf k x hk
  have hkl := (List.getElem?_eq_some_iff.1 hk).1
  have e3 : (k : Int) < (L.length : Int) := by omega
  have HB := Lib.hid hb; have HBT := Lib.hid hbt; clear hb hbt hf h hk
  obtain ⟨y, ys⟩ := x
  simp only at d1 d2 HBT hn2
  have HSM := Lib.hid (same_any A2 A ys.length n c2 c ys zs w (by unfold maxLen at *; omega) HBT.out HB.out)
  by_cases h1 : y = p
  · subst h1
    go_enter Tryd.func45, Tryd.ntmps45
    go_wp2_with fail
    refine HSM.out.mono ?_
    rintro e w' ⟨rfl, q, rfl⟩
    go_wp2
    go_ret
    exact ⟨ret_bool (by simp), _, rfl⟩
  · have t1 : (y == p) = false := by simpa using h1
    have HN := Lib.hid h1; clear h1
    go_enter Tryd.func45, Tryd.ntmps45
    go_wp2
    go_ret
    exact ⟨ret_bool (by simp [HN.out]), 0, rfl⟩

theorem item_or {L : List Item} {k : Nat} (h : k < L.length) : ∃ x, L[k]? = some x := ⟨_, List.getElem?_eq_getElem h⟩
def NoTag (L : List Item) (x : Item) (T k : Nat) : Prop := ∀ j, j < k → ¬ (j + 1 = T ∧ L[j]? = some x)
theorem NoTag.zero (L : List Item) (x : Item) (T : Nat) : NoTag L x T 0 := fun j h => by omega
theorem NoTag.succ {L : List Item} {x : Item} {T k : Nat} (h : NoTag L x T k) (hk : ¬ (k + 1 = T ∧ L[k]? = some x)) : NoTag L x T (k + 1) := fun j hj => by
  rcases Nat.lt_or_ge j k with h' | h'
  · exact h j h'
  · obtain rfl : j = k := by omega
    exact hk
theorem NoTag.end_ {L : List Item} {x : Item} {T : Nat} (h : NoTag L x T L.length) : checkL L x T = 12 := by
  unfold checkL
  rw [if_neg]
  rintro ⟨h1, h2⟩
  have hl := (List.getElem?_eq_some_iff.1 h2).1
  exact h (T - 1) hl ⟨by omega, h2⟩
theorem checkL_hit {L : List Item} {x : Item} {k : Nat} (h : L[k]? = some x) : checkL L x (k + 1) = 0 := by
  unfold checkL
  rw [show k + 1 - 1 = k by omega, if_pos ⟨by omega, h⟩]

set_option maxHeartbeats 1000000 in
theorem rcheck_any (rb : Nat) (S : Nat → Prop) (L : List Item) (p : Int) (A : Option Addr) (n c T : Nat) (zs : List Int) (w : World) (h : RefN w S rb L) (hL : L.length ≤ 1000000) (hb : Bts w A n zs) (hT : T < 18446744073709551616) :
    Calls Tryd.prog 43 #[.pointer (some ⟨rb, 0, none⟩), .int .i64 p, .slice A n c, .int .u64 (T : Int)] w fun e w' => e = .returned (.int .i64 (checkL L (p, zs) T)) ∧ ∃ q, w' = w.drewN q := by
  have hrb := h.size
  obtain ⟨A1, c1, d0, _⟩ := h.form
  have H := Lib.hid h; have HB := Lib.hid hb; clear h hb
  go_enter Tryd.func43, Tryd.ntmps43
  go_wp2
  go_loopw [9] (fun i wr => ∃ (k q : Nat), k ≤ L.length ∧ i = .int .i64 k ∧ wr = w.drewN q ∧ NoTag L (p, zs) T k) (fun i _ => L.length - (intOf i).toNat)
  case atStart => exact ⟨0, 0, by omega, rfl, rfl, NoTag.zero _ _ _⟩
  case round =>
    obtain ⟨k, q, hk, rfl, rfl, hN⟩ := hrel
    have HN := Lib.hid hN; clear hN
    by_cases h1 : k < L.length
    · obtain ⟨x, hx⟩ := item_or h1
      have HX := Lib.hid hx; clear hx
      have e1 : IntKind.u64.wrap ((k : Int) + 1) = (k : Int) + 1 := u64_in (by omega) (by omega)
      by_cases h2 : k + 1 = T
      · have t1 : ((k : Int) + 1 == (T : Int)) = true := by rw [beq_iff_eq]; omega
        have HT := Lib.hid h2; clear h2
        have HI := Lib.hid (is_any rb k S L x p A n c zs (w.drewN q) (H.out.drewN q) hL HX.out (HB.out.drewN q))
        cases hd : decide (x = (p, zs)) with
        | true =>
          have HE := Lib.hid (of_decide_eq_true hd)
          rw [hd] at HI
          clear hd
          go_wp2_with fail
          refine HI.out.mono ?_
          rintro e w' ⟨rfl, q2, rfl⟩
          go_wp2
          go_ret
          exact ⟨ret_int (by rw [← HT.out, checkL_hit (by rw [HX.out, HE.out])]), _, rfl⟩
        | false =>
          have HE := Lib.hid (of_decide_eq_false hd)
          rw [hd] at HI
          clear hd
          go_wp2_with fail
          refine HI.out.mono ?_
          rintro e w' ⟨rfl, q2, rfl⟩
          go_wp2
          go_roundw
          case rel => exact ⟨k + 1, q + q2, by omega, by go_num, rfl, HN.out.succ (fun h => HE.out (by have := h.2; rw [HX.out] at this; exact Option.some.inj this))⟩
          case measure => simp [intOf]; omega
      · have t1 : ((k : Int) + 1 == (T : Int)) = false := by rw [beq_eq_false_iff_ne]; omega
        have HT := Lib.hid h2; clear h2
        go_wp2
        go_roundw
        case rel => exact ⟨k + 1, q, by omega, by go_num, rfl, HN.out.succ (fun h => HT.out h.1)⟩
        case measure => simp [intOf]; omega
    · obtain rfl : k = L.length := by omega
      go_wp2
      go_ret
      exact ⟨ret_int HN.out.end_.symm, _, rfl⟩

theorem rmint_arg (rb : Nat) (p : Int) (A : Option Addr) (n c : Nat) (w : World) (hp : ¬ (1 ≤ p ∧ p ≤ 2147483647)) :
    Calls Tryd.prog 25 #[.pointer (some ⟨rb, 0, none⟩), .int .i64 p, .slice A n c] w fun e w' => e = .returned (.tuple #[.int .u64 0, .int .i64 1]) ∧ w = w' := by
  by_cases h1 : p < 1
  · go_enter Tryd.func25, Tryd.ntmps25
    go_wp2
    go_ret2
    exact ⟨rfl, rfl⟩
  · have h2 : 2147483647 < p := by omega
    clear hp
    go_enter Tryd.func25, Tryd.ntmps25
    go_wp2
    go_ret2
    exact ⟨rfl, rfl⟩

theorem ref_info : (Tryd.prog.info? 98).map (fun i => (i.zero, i.size, i.bytes)) = some (some (.agg #[.int .i64 0, .slice none 0 0]), 2, 32) := by kernel_rfl
/-- 'append(l, e)' onto the row of entries, as one step of a region that draws its order -/
theorem step_ref {w : World} {ops : Array Oper} {o : Oper} {a : Act} {K : Act → World → Prop} {Q : Exit → Act → World → Prop} {E : Prop} (hf : o.guard = none) (s x : Operand)
    (ho : o.op = .call { callee := .builtin .append, args := #[s, x], argTypes := #[37, 37] }) {k g : Nat} {v : Value} {p : Int} {u : Value} {xs : List Value} (hs : a.eval s = v) (hown : w.ownsRow 0 98 2 v k xs) (hx : a.eval x = .slice (some ⟨g, 0, none⟩) 1 1)
    (h0 : w.cell? ⟨g, 0, none⟩ = some (.int .i64 p)) (h1 : w.cell? ⟨g, 1, none⟩ = some u) (hu : u.oneCell' = true) (hk : k ≤ 1000000)
    (h : ∀ v' w', w'.ownsRow 0 98 2 v' (k + 1) (xs ++ [.int .i64 p, u]) → w.grownBy w' v.ownBlock → (v'.ownBlock = v.ownBlock ∨ v'.ownBlock = some w.heap.size) → K (a.put o.dst v') w') :
    if Region.wanted o (yielded ops a.tmps) = true then Oper.wp Tryd.prog o a w K Q else E := by
  obtain ⟨i0, hi0, hz0, hz1, hz2⟩ := info_parts ref_info
  obtain ⟨v', w', hrun, r1, r2, _, r3⟩ := run_append_own_at (P := Tryd.prog) (w := w) 0 37 o.type 98 i0 (.agg #[.int .i64 0, .slice none 0 0]) 2 32 Tryd.underlying37 hi0 hz0 hz1 hz2 rfl (by decide) v k xs hown ⟨g, 0, none⟩ 1 1 [.int .i64 p, u] rfl
    (fun j y hy => by
      match j, hy with
      | 0, hy => simp at hy; subst hy; exact h0
      | 1, hy => simp at hy; subst hy; exact h1) (by
      intro y hy
      rcases List.mem_cons.1 hy with rfl | hy
      · rfl
      · simp at hy; subst hy; exact hu) (by unfold maxLen; omega) (by omega) (Nat.zero_le _)
  rw [if_pos (by simp [Region.wanted, hf])]
  unfold Oper.wp execOp
  simp only [ho, resolve, invoke, builtin, Sem.run_bind, Sem.run_pure, Result.andThen_ok, List.map_toArray, List.map_cons, List.map_nil, hs, hx, hrun]
  exact h _ _ r1 r2 r3
/-- 'append([]byte{}, text...)', as one step of a region that draws its order -/
theorem step_bytes {W : World} {ops : Array Oper} {o : Oper} {a : Act} {K : Act → World → Prop} {Q : Exit → Act → World → Prop} {E : Prop} (hf : o.guard = none) (s x : Operand)
    (ho : o.op = .call { callee := .builtin .append, args := #[s, x], argTypes := #[42, 42] }) {g : Nat} (hg : g = W.heap.size) (hs : a.eval s = .slice (some ⟨g, 0, none⟩) 0 0) {A : Option Addr} {n c : Nat} {zs : List Int} (hx : a.eval x = .slice A n c) (hb : Bts W A n zs)
    (hnil : A = none → n = 0 ∧ c = 0) (hn : n ≤ 140737488355328)
    (h : ∀ A2 c2 w', OwnTxt w' (g ≤ ·) (.slice A2 n c2) zs → (∀ k, k < g → w'.heap[k]? = W.heap[k]?) → (w'.os = W.os ∧ w'.tape = W.tape ∧ w'.output = W.output) → g < w'.heap.size → K (a.put o.dst (.slice A2 n c2)) w') :
    if Region.wanted o (yielded ops a.tmps) = true then Oper.wp Tryd.prog o a (W.alloc (.cells #[] 5)) K Q else E := by
  subst hg
  obtain ⟨i0, hi0, hz0, hz1, hz2⟩ := info_parts u8_info
  have hlit : (W.alloc (.cells #[] 5)).ownsRow 0 5 1 (.slice (some ⟨W.heap.size, 0, none⟩) 0 0) 0 (B []) := World.ownsRow_lit W #[] 0 (Nat.zero_le _) (Nat.zero_le _) rfl
  have fin : ∀ v' w', w'.ownsRow 0 5 1 v' n (B zs) → (W.alloc (.cells #[] 5)).grownBy w' (some W.heap.size) → (v'.ownBlock = some W.heap.size ∨ v'.ownBlock = some (W.alloc (.cells #[] 5)).heap.size) → K (a.put o.dst v') w' := by
    intro v' w' ho' hg' hl'
    have hl : zs.length = n := hb.len
    obtain ⟨A2, c2, rfl, _, _, _⟩ := own_form ho' hb.bd
    refine h A2 c2 w' ⟨by rw [hl]; exact ho', hb.bd, fun g hg2 => ?_⟩ (fun k hk => (hg'.block k (by simp; omega) (fun e => by simp at e; omega)).trans (Below.heap_alloc W _ k hk)) ⟨hg'.os, hg'.tape, hg'.output⟩ (by have := hg'.size; simp at this; omega)
    rcases hl' with e | e
    · rw [e] at hg2; simp at hg2; omega
    · rw [e] at hg2; simp at hg2; omega
  rw [if_pos (by simp [Region.wanted, hf])]
  cases A with
  | none =>
    obtain ⟨rfl, rfl⟩ := hnil rfl
    have hz : zs = [] := List.eq_nil_of_length_eq_zero hb.len
    subst hz
    have hrun := run_append_owned_none (P := Tryd.prog) (w := W.alloc (.cells #[] 5)) 0 42 o.type 5 i0 1 Tryd.underlying42 hi0 _ 0 (B []) hlit
    unfold Oper.wp
    simp [execOp, ho, resolve, invoke, builtin, hs, hx, hrun, Result.andThen]
    exact fin _ _ hlit (World.grownBy.refl _ _) (.inl rfl)
  | some ad =>
    obtain ⟨v', w', hrun, r1, r2, _, r3⟩ := run_append_own_at (P := Tryd.prog) (w := W.alloc (.cells #[] 5)) 0 42 o.type 5 i0 (.int .u8 0) 1 1 Tryd.underlying42 hi0 hz0 hz1 hz2 rfl (by decide) _ 0 (B []) hlit ad n c (B zs) (by rw [B_length, hb.len]; omega) (hb.alloc _).news (B_one zs)
      (by unfold maxLen; omega) (by omega) (Nat.zero_le _)
    rw [Nat.zero_add] at r1
    unfold Oper.wp
    simp [execOp, ho, resolve, invoke, builtin, hs, hx, hrun, Result.andThen]
    exact fin v' w' (by simpa [B] using r1) r2 r3

theorem own_type {w : World} {b e sz n g : Nat} {v : Value} {xs : List Value} (h : w.ownsRow b e sz v n xs) (hg : v.ownBlock = some g) : ∃ cur, w.heap[g]? = some (.cells cur e (0, 0)) := by
  rcases h.2 with ⟨rfl, _⟩ | ⟨g', cap, cur, rfl, _, hgg, _⟩
  · cases hg
  · simp only [Value.ownBlock, Option.some.injEq] at hg
    subst hg
    exact ⟨cur, hgg⟩
theorem type_ne {w : World} {g g' : Nat} {C C' : Array Value} {e e' : TypeId} {m m' : Nat × Nat} (h : w.heap[g]? = some (.cells C e m)) (h' : w.heap[g']? = some (.cells C' e' m')) (hne : e ≠ e') : g ≠ g' := by
  rintro rfl
  rw [h] at h'
  simp only [Option.some.injEq, Obj.cells.injEq] at h'
  exact hne h'.2.1
theorem own_slice2 {w : World} {v : Value} {n : Nat} {xs : List Value} (h : w.ownsRow 0 98 2 v (n + 1) xs) : ∃ g c, v = .slice (some ⟨g, 0, none⟩) (n + 1) c := by
  rcases h.2 with ⟨_, e⟩ | ⟨g, cap, cur, rfl, _⟩
  · omega
  · exact ⟨_, _, rfl⟩

theorem rmint_mid {w w2 w3 : World} {rb n : Nat} {v : Value} {xs : List Value} {o : Obj} (h3 : w.heap[rb]? = some (.cells #[v] 39 (0, 0))) (h4 : w.ownsRow 0 98 2 v n xs) (hold : ∀ k, k < w.heap.size → w2.heap[k]? = w.heap[k]?) (hsz : w.heap.size < w2.heap.size)
    (hg : (w2.alloc o).grownBy w3 v.ownBlock) : w3.heap[rb]? = some (.cells #[v] 39 (0, 0)) := by
  have hrb := (Array.getElem?_eq_some_iff.1 h3).1
  refine (hg.block rb (by simp; omega) (fun e => ?_)).trans ((Below.heap_alloc w2 o rb (by omega)).trans ((hold rb hrb).trans h3))
  obtain ⟨cur, hc⟩ := own_type h4 e.symm
  exact type_ne h3 hc (by decide) rfl
/-- what a minted entry leaves: w the world at the call, w2 the world behind the text's copy, w3 behind the append of the entry -/
theorem rmint_end {w w2 w3 : World} {S : Nat → Prop} {rb : Nat} {L : List Item} {v v3 u : Value} {xs : List Value} {p : Int} {zs : List Int} (hbd : Bd zs) (h1 : S rb) (h2 : ∀ g, v.ownBlock = some g → S g) (h3 : w.heap[rb]? = some (.cells #[v] 39 (0, 0)))
    (h4 : w.ownsRow 0 98 2 v L.length xs) (h5 : ∀ k x, L[k]? = some x → ∃ u, xs[k * 2]? = some (.int .i64 x.1) ∧ xs[k * 2 + 1]? = some u ∧ OwnTxt w S u x.2)
    (hu : OwnTxt w2 (w.heap.size ≤ ·) u zs) (hold : ∀ k, k < w.heap.size → w2.heap[k]? = w.heap[k]?) (hos : w2.os = w.os ∧ w2.tape = w.tape ∧ w2.output = w.output) (hsz : w.heap.size < w2.heap.size)
    (ho : w3.ownsRow 0 98 2 v3 (L.length + 1) (xs ++ [.int .i64 p, u])) (hg : (w2.alloc (.cells #[.int .i64 p, u] 98)).grownBy w3 v.ownBlock) (hl : v3.ownBlock = v.ownBlock ∨ v3.ownBlock = some (w2.alloc (.cells #[.int .i64 p, u] 98)).heap.size) :
    RefN (w3.setCell ⟨rb, 0, none⟩ v3) (fun k => S k ∨ w.heap.size ≤ k) rb (L ++ [(p, zs)]) ∧ Keeps S w (w3.setCell ⟨rb, 0, none⟩ v3) := by
  have hrb := (Array.getElem?_eq_some_iff.1 h3).1
  have hxl := h4.1
  have old : ∀ k, k < w2.heap.size → some k ≠ v.ownBlock → w3.heap[k]? = w2.heap[k]? := fun k hk hn =>
    (hg.block k (by simp; omega) hn).trans (Below.heap_alloc w2 _ k hk)
  have nev : ∀ {g : Nat} {C : Array Value} {e : TypeId} {m : Nat × Nat}, w.heap[g]? = some (.cells C e m) → e ≠ 98 → some g ≠ v.ownBlock := fun {g C e m} h0 hne e0 => by
    obtain ⟨cur, hc⟩ := own_type h4 e0.symm
    exact type_ne h0 hc hne rfl
  have hn3 : w3.heap[rb]? = some (.cells #[v] 39 (0, 0)) := (old rb (by omega) (nev h3 (by decide))).trans ((hold rb hrb).trans h3)
  have hvo : ∀ g, v.ownBlock = some g → g < w.heap.size := fun g hg => (h4.lt g hg).2
  have keep : ∀ {u' : Value} {ys : List Int} {T : Nat → Prop}, OwnTxt w3 T u' ys → OwnTxt (w3.setCell ⟨rb, 0, none⟩ v3) T u' ys := fun {u' ys T} hu' =>
    hu'.kept (fun k hk hb => Below.heap_setCell _ _ _ _ (fun e => by
      obtain ⟨cur, hc⟩ := own_type hu'.1 hb
      have e2 : k = rb := e
      subst e2
      exact type_ne hc hn3 (by decide) rfl))
  refine ⟨⟨v3, xs ++ [.int .i64 p, u], .inl h1, ?_, ?_, ?_, ?_⟩, ?_⟩
  · intro g hg3
    rcases hl with e | e
    · exact .inl (h2 g (e ▸ hg3))
    · rw [e] at hg3
      simp only [Option.some.injEq] at hg3
      subst hg3
      exact .inr (by simp; omega)
  · have : (w3.setCell ⟨rb, 0, none⟩ v3).heap[rb]? = some (.cells #[v3] 39 (0, 0)) := by simp [World.setCell, Array.getElem?_modify, hn3]
    exact this
  · have : (L ++ [(p, zs)]).length = L.length + 1 := by simp
    rw [this]
    exact own_keep ho (fun g hgg hlt => Below.heap_setCell _ _ _ _ (fun e => by
      obtain ⟨cur, hc⟩ := own_type ho hgg
      have e2 : g = rb := e
      subst e2
      exact type_ne hc hn3 (by decide) rfl))
  · intro k x hk
    rcases Nat.lt_or_ge k L.length with hkl | hkl
    · rw [List.getElem?_append_left hkl] at hk
      obtain ⟨u', e1, e2, e3⟩ := h5 k x hk
      refine ⟨u', by rw [List.getElem?_append_left (by omega)]; exact e1, by rw [List.getElem?_append_left (by omega)]; exact e2, keep ?_⟩
      refine (OwnTxt.kept (w := w) (w' := w3) e3 (fun g hg1 hg2 => ?_)).mono (fun _ h => .inl h)
      obtain ⟨cur, hc⟩ := own_type e3.1 hg2
      exact (old g (by omega) (nev hc (by decide))).trans (hold g hg1)
    · have hke : k = L.length := by
        have := (List.getElem?_eq_some_iff.1 hk).1
        simp at this
        omega
      subst hke
      have hxe : x = (p, zs) := by simpa using hk.symm
      subst hxe
      refine ⟨u, ?_, ?_, keep ?_⟩
      · rw [List.getElem?_append_right (by omega), hxl]; simp
      · rw [List.getElem?_append_right (by omega), hxl]; simp
      · refine (OwnTxt.kept (w := w2) (w' := w3) hu (fun g hg1 hg2 => old g hg1 (fun e => ?_))).mono (fun _ h => .inr h)
        have := hvo g e.symm
        have := hu.2.2 g hg2
        omega
  · refine ⟨hg.os.trans hos.1, hg.tape.trans hos.2.1, hg.output.trans hos.2.2, ?_, fun k hk hn => ?_⟩
    · have := hg.size
      simp [World.setCell] at this ⊢
      omega
    · exact (Below.heap_setCell _ _ _ _ (fun e => hn (by rw [show k = rb from e]; exact h1))).trans ((old k (by omega) (fun e => hn (h2 k e.symm))).trans (hold k hk))

def NoHit (L : List Item) (x : Item) (k : Nat) : Prop := ∀ j, j < k → ¬ L[j]? = some x
theorem NoHit.zero (L : List Item) (x : Item) : NoHit L x 0 := fun j h => by omega
theorem NoHit.succ {L : List Item} {x : Item} {k : Nat} (h : NoHit L x k) (hk : ¬ L[k]? = some x) : NoHit L x (k + 1) := fun j hj => by
  rcases Nat.lt_or_ge j k with h' | h'
  · exact h j h'
  · obtain rfl : j = k := by omega
    exact hk
theorem NoHit.end_ {L : List Item} {x : Item} (h : NoHit L x L.length) : x ∉ L := fun hm => by
  obtain ⟨j, hj, e⟩ := List.getElem_of_mem hm
  exact h j hj (by rw [List.getElem?_eq_getElem hj, e])
theorem NoHit.tag {L : List Item} {x : Item} {k : Nat} (h : NoHit L x k) (hk : L[k]? = some x) : tagL L x = k + 1 := by
  unfold tagL
  have hl := (List.getElem?_eq_some_iff.1 hk).1
  have hm : x ∈ L := List.mem_of_getElem? hk
  have h1 := List.idxOf_lt_length_of_mem hm
  have h2 : L[L.idxOf x]? = some x := by rw [List.getElem?_eq_getElem h1, List.getElem_idxOf]
  rcases Nat.lt_trichotomy (L.idxOf x) k with h3 | h3 | h3
  · exact absurd h2 (h _ h3)
  · rw [h3]
  · exfalso
    have : ∀ (L : List Item) (k : Nat), L[k]? = some x → L.idxOf x ≤ k := by
      intro L
      induction L with
      | nil => intro k hk; simp at hk
      | cons y L ih =>
        intro k hk
        rw [List.idxOf_cons]
        by_cases e : y = x
        · simp [e]
        · cases k with
          | zero => simp at hk; exact absurd hk e
          | succ k =>
            have := ih k (by simpa using hk)
            have e2 : (y == x) = false := by simpa using e
            rw [e2]
            simp
            omega
    have := this L k hk
    omega

set_option maxRecDepth 100000 in
set_option maxHeartbeats 2000000 in
theorem rmint_ok (rb : Nat) (S : Nat → Prop) (L : List Item) (p : Int) (A : Option Addr) (n c : Nat) (zs : List Int) (w : World) (h : RefN w S rb L) (hp : 1 ≤ p ∧ p ≤ 2147483647) (hL : L.length ≤ 1000000) (hnc : n ≤ c) (hc : c ≤ maxLen) (hb : Bts w A n zs) (hnil : A = none → n = 0 ∧ c = 0) (hn : n ≤ 1000000) :
    Calls Tryd.prog 25 #[.pointer (some ⟨rb, 0, none⟩), .int .i64 p, .slice A n c] w fun e w' => e = .returned (.tuple #[.int .u64 (tagL L (p, zs) : Nat), .int .i64 0]) ∧ RefN w' (fun k => S k ∨ w.heap.size ≤ k) rb (mintL L (p, zs)) ∧ Keeps S w w' := by
  have hrb := h.size
  obtain ⟨A1, c1, d0, _⟩ := h.form
  have H := Lib.hid h; have HB := Lib.hid hb; have HNIL := Lib.hid hnil; clear h hb hnil
  obtain ⟨hp1, hp2⟩ := hp
  unfold maxLen at hc
  go_enter Tryd.func25, Tryd.ntmps25
  go_wp2
  go_loopw [8] (fun i wr => ∃ (k q : Nat), k ≤ L.length ∧ i = .int .i64 k ∧ wr = w.drewN q ∧ NoHit L (p, zs) k) (fun i _ => L.length - (intOf i).toNat)
  case atStart => exact ⟨0, 0, by omega, rfl, rfl, NoHit.zero _ _⟩
  case round =>
    obtain ⟨k, q, hk, rfl, rfl, hN⟩ := hrel
    have HN := Lib.hid hN; clear hN
    by_cases h1 : k < L.length
    · obtain ⟨x, hx⟩ := item_or h1
      have HX := Lib.hid hx; clear hx
      have e1 : IntKind.u64.wrap ((k : Int) + 1) = (k : Int) + 1 := u64_in (by omega) (by omega)
      have HI := Lib.hid (is_any rb k S L x p A n c zs (w.drewN q) (H.out.drewN q) hL HX.out (HB.out.drewN q))
      cases hd : decide (x = (p, zs)) with
      | true =>
        have HE := Lib.hid (of_decide_eq_true hd)
        rw [hd] at HI
        clear hd
        have HT : Hid (tagL L (p, zs) = k + 1) := Lib.hid (HN.out.tag (by rw [HX.out, HE.out]))
        have HM : Hid (mintL L (p, zs) = L) := Lib.hid (by rw [mintL, if_pos (List.mem_of_getElem? (by rw [HX.out, HE.out] : L[k]? = some (p, zs)))])
        go_wp2_with fail
        refine HI.out.mono ?_
        rintro e w' ⟨rfl, q2, rfl⟩
        go_wp2
        go_ret2
        exact ⟨by rw [HT.out]; rfl, by rw [HM.out]; exact (H.out.drewN _).mono (fun _ h => .inl h), ⟨rfl, rfl, rfl, Nat.le_refl _, fun _ _ _ => rfl⟩⟩
      | false =>
        have HE := Lib.hid (of_decide_eq_false hd)
        rw [hd] at HI
        clear hd
        go_wp2_with fail
        refine HI.out.mono ?_
        rintro e w' ⟨rfl, q2, rfl⟩
        go_wp2
        go_roundw
        case rel => exact ⟨k + 1, q + q2, by omega, by go_num, rfl, HN.out.succ (fun h => HE.out (by rw [HX.out] at h; exact Option.some.inj h))⟩
        case measure => simp [intOf]; omega
    · obtain rfl : k = L.length := by omega
      have HNM := Lib.hid HN.out.end_
      obtain ⟨v, xs, h1, h2, h3, h4, h5⟩ := H.out
      have H1 := Lib.hid h1; have H2 := Lib.hid h2; have H3 := Lib.hid h3; have H4 := Lib.hid h4; have H5 := Lib.hid h5
      obtain rfl : .slice A1 L.length c1 = v := by
        have := (ncells_of h3 0).1
        rw [d0] at this
        simpa using this
      have H1 := Lib.hid h1; have H2 := Lib.hid h2; have H3 := Lib.hid h3; have H4 := Lib.hid h4; have H5 := Lib.hid h5
      clear h1 h2 h3 h4 h5
      go_wp2
      have dA : ((w.drewN (q + 1)).alloc (.cells #[] 5)).cell? ⟨rb, 0, none⟩ = some (.slice A1 L.length c1) := (World.cell?_of_block (w := w) (a := ⟨rb, 0, none⟩) (Below.heap_alloc (w.drewN (q + 1)) _ rb hrb)).trans d0
      go_region_law (first
        | (refine step_bytes rfl (.tmp 38) (.tmp 39) rfl (g := w.heap.size) (W := w.drewN (q + 1)) rfl rfl rfl (HB.out.drewN _) HNIL.out (by omega) ?_; intro Au cu w2 hu2 hold2 hos2 hsz2; have hrb2 : rb < w2.heap.size := (by omega); have c2 : w2.cell? ⟨rb, 0, none⟩ = some (.slice A1 L.length c1) := (World.cell?_of_block (w := w) (a := ⟨rb, 0, none⟩) (hold2 rb hrb)).trans d0; have HU2 := Lib.hid hu2; have HOLD2 : Hid (∀ k, k < w.heap.size → w2.heap[k]? = w.heap[k]?) := Lib.hid hold2; have HOS2 : Hid (w2.os = w.os ∧ w2.tape = w.tape ∧ w2.output = w.output) := Lib.hid hos2; have HSZ2 : Hid (w.heap.size < w2.heap.size) := Lib.hid hsz2; clear hu2 hold2 hos2)
        | (refine step_ref rfl (.tmp 36) (.tmp 42) rfl (k := L.length) (xs := xs) (g := w2.heap.size) (p := p) (u := .slice Au n cu) (v := .slice A1 L.length c1) rfl (own_keep H4.out (fun g hg hl => (Below.heap_alloc _ _ _ (by have := HSZ2.out; omega)).trans (HOLD2.out g hl))) rfl (by go_simp) (by go_simp) rfl hL ?_; intro v3 w3 ho3 hg3 hl3; obtain ⟨g3, d3, rfl⟩ := own_slice2 ho3; have hn3 := rmint_mid H3.out H4.out HOLD2.out HSZ2.out hg3; have c3 := (ncells_of hn3 0).1; have f3 := (ncells_of hn3 0).2; simp at c3; have HO3 := Lib.hid ho3; have HG3 := Lib.hid hg3; have HL3 := Lib.hid hl3; clear ho3 hg3 hl3 hn3))
      all_goals
        have HEND := Lib.hid (rmint_end HB.out.bd H1.out H2.out H3.out H4.out H5.out HU2.out HOLD2.out HOS2.out HSZ2.out HO3.out HG3.out HL3.out)
        obtain ⟨w4, hw4⟩ : ∃ w4, w3.setCell ⟨rb, 0, none⟩ (.slice (some ⟨g3, 0, none⟩) (L.length + 1) d3) = w4 := ⟨_, rfl⟩
        rw [hw4] at HEND ⊢
        clear hw4
        obtain ⟨A4, c4, d4, _⟩ := HEND.out.1.form
        have d4' : w4.cell? ⟨rb, 0, none⟩ = some (.slice A4 (L.length + 1) c4) := by simpa using d4
        have hrb4 : rb < w4.heap.size := HEND.out.1.size
        have e1 : IntKind.u64.wrap ((L.length : Int) + 1) = (L.length : Int) + 1 := u64_in (by omega) (by omega)
        clear d4 d0 c2 c3 f3 dA
        go_wp2
        go_ret2
        exact ⟨by rw [tagL_new HNM.out]; rfl, by rw [mintL, if_neg HNM.out]; exact HEND.out.1, HEND.out.2⟩

end Go.Proofs.YtdiilgedicfekaaDoor
namespace Go.Proofs.YtdiilgedicfekaaDoor
open Go.RowKit Go.Maps
set_option linter.unusedVariables false
set_option maxRecDepth 100000

/-- block nb is a notary for L1, block rb the document's notary for L2; they share nothing, and lie from block Z on -/
def Pair (w : World) (Z nb rb : Nat) (L1 L2 : List Item) : Prop :=
  ∃ S1 S2 : Nat → Prop, (∀ b, S1 b → Z ≤ b ∧ b < w.heap.size) ∧ (∀ b, S2 b → Z ≤ b ∧ b < w.heap.size) ∧ (∀ b, S1 b → ¬ S2 b) ∧ Nota w S1 nb L1 ∧ RefN w S2 rb L2
theorem Pair.kept {w w' : World} {Z nb rb : Nat} {L1 L2 : List Item} (h : Pair w Z nb rb L1 L2) (hb : Below w.heap.size w w') : Pair w' Z nb rb L1 L2 := by
  obtain ⟨S1, S2, h1, h2, h3, h4, h5⟩ := h
  have := hb.size
  exact ⟨S1, S2, fun b hs => ⟨(h1 b hs).1, by have := (h1 b hs).2; omega⟩, fun b hs => ⟨(h2 b hs).1, by have := (h2 b hs).2; omega⟩, h3, h4.kept (fun k hk _ => hb.block k hk), h5.kept (fun k hk _ => hb.block k hk)⟩
theorem Pair.drewN {w : World} {Z nb rb : Nat} {L1 L2 : List Item} (h : Pair w Z nb rb L1 L2) (q : Nat) : Pair (w.drewN q) Z nb rb L1 L2 := h.kept (below_drewN' (Below.refl _ _) _)
theorem Pair.alloc {w : World} {Z nb rb : Nat} {L1 L2 : List Item} (h : Pair w Z nb rb L1 L2) (o : Obj) : Pair (w.alloc o) Z nb rb L1 L2 := h.kept ((Below.refl _ _).alloc (Nat.le_refl _) _)
/-- .. and block X is none of theirs -/
def PairX (w : World) (Z X nb rb : Nat) (L1 L2 : List Item) : Prop :=
  ∃ S1 S2 : Nat → Prop, (∀ b, S1 b → Z ≤ b ∧ b < w.heap.size) ∧ (∀ b, S2 b → Z ≤ b ∧ b < w.heap.size) ∧ (∀ b, S1 b → ¬ S2 b) ∧ (¬ S1 X ∧ ¬ S2 X ∧ X < w.heap.size) ∧ Nota w S1 nb L1 ∧ RefN w S2 rb L2
theorem PairX.pair {w : World} {Z X nb rb : Nat} {L1 L2 : List Item} (h : PairX w Z X nb rb L1 L2) : Pair w Z nb rb L1 L2 := by
  obtain ⟨S1, S2, h1, h2, h3, _, h4, h5⟩ := h
  exact ⟨S1, S2, h1, h2, h3, h4, h5⟩
theorem Pair.box {w : World} {Z nb rb : Nat} {L1 L2 : List Item} (h : Pair w Z nb rb L1 L2) (o : Obj) : PairX (w.alloc o) Z w.heap.size nb rb L1 L2 := by
  obtain ⟨S1, S2, h1, h2, h3, h4, h5⟩ := h
  exact ⟨S1, S2, fun b hs => ⟨(h1 b hs).1, by have := (h1 b hs).2; simp; omega⟩, fun b hs => ⟨(h2 b hs).1, by have := (h2 b hs).2; simp; omega⟩, h3, ⟨fun hs => by have := (h1 _ hs).2; omega, fun hs => by have := (h2 _ hs).2; omega, by simp⟩, h4.alloc o, h5.alloc o⟩

/-- what a Mint answers and leaves: the tag, the code, the entries -/
def mres (L : List Item) (x : Item) : Nat × Int × List Item := if 1 ≤ x.1 ∧ x.1 ≤ 2147483647 then (tagL L x, 0, mintL L x) else (0, 1, L)
theorem mres_len (L : List Item) (x : Item) : (mres L x).2.2.length ≤ L.length + 1 := by
  unfold mres
  split
  · exact mintL_len L x
  · exact Nat.le_succ _
theorem pair_mint (Z X nb rb : Nat) (L1 L2 : List Item) (p : Int) (A : Option Addr) (n c : Nat) (zs : List Int) (w : World) (h : PairX w Z X nb rb L1 L2) (hZ : Z ≤ w.heap.size) (hnc : n ≤ c) (hc : c ≤ maxLen) (hb : Bts w A n zs) (hL : L1.length ≤ 1000000) (t : Nat) (r : Int) (L' : List Item) (hm : mres L1 (p, zs) = (t, r, L')) :
    Calls Tryd.prog 24 #[.pointer (some ⟨nb, 0, none⟩), .int .i64 p, .slice A n c] w fun e w' => e = .returned (.tuple #[.int .u64 (t : Int), .int .i64 r]) ∧ PairX w' Z X nb rb L' L2 ∧ Below Z w w' ∧ w'.heap[X]? = w.heap[X]? := by
  unfold mres at hm
  obtain ⟨S1, S2, h1, h2, h3, hX, h4, h5⟩ := h
  by_cases hp : 1 ≤ p ∧ p ≤ 2147483647
  · rw [if_pos hp] at hm
    simp only [Prod.mk.injEq] at hm
    obtain ⟨rfl, rfl, rfl⟩ := hm
    have hcl := mint_any nb S1 L1 p A n c zs w h4 hp hnc hc hb hL
    refine hcl.mono fun e w' h' => ⟨h'.1, ?_⟩
    have hsz := h'.2.2.size
    refine ⟨⟨fun k => (S1 k ∨ w.heap.size ≤ k) ∧ k < w'.heap.size, S2, fun b hb => ⟨?_, hb.2⟩, fun b hb => ⟨(h2 b hb).1, by have := (h2 b hb).2; omega⟩, ?_, ⟨fun hs => ?_, hX.2.1, by omega⟩, h'.2.1.trim, h5.kept (fun k hk hs2 => h'.2.2.block k hk (fun hs1 => h3 k hs1 hs2))⟩, h'.2.2.below (fun k hk => (h1 k hk).1) hZ, h'.2.2.block X hX.2.2 hX.1⟩
    · rcases hb.1 with h | h
      · exact (h1 b h).1
      · omega
    · rintro b ⟨hb, _⟩ hb2
      rcases hb with h | h
      · exact h3 b h hb2
      · have := (h2 b hb2).2; omega
    · rcases hs.1 with h | h
      · exact hX.1 h
      · have := hX.2.2; omega
  · rw [if_neg hp] at hm
    simp only [Prod.mk.injEq] at hm
    obtain ⟨rfl, rfl, rfl⟩ := hm
    exact (mint_arg nb p A n c w hp).mono fun e w' h' => ⟨h'.1, h'.2 ▸ ⟨S1, S2, h1, h2, h3, hX, h4, h5⟩, h'.2 ▸ Below.refl _ _, h'.2 ▸ rfl⟩
theorem pair_rmint (Z X nb rb : Nat) (L1 L2 : List Item) (p : Int) (A : Option Addr) (n c : Nat) (zs : List Int) (w : World) (h : PairX w Z X nb rb L1 L2) (hZ : Z ≤ w.heap.size) (hnc : n ≤ c) (hc : c ≤ maxLen) (hb : Bts w A n zs) (hnil : A = none → n = 0 ∧ c = 0) (hn : n ≤ 1000000) (hL : L2.length ≤ 1000000) (t : Nat) (r : Int) (L' : List Item) (hm : mres L2 (p, zs) = (t, r, L')) :
    Calls Tryd.prog 25 #[.pointer (some ⟨rb, 0, none⟩), .int .i64 p, .slice A n c] w fun e w' => e = .returned (.tuple #[.int .u64 (t : Int), .int .i64 r]) ∧ PairX w' Z X nb rb L1 L' ∧ Below Z w w' ∧ w'.heap[X]? = w.heap[X]? := by
  unfold mres at hm
  by_cases hp : 1 ≤ p ∧ p ≤ 2147483647
  · rw [if_pos hp] at hm
    simp only [Prod.mk.injEq] at hm
    obtain ⟨rfl, rfl, rfl⟩ := hm
    obtain ⟨S1, S2, h1, h2, h3, hX, h4, h5⟩ := h
    refine (rmint_ok rb S2 L2 p A n c zs w h5 hp hL hnc hc hb hnil hn).mono fun e w' h' => ⟨h'.1, ?_⟩
    have hsz := h'.2.2.size
    refine ⟨⟨S1, fun k => (S2 k ∨ w.heap.size ≤ k) ∧ k < w'.heap.size, fun b hb => ⟨(h1 b hb).1, by have := (h1 b hb).2; omega⟩, fun b hb => ⟨?_, hb.2⟩, ?_, ⟨hX.1, fun hs => ?_, by omega⟩, h4.kept (fun k hk hs1 => h'.2.2.block k hk (fun hs2 => h3 k hs1 hs2)), h'.2.1.trim⟩, h'.2.2.below (fun k hk => (h2 k hk).1) hZ, h'.2.2.block X hX.2.2 hX.2.1⟩
    · rcases hb.1 with h | h
      · exact (h2 b h).1
      · omega
    · rintro b hb1 ⟨hb, _⟩
      rcases hb with h | h
      · exact h3 b hb1 h
      · have := (h1 b hb1).2; omega
    · rcases hs.1 with h | h
      · exact hX.2.1 h
      · have := hX.2.2; omega
  · rw [if_neg hp] at hm
    simp only [Prod.mk.injEq] at hm
    obtain ⟨rfl, rfl, rfl⟩ := hm
    exact (rmint_arg rb p A n c w hp).mono fun e w' h' => ⟨h'.1, h'.2 ▸ h, h'.2 ▸ Below.refl _ _, h'.2 ▸ rfl⟩
theorem pair_check (Z nb rb : Nat) (L1 L2 : List Item) (p : Int) (A : Option Addr) (n c T : Nat) (zs : List Int) (r : Int) (w : World) (h : Pair w Z nb rb L1 L2) (hL : L1.length ≤ 1000000) (hb : Bts w A n zs) (hT : T < 18446744073709551616) (hr : checkL L1 (p, zs) T = r) :
    Calls Tryd.prog 41 #[.pointer (some ⟨nb, 0, none⟩), .int .i64 p, .slice A n c, .int .u64 (T : Int)] w fun e w' => e = .returned (.int .i64 r) ∧ ∃ q, w' = w.drewN q := by
  subst hr
  obtain ⟨S1, S2, h1, h2, h3, h4, h5⟩ := h
  exact check_any nb S1 L1 p A n c T zs w h4 hL hb hT
theorem pair_rcheck (Z nb rb : Nat) (L1 L2 : List Item) (p : Int) (A : Option Addr) (n c T : Nat) (zs : List Int) (r : Int) (w : World) (h : Pair w Z nb rb L1 L2) (hL : L2.length ≤ 1000000) (hb : Bts w A n zs) (hT : T < 18446744073709551616) (hr : checkL L2 (p, zs) T = r) :
    Calls Tryd.prog 43 #[.pointer (some ⟨rb, 0, none⟩), .int .i64 p, .slice A n c, .int .u64 (T : Int)] w fun e w' => e = .returned (.int .i64 r) ∧ ∃ q, w' = w.drewN q := by
  subst hr
  obtain ⟨S1, S2, h1, h2, h3, h4, h5⟩ := h
  exact rcheck_any rb S2 L2 p A n c T zs w h5 hL hb hT
theorem pair_count (Z nb rb : Nat) (L1 L2 : List Item) (w : World) (h : Pair w Z nb rb L1 L2) (hL : L1.length ≤ 1000000) : Calls Tryd.prog 27 #[.pointer (some ⟨nb, 0, none⟩)] w fun e w' => e = .returned (.int .i64 (L1.length : Nat)) ∧ w' = w := by
  obtain ⟨S1, S2, h1, h2, h3, h4, h5⟩ := h
  exact (count_any nb S1 L1 w h4 hL).mono fun e w' h' => ⟨h'.1, h'.2.symm⟩
theorem Pair.form {w : World} {Z nb rb : Nat} {L1 L2 : List Item} (h : Pair w Z nb rb L1 L2) : rb < w.heap.size ∧ ∃ A c, w.cell? ⟨rb, 0, none⟩ = some (.slice A L2.length c) := by
  obtain ⟨S1, S2, h1, h2, h3, h4, h5⟩ := h
  obtain ⟨A, c, hc, _⟩ := h5.form
  exact ⟨h5.size, A, c, hc⟩
theorem Pair.start {w : World} {Z nb : Nat} (h : Nota w (Z ≤ ·) nb []) (hZ : Z ≤ w.heap.size) : Pair (w.alloc (.cells #[.slice none 0 0] 39)) Z nb w.heap.size [] [] := by
  have ht := h.trim
  refine ⟨fun k => Z ≤ k ∧ k < w.heap.size, fun k => k = w.heap.size, fun b hb => ⟨hb.1, by simp; omega⟩, fun b hb => ⟨by omega, by simp; omega⟩, fun b hb e => by omega, ht.alloc _, ⟨.slice none 0 0, [], rfl, by simp [Value.ownBlock], (MapKept.heap_alloc w _).1, World.ownsRow_nil _ _ _ _, by simp⟩⟩

end Go.Proofs.YtdiilgedicfekaaDoor
namespace Go.Proofs.YtdiilgedicfekaaDoor
open Go.RowKit
set_option linter.unusedVariables false
set_option maxRecDepth 100000

/-- these blocks are as they were; so is, of what was laid from B on, whatever is no cells, and where t says so all -/
structure Kept (gs : List Nat) (t : Bool) (B : Nat) (W W' : World) : Prop where
  size : W.heap.size ≤ W'.heap.size
  same : ∀ g ∈ gs, W'.heap[g]? = W.heap[g]?
  new : ∀ k o, B ≤ k → W.heap[k]? = some o → (t = true ∨ o.isCells = false) → W'.heap[k]? = some o
theorem Kept.refl (gs : List Nat) (t : Bool) (B : Nat) (W : World) : Kept gs t B W W := ⟨Nat.le_refl _, fun _ _ => rfl, fun _ _ _ h _ => h⟩
theorem Kept.trans {gs : List Nat} {t : Bool} {B : Nat} {X Y Z : World} (h : Kept gs t B X Y) (k : Kept gs t B Y Z) : Kept gs t B X Z :=
  ⟨Nat.le_trans h.size k.size, fun g hg => (k.same g hg).trans (h.same g hg), fun i o h1 h2 h3 => k.new i o h1 (h.new i o h1 h2 h3) h3⟩
theorem Kept.mono {gs : List Nat} {t : Bool} {B B' : Nat} {X Y : World} (h : Kept gs t B X Y) (hB : B ≤ B') : Kept gs t B' X Y := ⟨h.size, h.same, fun k o h1 h2 h3 => h.new k o (Nat.le_trans hB h1) h2 h3⟩
theorem Kept.weak {gs gs' : List Nat} {t : Bool} {B : Nat} {X Y : World} (h : Kept gs t B X Y) (hg : ∀ g ∈ gs', g ∈ gs) : Kept gs' false B X Y := ⟨h.size, fun g hm => h.same g (hg g hm), fun k o h1 h2 h3 => h.new k o h1 h2 (.inr (h3.resolve_left (by simp)))⟩
theorem Kept.from {gs : List Nat} {t : Bool} {B : Nat} {X Y : World} (h : Kept gs t B X Y) : KeepsFrom B X Y := ⟨h.size, fun k o hB hk ho => h.new k o hB hk (.inr ho)⟩
/-- .. where one block at most was turned -/
theorem Kept.grown {gs : List Nat} {t : Bool} {B : Nat} {X Y : World} {row : Option Nat} (h : X.grownBy Y row) (hgs : ∀ g ∈ gs, g < X.heap.size) (hr : ∀ r, row = some r → r ∉ gs ∧ (r < B ∨ (t = false ∧ ∃ o, X.heap[r]? = some o ∧ o.isCells = true))) : Kept gs t B X Y :=
  ⟨h.size, fun g hg => h.block g (hgs g hg) (fun e => (hr g e.symm).1 hg), fun k o h1 h2 h3 => (h.block k (Array.getElem?_eq_some_iff.1 h2).1 (fun e => by
    rcases (hr k e.symm).2 with h | ⟨h4, o', h5, h6⟩
    · omega
    · rw [h2] at h5; cases h5
      rcases h3 with h3 | h3
      · rw [h4] at h3; cases h3
      · rw [h6] at h3; cases h3)).trans h2⟩

/-- what is said of what has come so far, and of the world -/
abbrev Tale (α : Type) := List α → World → Prop
/-- what a round leaves behind the items zs: it goes on, or has said 'no more' -/
def Said {α : Type} (gs : List Nat) (t : Bool) (B : Nat) (V : World) (J Jx : Tale α) (zs : List α) : Ending → World → Prop := fun e V' =>
  Kept gs t B V V' ∧ ((e = .returned (.bool true) ∧ J zs V') ∨ (e = .returned (.bool false) ∧ Jx zs V'))
/-- what the iterator leaves: all have come, or some, and then no more was asked for -/
def Came {α : Type} (S Sp : List α → World → Prop) (J Jx : Tale α) : Ending → World → Prop := fun e V =>
  (∃ r, e = .returned r) ∧ ((∃ zs, S zs V ∧ J zs V) ∨ (∃ zs, Sp zs V ∧ Jx zs V))
/-- what is said is kept by turns of these blocks (the iterator's own cells) -/
def Turns {α : Type} (ms : List Nat) (J : Tale α) : Prop := ∀ zs A B g, g ∈ ms → J zs A → A.grownBy B (some g) → J zs B
/-- what an iterator that hands over what 'Ok' says, at each yield, has promised -/
def Tells {α : Type} (F : Fence) (n : Nat) (P : Program) (f : Nat) (own : Array Value) (enc : α → Array Value) (Ok : List α → α → World → Prop) (gs ms : List Nat) (t : Bool) (S Sp : List α → World → Prop) (V0 : World) : Prop :=
  ∀ (l : Nat) (J Jx : Tale α) (V : World), Below V0.heap.size V0 V → (OwnFrom V.heap.size J ∧ OwnFrom V.heap.size Jx) ∧ Turns ms J → J [] V →
    (∀ zs z V1, J zs V1 → Ok zs z V1 → YieldAt F (n - 1) P l (enc z) V1 (Said gs t V.heap.size V1 J Jx (zs ++ [z]))) →
    CallsIn F n P f (#[.func (.yield l) #[] #[]] ++ own) V (Came S Sp J Jx)
/-- an iterator at hand: a function of the program, entered as any, that tells -/
structure Told {α : Type} (F : Fence) (n : Nat) (P : Program) (f : Nat) (own : Array Value) (enc : α → Array Value) (Ok : List α → α → World → Prop) (gs ms : List Nat) (t : Bool) (S Sp : List α → World → Prop) (V0 : World) : Prop where
  free : F.round = none
  room : 1 ≤ n
  inside : F.fn f
  enters : ∀ vs V, (callFunc f vs).run P V = .ok (.enter f vs) V
  tells : Tells F (n - 1) P f own enc Ok gs ms t S Sp V0

/-- how a body of such a loop may be left -/
def Left {α : Type} (B : Nat) (gs : List Nat) (t : Bool) (I : Tale α) (Ix : Code → Tale α) (zs : List α) (V : World) (e : Exit) (_ : Act) (V' : World) : Prop :=
  Kept gs t B V V' ∧ match e with
    | .normal => I zs V'
    | .ret => Ix .ret zs V'
    | .exit id => Ix (.exit id) zs V'
    | .goto b => Ix (.goto b) zs V'
    | _ => False
/-- what is said is kept by turns of what is no cells and was laid since -/
structure Lasts {α : Type} (B : Nat) (ms : List Nat) (I : Tale α) (Ix : Code → Tale α) (Ok : List α → α → World → Prop) : Prop where
  on : OwnFrom B I
  onm : Turns ms I
  off : ∀ c, OwnFrom B (Ix c)
  ok : ∀ zs z, OwnFrom B (fun (_ : Unit) V => Ok zs z V)
/-- the assignment at a round's head -/
def Lays {α : Type} (F : Fence) (n : Nat) (P : Program) (ps : Array Tmp) (assign : Code) (enc : α → Array Value) (a : Act) (a₁ : α → Act) : Prop :=
  ∀ l z V K, K (a₁ z) V → assign.wpIn (F.inRound l) n P (Exit.then K fun _ _ _ => False) { tmps := (ps.zip (enc z)).foldl (fun t (p, v) => t.setIfInBounds p v) a.tmps, defers := [] } V
/-- a round's body -/
def Goes {α : Type} (F : Fence) (n : Nat) (P : Program) (body : Code) (B : Nat) (gs : List Nat) (t : Bool) (I : Tale α) (Ix : Code → Tale α) (Ok : List α → α → World → Prop) (a₁ : α → Act) : Prop :=
  ∀ l zs z V, B < V.heap.size → I zs V → Ok zs z V → body.wpIn (F.inRound l) n P (Left B gs t I Ix (zs ++ [z]) V) (a₁ z) V
/-- behind the loop, block D holds what was put off in its rounds: nothing -/
def Ends {α : Type} (B : Nat) (a : Act) (S : List α → World → Prop) (I : Tale α) (go : Act → World → Prop) : Prop :=
  ∀ D zs V, B ≤ D → S zs V → I zs V → V.heap[D]? = some (.deferred (some [])) → go { a with defers := { target := .collected D, args := #[] } :: a.defers } V
def Stops {α : Type} (B : Nat) (a : Act) (Sp : List α → World → Prop) (Ix : Code → Tale α) (go : Code → Act → World → Prop) : Prop :=
  ∀ D c zs V, B ≤ D → Sp zs V → Ix c zs V → V.heap[D]? = some (.deferred (some [])) → go c { a with defers := { target := .collected D, args := #[] } :: a.defers } V

variable {F : Fence} {n : Nat} {P : Program}

/-- a range over an iterator that tells (the steps of the machine by the library's own equations, as its laws for such a loop take them) -/
theorem range_told {α : Type} {f : Nat} {own : Array Value} {enc : α → Array Value} {Ok : List α → α → World → Prop} {gs ms : List Nat} {t : Bool} {S Sp : List α → World → Prop} {V0 : World} (it : Told F n P f own enc Ok gs ms t S Sp V0)
    {g : Operand} {ps : Array Tmp} {assign body : Code} {Q : Exit → Act → World → Prop} {a : Act} {w : World} (hg : a.eval g = .func (.func f) #[] own) (hb0 : Below V0.heap.size V0 w) (hgs : ∀ g ∈ gs, g < w.heap.size) (hms : ∀ g ∈ ms, g < w.heap.size) (hps : ∀ z, (enc z).size = ps.size) (hSO : ∀ zs, OwnFrom w.heap.size (fun (_ : Unit) V => S zs V)) (hSpO : ∀ zs, OwnFrom w.heap.size (fun (_ : Unit) V => Sp zs V))
    (I : Tale α) (Ix : Code → Tale α) (hl : Lasts w.heap.size ms I Ix Ok) (h0 : I [] w) (a₁ : α → Act) (hassign : Lays F (n - 1 - 1) P ps assign enc a a₁) (hbody : Goes F (n - 1 - 1) P body w.heap.size gs t I Ix Ok a₁)
    (hdone : Ends w.heap.size a S I fun b V => Q .normal b V) (hstop : Stops w.heap.size a Sp Ix fun c b V => c.wpIn F n P Q b V) :
    (Code.rangeFunc g ps assign body).wpIn F n P Q a w := by
  obtain ⟨hro, h1, hFg, eg, hseq⟩ := it
  obtain ⟨hI, hIm, hIx, hOk⟩ := hl
  refine wpIn_rangeFunc fun fn hfn => ?_
  rw [hro]
  let R : LoopState → Option Code → Loop := fun st pe => { state := st, pending := pe, fn, tmps := a.tmps, params := ps, assign, body, defers := w.heap.size }
  -- the two blocks, and what is said of them
  let D := w.heap.size
  let two (st : LoopState) (pe : Option Code) (W : World) : Prop := W.heap[D + 1]? = some (.loop (R st pe)) ∧ W.heap[D]? = some (.deferred (some []))
  let W1 := (w.alloc (.deferred (some []))).alloc (.loop (R .ready none))
  have sz1 : W1.heap.size = D + 2 := by simp [W1, D]
  have two1 : two .ready none W1 := by
    refine ⟨?_, (Below.heap_alloc _ _ _ (by simp [D])).trans (World.alloc_heap_new w _)⟩
    have := World.alloc_heap_new (w.alloc (.deferred (some []))) (.loop (R .ready none))
    rwa [World.size_alloc] at this
  have keepTwo : ∀ {st pe W W' row}, two st pe W → W.grownBy W' row → (∀ r, row = some r → D + 2 ≤ r) → two st pe W' := fun {st pe W W' row} h hg hr =>
    ⟨(hg.block _ (Array.getElem?_eq_some_iff.1 h.1).1 (fun e => by have := hr _ e.symm; omega)).trans h.1, (hg.block _ (Array.getElem?_eq_some_iff.1 h.2).1 (fun e => by have := hr _ e.symm; omega)).trans h.2⟩
  -- a turn of the record
  have turn : ∀ {st pe W} (st' pe'), two st pe W → two st' pe' (W.putObj (D + 1) (.loop (R st' pe'))) := fun {st pe W} st' pe' h =>
    ⟨World.putObj_heap_same (Array.getElem?_eq_some_iff.1 h.1).1, (World.putObj_heap_other (by omega)).trans h.2⟩
  have keptTurn : ∀ (W : World) (o : Obj), Kept gs t (D + 2) W (W.putObj (D + 1) o) := fun W o =>
    ⟨(grownBy_putObj' W (D + 1) o).size, fun g hg => World.putObj_heap_other (by have := hgs g hg; simp only [D]; omega), fun k o' h1 h2 _ => (World.putObj_heap_other (by omega)).trans h2⟩
  refine ⟨D + 1, [{ target := .collected D, args := #[] }], W1, { target := .fn (.func f) own, args := #[.func (.yield (D + 1)) #[] #[]] }, W1, f,
    #[.func (.yield (D + 1)) #[] #[]] ++ own, W1, run_enterLoop_outer _ _ _ _ _, by simp only [resolve, hg]; simp [go_sem], ?_, by simp [invoke, go_sem, eg], fun _ => h1, ?_⟩
  · intro f' hf'; simp [Target.leads] at hf'; subst hf'; exact hFg
  refine (hseq (D + 1) (fun pre W => I pre W ∧ two .ready none W) (fun pre W => ∃ c, Ix c pre W ∧ two .done (some c) W) W1 ?_ ⟨⟨?_, ?_⟩, ?_⟩ ?_ ?_).mono ?_
  · exact hb0.trans ((((Below.refl _ w).alloc (Nat.le_refl _) _).alloc (by simp) _).mono hb0.size)
  · exact fun s A B row hs hgr hr => ⟨hI s A B row hs.1 hgr (fun r e => ⟨by have := (hr r e).1; simp only [D] at *; omega, (hr r e).2⟩), keepTwo hs.2 hgr (fun r e => by have := (hr r e).1; omega)⟩
  · rintro s A B row ⟨c, hc, h2⟩ hgr hr
    exact ⟨c, hIx c s A B row hc hgr (fun r e => ⟨by have := (hr r e).1; simp only [D] at *; omega, (hr r e).2⟩), keepTwo h2 hgr (fun r e => by have := (hr r e).1; omega)⟩
  · exact fun zs A B g hg hs hgr => ⟨hIm zs A B g hg hs.1 hgr, (hgr.block _ (Array.getElem?_eq_some_iff.1 hs.2.1).1 (fun e => by have := hms g hg; simp only [Option.some.injEq] at e; omega)).trans hs.2.1,
      (hgr.block _ (Array.getElem?_eq_some_iff.1 hs.2.2).1 (fun e => by have := hms g hg; simp only [Option.some.injEq] at e; omega)).trans hs.2.2⟩
  · exact ⟨hI.alloc _ (hI.alloc _ h0), two1⟩
  · -- one round
    rintro pre x W ⟨hi, h2⟩ hok
    refine ⟨fn, _, assign, body, run_yield (P := P) (args := enc x) h2.1 (hps x), roundIn_of_wpIn hfn (hassign _ x W _ ⟨_, run_beginRound h2.1 rfl, ?_⟩)⟩
    have hb2 := turn .busy none h2
    have hput : ∀ {W : World} {st pe} (_ : two st pe W), ∃ o, W.heap[D + 1]? = some o ∧ o.isCells = false := fun h => ⟨_, h.1, rfl⟩
    have hlt : w.heap.size < W.heap.size := by have := (Array.getElem?_eq_some_iff.1 h2.1).1; simp only [D] at this; omega
    refine wpIn_mono (hbody _ pre x _ (Nat.lt_of_lt_of_le hlt (grownBy_putObj' W (D + 1) _).size) (hI.putObj _ hi (Nat.le_succ _) h2.1 rfl) ((hOk pre x).putObj (s := ()) _ hok (Nat.le_succ _) h2.1 rfl)) ?_
    have after : ∀ {W3 : World}, Kept gs t w.heap.size (W.putObj (D + 1) (.loop (R .busy none))) W3 → two .busy none W3 := fun {W3} hk =>
      ⟨hk.new _ _ (Nat.le_succ _) hb2.1 (.inr rfl), hk.new _ _ (Nat.le_refl _) hb2.2 (.inr rfl)⟩
    have all : ∀ {W3 : World} (o : Obj), Kept gs t w.heap.size (W.putObj (D + 1) (.loop (R .busy none))) W3 → Kept gs t W1.heap.size W (W3.putObj (D + 1) o) := fun {W3} o hk => by
      rw [sz1]
      exact (keptTurn W _).trans ((hk.mono (by simp only [D]; omega)).trans (keptTurn W3 o))
    rintro e a3 W3 hp
    cases e with
    | normal =>
      have h3 := after hp.1
      exact ⟨_, _, run_endRound (P := P) none h3.1, all _ hp.1, .inl ⟨rfl, hI.putObj _ hp.2 (Nat.le_succ _) h3.1 rfl, turn .ready none h3⟩⟩
    | ret =>
      have h3 := after hp.1
      exact ⟨_, _, run_endRound (P := P) (some .ret) h3.1, all _ hp.1, .inr ⟨rfl, .ret, (hIx _).putObj _ hp.2 (Nat.le_succ _) h3.1 rfl, turn .done _ h3⟩⟩
    | exit id =>
      have h3 := after hp.1
      exact ⟨_, _, run_endRound (P := P) (some (.exit id)) h3.1, all _ hp.1, .inr ⟨rfl, .exit id, (hIx _).putObj _ hp.2 (Nat.le_succ _) h3.1 rfl, turn .done _ h3⟩⟩
    | goto b =>
      have h3 := after hp.1
      exact ⟨_, _, run_endRound (P := P) (some (.goto b)) h3.1, all _ hp.1, .inr ⟨rfl, .goto b, (hIx _).putObj _ hp.2 (Nat.le_succ _) h3.1 rfl, turn .done _ h3⟩⟩
    | panic ch => exact hp.2.elim
    | outgrown => exact hp.2.elim
  · rintro e W2 ⟨⟨v, rfl⟩, (⟨xs, hS, hi, h2⟩ | ⟨pre, hSp, c, hi, h2⟩)⟩
    · exact ⟨none, _, run_endLoop (P := P) h2.1 (by simp [R]), hdone _ xs _ (Nat.le_refl _) ((hSO xs).putObj (s := ()) _ hS (Nat.le_succ _) h2.1 rfl) (hI.putObj _ hi (Nat.le_succ _) h2.1 rfl) ((World.putObj_heap_other (by omega)).trans h2.2)⟩
    · exact ⟨some c, _, run_endLoop (P := P) h2.1 (by simp [R]), hstop _ c pre _ (Nat.le_refl _) ((hSpO pre).putObj (s := ()) _ hSp (Nat.le_succ _) h2.1 rfl) ((hIx c).putObj _ hi (Nat.le_succ _) h2.1 rfl) ((World.putObj_heap_other (by omega)).trans h2.2)⟩

/-- the assignment at a round's head that lays the item in a cell of its own -/
def Lays2 {α : Type} (F : Fence) (n : Nat) (P : Program) (ps : Array Tmp) (assign : Code) (enc : α → Array Value) (a : Act) (a₁ : α → Nat → Act) (al : α → Obj) : Prop :=
  ∀ l z V g K, V.heap.size = g → K (a₁ z g) (V.alloc (al z)) → assign.wpIn (F.inRound l) n P (Exit.then K fun _ _ _ => False) { tmps := (ps.zip (enc z)).foldl (fun t (p, v) => t.setIfInBounds p v) a.tmps, defers := [] } V
/-- a round's body behind it -/
def Goes2 {α : Type} (F : Fence) (n : Nat) (P : Program) (body : Code) (B : Nat) (gs : List Nat) (t : Bool) (I : Tale α) (Ix : Code → Tale α) (Ok : List α → α → World → Prop) (a₁ : α → Nat → Act) (al : α → Obj) : Prop :=
  ∀ l zs z V g, B < g → V.heap.size = g + 1 → V.heap[g]? = some (al z) → I zs V → Ok zs z V → body.wpIn (F.inRound l) n P (Left B gs t I Ix (zs ++ [z]) V) (a₁ z g) V
/-- .. where each round's assignment lays the item in a cell of its own (the steps of the machine by the library's own equations, as its laws for such a loop take them) -/
theorem range_told2 {α : Type} {f : Nat} {own : Array Value} {enc : α → Array Value} {Ok : List α → α → World → Prop} {gs ms : List Nat} {t : Bool} {S Sp : List α → World → Prop} {V0 : World} (it : Told F n P f own enc Ok gs ms t S Sp V0)
    {g : Operand} {ps : Array Tmp} {assign body : Code} {Q : Exit → Act → World → Prop} {a : Act} {w : World} (hg : a.eval g = .func (.func f) #[] own) (hb0 : Below V0.heap.size V0 w) (hgs : ∀ g ∈ gs, g < w.heap.size) (hms : ∀ g ∈ ms, g < w.heap.size) (hps : ∀ z, (enc z).size = ps.size) (hSO : ∀ zs, OwnFrom w.heap.size (fun (_ : Unit) V => S zs V)) (hSpO : ∀ zs, OwnFrom w.heap.size (fun (_ : Unit) V => Sp zs V))
    (I : Tale α) (Ix : Code → Tale α) (hl : Lasts w.heap.size ms I Ix Ok) (h0 : I [] w) (a₁ : α → Nat → Act) (al : α → Obj) (hassign : Lays2 F (n - 1 - 1) P ps assign enc a a₁ al) (hbody : Goes2 F (n - 1 - 1) P body w.heap.size gs t I Ix Ok a₁ al)
    (hdone : Ends w.heap.size a S I fun b V => Q .normal b V) (hstop : Stops w.heap.size a Sp Ix fun c b V => c.wpIn F n P Q b V) :
    (Code.rangeFunc g ps assign body).wpIn F n P Q a w := by
  obtain ⟨hro, h1, hFg, eg, hseq⟩ := it
  obtain ⟨hI, hIm, hIx, hOk⟩ := hl
  refine wpIn_rangeFunc fun fn hfn => ?_
  rw [hro]
  let R : LoopState → Option Code → Loop := fun st pe => { state := st, pending := pe, fn, tmps := a.tmps, params := ps, assign, body, defers := w.heap.size }
  -- the two blocks, and what is said of them
  let D := w.heap.size
  let two (st : LoopState) (pe : Option Code) (W : World) : Prop := W.heap[D + 1]? = some (.loop (R st pe)) ∧ W.heap[D]? = some (.deferred (some []))
  let W1 := (w.alloc (.deferred (some []))).alloc (.loop (R .ready none))
  have sz1 : W1.heap.size = D + 2 := by simp [W1, D]
  have two1 : two .ready none W1 := by
    refine ⟨?_, (Below.heap_alloc _ _ _ (by simp [D])).trans (World.alloc_heap_new w _)⟩
    have := World.alloc_heap_new (w.alloc (.deferred (some []))) (.loop (R .ready none))
    rwa [World.size_alloc] at this
  have keepTwo : ∀ {st pe W W' row}, two st pe W → W.grownBy W' row → (∀ r, row = some r → D + 2 ≤ r) → two st pe W' := fun {st pe W W' row} h hg hr =>
    ⟨(hg.block _ (Array.getElem?_eq_some_iff.1 h.1).1 (fun e => by have := hr _ e.symm; omega)).trans h.1, (hg.block _ (Array.getElem?_eq_some_iff.1 h.2).1 (fun e => by have := hr _ e.symm; omega)).trans h.2⟩
  -- a turn of the record
  have turn : ∀ {st pe W} (st' pe'), two st pe W → two st' pe' (W.putObj (D + 1) (.loop (R st' pe'))) := fun {st pe W} st' pe' h =>
    ⟨World.putObj_heap_same (Array.getElem?_eq_some_iff.1 h.1).1, (World.putObj_heap_other (by omega)).trans h.2⟩
  have keptTurn : ∀ (W : World) (o : Obj), Kept gs t (D + 2) W (W.putObj (D + 1) o) := fun W o =>
    ⟨(grownBy_putObj' W (D + 1) o).size, fun g hg => World.putObj_heap_other (by have := hgs g hg; simp only [D]; omega), fun k o' h1 h2 _ => (World.putObj_heap_other (by omega)).trans h2⟩
  refine ⟨D + 1, [{ target := .collected D, args := #[] }], W1, { target := .fn (.func f) own, args := #[.func (.yield (D + 1)) #[] #[]] }, W1, f,
    #[.func (.yield (D + 1)) #[] #[]] ++ own, W1, run_enterLoop_outer _ _ _ _ _, by simp only [resolve, hg]; simp [go_sem], ?_, by simp [invoke, go_sem, eg], fun _ => h1, ?_⟩
  · intro f' hf'; simp [Target.leads] at hf'; subst hf'; exact hFg
  refine (hseq (D + 1) (fun pre W => I pre W ∧ two .ready none W) (fun pre W => ∃ c, Ix c pre W ∧ two .done (some c) W) W1 ?_ ⟨⟨?_, ?_⟩, ?_⟩ ?_ ?_).mono ?_
  · exact hb0.trans ((((Below.refl _ w).alloc (Nat.le_refl _) _).alloc (by simp) _).mono hb0.size)
  · exact fun s A B row hs hgr hr => ⟨hI s A B row hs.1 hgr (fun r e => ⟨by have := (hr r e).1; simp only [D] at *; omega, (hr r e).2⟩), keepTwo hs.2 hgr (fun r e => by have := (hr r e).1; omega)⟩
  · rintro s A B row ⟨c, hc, h2⟩ hgr hr
    exact ⟨c, hIx c s A B row hc hgr (fun r e => ⟨by have := (hr r e).1; simp only [D] at *; omega, (hr r e).2⟩), keepTwo h2 hgr (fun r e => by have := (hr r e).1; omega)⟩
  · exact fun zs A B g hg hs hgr => ⟨hIm zs A B g hg hs.1 hgr, (hgr.block _ (Array.getElem?_eq_some_iff.1 hs.2.1).1 (fun e => by have := hms g hg; simp only [Option.some.injEq] at e; omega)).trans hs.2.1,
      (hgr.block _ (Array.getElem?_eq_some_iff.1 hs.2.2).1 (fun e => by have := hms g hg; simp only [Option.some.injEq] at e; omega)).trans hs.2.2⟩
  · exact ⟨hI.alloc _ (hI.alloc _ h0), two1⟩
  · -- one round
    rintro pre x W ⟨hi, h2⟩ hok
    have h2a : two .ready none (W.alloc (al x)) := keepTwo h2 (World.grownBy_alloc W (al x) none) (by simp)
    refine ⟨fn, _, assign, body, run_yield (P := P) (args := enc x) h2.1 (hps x), roundIn_of_wpIn hfn (hassign _ x W _ _ rfl ⟨_, run_beginRound h2a.1 rfl, ?_⟩)⟩
    have hb2 := turn .busy none h2a
    have hD1 : D + 1 < W.heap.size := (Array.getElem?_eq_some_iff.1 h2.1).1
    have hka : Kept gs t W1.heap.size W (W.alloc (al x)) := Kept.grown (World.grownBy_alloc W (al x) none) (fun g hg => by have := hgs g hg; simp only [D] at hD1; omega) (fun r e => by cases e)
    have hput : ∀ {W : World} {st pe} (_ : two st pe W), ∃ o, W.heap[D + 1]? = some o ∧ o.isCells = false := fun h => ⟨_, h.1, rfl⟩
    have hlt : w.heap.size < W.heap.size := by have := (Array.getElem?_eq_some_iff.1 h2.1).1; simp only [D] at this; omega
    refine wpIn_mono (hbody _ pre x _ W.heap.size hlt (by rw [World.putObj_size]; simp) ((World.putObj_heap_other (by omega)).trans (World.alloc_heap_new W (al x))) (hI.putObj _ (hI.alloc _ hi) (Nat.le_succ _) h2a.1 rfl) ((hOk pre x).putObj (s := ()) _ ((hOk pre x).alloc (s := ()) _ hok) (Nat.le_succ _) h2a.1 rfl)) ?_
    have after : ∀ {W3 : World}, Kept gs t w.heap.size ((W.alloc (al x)).putObj (D + 1) (.loop (R .busy none))) W3 → two .busy none W3 := fun {W3} hk =>
      ⟨hk.new _ _ (Nat.le_succ _) hb2.1 (.inr rfl), hk.new _ _ (Nat.le_refl _) hb2.2 (.inr rfl)⟩
    have all : ∀ {W3 : World} (o : Obj), Kept gs t w.heap.size ((W.alloc (al x)).putObj (D + 1) (.loop (R .busy none))) W3 → Kept gs t W1.heap.size (W.alloc (al x)) (W3.putObj (D + 1) o) := fun {W3} o hk => by
      rw [sz1]
      exact (keptTurn (W.alloc (al x)) _).trans ((hk.mono (by simp only [D]; omega)).trans (keptTurn W3 o))
    rintro e a3 W3 hp
    cases e with
    | normal =>
      have h3 := after hp.1
      exact ⟨_, _, run_endRound (P := P) none h3.1, hka.trans (all _ hp.1), .inl ⟨rfl, hI.putObj _ hp.2 (Nat.le_succ _) h3.1 rfl, turn .ready none h3⟩⟩
    | ret =>
      have h3 := after hp.1
      exact ⟨_, _, run_endRound (P := P) (some .ret) h3.1, hka.trans (all _ hp.1), .inr ⟨rfl, .ret, (hIx _).putObj _ hp.2 (Nat.le_succ _) h3.1 rfl, turn .done _ h3⟩⟩
    | exit id =>
      have h3 := after hp.1
      exact ⟨_, _, run_endRound (P := P) (some (.exit id)) h3.1, hka.trans (all _ hp.1), .inr ⟨rfl, .exit id, (hIx _).putObj _ hp.2 (Nat.le_succ _) h3.1 rfl, turn .done _ h3⟩⟩
    | goto b =>
      have h3 := after hp.1
      exact ⟨_, _, run_endRound (P := P) (some (.goto b)) h3.1, hka.trans (all _ hp.1), .inr ⟨rfl, .goto b, (hIx _).putObj _ hp.2 (Nat.le_succ _) h3.1 rfl, turn .done _ h3⟩⟩
    | panic ch => exact hp.2.elim
    | outgrown => exact hp.2.elim
  · rintro e W2 ⟨⟨v, rfl⟩, (⟨xs, hS, hi, h2⟩ | ⟨pre, hSp, c, hi, h2⟩)⟩
    · exact ⟨none, _, run_endLoop (P := P) h2.1 (by simp [R]), hdone _ xs _ (Nat.le_refl _) ((hSO xs).putObj (s := ()) _ hS (Nat.le_succ _) h2.1 rfl) (hI.putObj _ hi (Nat.le_succ _) h2.1 rfl) ((World.putObj_heap_other (by omega)).trans h2.2)⟩
    · exact ⟨some c, _, run_endLoop (P := P) h2.1 (by simp [R]), hstop _ c pre _ (Nat.le_refl _) ((hSpO pre).putObj (s := ()) _ hSp (Nat.le_succ _) h2.1 rfl) ((hIx c).putObj _ hi (Nat.le_succ _) h2.1 rfl) ((World.putObj_heap_other (by omega)).trans h2.2)⟩

end Go.Proofs.YtdiilgedicfekaaDoor
namespace Go.Proofs.YtdiilgedicfekaaDoor.Uv

def code (zs : List Int) : Int := (got zs).2.2
def size (zs : List Int) : Nat := (got zs).2.1.toNat
def val (zs : List Int) : Int := (got zs).1

theorem got_cases (zs : List Int) : (code zs = 0 ∧ 1 ≤ size zs ∧ size zs ≤ zs.length ∧ got zs = (val zs, (size zs : Int), 0)) ∨ (0 < code zs ∧ code zs ≤ 4) := by
  unfold code size val got
  have h1 := lead_len 9 zs
  split
  · right; simp
  · split
    · right; simp
    · split
      · right; simp
      · left
        refine ⟨rfl, ?_, ?_, ?_⟩
        · simp
        · simp; omega
        · simp
theorem val_bd (zs : List Int) : 0 ≤ val zs ∧ val zs ≤ 9223372036854775807 := by
  unfold val got
  split
  · simp
  · split
    · simp
    · split
      · simp
      · refine ⟨num_nonneg _, ?_⟩
        have hf := lead_fuel 9 zs
        have h1 := num_take_lt zs (lead 9 zs + 1)
        have h2 : 128 ^ (lead 9 zs + 1) ≤ 128 ^ 9 := Nat.pow_le_pow_right (by omega) (by omega)
        have h4 : ((128 ^ (lead 9 zs + 1) : Nat) : Int) ≤ ((128 ^ 9 : Nat) : Int) := Int.ofNat_le.2 h2
        simp only [Int.natCast_pow] at h4
        have := Int.lt_of_lt_of_le h1 h4
        have e : (((128 : Nat) : Int) ^ 9) = 9223372036854775808 := by decide
        rw [e] at this
        simp only
        omega

def parts : Nat → Nat → List Int → List (Nat × Int)
  | 0, _, _ => []
  | f + 1, i, zs => if code zs = 0 then (i, val zs) :: parts f (i + size zs) (zs.drop (size zs)) else []
theorem parts_fuel : ∀ (f g i : Nat) (zs : List Int), zs.length < f → zs.length < g → parts f i zs = parts g i zs
  | 0, _, _, _, h, _ => by omega
  | _ + 1, 0, _, _, _, h => by omega
  | f + 1, g + 1, i, zs, hf, hg => by
    simp only [parts]
    split
    · rename_i h
      rcases got_cases zs with ⟨_, h1, h2, _⟩ | h'
      · rw [parts_fuel f g (i + size zs) (zs.drop (size zs)) (by simp; omega) (by simp; omega)]
      · omega
    · rfl
/-- the numbers of which zs is made, told from place i on -/
def each (i : Nat) (zs : List Int) : List (Nat × Int) := parts (zs.length + 1) i zs
theorem each_no {i : Nat} {zs : List Int} (h : ¬ code zs = 0) : each i zs = [] := by
  simp [each, parts, h]
theorem each_yes {i : Nat} {zs : List Int} (h : code zs = 0) : each i zs = (i, val zs) :: each (i + size zs) (zs.drop (size zs)) := by
  rcases got_cases zs with ⟨_, h1, h2, _⟩ | h'
  · rw [each, parts, if_pos h]
    congr 1
    exact parts_fuel _ _ _ _ (by simp; omega) (by omega)
  · omega
theorem each_nil (i : Nat) : each i [] = [] := each_no (by decide)
theorem parts_len : ∀ (f i : Nat) (zs : List Int), (parts f i zs).length ≤ zs.length
  | 0, _, _ => by simp [parts]
  | f + 1, i, zs => by
    simp only [parts]
    split
    · rename_i h
      rcases got_cases zs with ⟨_, h1, h2, _⟩ | h'
      · have := parts_len f (i + size zs) (zs.drop (size zs))
        simp only [List.length_cons, List.length_drop] at *
        omega
      · omega
    · simp
theorem each_len (i : Nat) (zs : List Int) : (each i zs).length ≤ zs.length := parts_len _ _ _
theorem parts_shift : ∀ (f i j : Nat) (zs : List Int), (parts f i zs).length = (parts f j zs).length
  | 0, _, _, _ => rfl
  | f + 1, i, j, zs => by
    simp only [parts]
    split
    · simp [parts_shift f (i + size zs) (j + size zs) (zs.drop (size zs))]
    · rfl
theorem each_shift (i j : Nat) (zs : List Int) : (each i zs).length = (each j zs).length := parts_shift _ _ _ _
theorem parts_vals : ∀ (f i j : Nat) (zs : List Int), (parts f i zs).map (·.2) = (parts f j zs).map (·.2)
  | 0, _, _, _ => rfl
  | f + 1, i, j, zs => by
    simp only [parts]
    split
    · simp [parts_vals f (i + size zs) (j + size zs) (zs.drop (size zs))]
    · rfl

/-- numbers one behind the other -/
def flat : List Nat → List Int
  | [] => []
  | v :: vs => enc v ++ flat vs
/-- numbers one behind the other, each where it begins, from place i on -/
def places : Nat → List Nat → List (Nat × Int)
  | _, [] => []
  | i, v :: vs => (i, (v : Int)) :: places (i + len v) vs
theorem each_enc (i v : Nat) (rest : List Int) (h : v < 9223372036854775808) : each i (enc v ++ rest) = (i, (v : Int)) :: each (i + len v) rest := by
  have g := got_enc v rest h
  have h1 : code (enc v ++ rest) = 0 := by simp [code, g]
  have h2 : size (enc v ++ rest) = len v := by simp [size, g]
  have h3 : val (enc v ++ rest) = v := by simp [val, g]
  rw [each_yes h1, h2, h3]
  congr 2
  have := enc_length v h
  rw [← this, List.drop_left]
theorem each_flat : ∀ (i : Nat) (vs : List Nat) (rest : List Int), (∀ v ∈ vs, v < 9223372036854775808) → each i (flat vs ++ rest) = places i vs ++ each (i + (flat vs).length) rest
  | i, [], rest, _ => by simp [flat, places]
  | i, v :: vs, rest, h => by
    have hv := h v (by simp)
    have ih := each_flat (i + len v) vs rest (fun x hx => h x (by simp [hx]))
    rw [flat, List.append_assoc, each_enc i v _ hv, ih, places]
    simp [enc_length v hv, Nat.add_assoc]
theorem places_length : ∀ (i : Nat) (vs : List Nat), (places i vs).length = vs.length
  | _, [] => rfl
  | i, v :: vs => by simp [places, places_length (i + len v) vs]
theorem flat_append : ∀ (a b : List Nat), flat (a ++ b) = flat a ++ flat b
  | [], b => rfl
  | v :: a, b => by simp [flat, flat_append a b]
theorem flat_bd : ∀ (vs : List Nat), ∀ z ∈ flat vs, 0 ≤ z ∧ z ≤ 255
  | [], z, h => by simp [flat] at h
  | v :: vs, z, h => by
    rcases List.mem_append.1 h with h | h
    · exact enc_mem v z h
    · exact flat_bd vs z h
theorem flat_len : ∀ (vs : List Nat), (flat vs).length ≤ 9 * vs.length
  | [] => by simp [flat]
  | v :: vs => by
    have := flat_len vs
    have h1 : (enc v).length ≤ 9 := by
      by_cases h : v < 9223372036854775808
      · rw [enc_length v h]; exact len_small v h
      · rw [enc_big v h]; simp
    simp only [flat, List.length_append, List.length_cons]
    omega
theorem places_at : ∀ (i : Nat) (vs : List Nat) (k : Nat), (∀ v ∈ vs, v < 9223372036854775808) → k < vs.length → (places i vs)[k]? = some (i + (flat (vs.take k)).length, ((vs.getD k 0 : Nat) : Int))
  | _, [], k, _, h => by simp at h
  | i, v :: vs, 0, _, _ => by simp [places, flat]
  | i, v :: vs, k + 1, hs, h => by
    simp only [places, List.take_succ_cons, flat, List.length_append]
    rw [List.getElem?_cons_succ, places_at (i + len v) vs k (fun x hx => hs x (by simp [hx])) (by simpa using h)]
    simp [enc_length v (hs v (by simp)), Nat.add_assoc]
theorem drop_step {zs : List Int} {i : Nat} (h : code (zs.drop i) = 0) : each i (zs.drop i) = (i, val (zs.drop i)) :: each (i + size (zs.drop i)) (zs.drop (i + size (zs.drop i))) := by
  rw [each_yes h, List.drop_drop]

end Go.Proofs.YtdiilgedicfekaaDoor.Uv
