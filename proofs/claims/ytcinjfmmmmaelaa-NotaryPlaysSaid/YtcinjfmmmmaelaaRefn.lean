/-
  Contracts of the document's own notary, embrasureref04.Notary: is, Check and Mint, over a notary that stands for a list of entries. Conditions: as each states.
-/
import Derived.Test.YtcinjfmmmmaelaaAwake
import Derived.Test.YtcinjfmmmmaelaaSame
import Derived.Deep.RegionLaw
namespace Go.Proofs.Ytcinjfmmmmaelaa
open Go.RowKit Go.Maps
set_option linter.unusedVariables false

/-- a text of the call's own: bytes in a row of its own -/
def OwnTxt (w : World) (S : Nat → Prop) (u : Value) (zs : List Int) : Prop := w.ownsRow 0 5 1 u zs.length (B zs) ∧ Bd zs ∧ ∀ g, u.ownBlock = some g → S g
/-- block rb of w is a notary of the document that stands for the entries L; all that it is made of lies in blocks of S -/
def RefN (w : World) (S : Nat → Prop) (rb : Nat) (L : List Item) : Prop :=
  ∃ v xs, S rb ∧ (∀ g, v.ownBlock = some g → S g) ∧ w.heap[rb]? = some (.cells #[v] 30 (0, 0)) ∧ w.ownsRow 0 52 2 v L.length xs ∧
    ∀ k x, L[k]? = some x → ∃ u, xs[k * 2]? = some (.int .i64 x.1) ∧ xs[k * 2 + 1]? = some u ∧ OwnTxt w S u x.2

theorem own_keep {w w' : World} {e : TypeId} {sz : Nat} {v : Value} {n : Nat} {xs : List Value} (h : w.ownsRow 0 e sz v n xs) (hb : ∀ g, v.ownBlock = some g → g < w.heap.size → w'.heap[g]? = w.heap[g]?) : w'.ownsRow 0 e sz v n xs := by
  refine ⟨h.1, ?_⟩
  rcases h.2 with hn | ⟨g, cap, cur, rfl, h1, hgg, rest⟩
  · exact .inl hn
  · exact .inr ⟨g, cap, cur, rfl, h1, (hb g rfl (Array.getElem?_eq_some_iff.1 hgg).1).trans hgg, rest⟩
theorem OwnTxt.mono {w : World} {S S' : Nat → Prop} {u : Value} {zs : List Int} (h : OwnTxt w S u zs) (hs : ∀ k, S k → S' k) : OwnTxt w S' u zs := ⟨h.1, h.2.1, fun g hg => hs g (h.2.2 g hg)⟩
theorem OwnTxt.kept {w w' : World} {S : Nat → Prop} {u : Value} {zs : List Int} (h : OwnTxt w S u zs) (hb : ∀ k, k < w.heap.size → u.ownBlock = some k → w'.heap[k]? = w.heap[k]?) : OwnTxt w' S u zs :=
  ⟨own_keep h.1 (fun g hg hl => hb g hl hg), h.2⟩
theorem OwnTxt.form {w : World} {S : Nat → Prop} {u : Value} {zs : List Int} (h : OwnTxt w S u zs) : ∃ A c, u = .slice A zs.length c ∧ zs.length ≤ c ∧ c ≤ maxLen ∧ Bts w A zs.length zs := own_form h.1 h.2.1
theorem RefN.mono {w : World} {S S' : Nat → Prop} {rb : Nat} {L : List Item} (h : RefN w S rb L) (hs : ∀ k, S k → S' k) : RefN w S' rb L := by
  obtain ⟨v, xs, h1, h2, h3, h4, h5⟩ := h
  refine ⟨v, xs, hs _ h1, fun g hg => hs g (h2 g hg), h3, h4, fun k x hk => ?_⟩
  obtain ⟨u, e1, e2, e3⟩ := h5 k x hk
  exact ⟨u, e1, e2, e3.mono hs⟩
theorem RefN.kept {w w' : World} {S : Nat → Prop} {rb : Nat} {L : List Item} (h : RefN w S rb L) (hb : ∀ k, k < w.heap.size → S k → w'.heap[k]? = w.heap[k]?) : RefN w' S rb L := by
  obtain ⟨v, xs, h1, h2, h3, h4, h5⟩ := h
  refine ⟨v, xs, h1, h2, (hb rb (Array.getElem?_eq_some_iff.1 h3).1 h1).trans h3, own_keep h4 (fun g hg hl => hb g hl (h2 g hg)), fun k x hk => ?_⟩
  obtain ⟨u, e1, e2, e3⟩ := h5 k x hk
  exact ⟨u, e1, e2, e3.kept (fun g hl hg => hb g hl (e3.2.2 g hg))⟩
theorem RefN.drewN {w : World} {S : Nat → Prop} {rb : Nat} {L : List Item} (h : RefN w S rb L) (q : Nat) : RefN (w.drewN q) S rb L := h.kept (fun _ _ _ => rfl)
theorem RefN.alloc {w : World} {S : Nat → Prop} {rb : Nat} {L : List Item} (h : RefN w S rb L) (o : Obj) : RefN (w.alloc o) S rb L := h.kept (fun k hk _ => Below.heap_alloc _ _ _ hk)
theorem RefN.size {w : World} {S : Nat → Prop} {rb : Nat} {L : List Item} (h : RefN w S rb L) : rb < w.heap.size := by
  obtain ⟨v, xs, h1, h2, h3, _⟩ := h
  exact (Array.getElem?_eq_some_iff.1 h3).1
theorem RefN.trim {w : World} {S : Nat → Prop} {rb : Nat} {L : List Item} (h : RefN w S rb L) : RefN w (fun k => S k ∧ k < w.heap.size) rb L := by
  obtain ⟨v, xs, h1, h2, h3, h4, h5⟩ := h
  refine ⟨v, xs, ⟨h1, (Array.getElem?_eq_some_iff.1 h3).1⟩, fun g hg => ⟨h2 g hg, (h4.lt g hg).2⟩, h3, h4, fun k x hk => ?_⟩
  obtain ⟨u, e1, e2, e3⟩ := h5 k x hk
  exact ⟨u, e1, e2, e3.1, e3.2.1, fun g hg => ⟨e3.2.2 g hg, (e3.1.lt g hg).2⟩⟩
/-- its entries, in the walk's words -/
theorem RefN.form {w : World} {S : Nat → Prop} {rb : Nat} {L : List Item} (h : RefN w S rb L) : ∃ A c, w.cell? ⟨rb, 0, none⟩ = some (.slice A L.length c) ∧
    ∀ k x, L[k]? = some x → ∃ g A2 c2, A = some ⟨g, 0, none⟩ ∧ g < w.heap.size ∧ w.cell? ⟨g, k * 2, none⟩ = some (.int .i64 x.1) ∧ w.cell? ⟨g, k * 2 + 1, none⟩ = some (.slice A2 x.2.length c2) ∧ Bts w A2 x.2.length x.2 ∧ x.2.length ≤ c2 ∧ c2 ≤ maxLen := by
  obtain ⟨v, xs, h1, h2, h3, h4, h5⟩ := h
  have c1 := (cells_of h3 0).1
  simp at c1
  have hxl := h4.1
  rcases h4.2 with ⟨rfl, e⟩ | ⟨g, cap, cur, rfl, _, hg, hle, hm, hsz, hcur⟩
  · exact ⟨none, 0, by rw [c1, e], fun k x hk => by have := (List.getElem?_eq_some_iff.1 hk).1; omega⟩
  · refine ⟨_, cap, c1, fun k x hk => ?_⟩
    obtain ⟨u, e1, e2, e3⟩ := h5 k x hk
    obtain ⟨A2, c2, rfl, h6, h7, h8⟩ := e3.form
    have hkl := (List.getElem?_eq_some_iff.1 hk).1
    refine ⟨g, A2, c2, rfl, (Array.getElem?_eq_some_iff.1 hg).1, ?_, ?_, h8, h6, h7⟩
    · rw [(cells_of hg (k * 2)).1]
      rw [← hcur, List.getElem?_take_of_lt (by omega)] at e1
      simpa using e1
    · rw [(cells_of hg (k * 2 + 1)).1]
      rw [← hcur, List.getElem?_take_of_lt (by omega)] at e2
      simpa using e2

set_option maxHeartbeats 1000000 in
theorem is_any (rb k : Nat) (S : Nat → Prop) (L : List Item) (x : Item) (p : Int) (A : Option Addr) (n c : Nat) (zs : List Int) (w : World) (h : RefN w S rb L) (hL : L.length ≤ 1000000) (hk : L[k]? = some x) (hb : Bts w A n zs) :
    Calls Try.prog 15 #[.pointer (some ⟨rb, 0, none⟩), .int .i64 (k : Int), .int .i64 p, .slice A n c] w fun e w' => e = .returned (.bool (decide (x = (p, zs)))) ∧ ∃ q, w' = w.drewN q := by
  have hrb := h.size
  obtain ⟨A1, c1, d0, hf⟩ := h.form
  obtain ⟨g, A2, c2, rfl, hg, d1, d2, hbt, hn2, hm2⟩ := hf k x hk
  have hkl := (List.getElem?_eq_some_iff.1 hk).1
  have e3 : (k : Int) < (L.length : Int) := by omega
  have HB := Lib.hid hb; have HBT := Lib.hid hbt; clear hb hbt hf h hk
  obtain ⟨y, ys⟩ := x
  simp only at d1 d2 HBT hn2
  have HSM := Lib.hid (same_any A2 A ys.length n c2 c ys zs w (by unfold maxLen at *; omega) HBT.out HB.out)
  by_cases h1 : y = p
  · subst h1
    go_enter Try.func15, Try.ntmps15
    go_wp2_with fail
    refine HSM.out.mono ?_
    rintro e w' ⟨rfl, q, rfl⟩
    go_wp2
    go_ret
    exact ⟨ret_bool (by simp), _, rfl⟩
  · have t1 : (y == p) = false := by simpa using h1
    have HN := Lib.hid h1; clear h1
    go_enter Try.func15, Try.ntmps15
    go_wp2
    go_ret
    exact ⟨ret_bool (by simp [HN.out]), 0, rfl⟩

theorem item_or {L : List Item} {k : Nat} (h : k < L.length) : ∃ x, L[k]? = some x := ⟨_, List.getElem?_eq_getElem h⟩
def NoTag (L : List Item) (x : Item) (T k : Nat) : Prop := ∀ j, j < k → ¬ (j + 1 = T ∧ L[j]? = some x)
theorem NoTag.zero (L : List Item) (x : Item) (T : Nat) : NoTag L x T 0 := fun j h => by omega
theorem NoTag.succ {L : List Item} {x : Item} {T k : Nat} (h : NoTag L x T k) (hk : ¬ (k + 1 = T ∧ L[k]? = some x)) : NoTag L x T (k + 1) := fun j hj => by
  rcases Nat.lt_or_ge j k with h' | h'
  · exact h j h'
  · obtain rfl : j = k := by omega
    exact hk
theorem NoTag.end_ {L : List Item} {x : Item} {T : Nat} (h : NoTag L x T L.length) : checkL L x T = 12 := by
  unfold checkL
  rw [if_neg]
  rintro ⟨h1, h2⟩
  have hl := (List.getElem?_eq_some_iff.1 h2).1
  exact h (T - 1) hl ⟨by omega, h2⟩
theorem checkL_hit {L : List Item} {x : Item} {k : Nat} (h : L[k]? = some x) : checkL L x (k + 1) = 0 := by
  unfold checkL
  rw [show k + 1 - 1 = k by omega, if_pos ⟨by omega, h⟩]

set_option maxHeartbeats 1000000 in
theorem rcheck_any (rb : Nat) (S : Nat → Prop) (L : List Item) (p : Int) (A : Option Addr) (n c T : Nat) (zs : List Int) (w : World) (h : RefN w S rb L) (hL : L.length ≤ 1000000) (hb : Bts w A n zs) (hT : T < 18446744073709551616) :
    Calls Try.prog 11 #[.pointer (some ⟨rb, 0, none⟩), .int .i64 p, .slice A n c, .int .u64 (T : Int)] w fun e w' => e = .returned (.int .i64 (checkL L (p, zs) T)) ∧ ∃ q, w' = w.drewN q := by
  have hrb := h.size
  obtain ⟨A1, c1, d0, _⟩ := h.form
  have H := Lib.hid h; have HB := Lib.hid hb; clear h hb
  go_enter Try.func11, Try.ntmps11
  go_wp2
  go_loopw [9] (fun i wr => ∃ (k q : Nat), k ≤ L.length ∧ i = .int .i64 k ∧ wr = w.drewN q ∧ NoTag L (p, zs) T k) (fun i _ => L.length - (intOf i).toNat)
  case atStart => exact ⟨0, 0, by omega, rfl, rfl, NoTag.zero _ _ _⟩
  case round =>
    obtain ⟨k, q, hk, rfl, rfl, hN⟩ := hrel
    have HN := Lib.hid hN; clear hN
    by_cases h1 : k < L.length
    · obtain ⟨x, hx⟩ := item_or h1
      have HX := Lib.hid hx; clear hx
      have e1 : IntKind.u64.wrap ((k : Int) + 1) = (k : Int) + 1 := u64_in (by omega) (by omega)
      by_cases h2 : k + 1 = T
      · have t1 : ((k : Int) + 1 == (T : Int)) = true := by rw [beq_iff_eq]; omega
        have HT := Lib.hid h2; clear h2
        have HI := Lib.hid (is_any rb k S L x p A n c zs (w.drewN q) (H.out.drewN q) hL HX.out (HB.out.drewN q))
        cases hd : decide (x = (p, zs)) with
        | true =>
          have HE := Lib.hid (of_decide_eq_true hd)
          rw [hd] at HI
          clear hd
          go_wp2_with fail
          refine HI.out.mono ?_
          rintro e w' ⟨rfl, q2, rfl⟩
          go_wp2
          go_ret
          exact ⟨ret_int (by rw [← HT.out, checkL_hit (by rw [HX.out, HE.out])]), _, rfl⟩
        | false =>
          have HE := Lib.hid (of_decide_eq_false hd)
          rw [hd] at HI
          clear hd
          go_wp2_with fail
          refine HI.out.mono ?_
          rintro e w' ⟨rfl, q2, rfl⟩
          go_wp2
          go_roundw
          case rel => exact ⟨k + 1, q + q2, by omega, by go_num, rfl, HN.out.succ (fun h => HE.out (by have := h.2; rw [HX.out] at this; exact Option.some.inj this))⟩
          case measure => simp [intOf]; omega
      · have t1 : ((k : Int) + 1 == (T : Int)) = false := by rw [beq_eq_false_iff_ne]; omega
        have HT := Lib.hid h2; clear h2
        go_wp2
        go_roundw
        case rel => exact ⟨k + 1, q, by omega, by go_num, rfl, HN.out.succ (fun h => HT.out h.1)⟩
        case measure => simp [intOf]; omega
    · obtain rfl : k = L.length := by omega
      go_wp2
      go_ret
      exact ⟨ret_int HN.out.end_.symm, _, rfl⟩

theorem rmint_arg (rb : Nat) (p : Int) (A : Option Addr) (n c : Nat) (w : World) (hp : ¬ (1 ≤ p ∧ p ≤ 2147483647)) :
    Calls Try.prog 13 #[.pointer (some ⟨rb, 0, none⟩), .int .i64 p, .slice A n c] w fun e w' => e = .returned (.tuple #[.int .u64 0, .int .i64 1]) ∧ w = w' := by
  by_cases h1 : p < 1
  · go_enter Try.func13, Try.ntmps13
    go_wp2
    go_ret2
    exact ⟨rfl, rfl⟩
  · have h2 : 2147483647 < p := by omega
    clear hp
    go_enter Try.func13, Try.ntmps13
    go_wp2
    go_ret2
    exact ⟨rfl, rfl⟩

theorem ref_info : (Try.prog.info? 52).map (fun i => (i.zero, i.size, i.bytes)) = some (some (.agg #[.int .i64 0, .slice none 0 0]), 2, 32) := by kernel_rfl
/-- 'append(l, e)' onto the row of entries, as one step of a region that draws its order -/
theorem step_ref {w : World} {ops : Array Oper} {o : Oper} {a : Act} {K : Act → World → Prop} {Q : Exit → Act → World → Prop} {E : Prop} (hf : o.guard = none) (s x : Operand)
    (ho : o.op = .call { callee := .builtin .append, args := #[s, x], argTypes := #[28, 28] }) {k g : Nat} {v : Value} {p : Int} {u : Value} {xs : List Value} (hs : a.eval s = v) (hown : w.ownsRow 0 52 2 v k xs) (hx : a.eval x = .slice (some ⟨g, 0, none⟩) 1 1)
    (h0 : w.cell? ⟨g, 0, none⟩ = some (.int .i64 p)) (h1 : w.cell? ⟨g, 1, none⟩ = some u) (hu : u.oneCell' = true) (hk : k ≤ 1000000)
    (h : ∀ v' w', w'.ownsRow 0 52 2 v' (k + 1) (xs ++ [.int .i64 p, u]) → w.grownBy w' v.ownBlock → (v'.ownBlock = v.ownBlock ∨ v'.ownBlock = some w.heap.size) → K (a.put o.dst v') w') :
    if Region.wanted o (yielded ops a.tmps) = true then Oper.wp Try.prog o a w K Q else E := by
  obtain ⟨i0, hi0, hz0, hz1, hz2⟩ := info_parts ref_info
  obtain ⟨v', w', hrun, r1, r2, _, r3⟩ := run_append_own_at (P := Try.prog) (w := w) 0 28 o.type 52 i0 (.agg #[.int .i64 0, .slice none 0 0]) 2 32 Try.underlying28 hi0 hz0 hz1 hz2 rfl (by decide) v k xs hown ⟨g, 0, none⟩ 1 1 [.int .i64 p, u] rfl
    (fun j y hy => by
      match j, hy with
      | 0, hy => simp at hy; subst hy; exact h0
      | 1, hy => simp at hy; subst hy; exact h1) (by
      intro y hy
      rcases List.mem_cons.1 hy with rfl | hy
      · rfl
      · simp at hy; subst hy; exact hu) (by unfold maxLen; omega) (by omega) (Nat.zero_le _)
  rw [if_pos (by simp [Region.wanted, hf])]
  unfold Oper.wp execOp
  simp only [ho, resolve, invoke, builtin, Sem.run_bind, Sem.run_pure, Result.andThen_ok, List.map_toArray, List.map_cons, List.map_nil, hs, hx, hrun]
  exact h _ _ r1 r2 r3
/-- 'append([]byte{}, text...)', as one step of a region that draws its order -/
theorem step_bytes {W : World} {ops : Array Oper} {o : Oper} {a : Act} {K : Act → World → Prop} {Q : Exit → Act → World → Prop} {E : Prop} (hf : o.guard = none) (s x : Operand)
    (ho : o.op = .call { callee := .builtin .append, args := #[s, x], argTypes := #[31, 31] }) {g : Nat} (hg : g = W.heap.size) (hs : a.eval s = .slice (some ⟨g, 0, none⟩) 0 0) {A : Option Addr} {n c : Nat} {zs : List Int} (hx : a.eval x = .slice A n c) (hb : Bts W A n zs)
    (hnil : A = none → n = 0 ∧ c = 0) (hn : n ≤ 140737488355328)
    (h : ∀ A2 c2 w', OwnTxt w' (g ≤ ·) (.slice A2 n c2) zs → (∀ k, k < g → w'.heap[k]? = W.heap[k]?) → (w'.os = W.os ∧ w'.tape = W.tape ∧ w'.output = W.output) → g < w'.heap.size → K (a.put o.dst (.slice A2 n c2)) w') :
    if Region.wanted o (yielded ops a.tmps) = true then Oper.wp Try.prog o a (W.alloc (.cells #[] 5)) K Q else E := by
  subst hg
  obtain ⟨i0, hi0, hz0, hz1, hz2⟩ := info_parts u8_info
  have hlit : (W.alloc (.cells #[] 5)).ownsRow 0 5 1 (.slice (some ⟨W.heap.size, 0, none⟩) 0 0) 0 (B []) := World.ownsRow_lit W #[] 0 (Nat.zero_le _) (Nat.zero_le _) rfl
  have fin : ∀ v' w', w'.ownsRow 0 5 1 v' n (B zs) → (W.alloc (.cells #[] 5)).grownBy w' (some W.heap.size) → (v'.ownBlock = some W.heap.size ∨ v'.ownBlock = some (W.alloc (.cells #[] 5)).heap.size) → K (a.put o.dst v') w' := by
    intro v' w' ho' hg' hl'
    have hl : zs.length = n := hb.len
    obtain ⟨A2, c2, rfl, _, _, _⟩ := own_form ho' hb.bd
    refine h A2 c2 w' ⟨by rw [hl]; exact ho', hb.bd, fun g hg2 => ?_⟩ (fun k hk => (hg'.block k (by simp; omega) (fun e => by simp at e; omega)).trans (Below.heap_alloc W _ k hk)) ⟨hg'.os, hg'.tape, hg'.output⟩ (by have := hg'.size; simp at this; omega)
    rcases hl' with e | e
    · rw [e] at hg2; simp at hg2; omega
    · rw [e] at hg2; simp at hg2; omega
  rw [if_pos (by simp [Region.wanted, hf])]
  cases A with
  | none =>
    obtain ⟨rfl, rfl⟩ := hnil rfl
    have hz : zs = [] := List.eq_nil_of_length_eq_zero hb.len
    subst hz
    have hrun := run_append_owned_none (P := Try.prog) (w := W.alloc (.cells #[] 5)) 0 31 o.type 5 i0 1 Try.underlying31 hi0 _ 0 (B []) hlit
    unfold Oper.wp
    simp [execOp, ho, resolve, invoke, builtin, hs, hx, hrun, Result.andThen]
    exact fin _ _ hlit (World.grownBy.refl _ _) (.inl rfl)
  | some ad =>
    obtain ⟨v', w', hrun, r1, r2, _, r3⟩ := run_append_own_at (P := Try.prog) (w := W.alloc (.cells #[] 5)) 0 31 o.type 5 i0 (.int .u8 0) 1 1 Try.underlying31 hi0 hz0 hz1 hz2 rfl (by decide) _ 0 (B []) hlit ad n c (B zs) (by rw [B_length, hb.len]; omega) (hb.alloc _).news (B_one zs)
      (by unfold maxLen; omega) (by omega) (Nat.zero_le _)
    rw [Nat.zero_add] at r1
    unfold Oper.wp
    simp [execOp, ho, resolve, invoke, builtin, hs, hx, hrun, Result.andThen]
    exact fin v' w' (by simpa [B] using r1) r2 r3

theorem own_type {w : World} {b e sz n g : Nat} {v : Value} {xs : List Value} (h : w.ownsRow b e sz v n xs) (hg : v.ownBlock = some g) : ∃ cur, w.heap[g]? = some (.cells cur e (0, 0)) := by
  rcases h.2 with ⟨rfl, _⟩ | ⟨g', cap, cur, rfl, _, hgg, _⟩
  · cases hg
  · simp only [Value.ownBlock, Option.some.injEq] at hg
    subst hg
    exact ⟨cur, hgg⟩
theorem type_ne {w : World} {g g' : Nat} {C C' : Array Value} {e e' : TypeId} {m m' : Nat × Nat} (h : w.heap[g]? = some (.cells C e m)) (h' : w.heap[g']? = some (.cells C' e' m')) (hne : e ≠ e') : g ≠ g' := by
  rintro rfl
  rw [h] at h'
  simp only [Option.some.injEq, Obj.cells.injEq] at h'
  exact hne h'.2.1
theorem own_slice2 {w : World} {v : Value} {n : Nat} {xs : List Value} (h : w.ownsRow 0 52 2 v (n + 1) xs) : ∃ g c, v = .slice (some ⟨g, 0, none⟩) (n + 1) c := by
  rcases h.2 with ⟨_, e⟩ | ⟨g, cap, cur, rfl, _⟩
  · omega
  · exact ⟨_, _, rfl⟩

theorem rmint_mid {w w2 w3 : World} {rb n : Nat} {v : Value} {xs : List Value} {o : Obj} (h3 : w.heap[rb]? = some (.cells #[v] 30 (0, 0))) (h4 : w.ownsRow 0 52 2 v n xs) (hold : ∀ k, k < w.heap.size → w2.heap[k]? = w.heap[k]?) (hsz : w.heap.size < w2.heap.size)
    (hg : (w2.alloc o).grownBy w3 v.ownBlock) : w3.heap[rb]? = some (.cells #[v] 30 (0, 0)) := by
  have hrb := (Array.getElem?_eq_some_iff.1 h3).1
  refine (hg.block rb (by simp; omega) (fun e => ?_)).trans ((Below.heap_alloc w2 o rb (by omega)).trans ((hold rb hrb).trans h3))
  obtain ⟨cur, hc⟩ := own_type h4 e.symm
  exact type_ne h3 hc (by decide) rfl
/-- what a minted entry leaves: w the world at the call, w2 the world behind the text's copy, w3 behind the append of the entry -/
theorem rmint_end {w w2 w3 : World} {S : Nat → Prop} {rb : Nat} {L : List Item} {v v3 u : Value} {xs : List Value} {p : Int} {zs : List Int} (hbd : Bd zs) (h1 : S rb) (h2 : ∀ g, v.ownBlock = some g → S g) (h3 : w.heap[rb]? = some (.cells #[v] 30 (0, 0)))
    (h4 : w.ownsRow 0 52 2 v L.length xs) (h5 : ∀ k x, L[k]? = some x → ∃ u, xs[k * 2]? = some (.int .i64 x.1) ∧ xs[k * 2 + 1]? = some u ∧ OwnTxt w S u x.2)
    (hu : OwnTxt w2 (w.heap.size ≤ ·) u zs) (hold : ∀ k, k < w.heap.size → w2.heap[k]? = w.heap[k]?) (hos : w2.os = w.os ∧ w2.tape = w.tape ∧ w2.output = w.output) (hsz : w.heap.size < w2.heap.size)
    (ho : w3.ownsRow 0 52 2 v3 (L.length + 1) (xs ++ [.int .i64 p, u])) (hg : (w2.alloc (.cells #[.int .i64 p, u] 52)).grownBy w3 v.ownBlock) (hl : v3.ownBlock = v.ownBlock ∨ v3.ownBlock = some (w2.alloc (.cells #[.int .i64 p, u] 52)).heap.size) :
    RefN (w3.setCell ⟨rb, 0, none⟩ v3) (fun k => S k ∨ w.heap.size ≤ k) rb (L ++ [(p, zs)]) ∧ Keeps S w (w3.setCell ⟨rb, 0, none⟩ v3) := by
  have hrb := (Array.getElem?_eq_some_iff.1 h3).1
  have hxl := h4.1
  have old : ∀ k, k < w2.heap.size → some k ≠ v.ownBlock → w3.heap[k]? = w2.heap[k]? := fun k hk hn =>
    (hg.block k (by simp; omega) hn).trans (Below.heap_alloc w2 _ k hk)
  have nev : ∀ {g : Nat} {C : Array Value} {e : TypeId} {m : Nat × Nat}, w.heap[g]? = some (.cells C e m) → e ≠ 52 → some g ≠ v.ownBlock := fun {g C e m} h0 hne e0 => by
    obtain ⟨cur, hc⟩ := own_type h4 e0.symm
    exact type_ne h0 hc hne rfl
  have hn3 : w3.heap[rb]? = some (.cells #[v] 30 (0, 0)) := (old rb (by omega) (nev h3 (by decide))).trans ((hold rb hrb).trans h3)
  have hvo : ∀ g, v.ownBlock = some g → g < w.heap.size := fun g hg => (h4.lt g hg).2
  have keep : ∀ {u' : Value} {ys : List Int} {T : Nat → Prop}, OwnTxt w3 T u' ys → OwnTxt (w3.setCell ⟨rb, 0, none⟩ v3) T u' ys := fun {u' ys T} hu' =>
    hu'.kept (fun k hk hb => Below.heap_setCell _ _ _ _ (fun e => by
      obtain ⟨cur, hc⟩ := own_type hu'.1 hb
      have e2 : k = rb := e
      subst e2
      exact type_ne hc hn3 (by decide) rfl))
  refine ⟨⟨v3, xs ++ [.int .i64 p, u], .inl h1, ?_, ?_, ?_, ?_⟩, ?_⟩
  · intro g hg3
    rcases hl with e | e
    · exact .inl (h2 g (e ▸ hg3))
    · rw [e] at hg3
      simp only [Option.some.injEq] at hg3
      subst hg3
      exact .inr (by simp; omega)
  · have : (w3.setCell ⟨rb, 0, none⟩ v3).heap[rb]? = some (.cells #[v3] 30 (0, 0)) := by simp [World.setCell, Array.getElem?_modify, hn3]
    exact this
  · have : (L ++ [(p, zs)]).length = L.length + 1 := by simp
    rw [this]
    exact own_keep ho (fun g hgg hlt => Below.heap_setCell _ _ _ _ (fun e => by
      obtain ⟨cur, hc⟩ := own_type ho hgg
      have e2 : g = rb := e
      subst e2
      exact type_ne hc hn3 (by decide) rfl))
  · intro k x hk
    rcases Nat.lt_or_ge k L.length with hkl | hkl
    · rw [List.getElem?_append_left hkl] at hk
      obtain ⟨u', e1, e2, e3⟩ := h5 k x hk
      refine ⟨u', by rw [List.getElem?_append_left (by omega)]; exact e1, by rw [List.getElem?_append_left (by omega)]; exact e2, keep ?_⟩
      refine (OwnTxt.kept (w := w) (w' := w3) e3 (fun g hg1 hg2 => ?_)).mono (fun _ h => .inl h)
      obtain ⟨cur, hc⟩ := own_type e3.1 hg2
      exact (old g (by omega) (nev hc (by decide))).trans (hold g hg1)
    · have hke : k = L.length := by
        have := (List.getElem?_eq_some_iff.1 hk).1
        simp at this
        omega
      subst hke
      have hxe : x = (p, zs) := by simpa using hk.symm
      subst hxe
      refine ⟨u, ?_, ?_, keep ?_⟩
      · rw [List.getElem?_append_right (by omega), hxl]; simp
      · rw [List.getElem?_append_right (by omega), hxl]; simp
      · refine (OwnTxt.kept (w := w2) (w' := w3) hu (fun g hg1 hg2 => old g hg1 (fun e => ?_))).mono (fun _ h => .inr h)
        have := hvo g e.symm
        have := hu.2.2 g hg2
        omega
  · refine ⟨hg.os.trans hos.1, hg.tape.trans hos.2.1, hg.output.trans hos.2.2, ?_, fun k hk hn => ?_⟩
    · have := hg.size
      simp [World.setCell] at this ⊢
      omega
    · exact (Below.heap_setCell _ _ _ _ (fun e => hn (by rw [show k = rb from e]; exact h1))).trans ((old k (by omega) (fun e => hn (h2 k e.symm))).trans (hold k hk))

def NoHit (L : List Item) (x : Item) (k : Nat) : Prop := ∀ j, j < k → ¬ L[j]? = some x
theorem NoHit.zero (L : List Item) (x : Item) : NoHit L x 0 := fun j h => by omega
theorem NoHit.succ {L : List Item} {x : Item} {k : Nat} (h : NoHit L x k) (hk : ¬ L[k]? = some x) : NoHit L x (k + 1) := fun j hj => by
  rcases Nat.lt_or_ge j k with h' | h'
  · exact h j h'
  · obtain rfl : j = k := by omega
    exact hk
theorem NoHit.end_ {L : List Item} {x : Item} (h : NoHit L x L.length) : x ∉ L := fun hm => by
  obtain ⟨j, hj, e⟩ := List.getElem_of_mem hm
  exact h j hj (by rw [List.getElem?_eq_getElem hj, e])
theorem NoHit.tag {L : List Item} {x : Item} {k : Nat} (h : NoHit L x k) (hk : L[k]? = some x) : tagL L x = k + 1 := by
  unfold tagL
  have hl := (List.getElem?_eq_some_iff.1 hk).1
  have hm : x ∈ L := List.mem_of_getElem? hk
  have h1 := List.idxOf_lt_length_of_mem hm
  have h2 : L[L.idxOf x]? = some x := by rw [List.getElem?_eq_getElem h1, List.getElem_idxOf]
  rcases Nat.lt_trichotomy (L.idxOf x) k with h3 | h3 | h3
  · exact absurd h2 (h _ h3)
  · rw [h3]
  · exfalso
    have : ∀ (L : List Item) (k : Nat), L[k]? = some x → L.idxOf x ≤ k := by
      intro L
      induction L with
      | nil => intro k hk; simp at hk
      | cons y L ih =>
        intro k hk
        rw [List.idxOf_cons]
        by_cases e : y = x
        · simp [e]
        · cases k with
          | zero => simp at hk; exact absurd hk e
          | succ k =>
            have := ih k (by simpa using hk)
            have e2 : (y == x) = false := by simpa using e
            rw [e2]
            simp
            omega
    have := this L k hk
    omega

set_option maxRecDepth 100000 in
set_option maxHeartbeats 2000000 in
theorem rmint_ok (rb : Nat) (S : Nat → Prop) (L : List Item) (p : Int) (A : Option Addr) (n c : Nat) (zs : List Int) (w : World) (h : RefN w S rb L) (hp : 1 ≤ p ∧ p ≤ 2147483647) (hL : L.length ≤ 1000000) (hnc : n ≤ c) (hc : c ≤ maxLen) (hb : Bts w A n zs) (hnil : A = none → n = 0 ∧ c = 0) (hn : n ≤ 1000000) :
    Calls Try.prog 13 #[.pointer (some ⟨rb, 0, none⟩), .int .i64 p, .slice A n c] w fun e w' => e = .returned (.tuple #[.int .u64 (tagL L (p, zs) : Nat), .int .i64 0]) ∧ RefN w' (fun k => S k ∨ w.heap.size ≤ k) rb (mintL L (p, zs)) ∧ Keeps S w w' := by
  have hrb := h.size
  obtain ⟨A1, c1, d0, _⟩ := h.form
  have H := Lib.hid h; have HB := Lib.hid hb; have HNIL := Lib.hid hnil; clear h hb hnil
  obtain ⟨hp1, hp2⟩ := hp
  unfold maxLen at hc
  go_enter Try.func13, Try.ntmps13
  go_wp2
  go_loopw [8] (fun i wr => ∃ (k q : Nat), k ≤ L.length ∧ i = .int .i64 k ∧ wr = w.drewN q ∧ NoHit L (p, zs) k) (fun i _ => L.length - (intOf i).toNat)
  case atStart => exact ⟨0, 0, by omega, rfl, rfl, NoHit.zero _ _⟩
  case round =>
    obtain ⟨k, q, hk, rfl, rfl, hN⟩ := hrel
    have HN := Lib.hid hN; clear hN
    by_cases h1 : k < L.length
    · obtain ⟨x, hx⟩ := item_or h1
      have HX := Lib.hid hx; clear hx
      have e1 : IntKind.u64.wrap ((k : Int) + 1) = (k : Int) + 1 := u64_in (by omega) (by omega)
      have HI := Lib.hid (is_any rb k S L x p A n c zs (w.drewN q) (H.out.drewN q) hL HX.out (HB.out.drewN q))
      cases hd : decide (x = (p, zs)) with
      | true =>
        have HE := Lib.hid (of_decide_eq_true hd)
        rw [hd] at HI
        clear hd
        have HT : Hid (tagL L (p, zs) = k + 1) := Lib.hid (HN.out.tag (by rw [HX.out, HE.out]))
        have HM : Hid (mintL L (p, zs) = L) := Lib.hid (by rw [mintL, if_pos (List.mem_of_getElem? (by rw [HX.out, HE.out] : L[k]? = some (p, zs)))])
        go_wp2_with fail
        refine HI.out.mono ?_
        rintro e w' ⟨rfl, q2, rfl⟩
        go_wp2
        go_ret2
        exact ⟨by rw [HT.out]; rfl, by rw [HM.out]; exact (H.out.drewN _).mono (fun _ h => .inl h), ⟨rfl, rfl, rfl, Nat.le_refl _, fun _ _ _ => rfl⟩⟩
      | false =>
        have HE := Lib.hid (of_decide_eq_false hd)
        rw [hd] at HI
        clear hd
        go_wp2_with fail
        refine HI.out.mono ?_
        rintro e w' ⟨rfl, q2, rfl⟩
        go_wp2
        go_roundw
        case rel => exact ⟨k + 1, q + q2, by omega, by go_num, rfl, HN.out.succ (fun h => HE.out (by rw [HX.out] at h; exact Option.some.inj h))⟩
        case measure => simp [intOf]; omega
    · obtain rfl : k = L.length := by omega
      have HNM := Lib.hid HN.out.end_
      obtain ⟨v, xs, h1, h2, h3, h4, h5⟩ := H.out
      have H1 := Lib.hid h1; have H2 := Lib.hid h2; have H3 := Lib.hid h3; have H4 := Lib.hid h4; have H5 := Lib.hid h5
      obtain rfl : .slice A1 L.length c1 = v := by
        have := (cells_of h3 0).1
        rw [d0] at this
        simpa using this
      have H1 := Lib.hid h1; have H2 := Lib.hid h2; have H3 := Lib.hid h3; have H4 := Lib.hid h4; have H5 := Lib.hid h5
      clear h1 h2 h3 h4 h5
      go_wp2
      have dA : ((w.drewN (q + 1)).alloc (.cells #[] 5)).cell? ⟨rb, 0, none⟩ = some (.slice A1 L.length c1) := (World.cell?_of_block (w := w) (a := ⟨rb, 0, none⟩) (Below.heap_alloc (w.drewN (q + 1)) _ rb hrb)).trans d0
      go_region_law (first
        | (refine step_bytes rfl (.tmp 38) (.tmp 39) rfl (g := w.heap.size) (W := w.drewN (q + 1)) rfl rfl rfl (HB.out.drewN _) HNIL.out (by omega) ?_; intro Au cu w2 hu2 hold2 hos2 hsz2; have hrb2 : rb < w2.heap.size := (by omega); have c2 : w2.cell? ⟨rb, 0, none⟩ = some (.slice A1 L.length c1) := (World.cell?_of_block (w := w) (a := ⟨rb, 0, none⟩) (hold2 rb hrb)).trans d0; have HU2 := Lib.hid hu2; have HOLD2 : Hid (∀ k, k < w.heap.size → w2.heap[k]? = w.heap[k]?) := Lib.hid hold2; have HOS2 : Hid (w2.os = w.os ∧ w2.tape = w.tape ∧ w2.output = w.output) := Lib.hid hos2; have HSZ2 : Hid (w.heap.size < w2.heap.size) := Lib.hid hsz2; clear hu2 hold2 hos2)
        | (refine step_ref rfl (.tmp 36) (.tmp 42) rfl (k := L.length) (xs := xs) (g := w2.heap.size) (p := p) (u := .slice Au n cu) (v := .slice A1 L.length c1) rfl (own_keep H4.out (fun g hg hl => (Below.heap_alloc _ _ _ (by have := HSZ2.out; omega)).trans (HOLD2.out g hl))) rfl (by go_simp) (by go_simp) rfl hL ?_; intro v3 w3 ho3 hg3 hl3; obtain ⟨g3, d3, rfl⟩ := own_slice2 ho3; have hn3 := rmint_mid H3.out H4.out HOLD2.out HSZ2.out hg3; have c3 := (cells_of hn3 0).1; have f3 := (cells_of hn3 0).2; simp at c3; have HO3 := Lib.hid ho3; have HG3 := Lib.hid hg3; have HL3 := Lib.hid hl3; clear ho3 hg3 hl3 hn3))
      all_goals
        have HEND := Lib.hid (rmint_end HB.out.bd H1.out H2.out H3.out H4.out H5.out HU2.out HOLD2.out HOS2.out HSZ2.out HO3.out HG3.out HL3.out)
        obtain ⟨w4, hw4⟩ : ∃ w4, w3.setCell ⟨rb, 0, none⟩ (.slice (some ⟨g3, 0, none⟩) (L.length + 1) d3) = w4 := ⟨_, rfl⟩
        rw [hw4] at HEND ⊢
        clear hw4
        obtain ⟨A4, c4, d4, _⟩ := HEND.out.1.form
        have d4' : w4.cell? ⟨rb, 0, none⟩ = some (.slice A4 (L.length + 1) c4) := by simpa using d4
        have hrb4 : rb < w4.heap.size := HEND.out.1.size
        have e1 : IntKind.u64.wrap ((L.length : Int) + 1) = (L.length : Int) + 1 := u64_in (by omega) (by omega)
        clear d4 d0 c2 c3 f3 dA
        go_wp2
        go_ret2
        exact ⟨by rw [tagL_new HNM.out]; rfl, by rw [mintL, if_neg HNM.out]; exact HEND.out.1, HEND.out.2⟩

end Go.Proofs.Ytcinjfmmmmaelaa
