/-
  Contracts of embrasure/notary: New, Count, Check and Mint, over a notary that stands for a list of entries. Conditions: as each states.
-/
import Derived.Test.YtcinjfmmmmaelaaEnt
import Derived.Test.YtcinjfmmmmaelaaBts
import Derived.Deep.RegionLaw
namespace Go.Proofs.Ytcinjfmmmmaelaa
open Go.RowKit Go.Maps
set_option linter.unusedVariables false

/-- of the old blocks only those of S may be other than they were -/
structure Keeps (S : Nat → Prop) (w w' : World) : Prop where
  os : w'.os = w.os
  tape : w'.tape = w.tape
  output : w'.output = w.output
  size : w.heap.size ≤ w'.heap.size
  block : ∀ k, k < w.heap.size → ¬ S k → w'.heap[k]? = w.heap[k]?
theorem Keeps.refl (S : Nat → Prop) (w : World) : Keeps S w w := ⟨rfl, rfl, rfl, Nat.le_refl _, fun _ _ _ => rfl⟩
theorem Keeps.trans {S : Nat → Prop} {a b c : World} (h : Keeps S a b) (k : Keeps S b c) : Keeps S a c :=
  ⟨k.os.trans h.os, k.tape.trans h.tape, k.output.trans h.output, Nat.le_trans h.size k.size, fun i hi hn => (k.block i (Nat.lt_of_lt_of_le hi h.size) hn).trans (h.block i hi hn)⟩
theorem Keeps.mono {S S' : Nat → Prop} {a b : World} (h : Keeps S a b) (hs : ∀ k, S k → S' k) : Keeps S' a b :=
  ⟨h.os, h.tape, h.output, h.size, fun i hi hn => h.block i hi (fun e => hn (hs i e))⟩
theorem Keeps.below {S : Nat → Prop} {a b : World} {n : Nat} (h : Keeps S a b) (hs : ∀ k, S k → n ≤ k) (hn : n ≤ a.heap.size) : Below n a b :=
  ⟨h.os, h.tape, h.output, h.size, fun k hk => h.block k (by omega) (fun e => by have := hs k e; omega)⟩
theorem Keeps.ofBelow {a b : World} {n : Nat} (h : Below n a b) : Keeps (n ≤ ·) a b := ⟨h.os, h.tape, h.output, h.size, fun k hk hn => h.block k (by omega)⟩
theorem Keeps.grown {S : Nat → Prop} {a b : World} {row : Option Nat} (h : a.grownBy b row) (hr : ∀ g, row = some g → S g) : Keeps S a b :=
  ⟨h.os, h.tape, h.output, h.size, fun k hk hn => h.block k hk (fun e => hn (hr k e.symm))⟩

/-- block nb of w is a notary that stands for the entries L; all that it is made of lies in blocks of S -/
def Nota (w : World) (S : Nat → Prop) (nb : Nat) (L : List Item) : Prop :=
  ∃ bm v D, S nb ∧ S bm ∧ (∀ g, v.ownBlock = some g → S g) ∧ w.heap[nb]? = some (.cells #[.map (some bm), v] 46 (0, 0)) ∧ w.ownsMap Try.prog 48 (plainElem (H := Unit) Try.prog 32) bm L.length D ∧
    w.ownsRow 0 48 2 v L.length (cellsL L) ∧ Tags D L

theorem Nota.mono {w : World} {S S' : Nat → Prop} {nb : Nat} {L : List Item} (h : Nota w S nb L) (hs : ∀ k, S k → S' k) : Nota w S' nb L := by
  obtain ⟨bm, v, D, h1, h2, h3, h⟩ := h
  exact ⟨bm, v, D, hs _ h1, hs _ h2, fun g hg => hs g (h3 g hg), h⟩
theorem row_kept {w w' : World} {v : Value} {n : Nat} {xs : List Value} (h : w.ownsRow 0 48 2 v n xs) (hb : ∀ g, v.ownBlock = some g → g < w.heap.size → w'.heap[g]? = w.heap[g]?) : w'.ownsRow 0 48 2 v n xs := by
  refine ⟨h.1, ?_⟩
  rcases h.2 with hn | ⟨g, cap, cur, rfl, h1, hgg, rest⟩
  · exact .inl hn
  · exact .inr ⟨g, cap, cur, rfl, h1, (hb g rfl (Array.getElem?_eq_some_iff.1 hgg).1).trans hgg, rest⟩
theorem map_kept {w w' : World} {b n : Nat} {D : DataW Unit} (h : w.ownsMap Try.prog 48 (plainElem Try.prog 32) b n D) (hb : w'.heap[b]? = w.heap[b]?) : w'.ownsMap Try.prog 48 (plainElem Try.prog 32) b n D := by
  obtain ⟨es, clock, h1, h2⟩ := h
  exact ⟨es, clock, hb.trans h1, h2⟩
/-- a notary stays what it is as long as its blocks do -/
theorem Nota.kept {w w' : World} {S : Nat → Prop} {nb : Nat} {L : List Item} (h : Nota w S nb L) (hb : ∀ k, k < w.heap.size → S k → w'.heap[k]? = w.heap[k]?) : Nota w' S nb L := by
  obtain ⟨bm, v, D, h1, h2, h3, h4, h5, h6, h7⟩ := h
  exact ⟨bm, v, D, h1, h2, h3, (hb nb (Array.getElem?_eq_some_iff.1 h4).1 h1).trans h4, map_kept h5 (hb bm h5.lt h2), row_kept h6 (fun g hg hl => hb g hl (h3 g hg)), h7⟩
theorem Nota.drewN {w : World} {S : Nat → Prop} {nb : Nat} {L : List Item} (h : Nota w S nb L) (q : Nat) : Nota (w.drewN q) S nb L := h.kept (fun _ _ _ => rfl)
theorem Nota.alloc {w : World} {S : Nat → Prop} {nb : Nat} {L : List Item} (h : Nota w S nb L) (o : Obj) : Nota (w.alloc o) S nb L := h.kept (fun k hk _ => Below.heap_alloc _ _ _ hk)
theorem Nota.size {w : World} {S : Nat → Prop} {nb : Nat} {L : List Item} (h : Nota w S nb L) : nb < w.heap.size := by
  obtain ⟨bm, v, D, h1, h2, h3, h4, _⟩ := h
  exact (Array.getElem?_eq_some_iff.1 h4).1
theorem Nota.trim {w : World} {S : Nat → Prop} {nb : Nat} {L : List Item} (h : Nota w S nb L) : Nota w (fun k => S k ∧ k < w.heap.size) nb L := by
  obtain ⟨bm, v, D, h1, h2, h3, h4, h5, h6, h7⟩ := h
  exact ⟨bm, v, D, ⟨h1, (Array.getElem?_eq_some_iff.1 h4).1⟩, ⟨h2, h5.lt⟩, fun g hg => ⟨h3 g hg, (h6.lt g hg).2⟩, h4, h5, h6, h7⟩

theorem cells_of {w : World} {b : Nat} {C : Array Value} {t : TypeId} (h : w.heap[b]? = some (.cells C t (0, 0))) (j : Nat) : w.cell? ⟨b, j, none⟩ = C[j]? ∧ w.frozen? ⟨b, j, none⟩ = false := by
  constructor
  · simp [World.cell?, h]
  · simp [World.frozen?, h]

set_option maxHeartbeats 400000 in
theorem count_any (nb : Nat) (S : Nat → Prop) (L : List Item) (w : World) (h : Nota w S nb L) (hL : L.length ≤ 1000000) :
    Calls Try.prog 14 #[.pointer (some ⟨nb, 0, none⟩)] w fun e w' => e = .returned (.int .i64 (L.length : Nat)) ∧ w = w' := by
  obtain ⟨bm, v, D, h1, h2, h3, h4, h5, h6, h7⟩ := h
  have c1 := (cells_of h4 1).1
  simp at c1
  obtain ⟨A, c, rfl⟩ : ∃ A c, v = .slice A L.length c := by
    rcases h6.2 with ⟨rfl, e⟩ | ⟨g, cap, cur, rfl, _⟩
    · exact ⟨none, 0, by rw [e]⟩
    · exact ⟨_, _, rfl⟩
  clear h1 h2 h3 h4 h5 h6 h7
  go_enter Try.func14, Try.ntmps14
  go_wp2
  go_ret
  exact ⟨rfl, rfl⟩

set_option maxHeartbeats 400000 in
theorem new_any (w : World) : Calls Try.prog 9 #[] w fun e w' => ∃ nb, e = .returned (.pointer (some ⟨nb, 0, none⟩)) ∧ Nota w' (w.heap.size ≤ ·) nb [] ∧ Below w.heap.size w w' := by
  have hmm := @run_makeMap Try.prog
  go_enter Try.func9, Try.ntmps9
  go_wp2
  go_ret
  refine ⟨_, rfl, ⟨w.heap.size, .slice none 0 0, .map [], by simp, by simp, by simp [Value.ownBlock], ?_, (World.ownsMap_made w Try.prog 48 _).alloc _, World.ownsRow_nil _ _ _ _, Tags.nil⟩, ((Below.refl _ _).alloc (Nat.le_refl _) _).alloc (by simp) _⟩
  have := (MapKept.heap_alloc (w.alloc (.map #[] 0)) (.cells #[.map (some w.heap.size), .slice none 0 0] 46)).1
  simpa using this

theorem conv_str {w : World} {A : Option Addr} {n c : Nat} {zs : List Int} (h : Bts w A n zs) : (convert 31 9 (.slice A n c)).run Try.prog w = .ok (.string (str zs)) w := by
  cases A with
  | none =>
    have hn : n = 0 := by
      rcases Nat.eq_zero_or_pos n with h0 | h0
      · exact h0
      · obtain ⟨b, off, e, _⟩ := h.2.2 h0; cases e
    subst hn
    have hz : zs = [] := List.eq_nil_of_length_eq_zero h.1
    subst hz
    rw [run_convert_bytes_string w 31 9 5 none 0 c Try.underlying31 Try.underlying5 Try.underlying9]
    simp [Conv.bytesToString, str]
    rfl
  | some ad =>
    have hl : (zs.map fun z => UInt8.ofNat z.toNat).length = n := by rw [List.length_map]; exact h.1
    have := run_convert_bytes_back w 31 9 5 ad c (zs.map fun z => UInt8.ofNat z.toNat) Try.underlying31 Try.underlying5 Try.underlying9 (fun j hj => by
      have hj' : j < zs.length := by simpa using hj
      have hc := h.news j (.int .u8 (zs.getD j 0)) (B_at zs j hj')
      rw [hc]
      have hb := h.bd zs[j] (List.getElem_mem hj')
      simp only [List.getElem_map, UInt8.toNat_ofNat', List.getD, List.getElem?_eq_getElem hj', Option.getD_some, Option.some.injEq, Value.int.injEq, true_and]
      omega)
    rw [hl] at this
    exact this

def NotMem (L : List Item) (x : Item) : Prop := x ∉ L

set_option maxHeartbeats 1000000 in
theorem mint_arg (nb : Nat) (p : Int) (A : Option Addr) (n c : Nat) (w : World) (hp : ¬ (1 ≤ p ∧ p ≤ 2147483647)) :
    Calls Try.prog 12 #[.pointer (some ⟨nb, 0, none⟩), .int .i64 p, .slice A n c] w fun e w' => e = .returned (.tuple #[.int .u64 0, .int .i64 1]) ∧ w = w' := by
  by_cases h1 : p < 1
  · go_enter Try.func12, Try.ntmps12
    go_wp2
    go_ret2
    exact ⟨rfl, rfl⟩
  · have h2 : 2147483647 < p := by omega
    clear hp
    go_enter Try.func12, Try.ntmps12
    go_wp2
    go_ret2
    exact ⟨rfl, rfl⟩

set_option maxHeartbeats 1000000 in
theorem mint_old (nb : Nat) (S : Nat → Prop) (L : List Item) (p : Int) (A : Option Addr) (n c : Nat) (zs : List Int) (w : World) (h : Nota w S nb L) (hp : 1 ≤ p ∧ p ≤ 2147483647) (hnc : n ≤ c) (hc : c ≤ maxLen) (hb : Bts w A n zs) (hx : (p, zs) ∈ L) :
    Calls Try.prog 12 #[.pointer (some ⟨nb, 0, none⟩), .int .i64 p, .slice A n c] w fun e w' => e = .returned (.tuple #[.int .u64 (tagL L (p, zs) : Nat), .int .i64 0]) ∧ Below w.heap.size w w' := by
  obtain ⟨bm, v, D, h1, h2, h3, h4, h5, h6, h7⟩ := h
  have hcv := conv_str (c := c) hb
  have c0 := (cells_of h4 0).1
  simp at c0
  have hok := h7.good _ hx
  have hz : (zeroValue 32).run Try.prog w = .ok (.int .u64 0) w := by kernel_rfl
  have hnb := (Array.getElem?_eq_some_iff.1 h4).1
  have hlk : ∀ (o : Obj) (q : Nat), (Instr.lookup 43 (.map (some bm)) (.agg #[.int .i64 p, .string (str zs)]) true).run Try.prog ((w.alloc o).drewN q) = .ok (.tuple #[.int .u64 (tagL L (p, zs) : Nat), .bool true]) ((w.alloc o).drewN q) := by
    intro o q
    have hW : ((w.alloc o).drewN q).heap[bm]? = w.heap[bm]? := Below.heap_alloc w o _ h5.lt
    obtain ⟨v1, ps, hr, hv⟩ := (map_kept h5 hW).look_ok law Try.underlying43 (z := .int .u64 0) (by kernel_rfl) (zd := .lit (.int .u64 0)) (zp := []) (plainElem_int Try.underlying32 (by decide)) (keyx_mk hok)
    rw [h7.has _ hok] at hr
    rw [h7.tag _ hx] at hv
    obtain ⟨c, rfl, hc, _⟩ := plainElem_int_inv Try.underlying32 hv
    have hc' : (tagL L (p, zs) : Nat) = c := by
      have := congrArg Prod.fst hc
      simpa [tagL] using this
    unfold ent at hr
    rw [hr, ← hc']
    simp [hx]
  go_enter Try.func12, Try.ntmps12
  go_wp2
  go_quiet (fail)
  go_wp2
  go_ret2
  exact ⟨rfl, below_drewN' ((Below.refl _ _).alloc (Nat.le_refl _) _) _⟩

theorem ent_info : (Try.prog.info? 48).map (fun i => (i.zero, i.size, i.bytes)) = some (some (.agg #[.int .i64 0, .string ByteArray.empty]), 2, 24) := by kernel_rfl
/-- 'append(l, e)' onto a notary's own row, as one step of a region that draws its order -/
theorem step_ent {w : World} {ops : Array Oper} {o : Oper} {a : Act} {K : Act → World → Prop} {Q : Exit → Act → World → Prop} {E : Prop} (hf : o.guard = none) (s x : Operand)
    (ho : o.op = .call { callee := .builtin .append, args := #[s, x], argTypes := #[44, 44] }) {k g : Nat} {v : Value} {p : Int} {t : ByteArray} {xs : List Value} (hs : a.eval s = v) (hown : w.ownsRow 0 48 2 v k xs) (hx : a.eval x = .slice (some ⟨g, 0, none⟩) 1 1)
    (h0 : w.cell? ⟨g, 0, none⟩ = some (.int .i64 p)) (h1 : w.cell? ⟨g, 1, none⟩ = some (.string t)) (hk : k ≤ 1000000)
    (h : ∀ v' w', w'.ownsRow 0 48 2 v' (k + 1) (xs ++ [.int .i64 p, .string t]) → w.grownBy w' v.ownBlock → (v'.ownBlock = v.ownBlock ∨ v'.ownBlock = some w.heap.size) → K (a.put o.dst v') w') :
    if Region.wanted o (yielded ops a.tmps) = true then Oper.wp Try.prog o a w K Q else E := by
  obtain ⟨i0, hi0, hz0, hz1, hz2⟩ := info_parts ent_info
  obtain ⟨v', w', hrun, r1, r2, _, r3⟩ := run_append_own_at (P := Try.prog) (w := w) 0 44 o.type 48 i0 (.agg #[.int .i64 0, .string ByteArray.empty]) 2 24 Try.underlying44 hi0 hz0 hz1 hz2 rfl (by decide) v k xs hown ⟨g, 0, none⟩ 1 1 [.int .i64 p, .string t] rfl
    (fun j y hy => by
      match j, hy with
      | 0, hy => simp at hy; subst hy; exact h0
      | 1, hy => simp at hy; subst hy; exact h1) (by simp [Value.oneCell']) (by unfold maxLen; omega) (by omega) (Nat.zero_le _)
  rw [if_pos (by simp [Region.wanted, hf])]
  unfold Oper.wp execOp
  simp only [ho, resolve, invoke, builtin, Sem.run_bind, Sem.run_pure, Result.andThen_ok, List.map_toArray, List.map_cons, List.map_nil, hs, hx, hrun]
  exact h _ _ r1 r2 r3

/-- a notary's row of entries isn't the notary's own block -/
theorem own_ne {w : World} {v : Value} {n nb : Nat} {xs : List Value} {C : Array Value} (h : w.ownsRow 0 48 2 v n xs) (hb : w.heap[nb]? = some (.cells C 46 (0, 0))) : v.ownBlock ≠ some nb := by
  intro e
  rcases h.2 with ⟨rfl, _⟩ | ⟨g, cap, cur, rfl, _, hg, _⟩
  · cases e
  · simp only [Value.ownBlock, Option.some.injEq] at e
    subst e
    rw [hb] at hg
    simp at hg

theorem own_some2 {w : World} {v : Value} {n : Nat} {xs : List Value} (h : w.ownsRow 0 48 2 v (n + 1) xs) : ∃ g c, v = .slice (some ⟨g, 0, none⟩) (n + 1) c := by
  rcases h.2 with ⟨_, e⟩ | ⟨g, cap, cur, rfl, _⟩
  · omega
  · exact ⟨_, _, rfl⟩

theorem heap_set1 {w : World} {b : Nat} {a c u : Value} {t : TypeId} (h : w.heap[b]? = some (.cells #[a, c] t (0, 0))) : (w.setCell ⟨b, 1, none⟩ u).heap[b]? = some (.cells #[a, u] t (0, 0)) := by
  simp [World.setCell, Array.getElem?_modify, h]
theorem map_ne {w : World} {b nb n : Nat} {D : DataW Unit} {C : Array Value} {t : TypeId} {m : Nat × Nat} (h : w.ownsMap Try.prog 48 (plainElem Try.prog 32) b n D) (hb : w.heap[nb]? = some (.cells C t m)) : b ≠ nb := by
  rintro rfl
  obtain ⟨es, clock, h1, _⟩ := h
  rw [hb] at h1
  cases h1
theorem map_ne_row {w : World} {b n k : Nat} {D : DataW Unit} {v : Value} {xs : List Value} (h : w.ownsMap Try.prog 48 (plainElem Try.prog 32) b n D) (hr : w.ownsRow 0 48 2 v k xs) : v.ownBlock ≠ some b := by
  intro e
  rcases hr.2 with ⟨rfl, _⟩ | ⟨g, cap, cur, rfl, _, hg, _⟩
  · cases e
  · simp only [Value.ownBlock, Option.some.injEq] at e
    exact map_ne h hg e.symm
/-- what a notary is made of when the new entry has been appended, but isn't in the map yet -/
structure Mid (w w3 : World) (S : Nat → Prop) (nb bm : Nat) (v2 : Value) (D : DataW Unit) (L : List Item) (x : Item) : Prop where
  own : w3.heap[nb]? = some (.cells #[.map (some bm), v2] 46 (0, 0))
  row : w3.ownsRow 0 48 2 v2 (L.length + 1) (cellsL (L ++ [x]))
  map : w3.ownsMap Try.prog 48 (plainElem Try.prog 32) bm L.length D
  keeps : Keeps S w w3
  at_ : ∀ g, v2.ownBlock = some g → S g ∨ w.heap.size ≤ g
  box : w3.heap[w.heap.size]? = some (.cells #[.int .i64 x.1, .string (str x.2)] 48 (0, 0))
theorem mint_mid {w w2 : World} {S : Nat → Prop} {nb bm q : Nat} {v v2 : Value} {D : DataW Unit} {L : List Item} {x : Item} {o' : Obj} (h1 : S nb) (h3 : ∀ g, v.ownBlock = some g → S g) (h4 : w.heap[nb]? = some (.cells #[.map (some bm), v] 46 (0, 0)))
    (h5 : w.ownsMap Try.prog 48 (plainElem Try.prog 32) bm L.length D) (h6 : w.ownsRow 0 48 2 v L.length (cellsL L)) (ho : w2.ownsRow 0 48 2 v2 (L.length + 1) (cellsL L ++ [.int .i64 x.1, .string (str x.2)]))
    (hg : (((w.alloc (.cells #[.int .i64 x.1, .string (str x.2)] 48)).drewN q).alloc o').grownBy w2 v.ownBlock) (hl : v2.ownBlock = v.ownBlock ∨ v2.ownBlock = some (((w.alloc (.cells #[.int .i64 x.1, .string (str x.2)] 48)).drewN q).alloc o').heap.size) :
    Mid w (w2.setCell ⟨nb, 1, none⟩ v2) S nb bm v2 D L x := by
  have hnb := (Array.getElem?_eq_some_iff.1 h4).1
  have old : ∀ k, k < w.heap.size → some k ≠ v.ownBlock → w2.heap[k]? = w.heap[k]? := fun k hk hn =>
    (hg.block k (by simp; omega) hn).trans ((Below.heap_alloc _ _ _ (by simp; omega)).trans (Below.heap_alloc w _ k hk))
  have hn2 : w2.heap[nb]? = some (.cells #[.map (some bm), v] 46 (0, 0)) := (old nb hnb (fun e => own_ne h6 h4 e.symm)).trans h4
  have hv2 := own_ne ho hn2
  refine ⟨heap_set1 hn2, ?_, ?_, ?_, ?_, ?_⟩
  · rw [cellsL_snoc]
    exact row_kept ho (fun g hgg hlt => Below.heap_setCell _ _ _ _ (fun e => hv2 (by rw [hgg]; exact congrArg some e)))
  · refine map_kept h5 ((Below.heap_setCell _ _ _ _ (fun e => map_ne h5 h4 e)).trans (old bm h5.lt (fun e => map_ne_row h5 h6 e.symm)))
  · refine ⟨hg.os, hg.tape, hg.output, ?_, fun k hk hn => ?_⟩
    · have := hg.size
      simp [World.setCell] at this ⊢
      omega
    · exact (Below.heap_setCell _ _ _ _ (fun e => hn (by rw [show k = nb from e]; exact h1))).trans (old k hk (fun e => hn (h3 k e.symm)))
  · intro g hg2
    rcases hl with e | e
    · exact .inl (h3 g (e ▸ hg2))
    · rw [e] at hg2
      simp only [Option.some.injEq] at hg2
      subst hg2
      exact .inr (by simp; omega)
  · refine (Below.heap_setCell _ _ _ _ (fun e => by have e2 : w.heap.size = nb := e; omega)).trans ((hg.block _ (by simp; omega) (fun e => by
      have := (h6.lt _ e.symm).2; omega)).trans ((Below.heap_alloc _ _ _ (by simp)).trans (MapKept.heap_alloc w _).1))
theorem Mid.end_ {w w3 w4 : World} {S : Nat → Prop} {nb bm q : Nat} {v2 : Value} {D : DataW Unit} {L : List Item} {x : Item} (h : Mid w w3 S nb bm v2 D L x) (h1 : S nb) (h2 : S bm) (hT : Tags D L) (hx : Ok x) (hn : x ∉ L)
    (hm : w4.ownsMap Try.prog 48 (plainElem Try.prog 32) bm (L.length + 1) (D.put (keyx x) (.lit (.int .u64 (L.length + 1 : Nat))))) (hg : (w3.drewN q).grownBy w4 (some bm)) :
    Nota w4 (fun k => S k ∨ w.heap.size ≤ k) nb (L ++ [x]) ∧ Keeps S w w4 := by
  have hbl : ∀ k, k < w3.heap.size → k ≠ bm → w4.heap[k]? = w3.heap[k]? := fun k hk hne => hg.block k hk (fun e => hne (Option.some.inj e))
  refine ⟨⟨bm, v2, _, .inl h1, .inl h2, h.at_, (hbl nb (Array.getElem?_eq_some_iff.1 h.own).1 (fun e => map_ne h.map h.own e.symm)).trans h.own, by simpa using hm,
    by simpa using row_kept h.row (fun g hg hl => hbl g hl (fun e => map_ne_row h.map h.row (by rw [hg, e]))), hT.snoc hx hn⟩, h.keeps.trans (Keeps.grown (⟨hg.os, hg.tape, hg.output, hg.size, hg.block⟩ : w3.grownBy w4 (some bm)) (fun g e => by cases e; exact h2))⟩

theorem wf_tag (n : Nat) (h : n ≤ 1000000) : (Lit.int .u64 (n + 1 : Nat)).wf = true := by
  simp [Lit.wf, IntKind.min, IntKind.max, IntKind.signed, IntKind.bits]
  omega

set_option maxHeartbeats 1000000 in
theorem mint_new (nb : Nat) (S : Nat → Prop) (L : List Item) (p : Int) (A : Option Addr) (n c : Nat) (zs : List Int) (w : World) (h : Nota w S nb L) (hp : 1 ≤ p ∧ p ≤ 2147483647) (hnc : n ≤ c) (hc : c ≤ maxLen) (hb : Bts w A n zs) (hx : (p, zs) ∉ L) (hL : L.length ≤ 1000000) :
    Calls Try.prog 12 #[.pointer (some ⟨nb, 0, none⟩), .int .i64 p, .slice A n c] w fun e w' => e = .returned (.tuple #[.int .u64 (L.length + 1 : Nat), .int .i64 0]) ∧ Nota w' (fun k => S k ∨ w.heap.size ≤ k) nb (L ++ [(p, zs)]) ∧ Keeps S w w' := by
  obtain ⟨bm, v, D, h1, h2, h3, h4, h5, h6, h7⟩ := h
  have hcv := conv_str (c := c) hb
  have c0 := (cells_of h4 0).1
  have c1 := (cells_of h4 1).1
  simp at c0 c1
  have hok : Ok (p, zs) := ⟨WalkArith.wf_i64 (by omega), hb.2.1, by have := hb.1; show zs.length ≤ _; omega⟩
  have hz : (zeroValue 32).run Try.prog w = .ok (.int .u64 0) w := by kernel_rfl
  have hnb := (Array.getElem?_eq_some_iff.1 h4).1
  have hlk : ∀ (o : Obj) (q : Nat), (Instr.lookup 43 (.map (some bm)) (.agg #[.int .i64 p, .string (str zs)]) true).run Try.prog ((w.alloc o).drewN q) = .ok (.tuple #[.int .u64 0, .bool false]) ((w.alloc o).drewN q) := by
    intro o q
    have hW : ((w.alloc o).drewN q).heap[bm]? = w.heap[bm]? := Below.heap_alloc w o _ h5.lt
    obtain ⟨v1, ps, hr, hv⟩ := (map_kept h5 hW).look_ok law Try.underlying43 (z := .int .u64 0) (by kernel_rfl) (zd := .lit (.int .u64 0)) (zp := []) (plainElem_int Try.underlying32 (by decide)) (keyx_mk hok)
    have hno : Maps.has D (keyx (p, zs)) = false := by rw [h7.has _ hok]; simp [hx]
    rw [hno] at hr
    rw [atKey_of_not_has hno] at hv
    obtain ⟨c, rfl, hc, _⟩ := plainElem_int_inv Try.underlying32 hv
    have hc' : (0 : Int) = c := by
      have := congrArg Prod.fst hc
      simpa using this
    unfold ent at hr
    rw [hr, ← hc']
  have H3 := Lib.hid h3; have H4 := Lib.hid h4; have H5 := Lib.hid h5; have H6 := Lib.hid h6; have H7 := Lib.hid h7; have HX := Lib.hid hx; have HOK := Lib.hid hok; have H1 := Lib.hid h1; have H2 := Lib.hid h2
  clear h1 h2 h3 h4 h5 h6 h7 hx hok
  go_enter Try.func12, Try.ntmps12
  go_wp2
  go_quiet (fail)
  clear hlk
  go_wp2
  have HOW : Hid (∀ (o o' : Obj) (q : Nat), (((w.alloc o).drewN q).alloc o').ownsRow 0 48 2 v L.length (cellsL L)) := Lib.hid (fun o o' q =>
    row_kept H6.out (fun g hg hl => ((Below.heap_alloc _ _ _ (by simp; omega)).trans (Below.heap_alloc w o g hl))))
  have HNE : Hid (v.ownBlock ≠ some nb) := Lib.hid (own_ne H6.out H4.out)
  have HNB : Hid (∀ (o o' : Obj) (q : Nat) (w' : World), (((w.alloc o).drewN q).alloc o').grownBy w' v.ownBlock → w'.heap[nb]? = some (.cells #[.map (some bm), v] 46 (0, 0))) := Lib.hid (fun o o' q w' hg =>
    (hg.block nb (by simp; omega) (fun e => HNE.out e.symm)).trans ((Below.heap_alloc _ _ _ (by simp; omega)).trans ((Below.heap_alloc w o nb hnb).trans H4.out)))
  go_region_law (refine step_ent rfl (.tmp 37) (.tmp 39) rfl (k := L.length) (xs := cellsL L) (g := w.heap.size + 1) (p := p) (t := str zs) (v := v) rfl (HOW.out _ _ _) rfl (by go_simp) (by go_simp) hL ?_; intro v2 w2 ho2 hg2 hl2; obtain ⟨g2, d2, rfl⟩ := own_some2 ho2; have hc2 := (cells_of (HNB.out _ _ _ _ hg2) 1).1; have hf2 := (cells_of (HNB.out _ _ _ _ hg2) 1).2; simp at hc2; have HN2 := Lib.hid (HNB.out _ _ _ _ hg2); have HO2 := Lib.hid ho2; have HG2 := Lib.hid hg2; have HL2 := Lib.hid hl2; clear ho2 hg2 hl2)
  all_goals
    have HMID := Lib.hid (mint_mid (x := (p, zs)) H1.out H3.out H4.out H5.out H6.out HO2.out HG2.out HL2.out)
    clear hc2 hf2 HN2 HO2 HG2 HL2
    obtain ⟨w3, hw3⟩ : ∃ w3, w2.setCell ⟨nb, 1, none⟩ (.slice (some ⟨g2, 0, none⟩) (L.length + 1) d2) = w3 := ⟨_, rfl⟩
    rw [hw3] at HMID ⊢
    clear hw3
    have d0 := (cells_of HMID.out.own 0).1
    have d1 := (cells_of HMID.out.own 1).1
    have x0 := (cells_of HMID.out.box 0).1
    have x1 := (cells_of HMID.out.box 1).1
    simp at d0 d1 x0 x1
    clear c0 c1
    go_wp2
    obtain ⟨w4, hup, hm4, hg4⟩ : ∃ w4, (Instr.mapUpdate 43 (.map (some bm)) (.agg #[.int .i64 p, .string (str zs)]) (.int .u64 ((L.length : Int) + 1))).run Try.prog w3.drew = .ok () w4 ∧ w4.ownsMap Try.prog 48 (plainElem Try.prog 32) bm (L.length + 1) (D.put (keyx (p, zs)) (.lit (.int .u64 (L.length + 1 : Nat)))) ∧ w3.drew.grownBy w4 (some bm) :=
      (show w3.drew.ownsMap Try.prog 48 (plainElem Try.prog 32) bm L.length D from HMID.out.map).update law Try.underlying43 (by unfold maxLen; omega) (keyx_mk HOK.out) (plainElem_int Try.underlying32 (wf_tag L.length hL))
    have HM4 := Lib.hid hm4
    have HG4 : Hid ((w3.drewN 1).grownBy w4 (some bm)) := Lib.hid hg4
    clear hm4 hg4
    go_region
    go_wp2
    go_ret2
    exact ⟨rfl, HMID.out.end_ H1.out H2.out H7.out HOK.out HX.out HM4.out HG4.out⟩

end Go.Proofs.Ytcinjfmmmmaelaa
