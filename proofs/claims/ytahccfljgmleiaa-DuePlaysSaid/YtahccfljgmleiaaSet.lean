/-
  Contracts of New, Set, Drop and At. Conditions: the table stands for its list of timers.
-/
import Derived.Test.YtahccfljgmleiaaOrd
import Derived.Deep.QuietTactic
import Derived.BigQuiet
namespace Go.Proofs.Ytahccfljgmleiaa
open Go.RowKit Go.Maps
set_option linter.unusedVariables false

/-- of the old blocks only those of S may be other than they were -/
structure Keeps (S : Nat → Prop) (w w' : World) : Prop where
  os : w'.os = w.os
  tape : w'.tape = w.tape
  output : w'.output = w.output
  size : w.heap.size ≤ w'.heap.size
  block : ∀ k, k < w.heap.size → ¬ S k → w'.heap[k]? = w.heap[k]?
theorem Keeps.refl (S : Nat → Prop) (w : World) : Keeps S w w := ⟨rfl, rfl, rfl, Nat.le_refl _, fun _ _ _ => rfl⟩
theorem Keeps.trans {S : Nat → Prop} {a b c : World} (h : Keeps S a b) (k : Keeps S b c) : Keeps S a c :=
  ⟨k.os.trans h.os, k.tape.trans h.tape, k.output.trans h.output, Nat.le_trans h.size k.size, fun i hi hn => (k.block i (Nat.lt_of_lt_of_le hi h.size) hn).trans (h.block i hi hn)⟩
theorem Keeps.mono {S S' : Nat → Prop} {a b : World} (h : Keeps S a b) (hs : ∀ k, k < a.heap.size → S k → S' k) : Keeps S' a b :=
  ⟨h.os, h.tape, h.output, h.size, fun i hi hn => h.block i hi (fun e => hn (hs i hi e))⟩
theorem Keeps.below {S : Nat → Prop} {a b : World} {n : Nat} (h : Keeps S a b) (hs : ∀ k, S k → n ≤ k) (hn : n ≤ a.heap.size) : Below n a b :=
  ⟨h.os, h.tape, h.output, h.size, fun k hk => h.block k (by omega) (fun e => by have := hs k e; omega)⟩
theorem Keeps.ofBelow {S : Nat → Prop} {a b : World} {n : Nat} (h : Below n a b) (hn : ∀ k, n ≤ k → k < a.heap.size → S k) : Keeps S a b :=
  ⟨h.os, h.tape, h.output, h.size, fun k hk hs => h.block k (by
    refine Nat.lt_of_not_le fun h1 => hs (hn k h1 hk))⟩
theorem Keeps.grown {S : Nat → Prop} {a b : World} {row : Option Nat} (h : a.grownBy b row) (hr : ∀ g, row = some g → S g) : Keeps S a b :=
  ⟨h.os, h.tape, h.output, h.size, fun k hk hn => h.block k hk (fun e => hn (hr k e.symm))⟩
theorem Du.keeps {w w' : World} {tb bm : Nat} {L : List En} {S : Nat → Prop} (h : Du w tb bm L) (k : Keeps S w w') (h1 : ¬ S tb) (h2 : ¬ S bm) : Du w' tb bm L :=
  h.kept (k.block _ h.lt.1 h1) (k.block _ h.lt.2 h2)

/-- what Set answers, and what it leaves -/
def setCode (L : List En) (x : Ky) (t : Int) : Int := if t < 0 ∨ 1099511627776 < t then 1 else if inL L x = false ∧ 200 ≤ L.length then 10 else 0
def setL (L : List En) (x : Ky) (t : Int) : List En := if t < 0 ∨ 1099511627776 < t then L else if inL L x = false ∧ 200 ≤ L.length then L else putL L x t
/-- what is left by a call that turns the table alone -/
def Turned (w : World) (tb bm : Nat) (L' : List En) (v : Value) : Ending → World → Prop := fun e w' => e = .returned v ∧ Du w' tb bm L' ∧ Keeps (· = bm) w w'

set_option maxHeartbeats 1000000 in
theorem new_any (w : World) : Calls Try.prog 10 #[] w fun e w' => e = .returned (.pointer (some ⟨w.heap.size + 1, 0, none⟩)) ∧ Du w' (w.heap.size + 1) w.heap.size [] ∧ Below w.heap.size w w' := by
  have hmm := @run_makeMap Try.prog
  go_enter Try.func10, Try.ntmps10
  go_wp2
  go_ret
  refine ⟨rfl, ⟨?_, ⟨.map [], (World.ownsMap_made w Try.prog 9 _).alloc _, Tags.nil⟩, Tbl.nil⟩, ((Below.refl _ _).alloc (Nat.le_refl _) _).alloc (by simp) _⟩
  have := (MapKept.heap_alloc (w.alloc (.map #[] 0)) (.cells #[.map (some w.heap.size)] 60)).1
  simpa using this

theorem lenRun {w : World} {tb bm : Nat} {L : List En} (h : Du w tb bm L) (ty : TypeId) : (Builtin.len_ #[58] ty #[.map (some bm)]).run Try.prog w = .ok (.int .i64 (L.length : Nat)) w := by
  obtain ⟨D, hm, hT⟩ := h.map
  rw [hm.len Try.underlying58 ty, hT.size]

set_option maxHeartbeats 1000000 in
theorem set_any (tb bm : Nat) (L : List En) (x : Ky) (t : Int) (w : World) (h : Du w tb bm L) :
    Calls Try.prog 11 #[.pointer (some ⟨tb, 0, none⟩), .string (str x), .int .i64 t] w (Turned w tb bm (setL L x t) (.int .i64 (setCode L x t))) := by
  have mixed : Try.prog.follows .mixedOrders = true := follows
  by_cases ha : t < 0 ∨ 1099511627776 < t
  · rw [show setL L x t = L from if_pos ha, show setCode L x t = 1 from if_pos ha]
    have H := Lib.hid h
    clear h
    rcases ha with ha | ha
    · go_enter Try.func11, Try.ntmps11
      go_wp2
      go_ret
      exact ⟨rfl, H.out, Keeps.refl _ _⟩
    · have ha2 : ¬ t < 0 := by omega
      go_enter Try.func11, Try.ntmps11
      go_wp2
      go_ret
      exact ⟨rfl, H.out, Keeps.refl _ _⟩
  · have t0 : ¬ t < 0 := fun e => ha (.inl e)
    have t1 : ¬ 1099511627776 < t := fun e => ha (.inr e)
    have t2 : 0 ≤ t := by omega
    have t3 : t ≤ 1099511627776 := by omega
    have c0 := h.cell
    have hlk := h.lookOk x
    have hln := lenRun h
    by_cases hf : inL L x = false ∧ 200 ≤ L.length
    · rw [show setL L x t = L from by unfold setL; rw [if_neg ha, if_pos hf], show setCode L x t = 10 from by unfold setCode; rw [if_neg ha, if_pos hf]]
      have hin := hf.1
      have hl : (200 : Int) ≤ (L.length : Nat) := by have := hf.2; omega
      rw [hin] at hlk
      have H := Lib.hid h
      clear h ha hf hin
      go_enter Try.func11, Try.ntmps11
      go_wp2
      go_ret
      exact ⟨rfl, H.out, Keeps.refl _ _⟩
    · rw [show setL L x t = putL L x t from by unfold setL; rw [if_neg ha, if_neg hf], show setCode L x t = 0 from by unfold setCode; rw [if_neg ha, if_neg hf]]
      obtain ⟨D, hm, hT⟩ := h.map
      have hroom : L.length < maxLen := by have := h.tbl.few; unfold maxLen; omega
      obtain ⟨w4, hup, hm4, hg4⟩ : ∃ w4, (Instr.mapUpdate 58 (.map (some bm)) (.string (str x)) (.int .i64 t)).run Try.prog w = .ok () w4 ∧ w4.ownsMap Try.prog 9 (plainElem (H := Unit) Try.prog 3) bm (L.length + 1) (D.put (.string x.1) (.lit (.int .i64 t))) ∧ w.grownBy w4 (some bm) :=
        hm.update (string_keyed Try.underlying9) Try.underlying58 hroom (key_mk x) (plainElem_int Try.underlying3 (WalkArith.wf_i64 (by omega)))
      have hfew : inL L x = true ∨ L.length < 200 := by
        cases hi : inL L x with
        | true => exact .inl rfl
        | false => exact .inr (by
            refine Nat.lt_of_not_le fun h2 => hf ⟨hi, h2⟩)
      have HT : Hid (Du w4 tb bm (putL L x t) ∧ Keeps (· = bm) w w4) := Lib.hid ⟨⟨(hg4.block _ h.lt.1 (fun e => h.ne (Option.some.inj e).symm)).trans h.own, ⟨_, by
        have := own_tight hm4
        rwa [(hT.put h.tbl x t).size] at this, hT.put h.tbl x t⟩, h.tbl.put t2 t3 hfew⟩, Keeps.grown hg4 (fun g e => by cases e; rfl)⟩
      clear hm hT hm4 hg4 hroom h
      cases hi : inL L x with
      | true =>
        rw [hi] at hlk
        clear hfew hf hi ha
        go_enter Try.func11, Try.ntmps11
        go_wp2
        go_ret
        exact ⟨rfl, HT.out⟩
      | false =>
        rw [hi] at hlk
        have hl : ¬ (200 : Int) ≤ (L.length : Nat) := by
          rcases hfew with h1 | h1
          · rw [hi] at h1; cases h1
          · omega
        clear hfew hf hi ha
        go_enter Try.func11, Try.ntmps11
        go_wp2
        go_ret
        exact ⟨rfl, HT.out⟩

set_option maxHeartbeats 1000000 in
theorem drop_any (tb bm : Nat) (L : List En) (x : Ky) (w : World) (h : Du w tb bm L) :
    Calls Try.prog 13 #[.pointer (some ⟨tb, 0, none⟩), .string (str x)] w (Turned w tb bm (dropL L x) (.bool (inL L x))) := by
  have c0 := h.cell
  have hlk := h.lookOk x
  obtain ⟨D, hm, hT⟩ := h.map
  obtain ⟨w4, hdl, hm4, hg4⟩ := hm.drop (string_keyed Try.underlying9) Try.underlying58 (key_mk x) 0
  have HT : Hid (Du w4 tb bm (dropL L x) ∧ Keeps (· = bm) w w4) := Lib.hid ⟨⟨(hg4.grown.block _ h.lt.1 (fun e => h.ne (Option.some.inj e).symm)).trans h.own, ⟨_, by
    have := own_tight hm4
    rwa [(hT.del h.tbl x).size] at this, hT.del h.tbl x⟩, h.tbl.drop x⟩, Keeps.grown hg4.grown (fun g e => by cases e; rfl)⟩
  clear hm hT hm4 hg4 h
  go_enter Try.func13, Try.ntmps13
  go_wp2
  go_ret
  exact ⟨rfl, HT.out⟩

set_option maxHeartbeats 1000000 in
theorem at_any (tb bm : Nat) (L : List En) (x : Ky) (w : World) (h : Du w tb bm L) :
    Calls Try.prog 20 #[.pointer (some ⟨tb, 0, none⟩), .string (str x)] w fun e w' => e = .returned (.tuple #[.int .i64 (timeOf L x), .bool (inL L x)]) ∧ w = w' := by
  have c0 := h.cell
  have hlk := h.lookOk x
  clear h
  go_enter Try.func20, Try.ntmps20
  go_wp2
  go_ret2
  exact ⟨rfl, rfl⟩

end Go.Proofs.Ytahccfljgmleiaa
