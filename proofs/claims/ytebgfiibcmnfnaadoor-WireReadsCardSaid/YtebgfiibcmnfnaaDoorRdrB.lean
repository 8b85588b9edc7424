/-
  The contract of embrasure/wire's reader.addr. Conditions: the block holds a reader.
-/
import Derived.Test.YtebgfiibcmnfnaaDoorRdr
import Derived.Deep.RegionHeld3
namespace Go.Proofs.YtebgfiibcmnfnaaDoor
open Go.RowKit
set_option linter.unusedVariables false

theorem Rd.blk {w : World} {R b : Nat} {zs : List Int} {bd : Bool} (h : Rd w R b zs bd) (hz : zs ≠ []) : b < w.heap.size := by
  obtain ⟨A, n, c, e, hb, r1, r2, r3, r4⟩ := h
  have hn : 0 < n := by
    rcases Nat.eq_zero_or_pos n with h | h
    · have := hb.len; exact absurd (List.eq_nil_of_length_eq_zero (by omega)) hz
    · exact h
  obtain ⟨ad, e1, e2, _⟩ := r4 hn
  obtain ⟨b', off, e3, hlt, _⟩ := hb.2.2 hn
  rw [e3] at e1
  cases e1
  simp at e2
  omega
theorem Rd.setNew {w : World} {R b g : Nat} {zs : List Int} {bd : Bool} (h : Rd w R b zs bd) (hR : R ≠ g) (hb : zs ≠ [] → b ≠ g) (k : Nat) (u : Value) : Rd (w.setCell ⟨g, k, none⟩ u) R b zs bd :=
  h.kept (by simp [World.setCell]) (Below.heap_setCell _ _ _ _ hR) (fun hz => Below.heap_setCell _ _ _ _ (hb hz))
theorem grown_new {w w' : World} {R g : Nat} (h : w.grownBy w' (some R)) (hg : w.heap.size ≤ g) (k : Nat) (u : Value) : w.grownBy (w'.setCell ⟨g, k, none⟩ u) (some R) :=
  ⟨h.os, h.tape, h.output, Nat.le_trans h.size (by simp [World.setCell]), fun i hi hn => (Below.heap_setCell _ _ _ _ (by show i ≠ g; omega)).trans (h.block i hi hn)⟩
theorem grown_frozen {w w' : World} {row : Option Nat} (hg : w.grownBy w' row) {a : Addr} (h : w.frozen? a = false) (hl : a.block < w.heap.size) (hne : some a.block ≠ row) : w'.frozen? a = false :=
  (World.frozen?_of_block (w := w) (hg.block _ hl hne)).trans h
theorem arest_nil {zs : List Int} (h : arest zs ≠ []) : zs ≠ [] := by
  rintro rfl
  exact h (by unfold arest; split <;> rfl)
/-- what stands when pass has been called: the answer's cells, and the address that was read -/
theorem addr_end {w w1 w2 : World} {R b g : Nat} {ah ap : Int} {rs : List Int} {bd : Bool} (hB : Below w.heap.size w w1) (hl : R < w.heap.size) (hbl : rs ≠ [] → b < w.heap.size) (hgw : w.heap.size < g) (hg : w1.grownBy w2 (some R)) (hr : Rd w2 R b rs bd) :
    Hid (w.grownBy ((w2.setCell ⟨w.heap.size, 0, none⟩ (.int .u32 ah)).setCell ⟨w.heap.size, 1, none⟩ (.int .i64 ap)) (some R) ∧ Rd ((w2.setCell ⟨w.heap.size, 0, none⟩ (.int .u32 ah)).setCell ⟨w.heap.size, 1, none⟩ (.int .i64 ap)) R b rs bd) :=
  Lib.hid ⟨grown_new (grown_new (grown_after hB hg) (Nat.le_refl _) _ _) (Nat.le_refl _) _ _, (hr.setNew (by omega) (fun hz => by have := hbl hz; omega) _ _).setNew (by omega) (fun hz => by have := hbl hz; omega) _ _⟩
theorem heap_new (w : World) (o : Obj) : (w.alloc o).heap[w.heap.size]? = some o := by
  show (w.heap.push o)[w.heap.size]? = _
  simp
/-- a fresh address at block g -/
structure Ad0 (w : World) (g : Nat) : Prop where
  c0 : w.cell? ⟨g, 0, none⟩ = some (.int .u32 0)
  c1 : w.cell? ⟨g, 1, none⟩ = some (.int .i64 0)
  f0 : w.frozen? ⟨g, 0, none⟩ = false
  f1 : w.frozen? ⟨g, 1, none⟩ = false
theorem Ad0.of {w : World} {g : Nat} (h : w.heap[g]? = some (.cells #[.int .u32 0, .int .i64 0] 45 (0, 0))) : Ad0 w g :=
  ⟨by rw [(cells_of h 0).1]; rfl, by rw [(cells_of h 1).1]; rfl, (cells_of h 0).2, (cells_of h 1).2⟩

set_option maxRecDepth 100000 in
set_option maxHeartbeats 4000000 in
theorem addr_any (R b : Nat) (zs : List Int) (bd : Bool) (w : World) (h : Rd w R b zs bd) :
    Calls Tryd.prog 41 #[.pointer (some ⟨R, 0, none⟩)] w fun e w' => e = .returned (.agg #[.int .u32 (ahost zs), .int .i64 (aport zs)]) ∧ w.grownBy w' (some R) ∧ Rd w' R b (arest zs) (spoils bd (acode zs)) := by
  have HBL : Hid (arest zs ≠ [] → b < w.heap.size) := Lib.hid (fun hz => h.blk (arest_nil hz))
  have CP := Lib.hid (fun W hb => pass_adr R b zs bd W (h.below hb))
  obtain ⟨A, n, c, e, hb, r1, r2, _⟩ := h
  obtain ⟨l0, c0, c1, f0, f1⟩ := Rd.cells e
  have CG := fun W (hbe : Below w.heap.size w W) m hm => from_at A n c m zs W (hb.below hbe) r1 r2 hm
  generalize ahost zs = ah at *
  generalize aport zs = ap at *
  generalize acode zs = k at *
  unfold maxLen at r2
  clear e hb
  obtain ⟨m, hm⟩ : ∃ m, min 6 n = m := ⟨_, rfl⟩
  have hmi : min (6 : Int) (n : Int) = (m : Int) := by omega
  have hmc : (m : Int) ≤ (c : Int) := by omega
  have L0 := Lib.hid l0
  have CA : Hid (Calls Tryd.prog 43 #[.slice A m c] (w.alloc (.cells #[.int .u32 0, .int .i64 0] 45)).drew fun e w' => e = .returned (.tuple #[.agg #[.int .u32 ah, .int .i64 ap], .int .i64 k]) ∧ Hid (Below w.heap.size w w' ∧ w.heap.size < w'.heap.size) ∧ Ad0 w' w.heap.size ∧ w'.cell? ⟨R, 0, none⟩ = some (.slice A n c)) := Lib.hid (by
    refine (CG _ ((Below.refl _ _).alloc (Nat.le_refl _) _).drew m hm.symm).mono ?_
    rintro e w' ⟨rfl, hb⟩
    have hs := hb.size
    simp at hs
    refine ⟨rfl, ⟨(((Below.refl _ _).alloc (Nat.le_refl _) _).drew).trans (hb.mono (by simp)), by omega⟩, Ad0.of ((hb.block _ (by simp)).trans (heap_new w _)), (((((Below.refl _ _).alloc (Nat.le_refl _) _).drew).trans (hb.mono (by simp))).cell (p := ⟨R, 0, none⟩) L0.out).trans c0⟩)
  have CB : Hid (Calls Tryd.prog 43 #[.slice A m c] ((w.alloc (.cells #[.int .u32 0, .int .i64 0] 45)).alloc (.cells #[.int .u32 0, .int .i64 0] 45)).drew fun e w' => e = .returned (.tuple #[.agg #[.int .u32 ah, .int .i64 ap], .int .i64 k]) ∧ Hid (Below w.heap.size w w' ∧ w.heap.size + 1 < w'.heap.size) ∧ Ad0 w' w.heap.size ∧ Ad0 w' (w.heap.size + 1) ∧ w'.cell? ⟨R, 0, none⟩ = some (.slice A n c)) := Lib.hid (by
    refine (CG _ (((Below.refl _ _).alloc (Nat.le_refl _) _).alloc (by simp) _).drew m hm.symm).mono ?_
    rintro e w' ⟨rfl, hb⟩
    have hs := hb.size
    simp at hs
    refine ⟨rfl, ⟨((((Below.refl _ _).alloc (Nat.le_refl _) _).alloc (by simp) _).drew).trans (hb.mono (by simp; omega)), by omega⟩, Ad0.of ((hb.block _ (by simp; omega)).trans ((Below.heap_alloc _ _ _ (by simp)).trans (heap_new w _))), Ad0.of ((hb.block _ (by simp)).trans ?_), ((((((Below.refl _ _).alloc (Nat.le_refl _) _).alloc (by simp) _).drew).trans (hb.mono (by simp; omega))).cell (p := ⟨R, 0, none⟩) L0.out).trans c0⟩
    have := heap_new (w.alloc (.cells #[.int .u32 0, .int .i64 0] 45)) (.cells #[.int .u32 0, .int .i64 0] 45)
    rwa [World.size_alloc] at this)
  clear hm CG
  go_enter Tryd.func41, Tryd.ntmps41
  go_wp2_with fail
  refine wp_region_held_drew (S := fun W => W.cell? ⟨R, 0, none⟩ = some (.slice A n c)) (by kernel_rfl) (by go_simp) (fun hHeld => ?_)
  refine wpAnyH_take (i := 0) (oi := _) (v := ?_) rfl (by kernel_rfl) (by kernel_rfl) (by kernel_rfl) (fun _ _ _ h => h) (Or.inl ⟨by rfl, ?_⟩) (by assumption) ?_
  case refine_2 => intro w hSw; (try dsimp only at hSw); go_simp; first | done | (with_reducible rfl)
  try simp only [Act.put, List.getElem_toArray, List.getElem_cons_zero, List.setIfInBounds_toArray, List.set_cons_zero, List.set_cons_succ]
  refine wpAnyH_take (i := 1) (oi := _) (v := ?_) rfl (by kernel_rfl) (by kernel_rfl) (by kernel_rfl) (fun _ _ _ h => h) (Or.inl ⟨by rfl, ?_⟩) (by assumption) ?_
  case refine_2 => intro w hSw; (try dsimp only at hSw); go_simp; first | done | (with_reducible rfl)
  try simp only [Act.put, List.getElem_toArray, List.getElem_cons_zero, List.getElem_cons_succ, List.setIfInBounds_toArray, List.set_cons_zero, List.set_cons_succ]
  refine wpAnyH_take (i := 2) (oi := _) (v := ?_) rfl (by kernel_rfl) (by kernel_rfl) (by kernel_rfl) (fun _ _ _ h => h) (Or.inl ⟨by rfl, ?_⟩) (by assumption) ?_
  case refine_2 => intro w hSw; (try dsimp only at hSw); go_simp; first | done | (with_reducible rfl)
  try simp only [Act.put, List.getElem_toArray, List.getElem_cons_zero, List.getElem_cons_succ, List.setIfInBounds_toArray, List.set_cons_zero, List.set_cons_succ]
  refine wpAnyH_take (i := 3) (oi := _) (v := ?_) rfl (by kernel_rfl) (by kernel_rfl) (by kernel_rfl) (fun _ _ _ h => h) (Or.inl ⟨by rfl, ?_⟩) (by assumption) ?_
  case refine_2 => intro w hSw; (try dsimp only at hSw); go_simp; first | done | (with_reducible rfl)
  try simp only [Act.put, List.getElem_toArray, List.getElem_cons_zero, List.getElem_cons_succ, List.setIfInBounds_toArray, List.set_cons_zero, List.set_cons_succ]
  refine wpAnyH_take (i := 4) (oi := _) (v := ?_) rfl (by kernel_rfl) (by kernel_rfl) (by kernel_rfl) (fun _ _ _ h => h) (Or.inl ⟨by rfl, ?_⟩) (by assumption) ?_
  case refine_2 => intro w hSw; (try dsimp only at hSw); go_simp; first | done | (with_reducible rfl)
  try simp only [Act.put, List.getElem_toArray, List.getElem_cons_zero, List.getElem_cons_succ, List.setIfInBounds_toArray, List.set_cons_zero, List.set_cons_succ]
  refine wpAnyH_take (i := 5) (oi := _) (v := ?_) rfl (by kernel_rfl) (by kernel_rfl) (by kernel_rfl) (fun _ _ _ h => h) (Or.inl ⟨by rfl, ?_⟩) (by assumption) ?_
  case refine_2 => intro w hSw; (try dsimp only at hSw); go_simp; first | done | (with_reducible rfl)
  try simp only [Act.put, List.getElem_toArray, List.getElem_cons_zero, List.getElem_cons_succ, List.setIfInBounds_toArray, List.set_cons_zero, List.set_cons_succ]
  refine wpAnyH_take (i := 6) (oi := _) (v := ?_) rfl (by kernel_rfl) (by kernel_rfl) (by kernel_rfl) (fun _ _ _ h => h) (Or.inl ⟨by rfl, ?_⟩) (by assumption) ?_
  case refine_2 => intro w hSw; (try dsimp only at hSw); go_simp; first | done | (with_reducible rfl)
  try simp only [Act.put, List.getElem_toArray, List.getElem_cons_zero, List.getElem_cons_succ, List.setIfInBounds_toArray, List.set_cons_zero, List.set_cons_succ]
  refine wpAnyH_take (i := 7) (oi := _) (v := ?_) rfl (by kernel_rfl) (by kernel_rfl) (by kernel_rfl) (fun _ _ _ h => h) (Or.inl ⟨by rfl, ?_⟩) (by assumption) ?_
  case refine_2 => intro w hSw; (try dsimp only at hSw); go_simp; first | done | (with_reducible rfl)
  try simp only [Act.put, List.getElem_toArray, List.getElem_cons_zero, List.getElem_cons_succ, List.setIfInBounds_toArray, List.set_cons_zero, List.set_cons_succ]
  refine wpAnyH_take (i := 8) (oi := _) (v := ?_) rfl (by kernel_rfl) (by kernel_rfl) (by kernel_rfl) (fun _ _ _ h => h) (Or.inl ⟨by rfl, ?_⟩) (by assumption) ?_
  case refine_2 => intro w hSw; (try dsimp only at hSw); go_simp; first | done | (with_reducible rfl)
  try simp only [Act.put, List.getElem_toArray, List.getElem_cons_zero, List.getElem_cons_succ, List.setIfInBounds_toArray, List.set_cons_zero, List.set_cons_succ]
  refine wpAnyH_take (i := 9) (oi := _) (v := ?_) rfl (by kernel_rfl) (by kernel_rfl) (by kernel_rfl) (fun _ _ _ h => h) (Or.inl ⟨by rfl, ?_⟩) (by assumption) ?_
  case refine_2 => intro w hSw; (try dsimp only at hSw); go_simp; first | done | (with_reducible rfl)
  try simp only [Act.put, List.getElem_toArray, List.getElem_cons_zero, List.getElem_cons_succ, List.setIfInBounds_toArray, List.set_cons_zero, List.set_cons_succ]
  refine wpAnyH_take (i := 10) (oi := _) (v := ?_) rfl (by kernel_rfl) (by kernel_rfl) (by kernel_rfl) (fun _ _ _ h => h) (Or.inl ⟨by rfl, ?_⟩) (by assumption) ?_
  case refine_2 => intro w hSw; (try dsimp only at hSw); go_simp; first | done | (with_reducible rfl)
  try simp only [Act.put, List.getElem_toArray, List.getElem_cons_zero, List.getElem_cons_succ, List.setIfInBounds_toArray, List.set_cons_zero, List.set_cons_succ]
  refine wpAnyH_ready (rs := [11, 15]) (by kernel_rfl) (by simp) ?_
  refine AllReadyH.cons rfl (fun K hK => ?_) (AllReadyH.cons rfl (fun K hK => ?_) AllReadyH.nil)
  · go_simp
    go_at_call 43
    refine CA.out.mono ?_
    rintro e w1 ⟨rfl, HB1, ⟨y0, y1, g0, g1⟩, cc⟩
    have l1 := lt_of_cell cc; dsimp only at l1
    refine hK.out _ _ cc (fun hHeld => ?_)
    clear hK K
    try simp only [Act.put, List.getElem_toArray, List.getElem_cons_zero, List.getElem_cons_succ, List.setIfInBounds_toArray, List.set_cons_zero, List.set_cons_succ]
    refine wpAnyH_take (i := 12) (oi := _) (v := ?_) rfl (by kernel_rfl) (by kernel_rfl) (by kernel_rfl) (fun _ _ _ h => h) (Or.inl ⟨by rfl, ?_⟩) (by assumption) ?_
    case refine_2 => intro w hSw; (try dsimp only at hSw); go_simp; first | done | (with_reducible rfl)
    try simp only [Act.put, List.getElem_toArray, List.getElem_cons_zero, List.getElem_cons_succ, List.setIfInBounds_toArray, List.set_cons_zero, List.set_cons_succ]
    refine wpAnyH_take (i := 13) (oi := _) (v := ?_) rfl (by kernel_rfl) (by kernel_rfl) (by kernel_rfl) (fun _ _ _ h => h) (Or.inl ⟨by rfl, ?_⟩) (by assumption) ?_
    case refine_2 => intro w hSw; (try dsimp only at hSw); go_simp; first | done | (with_reducible rfl)
    try simp only [Act.put, List.getElem_toArray, List.getElem_cons_zero, List.getElem_cons_succ, List.setIfInBounds_toArray, List.set_cons_zero, List.set_cons_succ]
    refine wpAnyH_take (i := 14) (oi := _) (v := ?_) rfl (by kernel_rfl) (by kernel_rfl) (by kernel_rfl) (fun _ _ _ h => h) (Or.inl ⟨by rfl, ?_⟩) (by assumption) ?_
    case refine_2 => intro w hSw; (try dsimp only at hSw); go_simp; first | done | (with_reducible rfl)
    try simp only [Act.put, List.getElem_toArray, List.getElem_cons_zero, List.getElem_cons_succ, List.setIfInBounds_toArray, List.set_cons_zero, List.set_cons_succ]
    refine wpAnyH_ready (rs := [15]) (by kernel_rfl) (by simp) ?_
    refine AllReadyH.cons rfl (fun K hK => ?_) AllReadyH.nil
    go_simp
    refine hK.out _ _ (by go_simp) (fun hHeld => ?_)
    clear hK K
    try simp only [Act.put, List.getElem_toArray, List.getElem_cons_zero, List.getElem_cons_succ, List.setIfInBounds_toArray, List.set_cons_zero, List.set_cons_succ]
    refine wpAnyH_ready (rs := [16]) (by kernel_rfl) (by simp) ?_
    refine AllReadyH.cons rfl (fun K hK => ?_) AllReadyH.nil
    go_simp
    refine hK.out _ _ (by go_simp) (fun hHeld => ?_)
    clear hK K
    try simp only [Act.put, List.getElem_toArray, List.getElem_cons_zero, List.getElem_cons_succ, List.setIfInBounds_toArray, List.set_cons_zero, List.set_cons_succ]
    refine wpAnyH_ready (rs := [17]) (by kernel_rfl) (by simp) ?_
    refine AllReadyH.cons rfl (fun K hK => ?_) AllReadyH.nil
    go_simp
    refine hK.out _ _ (by assumption) (fun hHeld => ?_)
    clear hK K
    try simp only [Act.put, List.getElem_toArray, List.getElem_cons_zero, List.getElem_cons_succ, List.setIfInBounds_toArray, List.set_cons_zero, List.set_cons_succ]
    refine wpAnyH_done (by kernel_rfl) ?_ _
    have HBX : Hid (Below w.heap.size w (w1.alloc (.cells #[.int .u32 ah, .int .i64 ap] 45))) := Lib.hid (HB1.out.1.alloc HB1.out.1.size _)
    have HW : Hid (w.heap.size < w1.heap.size) := Lib.hid HB1.out.2
    have lw := HW.out
    have v0 : (w1.alloc (.cells #[.int .u32 ah, .int .i64 ap] 45)).cell? ⟨w1.heap.size, 0, none⟩ = some (.int .u32 ah) := by go_simp
    have v1 : (w1.alloc (.cells #[.int .u32 ah, .int .i64 ap] 45)).cell? ⟨w1.heap.size, 1, none⟩ = some (.int .i64 ap) := by go_simp
    have u0 : (w1.alloc (.cells #[.int .u32 ah, .int .i64 ap] 45)).cell? ⟨w.heap.size, 0, none⟩ = some (.int .u32 0) := by go_simp
    have u1 : (w1.alloc (.cells #[.int .u32 ah, .int .i64 ap] 45)).cell? ⟨w.heap.size, 1, none⟩ = some (.int .i64 0) := by go_simp
    have k0 : (w1.alloc (.cells #[.int .u32 ah, .int .i64 ap] 45)).frozen? ⟨w.heap.size, 0, none⟩ = false := by go_simp
    have k1 : (w1.alloc (.cells #[.int .u32 ah, .int .i64 ap] 45)).frozen? ⟨w.heap.size, 1, none⟩ = false := by go_simp
    generalize hw1 : w1.heap.size = g at *
    generalize w1.alloc (.cells #[.int .u32 ah, .int .i64 ap] 45) = W2 at *
    clear y0 y1 g0 g1 cc l1 hHeld
    have v0l := lt_of_cell v0; have u0l := lt_of_cell u0
    have HV := Lib.hid (And.intro v0 (And.intro v1 (And.intro u0 (And.intro u1 (And.intro k0 (And.intro k1 (And.intro v0l u0l)))))))
    clear v0 v1 u0 u1 k0 k1 v0l u0l
    go_wp2_with fail
    refine (CP.out _ HBX.out).mono ?_
    rintro e w2 ⟨⟨r, rfl⟩, hg, hr⟩
    obtain ⟨v0, v1, u0, u1, k0, k1, v0l, u0l⟩ := HV.out
    have HE := addr_end (ah := ah) (ap := ap) HBX.out L0.out HBL.out HW.out hg hr
    have ne1 : some g ≠ some R := (fun e => by have := HW.out; have := L0.out; simp at e; omega)
    have ne2 : some w.heap.size ≠ some R := (fun e => by have := L0.out; simp at e; omega)
    have v0' := hg.cell v0 ne1
    have v1' := hg.cell v1 ne1
    have u0' := hg.cell u0 ne2
    have u1' := hg.cell u1 ne2
    have k0' := grown_frozen hg k0 u0l ne2
    have k1' := grown_frozen hg k1 u0l ne2
    clear hg hr v0 v1 u0 u1 k0 k1 v0l u0l ne1 ne2
    go_wp2
    refine ⟨rfl, .agg #[.int .u32 ah, .int .i64 ap], ?_, rfl, HE.out.1, HE.out.2⟩
    simp [results, Tryd.f41, go_sem, u0', u1']
  · go_simp
    refine hK.out _ _ (by go_simp) (fun hHeld => ?_)
    clear hK K
    try simp only [Act.put, List.getElem_toArray, List.getElem_cons_zero, List.getElem_cons_succ, List.setIfInBounds_toArray, List.set_cons_zero, List.set_cons_succ]
    refine wpAnyH_ready (rs := [11]) (by kernel_rfl) (by simp) ?_
    refine AllReadyH.cons rfl (fun K hK => ?_) AllReadyH.nil
    go_simp
    go_at_call 43
    refine CB.out.mono ?_
    rintro e w1 ⟨rfl, HB1, ⟨y0, y1, g0, g1⟩, ⟨y2, y3, g2, g3⟩, cc⟩
    have l1 := lt_of_cell cc; dsimp only at l1
    refine hK.out _ _ cc (fun hHeld => ?_)
    clear hK K
    try simp only [Act.put, List.getElem_toArray, List.getElem_cons_zero, List.getElem_cons_succ, List.setIfInBounds_toArray, List.set_cons_zero, List.set_cons_succ]
    refine wpAnyH_take (i := 12) (oi := _) (v := ?_) rfl (by kernel_rfl) (by kernel_rfl) (by kernel_rfl) (fun _ _ _ h => h) (Or.inl ⟨by rfl, ?_⟩) (by assumption) ?_
    case refine_2 => intro w hSw; (try dsimp only at hSw); go_simp; first | done | (with_reducible rfl)
    try simp only [Act.put, List.getElem_toArray, List.getElem_cons_zero, List.getElem_cons_succ, List.setIfInBounds_toArray, List.set_cons_zero, List.set_cons_succ]
    refine wpAnyH_take (i := 13) (oi := _) (v := ?_) rfl (by kernel_rfl) (by kernel_rfl) (by kernel_rfl) (fun _ _ _ h => h) (Or.inl ⟨by rfl, ?_⟩) (by assumption) ?_
    case refine_2 => intro w hSw; (try dsimp only at hSw); go_simp; first | done | (with_reducible rfl)
    try simp only [Act.put, List.getElem_toArray, List.getElem_cons_zero, List.getElem_cons_succ, List.setIfInBounds_toArray, List.set_cons_zero, List.set_cons_succ]
    refine wpAnyH_take (i := 14) (oi := _) (v := ?_) rfl (by kernel_rfl) (by kernel_rfl) (by kernel_rfl) (fun _ _ _ h => h) (Or.inl ⟨by rfl, ?_⟩) (by assumption) ?_
    case refine_2 => intro w hSw; (try dsimp only at hSw); go_simp; first | done | (with_reducible rfl)
    try simp only [Act.put, List.getElem_toArray, List.getElem_cons_zero, List.getElem_cons_succ, List.setIfInBounds_toArray, List.set_cons_zero, List.set_cons_succ]
    refine wpAnyH_ready (rs := [16]) (by kernel_rfl) (by simp) ?_
    refine AllReadyH.cons rfl (fun K hK => ?_) AllReadyH.nil
    go_simp
    refine hK.out _ _ (by go_simp) (fun hHeld => ?_)
    clear hK K
    try simp only [Act.put, List.getElem_toArray, List.getElem_cons_zero, List.getElem_cons_succ, List.setIfInBounds_toArray, List.set_cons_zero, List.set_cons_succ]
    refine wpAnyH_ready (rs := [17]) (by kernel_rfl) (by simp) ?_
    refine AllReadyH.cons rfl (fun K hK => ?_) AllReadyH.nil
    go_simp
    refine hK.out _ _ (by assumption) (fun hHeld => ?_)
    clear hK K
    try simp only [Act.put, List.getElem_toArray, List.getElem_cons_zero, List.getElem_cons_succ, List.setIfInBounds_toArray, List.set_cons_zero, List.set_cons_succ]
    refine wpAnyH_done (by kernel_rfl) ?_ _
    have HBX : Hid (Below w.heap.size w ((w1.setCell ⟨w.heap.size + 1, 0, none⟩ (.int .u32 ah)).setCell ⟨w.heap.size + 1, 1, none⟩ (.int .i64 ap))) := Lib.hid ((HB1.out.1.setCell (Nat.le_succ _) _).setCell (Nat.le_succ _) _)
    have HW : Hid (w.heap.size < w.heap.size + 1) := Lib.hid (Nat.lt_succ_self _)
    have v0 : ((w1.setCell ⟨w.heap.size + 1, 0, none⟩ (.int .u32 ah)).setCell ⟨w.heap.size + 1, 1, none⟩ (.int .i64 ap)).cell? ⟨w.heap.size + 1, 0, none⟩ = some (.int .u32 ah) := by go_simp
    have v1 : ((w1.setCell ⟨w.heap.size + 1, 0, none⟩ (.int .u32 ah)).setCell ⟨w.heap.size + 1, 1, none⟩ (.int .i64 ap)).cell? ⟨w.heap.size + 1, 1, none⟩ = some (.int .i64 ap) := by go_simp
    have u0 : ((w1.setCell ⟨w.heap.size + 1, 0, none⟩ (.int .u32 ah)).setCell ⟨w.heap.size + 1, 1, none⟩ (.int .i64 ap)).cell? ⟨w.heap.size, 0, none⟩ = some (.int .u32 0) := by go_simp
    have u1 : ((w1.setCell ⟨w.heap.size + 1, 0, none⟩ (.int .u32 ah)).setCell ⟨w.heap.size + 1, 1, none⟩ (.int .i64 ap)).cell? ⟨w.heap.size, 1, none⟩ = some (.int .i64 0) := by go_simp
    have k0 : ((w1.setCell ⟨w.heap.size + 1, 0, none⟩ (.int .u32 ah)).setCell ⟨w.heap.size + 1, 1, none⟩ (.int .i64 ap)).frozen? ⟨w.heap.size, 0, none⟩ = false := by go_simp
    have k1 : ((w1.setCell ⟨w.heap.size + 1, 0, none⟩ (.int .u32 ah)).setCell ⟨w.heap.size + 1, 1, none⟩ (.int .i64 ap)).frozen? ⟨w.heap.size, 1, none⟩ = false := by go_simp
    generalize hg1 : w.heap.size + 1 = g at *
    generalize (w1.setCell ⟨g, 0, none⟩ (.int .u32 ah)).setCell ⟨g, 1, none⟩ (.int .i64 ap) = W2 at *
    clear y0 y1 g0 g1 y2 y3 g2 g3 cc l1 hHeld
    have v0l := lt_of_cell v0; have u0l := lt_of_cell u0
    have HV := Lib.hid (And.intro v0 (And.intro v1 (And.intro u0 (And.intro u1 (And.intro k0 (And.intro k1 (And.intro v0l u0l)))))))
    clear v0 v1 u0 u1 k0 k1 v0l u0l
    go_wp2_with fail
    refine (CP.out _ HBX.out).mono ?_
    rintro e w2 ⟨⟨r, rfl⟩, hg, hr⟩
    obtain ⟨v0, v1, u0, u1, k0, k1, v0l, u0l⟩ := HV.out
    have HE := addr_end (ah := ah) (ap := ap) HBX.out L0.out HBL.out HW.out hg hr
    have ne1 : some g ≠ some R := (fun e => by have := HW.out; have := L0.out; simp at e; omega)
    have ne2 : some w.heap.size ≠ some R := (fun e => by have := L0.out; simp at e; omega)
    have v0' := hg.cell v0 ne1
    have v1' := hg.cell v1 ne1
    have u0' := hg.cell u0 ne2
    have u1' := hg.cell u1 ne2
    have k0' := grown_frozen hg k0 u0l ne2
    have k1' := grown_frozen hg k1 u0l ne2
    clear hg hr v0 v1 u0 u1 k0 k1 v0l u0l ne1 ne2
    go_wp2
    refine ⟨rfl, .agg #[.int .u32 ah, .int .i64 ap], ?_, rfl, HE.out.1, HE.out.2⟩
    simp [results, Tryd.f41, go_sem, u0', u1']
end Go.Proofs.YtebgfiibcmnfnaaDoor
