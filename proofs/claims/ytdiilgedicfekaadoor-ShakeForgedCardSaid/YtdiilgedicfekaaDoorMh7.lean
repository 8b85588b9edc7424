/-
  The contract of embrasure/wire's reader.addr. Conditions: the block holds a reader.
  The iterator of embrasure/wire's reader.addrs: it tells the addresses that the number ahead of them says, up to the first that isn't one. Conditions: the rounds keep the reader's blocks.
  The numbers of a message that embrasure/wire's reader reads: what stands while they are read. Conditions: as each states.
  The addresses of a message that embrasure/wire's reader reads: what stands while they are read. Conditions: as each states.
  A message's parts that the call itself has made, as the parts of a message. Conditions: as each states.
-/
import Derived.Test.YtdiilgedicfekaaDoorMh6
import Derived.Deep.RegionHeld3
import Derived.Test.YtdiilgedicfekaaDoorMh4
import Derived.Shelf.Abstract
import Derived.Shelf.RegionOpen
import Derived.OwnWalkIn
import Derived.TacticsInMore
import Derived.LoopNIn
import Derived.LoopIn
import Derived.Deep.RegionLaw
import Derived.Lib.OwnKind
namespace Go.Proofs.YtdiilgedicfekaaDoor
open Go.RowKit
set_option linter.unusedVariables false
set_option maxRecDepth 100000

theorem Rd.blk {w : World} {R b : Nat} {zs : List Int} {bd : Bool} (h : Rd w R b zs bd) (hz : zs ≠ []) : b < w.heap.size := by
  obtain ⟨A, n, c, e, hb, r1, r2, r3, r4⟩ := h
  have hn : 0 < n := by
    rcases Nat.eq_zero_or_pos n with h | h
    · have := hb.len; exact absurd (List.eq_nil_of_length_eq_zero (by omega)) hz
    · exact h
  obtain ⟨ad, e1, e2, _⟩ := r4 hn
  obtain ⟨b', off, e3, hlt, _⟩ := hb.2.2 hn
  rw [e3] at e1
  cases e1
  simp at e2
  omega
theorem Rd.setNew {w : World} {R b g : Nat} {zs : List Int} {bd : Bool} (h : Rd w R b zs bd) (hR : R ≠ g) (hb : zs ≠ [] → b ≠ g) (k : Nat) (u : Value) : Rd (w.setCell ⟨g, k, none⟩ u) R b zs bd :=
  h.kept (by simp [World.setCell]) (Below.heap_setCell _ _ _ _ hR) (fun hz => Below.heap_setCell _ _ _ _ (hb hz))
theorem grown_new {w w' : World} {R g : Nat} (h : w.grownBy w' (some R)) (hg : w.heap.size ≤ g) (k : Nat) (u : Value) : w.grownBy (w'.setCell ⟨g, k, none⟩ u) (some R) :=
  ⟨h.os, h.tape, h.output, Nat.le_trans h.size (by simp [World.setCell]), fun i hi hn => (Below.heap_setCell _ _ _ _ (by show i ≠ g; omega)).trans (h.block i hi hn)⟩
theorem grown_frozen {w w' : World} {row : Option Nat} (hg : w.grownBy w' row) {a : Addr} (h : w.frozen? a = false) (hl : a.block < w.heap.size) (hne : some a.block ≠ row) : w'.frozen? a = false :=
  (World.frozen?_of_block (w := w) (hg.block _ hl hne)).trans h
theorem arest_nil {zs : List Int} (h : arest zs ≠ []) : zs ≠ [] := by
  rintro rfl
  exact h (by unfold arest; split <;> rfl)
/-- what stands when pass has been called: the answer's cells, and the address that was read -/
theorem addr_end {w w1 w2 : World} {R b g : Nat} {ah ap : Int} {rs : List Int} {bd : Bool} (hB : Below w.heap.size w w1) (hl : R < w.heap.size) (hbl : rs ≠ [] → b < w.heap.size) (hgw : w.heap.size < g) (hg : w1.grownBy w2 (some R)) (hr : Rd w2 R b rs bd) :
    Hid (w.grownBy ((w2.setCell ⟨w.heap.size, 0, none⟩ (.int .u32 ah)).setCell ⟨w.heap.size, 1, none⟩ (.int .i64 ap)) (some R) ∧ Rd ((w2.setCell ⟨w.heap.size, 0, none⟩ (.int .u32 ah)).setCell ⟨w.heap.size, 1, none⟩ (.int .i64 ap)) R b rs bd) :=
  Lib.hid ⟨grown_new (grown_new (grown_after hB hg) (Nat.le_refl _) _ _) (Nat.le_refl _) _ _, (hr.setNew (by omega) (fun hz => by have := hbl hz; omega) _ _).setNew (by omega) (fun hz => by have := hbl hz; omega) _ _⟩
theorem heap_new (w : World) (o : Obj) : (w.alloc o).heap[w.heap.size]? = some o := by
  show (w.heap.push o)[w.heap.size]? = _
  simp
/-- a fresh address at block g -/
structure Ad0 (w : World) (g : Nat) : Prop where
  c0 : w.cell? ⟨g, 0, none⟩ = some (.int .u32 0)
  c1 : w.cell? ⟨g, 1, none⟩ = some (.int .i64 0)
  f0 : w.frozen? ⟨g, 0, none⟩ = false
  f1 : w.frozen? ⟨g, 1, none⟩ = false
theorem Ad0.of {w : World} {g : Nat} (h : w.heap[g]? = some (.cells #[.int .u32 0, .int .i64 0] 87 (0, 0))) : Ad0 w g :=
  ⟨by rw [(cells_of h 0).1]; rfl, by rw [(cells_of h 1).1]; rfl, (cells_of h 0).2, (cells_of h 1).2⟩

set_option maxRecDepth 100000 in
set_option maxHeartbeats 4000000 in
theorem addr_any (R b : Nat) (zs : List Int) (bd : Bool) (w : World) (h : Rd w R b zs bd) :
    Calls Tryd.prog 71 #[.pointer (some ⟨R, 0, none⟩)] w fun e w' => e = .returned (.agg #[.int .u32 (ahost zs), .int .i64 (aport zs)]) ∧ w.grownBy w' (some R) ∧ Rd w' R b (arest zs) (spoils bd (acode zs)) := by
  have HBL : Hid (arest zs ≠ [] → b < w.heap.size) := Lib.hid (fun hz => h.blk (arest_nil hz))
  have CP := Lib.hid (fun W hb => pass_adr R b zs bd W (h.below hb))
  obtain ⟨A, n, c, e, hb, r1, r2, _⟩ := h
  obtain ⟨l0, c0, c1, f0, f1⟩ := Rd.cells e
  have CG := fun W (hbe : Below w.heap.size w W) m hm => from_at A n c m zs W (hb.below hbe) r1 r2 hm
  generalize ahost zs = ah at *
  generalize aport zs = ap at *
  generalize acode zs = k at *
  unfold maxLen at r2
  clear e hb
  obtain ⟨m, hm⟩ : ∃ m, min 6 n = m := ⟨_, rfl⟩
  have hmi : min (6 : Int) (n : Int) = (m : Int) := by omega
  have hmc : (m : Int) ≤ (c : Int) := by omega
  have L0 := Lib.hid l0
  have CA : Hid (Calls Tryd.prog 73 #[.slice A m c] (w.alloc (.cells #[.int .u32 0, .int .i64 0] 87)).drew fun e w' => e = .returned (.tuple #[.agg #[.int .u32 ah, .int .i64 ap], .int .i64 k]) ∧ Hid (Below w.heap.size w w' ∧ w.heap.size < w'.heap.size) ∧ Ad0 w' w.heap.size ∧ w'.cell? ⟨R, 0, none⟩ = some (.slice A n c)) := Lib.hid (by
    refine (CG _ ((Below.refl _ _).alloc (Nat.le_refl _) _).drew m hm.symm).mono ?_
    rintro e w' ⟨rfl, hb⟩
    have hs := hb.size
    simp at hs
    refine ⟨rfl, ⟨(((Below.refl _ _).alloc (Nat.le_refl _) _).drew).trans (hb.mono (by simp)), by omega⟩, Ad0.of ((hb.block _ (by simp)).trans (heap_new w _)), (((((Below.refl _ _).alloc (Nat.le_refl _) _).drew).trans (hb.mono (by simp))).cell (p := ⟨R, 0, none⟩) L0.out).trans c0⟩)
  have CB : Hid (Calls Tryd.prog 73 #[.slice A m c] ((w.alloc (.cells #[.int .u32 0, .int .i64 0] 87)).alloc (.cells #[.int .u32 0, .int .i64 0] 87)).drew fun e w' => e = .returned (.tuple #[.agg #[.int .u32 ah, .int .i64 ap], .int .i64 k]) ∧ Hid (Below w.heap.size w w' ∧ w.heap.size + 1 < w'.heap.size) ∧ Ad0 w' w.heap.size ∧ Ad0 w' (w.heap.size + 1) ∧ w'.cell? ⟨R, 0, none⟩ = some (.slice A n c)) := Lib.hid (by
    refine (CG _ (((Below.refl _ _).alloc (Nat.le_refl _) _).alloc (by simp) _).drew m hm.symm).mono ?_
    rintro e w' ⟨rfl, hb⟩
    have hs := hb.size
    simp at hs
    refine ⟨rfl, ⟨((((Below.refl _ _).alloc (Nat.le_refl _) _).alloc (by simp) _).drew).trans (hb.mono (by simp; omega)), by omega⟩, Ad0.of ((hb.block _ (by simp; omega)).trans ((Below.heap_alloc _ _ _ (by simp)).trans (heap_new w _))), Ad0.of ((hb.block _ (by simp)).trans ?_), ((((((Below.refl _ _).alloc (Nat.le_refl _) _).alloc (by simp) _).drew).trans (hb.mono (by simp; omega))).cell (p := ⟨R, 0, none⟩) L0.out).trans c0⟩
    have := heap_new (w.alloc (.cells #[.int .u32 0, .int .i64 0] 87)) (.cells #[.int .u32 0, .int .i64 0] 87)
    rwa [World.size_alloc] at this)
  clear hm CG
  go_enter Tryd.func71, Tryd.ntmps71
  go_wp2_with fail
  refine wp_region_held_drew (S := fun W => W.cell? ⟨R, 0, none⟩ = some (.slice A n c)) (by kernel_rfl) (by go_simp) (fun hHeld => ?_)
  refine wpAnyH_take (i := 0) (oi := _) (v := ?_) rfl (by kernel_rfl) (by kernel_rfl) (by kernel_rfl) (fun _ _ _ h => h) (Or.inl ⟨by rfl, ?_⟩) (by assumption) ?_
  case refine_2 => intro w hSw; (try dsimp only at hSw); go_simp; first | done | (with_reducible rfl)
  try simp only [Act.put, List.getElem_toArray, List.getElem_cons_zero, List.setIfInBounds_toArray, List.set_cons_zero, List.set_cons_succ]
  refine wpAnyH_take (i := 1) (oi := _) (v := ?_) rfl (by kernel_rfl) (by kernel_rfl) (by kernel_rfl) (fun _ _ _ h => h) (Or.inl ⟨by rfl, ?_⟩) (by assumption) ?_
  case refine_2 => intro w hSw; (try dsimp only at hSw); go_simp; first | done | (with_reducible rfl)
  try simp only [Act.put, List.getElem_toArray, List.getElem_cons_zero, List.getElem_cons_succ, List.setIfInBounds_toArray, List.set_cons_zero, List.set_cons_succ]
  refine wpAnyH_take (i := 2) (oi := _) (v := ?_) rfl (by kernel_rfl) (by kernel_rfl) (by kernel_rfl) (fun _ _ _ h => h) (Or.inl ⟨by rfl, ?_⟩) (by assumption) ?_
  case refine_2 => intro w hSw; (try dsimp only at hSw); go_simp; first | done | (with_reducible rfl)
  try simp only [Act.put, List.getElem_toArray, List.getElem_cons_zero, List.getElem_cons_succ, List.setIfInBounds_toArray, List.set_cons_zero, List.set_cons_succ]
  refine wpAnyH_take (i := 3) (oi := _) (v := ?_) rfl (by kernel_rfl) (by kernel_rfl) (by kernel_rfl) (fun _ _ _ h => h) (Or.inl ⟨by rfl, ?_⟩) (by assumption) ?_
  case refine_2 => intro w hSw; (try dsimp only at hSw); go_simp; first | done | (with_reducible rfl)
  try simp only [Act.put, List.getElem_toArray, List.getElem_cons_zero, List.getElem_cons_succ, List.setIfInBounds_toArray, List.set_cons_zero, List.set_cons_succ]
  refine wpAnyH_take (i := 4) (oi := _) (v := ?_) rfl (by kernel_rfl) (by kernel_rfl) (by kernel_rfl) (fun _ _ _ h => h) (Or.inl ⟨by rfl, ?_⟩) (by assumption) ?_
  case refine_2 => intro w hSw; (try dsimp only at hSw); go_simp; first | done | (with_reducible rfl)
  try simp only [Act.put, List.getElem_toArray, List.getElem_cons_zero, List.getElem_cons_succ, List.setIfInBounds_toArray, List.set_cons_zero, List.set_cons_succ]
  refine wpAnyH_take (i := 5) (oi := _) (v := ?_) rfl (by kernel_rfl) (by kernel_rfl) (by kernel_rfl) (fun _ _ _ h => h) (Or.inl ⟨by rfl, ?_⟩) (by assumption) ?_
  case refine_2 => intro w hSw; (try dsimp only at hSw); go_simp; first | done | (with_reducible rfl)
  try simp only [Act.put, List.getElem_toArray, List.getElem_cons_zero, List.getElem_cons_succ, List.setIfInBounds_toArray, List.set_cons_zero, List.set_cons_succ]
  refine wpAnyH_take (i := 6) (oi := _) (v := ?_) rfl (by kernel_rfl) (by kernel_rfl) (by kernel_rfl) (fun _ _ _ h => h) (Or.inl ⟨by rfl, ?_⟩) (by assumption) ?_
  case refine_2 => intro w hSw; (try dsimp only at hSw); go_simp; first | done | (with_reducible rfl)
  try simp only [Act.put, List.getElem_toArray, List.getElem_cons_zero, List.getElem_cons_succ, List.setIfInBounds_toArray, List.set_cons_zero, List.set_cons_succ]
  refine wpAnyH_take (i := 7) (oi := _) (v := ?_) rfl (by kernel_rfl) (by kernel_rfl) (by kernel_rfl) (fun _ _ _ h => h) (Or.inl ⟨by rfl, ?_⟩) (by assumption) ?_
  case refine_2 => intro w hSw; (try dsimp only at hSw); go_simp; first | done | (with_reducible rfl)
  try simp only [Act.put, List.getElem_toArray, List.getElem_cons_zero, List.getElem_cons_succ, List.setIfInBounds_toArray, List.set_cons_zero, List.set_cons_succ]
  refine wpAnyH_take (i := 8) (oi := _) (v := ?_) rfl (by kernel_rfl) (by kernel_rfl) (by kernel_rfl) (fun _ _ _ h => h) (Or.inl ⟨by rfl, ?_⟩) (by assumption) ?_
  case refine_2 => intro w hSw; (try dsimp only at hSw); go_simp; first | done | (with_reducible rfl)
  try simp only [Act.put, List.getElem_toArray, List.getElem_cons_zero, List.getElem_cons_succ, List.setIfInBounds_toArray, List.set_cons_zero, List.set_cons_succ]
  refine wpAnyH_take (i := 9) (oi := _) (v := ?_) rfl (by kernel_rfl) (by kernel_rfl) (by kernel_rfl) (fun _ _ _ h => h) (Or.inl ⟨by rfl, ?_⟩) (by assumption) ?_
  case refine_2 => intro w hSw; (try dsimp only at hSw); go_simp; first | done | (with_reducible rfl)
  try simp only [Act.put, List.getElem_toArray, List.getElem_cons_zero, List.getElem_cons_succ, List.setIfInBounds_toArray, List.set_cons_zero, List.set_cons_succ]
  refine wpAnyH_take (i := 10) (oi := _) (v := ?_) rfl (by kernel_rfl) (by kernel_rfl) (by kernel_rfl) (fun _ _ _ h => h) (Or.inl ⟨by rfl, ?_⟩) (by assumption) ?_
  case refine_2 => intro w hSw; (try dsimp only at hSw); go_simp; first | done | (with_reducible rfl)
  try simp only [Act.put, List.getElem_toArray, List.getElem_cons_zero, List.getElem_cons_succ, List.setIfInBounds_toArray, List.set_cons_zero, List.set_cons_succ]
  refine wpAnyH_ready (rs := [11, 15]) (by kernel_rfl) (by simp) ?_
  refine AllReadyH.cons rfl (fun K hK => ?_) (AllReadyH.cons rfl (fun K hK => ?_) AllReadyH.nil)
  · go_simp
    go_at_call 73
    refine CA.out.mono ?_
    rintro e w1 ⟨rfl, HB1, ⟨y0, y1, g0, g1⟩, cc⟩
    have l1 := lt_of_cell cc; dsimp only at l1
    refine hK.out _ _ cc (fun hHeld => ?_)
    clear hK K
    try simp only [Act.put, List.getElem_toArray, List.getElem_cons_zero, List.getElem_cons_succ, List.setIfInBounds_toArray, List.set_cons_zero, List.set_cons_succ]
    refine wpAnyH_take (i := 12) (oi := _) (v := ?_) rfl (by kernel_rfl) (by kernel_rfl) (by kernel_rfl) (fun _ _ _ h => h) (Or.inl ⟨by rfl, ?_⟩) (by assumption) ?_
    case refine_2 => intro w hSw; (try dsimp only at hSw); go_simp; first | done | (with_reducible rfl)
    try simp only [Act.put, List.getElem_toArray, List.getElem_cons_zero, List.getElem_cons_succ, List.setIfInBounds_toArray, List.set_cons_zero, List.set_cons_succ]
    refine wpAnyH_take (i := 13) (oi := _) (v := ?_) rfl (by kernel_rfl) (by kernel_rfl) (by kernel_rfl) (fun _ _ _ h => h) (Or.inl ⟨by rfl, ?_⟩) (by assumption) ?_
    case refine_2 => intro w hSw; (try dsimp only at hSw); go_simp; first | done | (with_reducible rfl)
    try simp only [Act.put, List.getElem_toArray, List.getElem_cons_zero, List.getElem_cons_succ, List.setIfInBounds_toArray, List.set_cons_zero, List.set_cons_succ]
    refine wpAnyH_take (i := 14) (oi := _) (v := ?_) rfl (by kernel_rfl) (by kernel_rfl) (by kernel_rfl) (fun _ _ _ h => h) (Or.inl ⟨by rfl, ?_⟩) (by assumption) ?_
    case refine_2 => intro w hSw; (try dsimp only at hSw); go_simp; first | done | (with_reducible rfl)
    try simp only [Act.put, List.getElem_toArray, List.getElem_cons_zero, List.getElem_cons_succ, List.setIfInBounds_toArray, List.set_cons_zero, List.set_cons_succ]
    refine wpAnyH_ready (rs := [15]) (by kernel_rfl) (by simp) ?_
    refine AllReadyH.cons rfl (fun K hK => ?_) AllReadyH.nil
    go_simp
    refine hK.out _ _ (by go_simp) (fun hHeld => ?_)
    clear hK K
    try simp only [Act.put, List.getElem_toArray, List.getElem_cons_zero, List.getElem_cons_succ, List.setIfInBounds_toArray, List.set_cons_zero, List.set_cons_succ]
    refine wpAnyH_ready (rs := [16]) (by kernel_rfl) (by simp) ?_
    refine AllReadyH.cons rfl (fun K hK => ?_) AllReadyH.nil
    go_simp
    refine hK.out _ _ (by go_simp) (fun hHeld => ?_)
    clear hK K
    try simp only [Act.put, List.getElem_toArray, List.getElem_cons_zero, List.getElem_cons_succ, List.setIfInBounds_toArray, List.set_cons_zero, List.set_cons_succ]
    refine wpAnyH_ready (rs := [17]) (by kernel_rfl) (by simp) ?_
    refine AllReadyH.cons rfl (fun K hK => ?_) AllReadyH.nil
    go_simp
    refine hK.out _ _ (by assumption) (fun hHeld => ?_)
    clear hK K
    try simp only [Act.put, List.getElem_toArray, List.getElem_cons_zero, List.getElem_cons_succ, List.setIfInBounds_toArray, List.set_cons_zero, List.set_cons_succ]
    refine wpAnyH_done (by kernel_rfl) ?_ _
    have HBX : Hid (Below w.heap.size w (w1.alloc (.cells #[.int .u32 ah, .int .i64 ap] 87))) := Lib.hid (HB1.out.1.alloc HB1.out.1.size _)
    have HW : Hid (w.heap.size < w1.heap.size) := Lib.hid HB1.out.2
    have lw := HW.out
    have v0 : (w1.alloc (.cells #[.int .u32 ah, .int .i64 ap] 87)).cell? ⟨w1.heap.size, 0, none⟩ = some (.int .u32 ah) := by go_simp
    have v1 : (w1.alloc (.cells #[.int .u32 ah, .int .i64 ap] 87)).cell? ⟨w1.heap.size, 1, none⟩ = some (.int .i64 ap) := by go_simp
    have u0 : (w1.alloc (.cells #[.int .u32 ah, .int .i64 ap] 87)).cell? ⟨w.heap.size, 0, none⟩ = some (.int .u32 0) := by go_simp
    have u1 : (w1.alloc (.cells #[.int .u32 ah, .int .i64 ap] 87)).cell? ⟨w.heap.size, 1, none⟩ = some (.int .i64 0) := by go_simp
    have k0 : (w1.alloc (.cells #[.int .u32 ah, .int .i64 ap] 87)).frozen? ⟨w.heap.size, 0, none⟩ = false := by go_simp
    have k1 : (w1.alloc (.cells #[.int .u32 ah, .int .i64 ap] 87)).frozen? ⟨w.heap.size, 1, none⟩ = false := by go_simp
    generalize hw1 : w1.heap.size = g at *
    generalize w1.alloc (.cells #[.int .u32 ah, .int .i64 ap] 87) = W2 at *
    clear y0 y1 g0 g1 cc l1 hHeld
    have v0l := lt_of_cell v0; have u0l := lt_of_cell u0
    have HV := Lib.hid (And.intro v0 (And.intro v1 (And.intro u0 (And.intro u1 (And.intro k0 (And.intro k1 (And.intro v0l u0l)))))))
    clear v0 v1 u0 u1 k0 k1 v0l u0l
    go_wp2_with fail
    refine (CP.out _ HBX.out).mono ?_
    rintro e w2 ⟨⟨r, rfl⟩, hg, hr⟩
    obtain ⟨v0, v1, u0, u1, k0, k1, v0l, u0l⟩ := HV.out
    have HE := addr_end (ah := ah) (ap := ap) HBX.out L0.out HBL.out HW.out hg hr
    have ne1 : some g ≠ some R := (fun e => by have := HW.out; have := L0.out; simp at e; omega)
    have ne2 : some w.heap.size ≠ some R := (fun e => by have := L0.out; simp at e; omega)
    have v0' := hg.cell v0 ne1
    have v1' := hg.cell v1 ne1
    have u0' := hg.cell u0 ne2
    have u1' := hg.cell u1 ne2
    have k0' := grown_frozen hg k0 u0l ne2
    have k1' := grown_frozen hg k1 u0l ne2
    clear hg hr v0 v1 u0 u1 k0 k1 v0l u0l ne1 ne2
    go_wp2
    refine ⟨rfl, .agg #[.int .u32 ah, .int .i64 ap], ?_, rfl, HE.out.1, HE.out.2⟩
    simp [results, Tryd.f71, go_sem, u0', u1']
  · go_simp
    refine hK.out _ _ (by go_simp) (fun hHeld => ?_)
    clear hK K
    try simp only [Act.put, List.getElem_toArray, List.getElem_cons_zero, List.getElem_cons_succ, List.setIfInBounds_toArray, List.set_cons_zero, List.set_cons_succ]
    refine wpAnyH_ready (rs := [11]) (by kernel_rfl) (by simp) ?_
    refine AllReadyH.cons rfl (fun K hK => ?_) AllReadyH.nil
    go_simp
    go_at_call 73
    refine CB.out.mono ?_
    rintro e w1 ⟨rfl, HB1, ⟨y0, y1, g0, g1⟩, ⟨y2, y3, g2, g3⟩, cc⟩
    have l1 := lt_of_cell cc; dsimp only at l1
    refine hK.out _ _ cc (fun hHeld => ?_)
    clear hK K
    try simp only [Act.put, List.getElem_toArray, List.getElem_cons_zero, List.getElem_cons_succ, List.setIfInBounds_toArray, List.set_cons_zero, List.set_cons_succ]
    refine wpAnyH_take (i := 12) (oi := _) (v := ?_) rfl (by kernel_rfl) (by kernel_rfl) (by kernel_rfl) (fun _ _ _ h => h) (Or.inl ⟨by rfl, ?_⟩) (by assumption) ?_
    case refine_2 => intro w hSw; (try dsimp only at hSw); go_simp; first | done | (with_reducible rfl)
    try simp only [Act.put, List.getElem_toArray, List.getElem_cons_zero, List.getElem_cons_succ, List.setIfInBounds_toArray, List.set_cons_zero, List.set_cons_succ]
    refine wpAnyH_take (i := 13) (oi := _) (v := ?_) rfl (by kernel_rfl) (by kernel_rfl) (by kernel_rfl) (fun _ _ _ h => h) (Or.inl ⟨by rfl, ?_⟩) (by assumption) ?_
    case refine_2 => intro w hSw; (try dsimp only at hSw); go_simp; first | done | (with_reducible rfl)
    try simp only [Act.put, List.getElem_toArray, List.getElem_cons_zero, List.getElem_cons_succ, List.setIfInBounds_toArray, List.set_cons_zero, List.set_cons_succ]
    refine wpAnyH_take (i := 14) (oi := _) (v := ?_) rfl (by kernel_rfl) (by kernel_rfl) (by kernel_rfl) (fun _ _ _ h => h) (Or.inl ⟨by rfl, ?_⟩) (by assumption) ?_
    case refine_2 => intro w hSw; (try dsimp only at hSw); go_simp; first | done | (with_reducible rfl)
    try simp only [Act.put, List.getElem_toArray, List.getElem_cons_zero, List.getElem_cons_succ, List.setIfInBounds_toArray, List.set_cons_zero, List.set_cons_succ]
    refine wpAnyH_ready (rs := [16]) (by kernel_rfl) (by simp) ?_
    refine AllReadyH.cons rfl (fun K hK => ?_) AllReadyH.nil
    go_simp
    refine hK.out _ _ (by go_simp) (fun hHeld => ?_)
    clear hK K
    try simp only [Act.put, List.getElem_toArray, List.getElem_cons_zero, List.getElem_cons_succ, List.setIfInBounds_toArray, List.set_cons_zero, List.set_cons_succ]
    refine wpAnyH_ready (rs := [17]) (by kernel_rfl) (by simp) ?_
    refine AllReadyH.cons rfl (fun K hK => ?_) AllReadyH.nil
    go_simp
    refine hK.out _ _ (by assumption) (fun hHeld => ?_)
    clear hK K
    try simp only [Act.put, List.getElem_toArray, List.getElem_cons_zero, List.getElem_cons_succ, List.setIfInBounds_toArray, List.set_cons_zero, List.set_cons_succ]
    refine wpAnyH_done (by kernel_rfl) ?_ _
    have HBX : Hid (Below w.heap.size w ((w1.setCell ⟨w.heap.size + 1, 0, none⟩ (.int .u32 ah)).setCell ⟨w.heap.size + 1, 1, none⟩ (.int .i64 ap))) := Lib.hid ((HB1.out.1.setCell (Nat.le_succ _) _).setCell (Nat.le_succ _) _)
    have HW : Hid (w.heap.size < w.heap.size + 1) := Lib.hid (Nat.lt_succ_self _)
    have v0 : ((w1.setCell ⟨w.heap.size + 1, 0, none⟩ (.int .u32 ah)).setCell ⟨w.heap.size + 1, 1, none⟩ (.int .i64 ap)).cell? ⟨w.heap.size + 1, 0, none⟩ = some (.int .u32 ah) := by go_simp
    have v1 : ((w1.setCell ⟨w.heap.size + 1, 0, none⟩ (.int .u32 ah)).setCell ⟨w.heap.size + 1, 1, none⟩ (.int .i64 ap)).cell? ⟨w.heap.size + 1, 1, none⟩ = some (.int .i64 ap) := by go_simp
    have u0 : ((w1.setCell ⟨w.heap.size + 1, 0, none⟩ (.int .u32 ah)).setCell ⟨w.heap.size + 1, 1, none⟩ (.int .i64 ap)).cell? ⟨w.heap.size, 0, none⟩ = some (.int .u32 0) := by go_simp
    have u1 : ((w1.setCell ⟨w.heap.size + 1, 0, none⟩ (.int .u32 ah)).setCell ⟨w.heap.size + 1, 1, none⟩ (.int .i64 ap)).cell? ⟨w.heap.size, 1, none⟩ = some (.int .i64 0) := by go_simp
    have k0 : ((w1.setCell ⟨w.heap.size + 1, 0, none⟩ (.int .u32 ah)).setCell ⟨w.heap.size + 1, 1, none⟩ (.int .i64 ap)).frozen? ⟨w.heap.size, 0, none⟩ = false := by go_simp
    have k1 : ((w1.setCell ⟨w.heap.size + 1, 0, none⟩ (.int .u32 ah)).setCell ⟨w.heap.size + 1, 1, none⟩ (.int .i64 ap)).frozen? ⟨w.heap.size, 1, none⟩ = false := by go_simp
    generalize hg1 : w.heap.size + 1 = g at *
    generalize (w1.setCell ⟨g, 0, none⟩ (.int .u32 ah)).setCell ⟨g, 1, none⟩ (.int .i64 ap) = W2 at *
    clear y0 y1 g0 g1 y2 y3 g2 g3 cc l1 hHeld
    have v0l := lt_of_cell v0; have u0l := lt_of_cell u0
    have HV := Lib.hid (And.intro v0 (And.intro v1 (And.intro u0 (And.intro u1 (And.intro k0 (And.intro k1 (And.intro v0l u0l)))))))
    clear v0 v1 u0 u1 k0 k1 v0l u0l
    go_wp2_with fail
    refine (CP.out _ HBX.out).mono ?_
    rintro e w2 ⟨⟨r, rfl⟩, hg, hr⟩
    obtain ⟨v0, v1, u0, u1, k0, k1, v0l, u0l⟩ := HV.out
    have HE := addr_end (ah := ah) (ap := ap) HBX.out L0.out HBL.out HW.out hg hr
    have ne1 : some g ≠ some R := (fun e => by have := HW.out; have := L0.out; simp at e; omega)
    have ne2 : some w.heap.size ≠ some R := (fun e => by have := L0.out; simp at e; omega)
    have v0' := hg.cell v0 ne1
    have v1' := hg.cell v1 ne1
    have u0' := hg.cell u0 ne2
    have u1' := hg.cell u1 ne2
    have k0' := grown_frozen hg k0 u0l ne2
    have k1' := grown_frozen hg k1 u0l ne2
    clear hg hr v0 v1 u0 u1 k0 k1 v0l u0l ne1 ne2
    go_wp2
    refine ⟨rfl, .agg #[.int .u32 ah, .int .i64 ap], ?_, rfl, HE.out.1, HE.out.2⟩
    simp [results, Tryd.f71, go_sem, u0', u1']
end Go.Proofs.YtdiilgedicfekaaDoor
namespace Go.Proofs.YtdiilgedicfekaaDoor
open Go.RowKit Go.Shelf
attribute [local go_sem] Oper.semAt_some
set_option linter.unusedVariables false
set_option maxRecDepth 100000

def encA (z : Int × Int) : Array Value := #[.agg #[.int .u32 z.1, .int .i64 z.2]]
/-- what a round is handed: a further address -/
def OkA (zs : List Int) (b0 : Bool) (pre : List (Int × Int)) (z : Int × Int) (W : World) : Prop :=
  b0 = false ∧ Uv.code zs = 0 ∧ ∃ r, Wi.readAddrs (nrest zs) (pre.length + 1) = some (pre ++ [z], r)
/-- what the iterator leaves in the reader -/
def SA (zs : List Int) (b0 : Bool) (R b : Nat) (ys : List (Int × Int)) (V : World) : Prop :=
  ∃ r bd, Rd V R b r bd ∧ (bd = false → b0 = false ∧ Uv.code zs = 0 ∧ Wi.readAddrs (nrest zs) (Uv.val zs).toNat = some (ys, r)) ∧ (bd = true → b0 = true ∨ Uv.code zs ≠ 0 ∨ Wi.readAddrs (nrest zs) (Uv.val zs).toNat = none)
theorem readAddrs_none {zs : List Int} {i : Nat} (h : Wi.readAddrs zs i = none) : ∀ {j : Nat}, i ≤ j → Wi.readAddrs zs j = none := by
  intro j hj
  induction j with
  | zero => obtain rfl : i = 0 := by omega
            exact h
  | succ j ih =>
    rcases Nat.lt_or_ge i (j + 1) with h' | h'
    · unfold Wi.readAddrs
      rw [ih (by omega)]
    · obtain rfl : i = j + 1 := by omega
      exact h
theorem spoils_f {b : Bool} {k : Int} (h : spoils b k = false) : b = false ∧ k = 0 := by
  unfold spoils at h
  split at h
  · exact ⟨h, by assumption⟩
  · cases h
theorem spoils_t {b : Bool} {k : Int} (h : spoils b k = true) : b = true ∨ k ≠ 0 := by
  unfold spoils at h
  split at h
  · exact .inl h
  · exact .inr (by assumption)
def AdrAt (zs : List Int) (b0 : Bool) (R b C v : Nat) (J : List (Int × Int) → World → Prop) (k : Nat) (wr : World) : Prop :=
  ∃ pre r bd, k + pre.length = v ∧ J pre wr ∧ Rd wr R b r bd ∧ wr.cell? ⟨C, 0, none⟩ = some (.pointer (some ⟨R, 0, none⟩)) ∧
    (bd = false → b0 = false ∧ Uv.code zs = 0 ∧ Wi.readAddrs (nrest zs) pre.length = some (pre, r)) ∧ (bd = true → b0 = true ∨ Uv.code zs ≠ 0)
theorem adr_yes {zs r : List Int} {i : Nat} {al : List (Int × Int)} (h : Wi.readAddrs zs i = some (al, r)) (hc : acode r = 0) : Wi.readAddrs zs (i + 1) = some (al ++ [(ahost r, aport r)], arest r) := by
  unfold Wi.readAddrs
  rw [h]
  have h6 : 6 ≤ r.length ∧ mayA (Wi.host6 r) (Wi.port6 r) = true := by
    unfold acode at hc
    split at hc
    · assumption
    · cases hc
  simp only
  rw [if_pos h6]
  unfold ahost aport arest
  rw [if_pos h6, if_pos h6, if_pos hc]
theorem adr_no {zs r : List Int} {i : Nat} {al : List (Int × Int)} (h : Wi.readAddrs zs i = some (al, r)) (hc : acode r ≠ 0) : Wi.readAddrs zs (i + 1) = none := by
  unfold Wi.readAddrs
  rw [h]
  have h6 : ¬ (6 ≤ r.length ∧ mayA (Wi.host6 r) (Wi.port6 r) = true) := fun h => hc (by unfold acode; rw [if_pos h])
  simp only
  rw [if_neg h6]

set_option maxRecDepth 100000 in
set_option maxHeartbeats 4000000 in
theorem adrs_in (n : Nat) (hn : 1 ≤ n) (l R b C B0 : Nat) (gs : List Nat) (zs : List Int) (b0 : Bool) (J Jx : List (Int × Int) → World → Prop)
    (hY : ∀ pre z W, J pre W → OkA zs b0 pre z W → YieldAt Fence.wide (n - 1) Tryd.prog l (encA z) W fun e W' => Kept gs false B0 W W' ∧
      ((e = .returned (.bool true) ∧ J (pre ++ [z]) W') ∨ (e = .returned (.bool false) ∧ Jx (pre ++ [z]) W')))
    (hT : Turns [R] J) (W : World) (hR : Rd W R b zs b0) (hC : W.cell? ⟨C, 0, none⟩ = some (.pointer (some ⟨R, 0, none⟩))) (g0 : C ∈ gs) (g1 : R ∈ gs) (g2 : b ∈ gs) (hCR : C ≠ R) (h0 : J [] W) :
    CallsIn Fence.wide n Tryd.prog 70 #[.func (.yield l) #[] #[], .pointer (some ⟨C, 0, none⟩)] W fun e W' => (∃ v, e = .returned v) ∧
      ((∃ ys, SA zs b0 R b ys W' ∧ J ys W') ∨ (∃ pre, True ∧ Jx pre W')) := by
  refine callsIn_of_wp Tryd.func70 rfl trivial ?_ rfl
  simp only [Tryd.ntmps70, List.size_toArray, List.length_cons, List.length_nil, Nat.reduceAdd, Nat.reduceSub, Array.replicate_succ, Array.replicate_zero, List.push_toArray, List.append_toArray, List.nil_append, List.cons_append]
  have HY := Lib.hid hY; have HT := Lib.hid hT; clear hY hT
  have HRD := Lib.hid hR
  have hcr : some C ≠ some R := fun e => hCR (by simpa using e)
  have CN := Lib.hid (number_any R b zs b0 W hR)
  have hvb := Uv.val_bd zs
  obtain ⟨v, hv⟩ : ∃ v : Nat, Uv.val zs = (v : Int) := ⟨(Uv.val zs).toNat, by omega⟩
  have hvb2 : v < 9223372036854775808 := by omega
  have HV : Hid ((Uv.val zs).toNat = v) := Lib.hid (by omega)
  rw [hv] at CN
  clear hR hvb hv
  gi_wp2_with fail
  refine ⟨trivial, ?_⟩
  refine (callsIn_wide.2 CN.out).mono ?_
  rintro e w1 ⟨rfl, hg1, hr1⟩
  have hC1 := hg1.cell hC hcr
  have HJ1 := Lib.hid (HT.out _ _ _ R (by simp) h0 hg1)
  have HR1 := Lib.hid hr1
  clear hg1 hr1 hC h0
  have HC1 := Lib.hid hC1
  have HA1 : Hid (AdrAt zs b0 R b C v J v w1) := Lib.hid ⟨[], nrest zs, _, by simp, HJ1.out, HR1.out, hC1, fun h => ⟨(spoils_f h).1, (spoils_f h).2, rfl⟩, fun h => spoils_t h⟩
  clear hC1 HJ1 HR1 CN
  gi_wp2
  gi_loopw [3] (fun p wr => ∃ k : Nat, p = .int .u64 (k : Int) ∧ k ≤ v ∧ AdrAt zs b0 R b C v J k wr) (fun p _ => (intOf p).toNat)
  case atStart => exact ⟨v, rfl, Nat.le_refl _, HA1.out⟩
  case round =>
    clear HA1 HC1
    obtain ⟨k, rfl, hkv, pre, r, bd, hlen, hJ, hr, hc, hf, ht⟩ := hrel
    have HJ := Lib.hid hJ; have HF := Lib.hid hf; have HT2 := Lib.hid ht; have HL := Lib.hid hlen
    have HR := Lib.hid hr
    clear hJ hf ht hlen
    by_cases hk : k = 0
    · subst hk
      clear hr hc
      gi_wp2
      go_end0
      refine ⟨⟨_, rfl⟩, .inl ⟨pre, ⟨r, bd, HR.out, fun h => ?_, fun h => ?_⟩, HJ.out⟩⟩
      · have := HF.out h
        rw [HV.out]
        have hl : pre.length = v := by have := HL.out; omega
        rw [hl] at this
        exact this
      · rcases HT2.out h with h | h
        · exact .inl h
        · exact .inr (.inl h)
    · have CA := Lib.hid (addr_any R b r bd _ hr)
      have t1 : decide ((0 : Int) < (k : Int)) = true := by simp; omega
      have HCC := Lib.hid hc
      clear hr
      gi_wp2_with fail
      refine ⟨trivial, ?_⟩
      refine (callsIn_wide.2 CA.out).mono ?_
      rintro e w2 ⟨rfl, hg2, hr2⟩
      have hc2 := hg2.cell HCC.out hcr
      have HC2 := Lib.hid hc2
      have HJ2 := Lib.hid (HT.out _ _ _ R (by simp) (HT.out _ _ _ R (by simp) HJ.out hg2) (World.grownBy_alloc w2 (.cells #[.int .u32 (ahost r), .int .i64 (aport r)] 87) (some R)))
      have hr3 := hr2.below ((Below.refl _ _).alloc (Nat.le_refl _) (.cells #[.int .u32 (ahost r), .int .i64 (aport r)] 87))
      have HR3 := Lib.hid hr3
      obtain ⟨A, n', c', e, _⟩ := hr3
      have hlr := hr2.lt
      have hlc := lt_of_cell hc2
      dsimp only at hlc
      have d1 := (Rd.cells e).2.2.1
      clear hc hg2 hr2 e CA
      have HSP : Hid (∀ sp, spoils bd (acode r) = sp → (sp = true → b0 = true ∨ Uv.code zs ≠ 0 ∨ Wi.readAddrs (nrest zs) (Uv.val zs).toNat = none) ∧ (sp = false → b0 = false ∧ Uv.code zs = 0 ∧ Wi.readAddrs (nrest zs) (pre.length + 1) = some (pre ++ [(ahost r, aport r)], arest r))) := Lib.hid (by
        rintro sp rfl
        refine ⟨fun h => ?_, fun h => ?_⟩
        · cases hb : bd with
          | true => rcases HT2.out hb with h | h
                    · exact .inl h
                    · exact .inr (.inl h)
          | false =>
            rcases spoils_t h with h2 | h2
            · rw [hb] at h2; cases h2
            · exact .inr (.inr (by rw [HV.out]; exact readAddrs_none (adr_no (HF.out hb).2.2 h2) (by have := HL.out; omega)))
        · obtain ⟨h1, h2⟩ := spoils_f h
          obtain ⟨h3, h4, h5⟩ := HF.out h1
          exact ⟨h3, h4, adr_yes h5 h2⟩)
      obtain ⟨sp, hsp⟩ : ∃ sp, spoils bd (acode r) = sp := ⟨_, rfl⟩
      have HS1 := Lib.hid (HSP.out sp hsp)
      rw [hsp] at d1 HR3
      clear hsp HSP
      generalize ahost r = ah at *
      generalize aport r = ap at *
      cases sp with
      | true =>
        have HS2 := Lib.hid (HS1.out.1 rfl)
        gi_wp2
        refine ⟨by simp, ?_⟩
        gi_wp2
        refine bodyPost_ret (results_none rfl _ _ _) rfl ?_
        exact ⟨⟨_, rfl⟩, .inl ⟨pre, ⟨_, true, HR3.out, (fun h => by cases h), fun _ => HS2.out⟩, HJ2.out⟩⟩
      | false =>
        have HS2 := Lib.hid (HS1.out.2 rfl)
        obtain ⟨fn, tmps, assign, body, hy, hR⟩ := HY.out pre (ah, ap) _ HJ2.out ⟨(HS1.out.2 rfl).1, (HS1.out.2 rfl).2.1, _, (HS1.out.2 rfl).2.2⟩
        dsimp only [encA] at hy hR
        gi_wp2
        refine hR.mono ?_
        rintro e W3 ⟨hk3, ⟨rfl, hJ3⟩ | ⟨rfl, hJx3⟩⟩
        · have HJ3 := Lib.hid hJ3; have HK3 := Lib.hid hk3
          clear hJ3 hk3 d1 hc2
          gi_wp2
          go_roundw
          case rel =>
            refine ⟨k - 1, by go_num, by omega, pre ++ [(ah, ap)], _, false, by have := HL.out; simp; omega, HJ3.out, HR3.out.kept HK3.out.size (HK3.out.same _ g1) (fun _ => HK3.out.same _ g2), ?_, fun _ => ?_, fun h => by cases h⟩
            · exact (World.cell?_of_block (a := ⟨C, 0, none⟩) (HK3.out.same _ g0)).trans ((World.cell?_of_block (a := ⟨C, 0, none⟩) (Below.heap_alloc _ _ _ (lt_of_cell HC2.out))).trans HC2.out)
            · have := HS2.out
              rw [List.length_append]
              exact this
          case measure => simp [intOf]; omega
        · gi_wp2
          refine bodyPost_ret (results_none rfl _ _ _) rfl ?_
          exact ⟨⟨_, rfl⟩, .inr ⟨_, trivial, hJx3⟩⟩

theorem Rd.own {R b B0 : Nat} {r : List Int} {bd : Bool} : OwnFrom B0 (fun (_ : Unit) V => Rd V R b r bd) := by
  intro s W W' row h hg hr
  have hn : ∀ g C t, W.heap[g]? = some (Obj.cells C t (0, 0)) → W'.heap[g]? = W.heap[g]? := fun g C t hc => hg.block g (Array.getElem?_eq_some_iff.1 hc).1 (fun e => by
    obtain ⟨_, o, ho, h2⟩ := hr g e.symm
    rw [hc] at ho; cases ho; cases h2)
  have h' : Rd W R b r bd := h
  obtain ⟨A, n, c, e, hb, r1, r2, r3, r4⟩ := h
  refine h'.kept hg.size (hn _ _ _ e) (fun hz => ?_)
  have hb2 := h'.blk hz
  refine hg.block b hb2 (fun e => ?_)
  obtain ⟨_, o, ho, h2⟩ := hr b e.symm
  have hn : 0 < n := by
    rcases Nat.eq_zero_or_pos n with h | h
    · have := hb.len; exact absurd (List.eq_nil_of_length_eq_zero (by omega)) hz
    · exact h
  obtain ⟨ad, e1, e2, _⟩ := r4 hn
  obtain ⟨b', off, e3, hlt, hc⟩ := hb.2.2 hn
  rw [e3] at e1
  cases e1
  have hb' : b' = b := e2
  have hc0 := hc 0 hn
  rw [hb'] at hc0
  simp only [World.cell?, ho] at hc0
  cases o <;> simp_all [Obj.isCells]
theorem SA.own {zs : List Int} {b0 : Bool} {R b B0 : Nat} (ys : List (Int × Int)) : OwnFrom B0 (fun (_ : Unit) V => SA zs b0 R b ys V) := by
  rintro s W W' row ⟨r, bd, h1, h2, h3⟩ hg hr
  exact ⟨r, bd, Rd.own () W W' row h1 hg hr, h2, h3⟩
/-- the iterator of reader.addrs, over the cell C that leads to the reader -/
theorem adrs_tells (n : Nat) (hn : 1 ≤ n) (R b C : Nat) (gs : List Nat) (zs : List Int) (b0 : Bool) (w : World) (hR : Rd w R b zs b0) (hC : w.cell? ⟨C, 0, none⟩ = some (.pointer (some ⟨R, 0, none⟩))) (g0 : C ∈ gs) (g1 : R ∈ gs) (g2 : b ∈ gs) (hCR : C ≠ R) :
    Tells Fence.wide n Tryd.prog 70 #[.pointer (some ⟨C, 0, none⟩)] encA (OkA zs b0) gs [R] false (SA zs b0 R b) (fun _ _ => True) w := fun l J Jx W hW hJ h0 hY =>
  adrs_in n hn l R b C W.heap.size gs zs b0 J Jx hY hJ.2 W (hR.below hW) ((hW.cell (lt_of_cell hC)).trans hC) g0 g1 g2 hCR h0
end Go.Proofs.YtdiilgedicfekaaDoor
namespace Go.Proofs.YtdiilgedicfekaaDoor
open Go.RowKit
set_option linter.unusedVariables false
set_option maxRecDepth 100000

def U (vs : List Nat) : List Value := vs.map fun (x : Nat) => Value.int .u64 (x : Int)
theorem U_snoc (vs : List Nat) (x : Nat) : U (vs ++ [x]) = U vs ++ [.int .u64 (x : Int)] := by simp [U]
theorem num_info : (Tryd.prog.info? 22).map (fun i => (i.zero, i.size, i.bytes)) = some (some (.int .u64 0), 1, 8) := by kernel_rfl
/-- 'append(m.Nums, v)', as one step of a region that draws its order -/
theorem step_num {w : World} {ops : Array Oper} {o : Oper} {a : Act} {K : Act → World → Prop} {Q : Exit → Act → World → Prop} {E : Prop} (hf : o.guard = none) (s x : Operand)
    (ho : o.op = .call { callee := .builtin .append, args := #[s, x], argTypes := #[43, 43] }) {k g base y : Nat} {v : Value} {xs : List Value} (hs : a.eval s = v) (hown : w.ownsRow base 22 1 v k xs) (hx : a.eval x = .slice (some ⟨g, 0, none⟩) 1 1)
    (h0 : w.cell? ⟨g, 0, none⟩ = some (.int .u64 (y : Int))) (hk : k ≤ 1000000) (hb : base ≤ w.heap.size)
    (h : ∀ v' w', w'.ownsRow base 22 1 v' (k + 1) (xs ++ [.int .u64 (y : Int)]) → w.grownBy w' v.ownBlock → K (a.put o.dst v') w') :
    if Region.wanted o (yielded ops a.tmps) = true then Oper.wp Tryd.prog o a w K Q else E := by
  obtain ⟨i0, hi0, hz0, hz1, hz2⟩ := info_parts num_info
  rw [if_pos (by simp [Region.wanted, hf])]
  refine wp_append_own w s x 43 ho base 22 i0 (.int .u64 0) 1 8 Tryd.underlying43 hi0 hz0 hz1 hz2 rfl (by decide) v k xs hs hown ⟨g, 0, none⟩ 1 1 [.int .u64 (y : Int)] hx rfl
    (fun j u hu => by
      match j, hu with
      | 0, hu => simp at hu; subst hu; exact h0) (by simp [Value.oneCell']) (by unfold maxLen; omega) (by omega) hb (fun v' w' h2 h3 _ => h v' w' h2 h3)

/-- a message's box, field by field -/
def MBox (w : World) (M : Nat) (k : Int) (x1 x2 x3 : Value) : Prop := w.heap[M]? = some (.cells #[.int .i64 k, x1, x2, x3] 46 (0, 0))
theorem MBox.mx {w : World} {M : Nat} {k : Int} {x1 x2 x3 : Value} (h : MBox w M k x1 x2 x3) : Mx w M k x1 x2 x3 ∧ M < w.heap.size ∧ ∀ j, w.frozen? ⟨M, j, none⟩ = false :=
  ⟨⟨by rw [(cells_of h 0).1]; rfl, by rw [(cells_of h 1).1]; rfl, by rw [(cells_of h 2).1]; rfl, by rw [(cells_of h 3).1]; rfl⟩, (Array.getElem?_eq_some_iff.1 h).1, fun j => (cells_of h j).2⟩
theorem grown_to {w w' w2 : World} {R : Nat} {row : Option Nat} (h : w.grownBy w' (some R)) (hg : w'.grownBy w2 row) (hr : ∀ k, row = some k → w.heap.size ≤ k) : w.grownBy w2 (some R) :=
  ⟨hg.os.trans h.os, hg.tape.trans h.tape, hg.output.trans h.output, Nat.le_trans h.size hg.size, fun k hk hn => (hg.block k (Nat.lt_of_lt_of_le hk h.size) (fun e => by have := hr k e.symm; omega)).trans (h.block k hk hn)⟩

/-- what stands when k numbers have been read: M holds the message, G the answer -/
def NumAt (w : World) (R b M G : Nat) (kd : Int) (zs : List Int) (k : Nat) (wr : World) : Prop :=
  ∃ vs r bd v, vs.length = k ∧ (∀ x ∈ vs, x < 9223372036854775808) ∧ MBox wr M kd v (.slice none 0 0) (.slice none 0 0) ∧ MBox wr G 0 (.slice none 0 0) (.slice none 0 0) (.slice none 0 0) ∧ wr.ownsRow (M + 1) 22 1 v k (U vs) ∧ w.grownBy wr (some R) ∧ Rd wr R b r bd ∧
    (bd = false → Uv.code zs = 0 ∧ Wi.readNums (nrest zs) k = some (vs, r)) ∧ (bd = true → Uv.code zs ≠ 0 ∨ Wi.readNums (nrest zs) k = none)
theorem num_yes {zs r : List Int} {i : Nat} {vs : List Nat} (h : Wi.readNums zs i = some (vs, r)) (hc : Uv.code r = 0) : Wi.readNums zs (i + 1) = some (vs ++ [(Uv.val r).toNat], nrest r) := by
  unfold Wi.readNums
  rw [h]
  simp only
  rw [if_pos hc]
  unfold nrest
  rw [if_pos hc]
theorem num_no {zs r : List Int} {i : Nat} {vs : List Nat} (h : Wi.readNums zs i = some (vs, r)) (hc : Uv.code r ≠ 0) : Wi.readNums zs (i + 1) = none := by
  unfold Wi.readNums
  rw [h]
  simp only
  rw [if_neg hc]
theorem num_step {w wr w2 w4 : World} {R b M G k x : Nat} {kd : Int} {zs r : List Int} {vs : List Nat} {bd : Bool} {v v2 : Value} {o : Obj} (hR : R < w.heap.size) (hb : b < w.heap.size) (hG : w.heap.size ≤ G) (hGM : G < M)
    (h1 : vs.length = k) (h2 : ∀ x ∈ vs, x < 9223372036854775808) (h3 : MBox wr M kd v (.slice none 0 0) (.slice none 0 0)) (h4 : MBox wr G 0 (.slice none 0 0) (.slice none 0 0) (.slice none 0 0)) (h5 : wr.ownsRow (M + 1) 22 1 v k (U vs)) (h6 : w.grownBy wr (some R))
    (h8 : bd = false → Uv.code zs = 0 ∧ Wi.readNums (nrest zs) k = some (vs, r)) (h9 : bd = true → Uv.code zs ≠ 0 ∨ Wi.readNums (nrest zs) k = none)
    (hx : Uv.val r = (x : Int)) (hg2 : wr.drew.grownBy w2 (some R)) (hr2 : Rd w2 R b (nrest r) (spoils bd (Uv.code r))) (hg4 : (w2.alloc o).grownBy w4 v.ownBlock) (ho4 : w4.ownsRow (M + 1) 22 1 v2 (k + 1) (U vs ++ [.int .u64 (x : Int)])) :
    Hid (NumAt w R b M G kd zs (k + 1) (w4.setCell ⟨M, 1, none⟩ v2)) := by
  have hxb : x < 9223372036854775808 := by have := Uv.val_bd r; omega
  have hvb : ∀ g, v.ownBlock = some g → M + 1 ≤ g := fun g hg => (h5.lt g hg).1
  have hMs : M < wr.heap.size := (Array.getElem?_eq_some_iff.1 h3).1
  have hGs : G < wr.heap.size := (Array.getElem?_eq_some_iff.1 h4).1
  have hs2 : wr.heap.size ≤ w2.heap.size := hg2.size
  have hs4 : w2.heap.size + 1 ≤ w4.heap.size := by have := hg4.size; simpa using this
  have same : ∀ g, g < wr.heap.size → g ≠ R → (∀ g', v.ownBlock = some g' → g ≠ g') → w4.heap[g]? = wr.heap[g]? := fun g h7 h8 h9 =>
    (hg4.block g (by simp; omega) (fun e => h9 g e.symm rfl)).trans ((Below.heap_alloc _ _ _ (by omega)).trans (hg2.block g h7 (fun e => h8 (by simpa using e))))
  have hws := h6.size
  have hM4 : MBox w4 M kd v (.slice none 0 0) (.slice none 0 0) := (same M hMs (by omega) (fun g hg => by have := hvb g hg; omega)).trans h3
  have hG4 : MBox w4 G 0 (.slice none 0 0) (.slice none 0 0) (.slice none 0 0) := (same G hGs (by omega) (fun g hg => by have := hvb g hg; omega)).trans h4
  have hr4 : Rd w4 R b (nrest r) (spoils bd (Uv.code r)) := hr2.kept (by omega) ((hg4.block R (by simp; omega) (fun e => by have := hvb R e.symm; omega)).trans (Below.heap_alloc _ _ _ (by omega))) (fun _ => (hg4.block b (by simp; omega) (fun e => by have := hvb b e.symm; omega)).trans (Below.heap_alloc _ _ _ (by omega)))
  have hg5 : w.grownBy w4 (some R) := by
    refine ⟨hg4.os.trans (hg2.os.trans h6.os), hg4.tape.trans (hg2.tape.trans h6.tape), hg4.output.trans (hg2.output.trans h6.output), by omega, fun g hg hn => ?_⟩
    exact (same g (by omega) (fun e => hn (by rw [e])) (fun g' hg' => by have := hvb g' hg'; omega)).trans (h6.block g hg hn)
  refine Lib.hid ⟨vs ++ [x], nrest r, _, v2, by simp [h1], ?_, ?_, ?_, ?_, grown_new hg5 (by omega) _ _, hr4.setNew (by omega) (fun _ => by omega) _ _, fun h => ?_, fun h => ?_⟩
  · intro y hy
    rcases List.mem_append.1 hy with hy | hy
    · exact h2 y hy
    · simp at hy; omega
  · unfold MBox at hM4 ⊢
    rw [heap_mod hM4 (by simp)]; rfl
  · exact (Below.heap_setCell _ _ _ _ (by show G ≠ M; omega)).trans hG4
  · rw [U_snoc]
    exact ownsRow_setCell_below ho4 (by show M < M + 1; omega) _
  · obtain ⟨e1, e2⟩ := spoils_f h
    obtain ⟨e3, e4⟩ := h8 e1
    have := num_yes e4 e2
    rw [hx, Int.toNat_natCast] at this
    exact ⟨e3, this⟩
  · cases hbd : bd with
    | true =>
      rcases h9 hbd with h | h
      · exact .inl h
      · refine .inr ?_
        unfold Wi.readNums
        rw [h]
    | false =>
      rcases spoils_t h with h | h
      · rw [hbd] at h; cases h
      · exact .inr (num_no (h8 hbd).2 h)
end Go.Proofs.YtdiilgedicfekaaDoor
namespace Go.Proofs.YtdiilgedicfekaaDoor
open Go.RowKit
set_option linter.unusedVariables false
set_option maxRecDepth 100000

def A2 (al : List (Int × Int)) : List Value := al.flatMap fun a => [Value.int .u32 a.1, Value.int .i64 a.2]
theorem A2_snoc (al : List (Int × Int)) (a : Int × Int) : A2 (al ++ [a]) = A2 al ++ [.int .u32 a.1, .int .i64 a.2] := by simp [A2]
theorem adr_info : (Tryd.prog.info? 87).map (fun i => (i.zero, i.size, i.bytes)) = some (some (.agg #[.int .u32 0, .int .i64 0]), 2, 16) := by kernel_rfl

/-- what stands while the addresses are read: M holds the message, G the answer -/
def AdrI (w : World) (R M G C : Nat) (kd : Int) (K : Nat) (v1 : Value) (vs : List Nat) (pre : List (Int × Int)) (V : World) : Prop :=
  ∃ v2, MBox V M kd v1 v2 (.slice none 0 0) ∧ MBox V G 0 (.slice none 0 0) (.slice none 0 0) (.slice none 0 0) ∧ V.ownsRow (M + 1) 22 1 v1 K (U vs) ∧ V.ownsRow (C + 1) 87 2 v2 pre.length (A2 pre) ∧ w.grownBy V (some R) ∧ C < V.heap.size ∧ ∀ a ∈ pre, 0 ≤ a.1 ∧ a.1 < 4294967296
theorem own_cells {V : World} {base e size n : Nat} {v : Value} {xs : List Value} (h : V.ownsRow base e size v n xs) {r : Nat} {o : Obj} (ho : V.heap[r]? = some o) (hn : o.isCells = false) : v.ownBlock = none ∨ v.ownBlock ≠ some r := by
  refine .inr (fun hr => ?_)
  obtain ⟨c, fz, h2⟩ := Go.Lib.ownsRow_kind h r hr
  rw [ho] at h2
  cases h2
  cases hn
theorem AdrI.turn {w V V' : World} {R M G C K : Nat} {kd : Int} {v1 : Value} {vs : List Nat} {pre : List (Int × Int)} (h : AdrI w R M G C kd K v1 vs pre V) (hg : V.grownBy V' (some R)) (hRM : R < M) (hRG : R ≠ G) (hMC : M < C) : AdrI w R M G C kd K v1 vs pre V' := by
  obtain ⟨v2, h1, h2, h3, h4, h5, h6, h7⟩ := h
  refine ⟨v2, (hg.block M (Array.getElem?_eq_some_iff.1 h1).1 (fun e => by simp at e; omega)).trans h1, (hg.block G (Array.getElem?_eq_some_iff.1 h2).1 (fun e => by simp at e; omega)).trans h2, h3.kept hg (.inr (fun e => by have := (h3.lt R e).1; omega)), h4.kept hg (.inr (fun e => by have := (h4.lt R e).1; omega)), grown_trans h5 hg, Nat.lt_of_lt_of_le h6 hg.size, h7⟩
theorem AdrI.own {w : World} {R M G C K B : Nat} {kd : Int} {v1 : Value} {vs : List Nat} (hB : w.heap.size ≤ B) : OwnFrom B (AdrI w R M G C kd K v1 vs) := by
  rintro pre V V' row ⟨v2, h1, h2, h3, h4, h5, h6, h7⟩ hg hr
  have hb : ∀ g o, V.heap[g]? = some o → Obj.isCells o = true → V'.heap[g]? = V.heap[g]? := fun g o ho hc => hg.block g (Array.getElem?_eq_some_iff.1 ho).1 (fun e => by
    obtain ⟨_, o', ho', h'⟩ := hr g e.symm
    rw [ho] at ho'; cases ho'
    rw [hc] at h'; cases h')
  have hk : ∀ {base e size n : Nat} {v : Value} {xs : List Value}, V.ownsRow base e size v n xs → V'.ownsRow base e size v n xs := fun {base e size n v xs} h => by
    cases row with
    | none => exact h.kept hg (by cases v.ownBlock <;> simp)
    | some r =>
      obtain ⟨_, o, ho, hn⟩ := hr r rfl
      exact h.kept hg (own_cells h ho hn)
  exact ⟨v2, (hb M _ h1 rfl).trans h1, (hb G _ h2 rfl).trans h2, hk h3, hk h4, grown_to h5 hg (fun r e => Nat.le_trans hB (hr r e).1), Nat.lt_of_lt_of_le h6 hg.size, h7⟩

/-- a round: the address has been put behind the others -/
theorem adr_step {w W w4 : World} {R M G C K b : Nat} {kd h p : Int} {v1 v2 v3 : Value} {vs : List Nat} {pre : List (Int × Int)} {o : Obj} {B : Nat} (hR : R < w.heap.size) (hb : b < w.heap.size) (hG : w.heap.size ≤ G) (hGM : G < M) (hMC : M < C) (hCB : C < B) (hBW : B ≤ W.heap.size)
    (hv1 : ∀ g, v1.ownBlock = some g → g < C)
    (h1 : MBox W M kd v1 v2 (.slice none 0 0)) (h2 : MBox W G 0 (.slice none 0 0) (.slice none 0 0) (.slice none 0 0)) (h3 : W.ownsRow (M + 1) 22 1 v1 K (U vs)) (h4 : W.ownsRow (C + 1) 87 2 v2 pre.length (A2 pre)) (h5 : w.grownBy W (some R)) (h6 : C < W.heap.size) (h7 : ∀ a ∈ pre, 0 ≤ a.1 ∧ a.1 < 4294967296) (h8 : 0 ≤ h ∧ h < 4294967296)
    (hg4 : (W.alloc o).grownBy w4 v2.ownBlock) (ho4 : w4.ownsRow (C + 1) 87 2 v3 (pre.length + 1) (A2 pre ++ [.int .u32 h, .int .i64 p])) :
    Hid (Kept [C, R, b] false B W (w4.setCell ⟨M, 2, none⟩ v3) ∧ AdrI w R M G C kd K v1 vs (pre ++ [(h, p)]) (w4.setCell ⟨M, 2, none⟩ v3)) := by
  have hvb : ∀ g, v2.ownBlock = some g → C + 1 ≤ g := fun g hg => (h4.lt g hg).1
  have hs4 : W.heap.size + 1 ≤ w4.heap.size := by have := hg4.size; simpa using this
  have hws := h5.size
  have same : ∀ g, g < W.heap.size → (∀ g', v2.ownBlock = some g' → g ≠ g') → w4.heap[g]? = W.heap[g]? := fun g h8 h9 =>
    (hg4.block g (by simp; omega) (fun e => h9 g e.symm rfl)).trans (Below.heap_alloc _ _ _ h8)
  have hMl := (Array.getElem?_eq_some_iff.1 h1).1
  have hGl := (Array.getElem?_eq_some_iff.1 h2).1
  have hM4 : MBox w4 M kd v1 v2 (.slice none 0 0) := (same M hMl (fun g hg => by have := hvb g hg; omega)).trans h1
  have hG4 : MBox w4 G 0 (.slice none 0 0) (.slice none 0 0) (.slice none 0 0) := (same G hGl (fun g hg => by have := hvb g hg; omega)).trans h2
  have h34 : w4.ownsRow (M + 1) 22 1 v1 K (U vs) := (h3.alloc o).kept hg4 (by
    cases e : v1.ownBlock with
    | none => exact .inl rfl
    | some g => exact .inr (fun e2 => by have := hv1 g e; have := hvb g e2.symm; omega))
  have hsz : ∀ u, (w4.setCell ⟨M, 2, none⟩ u).heap.size = w4.heap.size := fun u => by simp [World.setCell]
  have other : ∀ g u, g ≠ M → (w4.setCell ⟨M, 2, none⟩ u).heap[g]? = w4.heap[g]? := fun g u h => Below.heap_setCell _ _ _ _ h
  refine Lib.hid ⟨⟨by rw [hsz]; omega, fun g hg => ?_, fun k ob hk hob hn => ?_⟩, v3, ?_, (other G _ (by omega)).trans hG4, ?_, ?_, ?_, by rw [hsz]; omega, ?_⟩
  · have hg3 : g = C ∨ g = R ∨ g = b := by simpa using hg
    exact (other g _ (by omega)).trans (same g (by omega) (fun g' hg' => by have := hvb g' hg'; omega))
  · have hkl := (Array.getElem?_eq_some_iff.1 hob).1
    refine ((other k _ (by omega)).trans (same k hkl (fun g' hg' e => ?_))).trans hob
    subst e
    obtain ⟨c, fz, hh⟩ := Go.Lib.ownsRow_kind h4 k hg'
    rw [hob] at hh
    cases hh
    rcases hn with hn | hn <;> cases hn
  · unfold MBox at hM4 ⊢
    rw [heap_mod hM4 (by simp)]; rfl
  · exact h34.kept (grown_set w4 M 2 v3) (by
      cases e : v1.ownBlock with
      | none => exact .inl rfl
      | some g => exact .inr (fun e2 => by have := (h3.lt g e).1; simp at e2; omega))
  · rw [A2_snoc, List.length_append]
    exact ownsRow_setCell_below ho4 (by show M < C + 1; omega) _
  · refine grown_new ?_ (by omega) _ _
    refine ⟨hg4.os.trans h5.os, hg4.tape.trans h5.tape, hg4.output.trans h5.output, by omega, fun g hg hn => ?_⟩
    exact (same g (by omega) (fun g' hg' => by have := hvb g' hg'; omega)).trans (h5.block g hg hn)
  · intro a ha
    rcases List.mem_append.1 ha with ha | ha
    · exact h7 a ha
    · simp at ha; subst ha; exact h8
/-- 'append(m.Addrs, a)', as one step within a round -/
theorem stepIn_adr {F : Fence} {n : Nat} {w : World} {ops : Array Oper} {rest : List Oper} {o : Oper} {a : Act} {Q : Exit → Act → World → Prop} (hf : o.guard = none) (s x : Operand)
    (ho : o.op = .call { callee := .builtin .append, args := #[s, x], argTypes := #[44, 44] }) {k g base : Nat} {h p : Int} {v : Value} {xs : List Value} (hs : a.eval s = v) (hown : w.ownsRow base 87 2 v k xs) (hx : a.eval x = .slice (some ⟨g, 0, none⟩) 1 1)
    (h0 : w.heap[g]? = some (.cells #[.int .u32 h, .int .i64 p] 87 (0, 0))) (hk : k ≤ 1000000) (hb : base ≤ w.heap.size)
    (hh : ∀ v' w', w'.ownsRow base 87 2 v' (k + 1) (xs ++ [.int .u32 h, .int .i64 p]) → w.grownBy w' v.ownBlock → wpListIn F n Tryd.prog ops Q rest (a.put o.dst v') w') :
    wpListIn F n Tryd.prog ops Q (o :: rest) a w := by
  obtain ⟨i0, hi0, hz0, hz1, hz2⟩ := info_parts adr_info
  refine wpListIn_append_own w hf s x 44 ho base 87 i0 (.agg #[.int .u32 0, .int .i64 0]) 2 16 Tryd.underlying44 hi0 hz0 hz1 hz2 rfl (by decide) v k xs hs hown ⟨g, 0, none⟩ 1 1 [.int .u32 h, .int .i64 p] hx rfl
    (fun j u hu => by
      match j, hu with
      | 0, hu => simp at hu; subst hu; rw [add_spot, (cells_of h0 _).1]; rfl
      | 1, hu => simp at hu; subst hu; rw [add_spot, (cells_of h0 _).1]; rfl) (by simp [Value.oneCell']) (by unfold maxLen; omega) (by omega) hb (fun v' w' h2 h3 _ => hh v' w' h2 h3)
end Go.Proofs.YtdiilgedicfekaaDoor
namespace Go.Proofs.YtdiilgedicfekaaDoor
open Go.RowKit
set_option linter.unusedVariables false
set_option maxRecDepth 100000

theorem own_ns {V : World} {base n : Nat} {v : Value} {vs : List Nat} (h : V.ownsRow base 22 1 v n (U vs)) (hn : vs.length = n) (hb : ∀ x ∈ vs, x < 18446744073709551616) : Ns V v vs := by
  subst hn
  obtain ⟨hl, ⟨rfl, h0⟩ | ⟨g, cap, cur, rfl, h1, hg, h2, h3, h4, h5⟩⟩ := h
  · exact ⟨none, 0, by rw [h0], by omega, Nat.zero_le _, fun _ => ⟨h0, rfl⟩, hb, fun h => by omega⟩
  · refine ⟨_, cap, rfl, h2, h3, (fun h => by cases h), hb, fun hp => ⟨g, 0, rfl, fun j hj => ?_⟩⟩
    rw [Nat.zero_add, (cells_of hg j).1]
    have h6 := congrArg (fun l : List Value => l[j]?) h5
    simp only [Nat.mul_one] at h6
    rw [List.getElem?_take_of_lt hj] at h6
    rw [← Array.getElem?_toList, h6]
    simp [U, List.getD, hj]
theorem A2_get : ∀ (al : List (Int × Int)) (j : Nat), j < al.length → (A2 al)[j * 2]? = some (.int .u32 (al.getD j (0, 0)).1) ∧ (A2 al)[j * 2 + 1]? = some (.int .i64 (al.getD j (0, 0)).2)
  | [], j, h => by simp at h
  | a :: al, 0, _ => by simp [A2]
  | a :: al, j + 1, h => by
    have ih := A2_get al j (by simpa using h)
    have e : A2 (a :: al) = .int .u32 a.1 :: .int .i64 a.2 :: A2 al := by simp [A2]
    rw [e, show (j + 1) * 2 = j * 2 + 1 + 1 by omega]
    simpa using ih
theorem own_as {V : World} {base n : Nat} {v : Value} {al : List (Int × Int)} (h : V.ownsRow base 87 2 v n (A2 al)) (hn : al.length = n) (hb : ∀ a ∈ al, 0 ≤ a.1 ∧ a.1 < 4294967296) : As V v al := by
  subst hn
  obtain ⟨hl, ⟨rfl, h0⟩ | ⟨g, cap, cur, rfl, h1, hg, h2, h3, h4, h5⟩⟩ := h
  · exact ⟨none, 0, by rw [h0], by omega, Nat.zero_le _, fun _ => ⟨h0, rfl⟩, hb, fun h => by omega⟩
  · refine ⟨_, cap, rfl, h2, h3, (fun h => by cases h), hb, fun hp => ⟨g, 0, rfl, fun j hj => ?_⟩⟩
    have ha := A2_get al j hj
    have h6 := fun i (hi : i < al.length * 2) => congrArg (fun l : List Value => l[i]?) h5
    have h7 : ∀ i, i < al.length * 2 → cur[i]? = (A2 al)[i]? := fun i hi => by
      have := h6 i hi
      simp only [List.getElem?_take_of_lt hi] at this
      rw [← Array.getElem?_toList, this]
    rw [Nat.zero_add, (cells_of hg _).1, (cells_of hg _).1, h7 _ (by omega), h7 _ (by omega)]
    exact ha
theorem own_tx {V : World} {base : Nat} {v : Value} {zs : List Int} (h : V.ownsRow base 5 1 v zs.length (B zs)) (hb : ∀ z ∈ zs, 0 ≤ z ∧ z ≤ 255) : Tx V v zs := by
  obtain ⟨A, c, rfl, h1, h2, h3⟩ := own_form h hb
  exact ⟨A, c, rfl, h3, h1, h2, own_nil h⟩
/-- a value of the call's own is a slice -/
theorem own_slice {V : World} {base e size n : Nat} {v : Value} {xs : List Value} (h : V.ownsRow base e size v n xs) : ∃ A c, v = .slice A n c := by
  obtain ⟨hl, ⟨rfl, h0⟩ | ⟨g, cap, cur, rfl, h1, hg, h2, h3, h4, h5⟩⟩ := h
  · exact ⟨none, 0, by rw [h0]⟩
  · exact ⟨_, _, rfl⟩
end Go.Proofs.YtdiilgedicfekaaDoor
