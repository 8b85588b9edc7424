/-
  Contracts of embrasure/addr's FromBytes and the document's own, at six bytes. Conditions: as each states.
  Contracts of embrasure/addr's FromBytes and the document's own. Conditions: as each states.
  Messages as values: their numbers, addresses and bodies in memory, and messages that came in. Conditions: as each states.
  Contracts of embrasure/wire's Nums and the document's own. Conditions: the table is as the program's text lays it.
  Contracts of embrasure/wire's May and the document's own. Conditions: the table is as the program's text lays it.
  Embrasure/wire's reader: a cell that holds what is left and whether something wasn't as it must be; what pass, number and body make of it. Conditions: as each states.
-/
import Derived.Test.YtdiilgedicfekaaDoorMh5
import Derived.OwnWalk
import Derived.Deep.RegionHeld3
import Derived.Lib.SmallJoins
import Derived.Deep.Slices
import Derived.ProofKit
import Derived.OpenShut
import Derived.Lib.LaidTab
import Derived.Deep.QuietTactic
import Derived.BigQuiet
import Derived.StillTailTactics
namespace Go.Proofs.YtdiilgedicfekaaDoor
open Go.RowKit
set_option linter.unusedVariables false
set_option maxRecDepth 100000

/-- the host of the first k of four bytes -/
def hostUp (zs : List Int) : Nat → Int
  | 0 => 0
  | k + 1 => hostUp zs k * 256 % 4294967296 + zs.getD k 0
def portUp (zs : List Int) : Nat → Int
  | 0 => 0
  | k + 1 => portUp zs k * 256 + zs.getD (4 + k) 0
theorem hostUp_bd {zs : List Int} (h : ∀ j, 0 ≤ zs.getD j 0 ∧ zs.getD j 0 ≤ 255) : ∀ k, 0 ≤ hostUp zs k ∧ hostUp zs k < 4294967296
  | 0 => by simp [hostUp]
  | k + 1 => by have := hostUp_bd h k; have := h k; simp only [hostUp]; omega
theorem portUp_bd {zs : List Int} (h : ∀ j, 0 ≤ zs.getD j 0 ∧ zs.getD j 0 ≤ 255) : ∀ k, k ≤ 2 → 0 ≤ portUp zs k ∧ portUp zs k < 256 ^ k
  | 0, _ => by simp [portUp]
  | 1, _ => by have := h 4; simp only [portUp, Nat.add_zero]; omega
  | 2, _ => by have := h 4; have := h 5; simp only [portUp, Nat.add_zero, Nat.reduceAdd]; omega
  | k + 3, h => by omega
/-- the cells of a call of FromBytes -/
structure SixAt (w V : World) (h p : Int) : Prop where
  below : Below w.heap.size w V
  size : V.heap.size = w.heap.size + 2
  c0 : V.heap[w.heap.size]? = some (.cells #[.int .u32 0, .int .i64 0] 87 (0, 0))
  c1 : V.heap[w.heap.size + 1]? = some (.cells #[.int .u32 h, .int .i64 p] 87 (0, 0))
/-- .. behind a call -/
structure SixLater (w V : World) (h p : Int) : Prop where
  below : Below w.heap.size w V
  size : w.heap.size + 2 ≤ V.heap.size
  c0 : V.heap[w.heap.size]? = some (.cells #[.int .u32 0, .int .i64 0] 87 (0, 0))
  c1 : V.heap[w.heap.size + 1]? = some (.cells #[.int .u32 h, .int .i64 p] 87 (0, 0))
theorem six_start (w : World) (W0 : World) (h : (w.alloc (.cells #[.int .u32 0, .int .i64 0] 87)).alloc (.cells #[.int .u32 0, .int .i64 0] 87) = W0) : SixAt w W0 0 0 := by
  subst h
  refine ⟨((Below.refl _ w).alloc (Nat.le_refl _) _).alloc (by simp) _, by simp, ?_, ?_⟩
  · exact (Below.heap_alloc _ _ _ (by simp)).trans (MapKept.heap_alloc w _).1
  · have := (MapKept.heap_alloc (w.alloc (.cells #[.int .u32 0, .int .i64 0] 87)) (.cells #[.int .u32 0, .int .i64 0] 87)).1
    simpa using this
theorem six_start2 (w : World) (W0 : World) (h p : Int) (e : ((w.alloc (.cells #[.int .u32 0, .int .i64 0] 87)).alloc (.cells #[.int .u32 h, .int .i64 p] 87)).drew = W0) : SixAt w W0 h p := by
  subst e
  refine ⟨(((Below.refl _ w).alloc (Nat.le_refl _) _).alloc (by simp) _).drew, by simp, ?_, ?_⟩
  · exact (Below.heap_alloc _ _ _ (by simp)).trans (MapKept.heap_alloc w _).1
  · have := (MapKept.heap_alloc (w.alloc (.cells #[.int .u32 0, .int .i64 0] 87)) (.cells #[.int .u32 h, .int .i64 p] 87)).1
    rw [World.size_alloc] at this
    exact this
theorem SixAt.setH {w V : World} {h p : Int} (a : SixAt w V h p) (x : Int) : SixAt w (V.setCell ⟨w.heap.size + 1, 0, none⟩ (.int .u32 x)) x p :=
  ⟨a.below.setCell (by simp) _, by simp [World.setCell, a.size], (Below.heap_setCell _ _ _ _ (by simp)).trans a.c0, by simp [World.setCell, Array.getElem?_modify, a.c1]⟩
theorem SixAt.setP {w V : World} {h p : Int} (a : SixAt w V h p) (x : Int) : SixAt w (V.setCell ⟨w.heap.size + 1, 1, none⟩ (.int .i64 x)) h x :=
  ⟨a.below.setCell (by simp) _, by simp [World.setCell, a.size], (Below.heap_setCell _ _ _ _ (by simp)).trans a.c0, by simp [World.setCell, Array.getElem?_modify, a.c1]⟩
theorem SixAt.later {w V V' : World} {h p : Int} (a : SixAt w V h p) (hb : Below V.heap.size V V') : SixLater w V' h p :=
  ⟨a.below.trans (hb.mono a.below.size), by have := hb.size; have := a.size; omega, (hb.block _ (by have := a.size; omega)).trans a.c0, (hb.block _ (by have := a.size; omega)).trans a.c1⟩
theorem SixLater.store {w V : World} {h p : Int} (a : SixLater w V h p) (x y : Value) :
    ((V.setCell ⟨w.heap.size, 0, none⟩ x).setCell ⟨w.heap.size, 1, none⟩ y).cell? ⟨w.heap.size, 0, none⟩ = some x ∧ ((V.setCell ⟨w.heap.size, 0, none⟩ x).setCell ⟨w.heap.size, 1, none⟩ y).cell? ⟨w.heap.size, 1, none⟩ = some y ∧
    Below w.heap.size w ((V.setCell ⟨w.heap.size, 0, none⟩ x).setCell ⟨w.heap.size, 1, none⟩ y) := by
  have h4 : ((V.setCell ⟨w.heap.size, 0, none⟩ x).setCell ⟨w.heap.size, 1, none⟩ y).heap[w.heap.size]? = some (.cells #[x, y] 87 (0, 0)) := by
    simp [World.setCell, Array.getElem?_modify, a.c0]
  exact ⟨by simpa using (cells_of h4 0).1, by simpa using (cells_of h4 1).1, (a.below.setCell (Nat.le_refl _) _).setCell (Nat.le_refl _) _⟩
def gaveA (h p : Int) : Value := .tuple #[adr h p, .int .i64 0]
def refusedA : Value := .tuple #[adr 0 0, .int .i64 3]
def gaveOr (h p : Int) : Value := if mayA h p = true then gaveA h p else refusedA

theorem or32 (v m : Int) (hv : 0 ≤ v) (h0 : 0 ≤ m) (h1 : m ≤ 255) : bits .or .u32 (v * 256 % 4294967296) m = v * 256 % 4294967296 + m := by
  rw [bits_join .u32 32 (by decide) (fun n h0 h1 => by rw [IntKind.wrap_u32]; omega) 8 _ _ (by omega) (by omega) (by omega) (by omega) (by omega) (by omega)]
theorem or64 (v m : Int) (hv : 0 ≤ v) (hv2 : v < 256) (h0 : 0 ≤ m) (h1 : m ≤ 255) : bits .or .i64 (v * 256) m = v * 256 + m := by
  rw [bits_join .i64 32 (by decide) (fun n h0 h1 => by rw [IntKind.wrap_i64]; omega) 8 _ _ (by omega) (by omega) (by omega) (by omega) (by omega) (by omega)]

set_option maxRecDepth 100000 in
set_option maxHeartbeats 4000000 in
theorem from_six (b off c : Nat) (zs : List Int) (w : World) (hc : 6 ≤ c) (hc2 : c ≤ maxLen) (hbd : ∀ j, 0 ≤ zs.getD j 0 ∧ zs.getD j 0 ≤ 255) (hb : b < w.heap.size) (hz : ∀ j, j < 6 → w.cell? ⟨b, off + j, none⟩ = some (.int .u8 (zs.getD j 0))) :
    Calls Tryd.prog 73 #[.slice (some ⟨b, off, none⟩) 6 c] w fun e w' => e = .returned (gaveOr (hostUp zs 4) (portUp zs 2)) ∧ Below w.heap.size w w' := by
  have HBD := Lib.hid hbd; have HZ := Lib.hid hz; clear hbd hz
  unfold maxLen at hc2
  go_enter Tryd.func73, Tryd.ntmps73
  go_wp2
  obtain ⟨W0, hW0⟩ : ∃ W0, (w.alloc (.cells #[.int .u32 0, .int .i64 0] 87)).alloc (.cells #[.int .u32 0, .int .i64 0] 87) = W0 := ⟨_, rfl⟩
  have hS := six_start w W0 hW0
  rw [hW0]
  clear hW0
  go_loopw [16] (fun i V => ∃ k : Nat, k ≤ 4 ∧ i = .int .i64 k ∧ SixAt w V (hostUp zs k) 0) (fun i _ => 4 - (intOf i).toNat)
  case atStart => exact ⟨0, by omega, rfl, hS⟩
  case round =>
    obtain ⟨k, hk, rfl, hS⟩ := hrel
    have HS := Lib.hid hS
    have d0 := (cells_of hS.c1 0).1
    have d1 := (cells_of hS.c1 1).1
    have f0 := (cells_of hS.c1 0).2
    simp at d0 d1
    obtain ⟨H, hH⟩ : ∃ H, hostUp zs k = H := ⟨_, rfl⟩
    have hh := hostUp_bd HBD.out k
    rw [hH] at d0 hh
    by_cases hlt : k < 4
    · have hcell := (hS.below.cell (p := ⟨b, off + k, none⟩) hb).trans (HZ.out k (by omega))
      have hbd := HBD.out k
      have hn : hostUp zs (k + 1) = hostUp zs k * 256 % 4294967296 + zs.getD k 0 := rfl
      obtain ⟨z, hzz⟩ : ∃ z, zs.getD k 0 = z := ⟨_, rfl⟩
      rw [hzz] at hcell hbd hn
      rw [hH] at hn
      have HN := Lib.hid hn
      have HO := Lib.hid (or32 H z hh.1 hbd.1 hbd.2)
      clear hS hzz hH hn
      go_wp2
      go_roundw
      case rel => exact ⟨k + 1, by omega, by go_num, by rw [HO.out, HN.out]; exact HS.out.setH _⟩
      case measure => simp [intOf]; omega
    · obtain rfl : k = 4 := by omega
      have HH := Lib.hid hH
      clear hS hH
      go_wp2
      go_loopw [31] (fun i V => ∃ k : Nat, k ≤ 2 ∧ i = .int .i64 k ∧ SixAt w V (hostUp zs 4) (portUp zs k)) (fun i _ => 2 - (intOf i).toNat)
      case atStart => exact ⟨0, by omega, rfl, HS.out⟩
      case round =>
        obtain ⟨j, hj, rfl, hS⟩ := hrel
        have HS2 := Lib.hid hS
        have d0 := (cells_of hS.c1 0).1
        have d1 := (cells_of hS.c1 1).1
        have f1 := (cells_of hS.c1 1).2
        have g0 := (cells_of hS.c0 0).2
        have g1 := (cells_of hS.c0 1).2
        simp at d0 d1
        rw [HH.out] at d0
        obtain ⟨P, hP⟩ : ∃ P, portUp zs j = P := ⟨_, rfl⟩
        have hp := portUp_bd HBD.out j hj
        rw [hP] at d1 hp
        by_cases hlt2 : j < 2
        · have hcell := (hS.below.cell (p := ⟨b, off + (4 + j), none⟩) hb).trans (HZ.out (4 + j) (by omega))
          rw [← Nat.add_assoc] at hcell
          have hbd := HBD.out (4 + j)
          have hn : portUp zs (j + 1) = portUp zs j * 256 + zs.getD (4 + j) 0 := rfl
          obtain ⟨z, hzz⟩ : ∃ z, zs.getD (4 + j) 0 = z := ⟨_, rfl⟩
          rw [hzz] at hcell hbd hn
          rw [hP] at hn
          have hp2 : P < 256 := by
            rcases (show j = 0 ∨ j = 1 by omega) with rfl | rfl <;> omega
          have HN := Lib.hid hn
          have HO := Lib.hid (or64 P z hp.1 hp2 hbd.1 hbd.2)
          clear hS hzz hP hn
          go_wp2
          go_roundw
          case rel => exact ⟨j + 1, by omega, by go_num, by rw [HO.out, HN.out]; exact HS2.out.setP _⟩
          case measure => simp [intOf]; omega
        · obtain rfl : j = 2 := by omega
          have HP := Lib.hid hP
          have HM := Lib.hid (fun W => may_any H P W hh.1 hh.2)
          clear hS hP
          unfold adr at HM
          cases hm : mayA H P with
          | true =>
            rw [hm] at HM
            have HG : Hid (gaveOr H P = gaveA H P) := Lib.hid (by unfold gaveOr; rw [if_pos hm])
            clear hm
            go_wp2_with fail
            refine (HM.out _).mono ?_
            rintro e w1 ⟨rfl, hb1⟩
            have hS1 := HS2.out.later hb1
            have HS1 := Lib.hid hS1
            have d0 := (cells_of hS1.c1 0).1
            have d1 := (cells_of hS1.c1 1).1
            have e0 := (cells_of hS1.c0 0).1
            have e1 := (cells_of hS1.c0 1).1
            have g0 := (cells_of hS1.c0 0).2
            have g1 := (cells_of hS1.c0 1).2
            simp at d0 d1 e0 e1
            rw [HH.out] at d0
            rw [HP.out] at d1
            clear hS1 hb1
            go_wp2
            have q := HS1.out.store (.int .u32 H) (.int .i64 P)
            refine ⟨rfl, gaveA H P, by simp [results, Tryd.results73, go_sem, gaveA, adr, q.1, q.2.1], by rw [HH.out, HP.out, HG.out], q.2.2⟩
          | false =>
            rw [hm] at HM
            have HG : Hid (gaveOr H P = refusedA) := Lib.hid (by unfold gaveOr; rw [if_neg (by rw [hm]; simp)])
            clear hm
            go_wp2_with fail
            refine (HM.out _).mono ?_
            rintro e w1 ⟨rfl, hb1⟩
            have hS1 := HS2.out.later hb1
            have HS1 := Lib.hid hS1
            have e0 := (cells_of hS1.c0 0).1
            have e1 := (cells_of hS1.c0 1).1
            have g0 := (cells_of hS1.c0 0).2
            have g1 := (cells_of hS1.c0 1).2
            simp at e0 e1
            clear hS1 hb1
            go_wp2
            have q := HS1.out.store (.int .u32 0) (.int .i64 0)
            refine ⟨rfl, refusedA, by simp [results, Tryd.results73, go_sem, refusedA, adr, q.1, q.2.1], by rw [HH.out, HP.out, HG.out], q.2.2⟩

theorem hostUp4 {zs : List Int} (h : ∀ j, 0 ≤ zs.getD j 0 ∧ zs.getD j 0 ≤ 255) : hostUp zs 4 = zs.getD 0 0 * 16777216 + zs.getD 1 0 * 65536 + zs.getD 2 0 * 256 + zs.getD 3 0 := by
  have h0 := h 0; have h1 := h 1; have h2 := h 2; have h3 := h 3
  simp only [hostUp]
  omega
theorem portUp2 (zs : List Int) : portUp zs 2 = zs.getD 4 0 * 256 + zs.getD 5 0 := by simp only [portUp, Nat.add_zero, Nat.reduceAdd]; omega

set_option maxRecDepth 100000 in
set_option maxHeartbeats 4000000 in
theorem rfrom_six (b off c : Nat) (zs : List Int) (w : World) (hc : 6 ≤ c) (hc2 : c ≤ maxLen) (hbd : ∀ j, 0 ≤ zs.getD j 0 ∧ zs.getD j 0 ≤ 255) (hb : b < w.heap.size) (hz : ∀ j, j < 6 → w.cell? ⟨b, off + j, none⟩ = some (.int .u8 (zs.getD j 0))) :
    Calls Tryd.prog 54 #[.slice (some ⟨b, off, none⟩) 6 c] w fun e w' => e = .returned (gaveOr (hostUp zs 4) (portUp zs 2)) ∧ Below w.heap.size w w' := by
  rw [hostUp4 hbd, portUp2]
  unfold maxLen at hc2
  obtain ⟨a0, h0⟩ : ∃ a, zs.getD 0 0 = a := ⟨_, rfl⟩
  obtain ⟨a1, h1⟩ : ∃ a, zs.getD 1 0 = a := ⟨_, rfl⟩
  obtain ⟨a2, h2⟩ : ∃ a, zs.getD 2 0 = a := ⟨_, rfl⟩
  obtain ⟨a3, h3⟩ : ∃ a, zs.getD 3 0 = a := ⟨_, rfl⟩
  obtain ⟨a4, h4⟩ : ∃ a, zs.getD 4 0 = a := ⟨_, rfl⟩
  obtain ⟨a5, h5⟩ : ∃ a, zs.getD 5 0 = a := ⟨_, rfl⟩
  have z0 := hz 0 (by omega); have z1 := hz 1 (by omega); have z2 := hz 2 (by omega); have z3 := hz 3 (by omega); have z4 := hz 4 (by omega); have z5 := hz 5 (by omega)
  have b0 := hbd 0; have b1 := hbd 1; have b2 := hbd 2; have b3 := hbd 3; have b4 := hbd 4; have b5 := hbd 5
  rw [h0] at z0 b0 ⊢; rw [h1] at z1 b1 ⊢; rw [h2] at z2 b2 ⊢; rw [h3] at z3 b3 ⊢; rw [h4] at z4 b4 ⊢; rw [h5] at z5 b5 ⊢
  rw [Nat.add_zero] at z0
  clear hz hbd h0 h1 h2 h3 h4 h5
  obtain ⟨T, hT⟩ : ∃ T, gaveOr (a0 * 16777216 + a1 * 65536 + a2 * 256 + a3) (a4 * 256 + a5) = T := ⟨_, rfl⟩
  rw [hT]
  go_enter Tryd.func54, Tryd.ntmps54
  go_wp2
  go_region_held3 (fun w' => w'.cell? ⟨b, off, none⟩ = some (.int .u8 a0) ∧ w'.cell? ⟨b, off + 1, none⟩ = some (.int .u8 a1) ∧ w'.cell? ⟨b, off + 2, none⟩ = some (.int .u8 a2) ∧ w'.cell? ⟨b, off + 3, none⟩ = some (.int .u8 a3) ∧ w'.cell? ⟨b, off + 4, none⟩ = some (.int .u8 a4) ∧ w'.cell? ⟨b, off + 5, none⟩ = some (.int .u8 a5)) (go_keep) (fail)
  have u0 : IntKind.u32.wrap a0 = a0 := by rw [IntKind.wrap_u32]; omega
  have u1 : IntKind.u32.wrap a1 = a1 := by rw [IntKind.wrap_u32]; omega
  have u2 : IntKind.u32.wrap a2 = a2 := by rw [IntKind.wrap_u32]; omega
  have u3 : IntKind.u32.wrap a3 = a3 := by rw [IntKind.wrap_u32]; omega
  have p0 : IntKind.u32.wrap (a0 * 16777216) = a0 * 16777216 := by rw [IntKind.wrap_u32]; omega
  have p1 : IntKind.u32.wrap (a1 * 65536) = a1 * 65536 := by rw [IntKind.wrap_u32]; omega
  have p2 : IntKind.u32.wrap (a2 * 256) = a2 * 256 := by rw [IntKind.wrap_u32]; omega
  have s1 : IntKind.u32.wrap (a0 * 16777216 + a1 * 65536) = a0 * 16777216 + a1 * 65536 := by rw [IntKind.wrap_u32]; omega
  have s2 : IntKind.u32.wrap (a0 * 16777216 + a1 * 65536 + a2 * 256) = a0 * 16777216 + a1 * 65536 + a2 * 256 := by rw [IntKind.wrap_u32]; omega
  have s3 : IntKind.u32.wrap (a0 * 16777216 + a1 * 65536 + a2 * 256 + a3) = a0 * 16777216 + a1 * 65536 + a2 * 256 + a3 := by rw [IntKind.wrap_u32]; omega
  have i4 : IntKind.i64.wrap a4 = a4 := by rw [IntKind.wrap_i64]; omega
  have i5 : IntKind.i64.wrap a5 = a5 := by rw [IntKind.wrap_i64]; omega
  have j4 : IntKind.i64.wrap (a4 * 256) = a4 * 256 := by rw [IntKind.wrap_i64]; omega
  have j5 : IntKind.i64.wrap (a4 * 256 + a5) = a4 * 256 + a5 := by rw [IntKind.wrap_i64]; omega
  simp only [u0, u1, u2, u3, p0, p1, p2, s1, s2, s3, i4, i5, j4, j5]
  have hH : 0 ≤ a0 * 16777216 + a1 * 65536 + a2 * 256 + a3 ∧ a0 * 16777216 + a1 * 65536 + a2 * 256 + a3 < 4294967296 := by omega
  clear u0 u1 u2 u3 p0 p1 p2 s1 s2 s3 i4 i5 j4 j5
  generalize a0 * 16777216 + a1 * 65536 + a2 * 256 + a3 = H at *
  generalize a4 * 256 + a5 = P at *
  obtain ⟨W0, hW0⟩ : ∃ W0, ((w.alloc (.cells #[.int .u32 0, .int .i64 0] 87)).alloc (.cells #[.int .u32 H, .int .i64 P] 87)).drew = W0 := ⟨_, rfl⟩
  have hS := six_start2 w W0 H P hW0
  rw [hW0]
  clear hW0 z0 z1 z2 z3 z4 z5 b0 b1 b2 b3 b4 b5
  have HM := Lib.hid (fun W => rmay_any H P W hH.1 hH.2)
  unfold adr at HM
  have HS2 := Lib.hid hS
  have d0 := (cells_of hS.c1 0).1
  have d1 := (cells_of hS.c1 1).1
  simp at d0 d1
  clear hS
  cases hm : mayA H P with
  | true =>
    rw [hm] at HM
    have HG : Hid (T = gaveA H P) := Lib.hid (by rw [← hT]; unfold gaveOr; rw [if_pos hm])
    clear hm hT
    go_wp2_with fail
    refine (HM.out _).mono ?_
    rintro e w1 ⟨rfl, hb1⟩
    have hS1 := HS2.out.later hb1
    have HS1 := Lib.hid hS1
    have d0 := (cells_of hS1.c1 0).1
    have d1 := (cells_of hS1.c1 1).1
    have e0 := (cells_of hS1.c0 0).1
    have e1 := (cells_of hS1.c0 1).1
    have g0 := (cells_of hS1.c0 0).2
    have g1 := (cells_of hS1.c0 1).2
    simp at d0 d1 e0 e1
    clear hS1 hb1
    go_wp2
    have q := HS1.out.store (.int .u32 H) (.int .i64 P)
    refine ⟨rfl, gaveA H P, by simp [results, Tryd.results54, go_sem, gaveA, adr, q.1, q.2.1], by rw [HG.out], q.2.2⟩
  | false =>
    rw [hm] at HM
    have HG : Hid (T = refusedA) := Lib.hid (by rw [← hT]; unfold gaveOr; rw [if_neg (by rw [hm]; simp)])
    clear hm hT
    go_wp2_with fail
    refine (HM.out _).mono ?_
    rintro e w1 ⟨rfl, hb1⟩
    have hS1 := HS2.out.later hb1
    have HS1 := Lib.hid hS1
    have e0 := (cells_of hS1.c0 0).1
    have e1 := (cells_of hS1.c0 1).1
    have g0 := (cells_of hS1.c0 0).2
    have g1 := (cells_of hS1.c0 1).2
    simp at e0 e1
    clear hS1 hb1
    go_wp2
    have q := HS1.out.store (.int .u32 0) (.int .i64 0)
    refine ⟨rfl, refusedA, by simp [results, Tryd.results54, go_sem, refusedA, adr, q.1, q.2.1], by rw [HG.out], q.2.2⟩
end Go.Proofs.YtdiilgedicfekaaDoor
namespace Go.Proofs.YtdiilgedicfekaaDoor
open Go.RowKit
set_option linter.unusedVariables false
set_option maxRecDepth 100000


set_option maxRecDepth 100000 in
set_option maxHeartbeats 4000000 in
theorem from_short (A : Option Addr) (n c : Nat) (w : World) (hn : n ≠ 6) (hl : n ≤ maxLen) : Calls Tryd.prog 73 #[.slice A n c] w fun e w' => e = .returned refusedA ∧ Below w.heap.size w w' := by
  unfold maxLen at hl
  have t : ((n : Int) != 6) = true := by rw [bne_iff_ne]; omega
  unfold refusedA adr
  go_enter Tryd.func73, Tryd.ntmps73
  go_wp2
  refine ⟨rfl, .tuple #[.agg #[.int .u32 0, .int .i64 0], .int .i64 3], by simp [results, Tryd.results73, go_sem], rfl, (Below.refl _ _).alloc (Nat.le_refl _) _⟩
set_option maxRecDepth 100000 in
set_option maxHeartbeats 4000000 in
theorem rfrom_short (A : Option Addr) (n c : Nat) (w : World) (hn : n ≠ 6) (hl : n ≤ maxLen) : Calls Tryd.prog 54 #[.slice A n c] w fun e w' => e = .returned refusedA ∧ Below w.heap.size w w' := by
  unfold maxLen at hl
  have t : ((n : Int) != 6) = true := by rw [bne_iff_ne]; omega
  unfold refusedA adr
  go_enter Tryd.func54, Tryd.ntmps54
  go_wp2
  refine ⟨rfl, .tuple #[.agg #[.int .u32 0, .int .i64 0], .int .i64 3], by simp [results, Tryd.results54, go_sem], rfl, (Below.refl _ _).alloc (Nat.le_refl _) _⟩

end Go.Proofs.YtdiilgedicfekaaDoor
namespace Go.Proofs.YtdiilgedicfekaaDoor
open Go.RowKit
set_option linter.unusedVariables false
set_option maxRecDepth 100000

/-- the value reads, in w, as these numbers -/
def Ns (w : World) (v : Value) (vs : List Nat) : Prop := ∃ A c, v = .slice A vs.length c ∧ vs.length ≤ c ∧ c ≤ maxLen ∧ (A = none → vs.length = 0 ∧ c = 0) ∧ (∀ x ∈ vs, x < 18446744073709551616) ∧
  (0 < vs.length → ∃ b off, A = some ⟨b, off, none⟩ ∧ ∀ j, j < vs.length → w.cell? ⟨b, off + j, none⟩ = some (.int .u64 ((vs.getD j 0 : Nat) : Int)))
/-- .. as these addresses -/
def As (w : World) (v : Value) (al : List (Int × Int)) : Prop := ∃ A c, v = .slice A al.length c ∧ al.length ≤ c ∧ c ≤ maxLen ∧ (A = none → al.length = 0 ∧ c = 0) ∧ (∀ a ∈ al, 0 ≤ a.1 ∧ a.1 < 4294967296) ∧
  (0 < al.length → ∃ b off, A = some ⟨b, off, none⟩ ∧ ∀ j, j < al.length → w.cell? ⟨b, off + j * 2, none⟩ = some (.int .u32 (al.getD j (0, 0)).1) ∧ w.cell? ⟨b, off + j * 2 + 1, none⟩ = some (.int .i64 (al.getD j (0, 0)).2))
/-- .. as these bytes -/
def Tx (w : World) (v : Value) (zs : List Int) : Prop := ∃ A c, v = .slice A zs.length c ∧ Bts w A zs.length zs ∧ zs.length ≤ c ∧ c ≤ maxLen ∧ (A = none → zs.length = 0 ∧ c = 0)
theorem Ns.below {w w' : World} {v : Value} {vs : List Nat} (h : Ns w v vs) (hb : Below w.heap.size w w') : Ns w' v vs := by
  obtain ⟨A, c, rfl, h1, h2, h3, h4, h5⟩ := h
  refine ⟨A, c, rfl, h1, h2, h3, h4, fun hp => ?_⟩
  obtain ⟨b, off, e, hc⟩ := h5 hp
  exact ⟨b, off, e, fun j hj => (hb.cell (lt_of_cell (hc j hj))).trans (hc j hj)⟩
theorem As.below {w w' : World} {v : Value} {al : List (Int × Int)} (h : As w v al) (hb : Below w.heap.size w w') : As w' v al := by
  obtain ⟨A, c, rfl, h1, h2, h3, h4, h5⟩ := h
  refine ⟨A, c, rfl, h1, h2, h3, h4, fun hp => ?_⟩
  obtain ⟨b, off, e, hc⟩ := h5 hp
  exact ⟨b, off, e, fun j hj => ⟨(hb.cell (lt_of_cell (hc j hj).1)).trans (hc j hj).1, (hb.cell (lt_of_cell (hc j hj).2)).trans (hc j hj).2⟩⟩
theorem Tx.below {w w' : World} {v : Value} {zs : List Int} (h : Tx w v zs) (hb : Below w.heap.size w w') : Tx w' v zs := by
  obtain ⟨A, c, rfl, h1, h2⟩ := h
  exact ⟨A, c, rfl, h1.below hb, h2⟩
/-- a message's four values -/
def MsgV (w : World) (x1 x2 x3 : Value) (m : Wi.Msg) : Prop := Ns w x1 m.nums ∧ As w x2 m.addrs ∧ Tx w x3 m.body ∧ -9223372036854775808 ≤ m.kind ∧ m.kind ≤ 9223372036854775807
theorem MsgV.below {w w' : World} {x1 x2 x3 : Value} {m : Wi.Msg} (h : MsgV w x1 x2 x3 m) (hb : Below w.heap.size w w') : MsgV w' x1 x2 x3 m := ⟨h.1.below hb, h.2.1.below hb, h.2.2.1.below hb, h.2.2.2⟩
def IsMsg (w : World) (x : Value) (m : Wi.Msg) : Prop := ∃ x1 x2 x3, x = .agg #[.int .i64 m.kind, x1, x2, x3] ∧ MsgV w x1 x2 x3 m
theorem MsgV.wf {w : World} {x1 x2 x3 : Value} {m : Wi.Msg} (h : MsgV w x1 x2 x3 m) : Wi.Wf m := by
  obtain ⟨⟨_, _, _, _, _, _, h1, _⟩, ⟨_, _, _, _, _, _, h2, _⟩, ⟨_, _, _, h3, _⟩, _⟩ := h
  exact ⟨h2, h1, h3.bd⟩

theorem add_spot (b o k : Nat) : (⟨b, o, none⟩ : Addr).add k = ⟨b, o + k, none⟩ := by unfold Addr.add; split <;> simp_all
section
variable {H : Type} {enc : TypeId × Value → H} {W : World}
theorem open_tx {n : Nat} {v : Value} {y : DataW H × List MemPlace} (h : DataW.trod enc Tryd.prog W 0 (fun _ => true) true n 42 [v] = some y) : ∃ zs, Tx W v zs := by
  rcases Go.ChangeShapes.open_ints Tryd.underlying42 Tryd.underlying5 (by kernel_rfl) h with ⟨hcs, _⟩ | ⟨x, l, c, zs, hcs, _, hl, hm, hz, _, hcell, hwz⟩
  · simp at hcs
    subst hcs
    exact ⟨[], none, 0, rfl, ⟨rfl, by simp, fun h => by simp at h⟩, Nat.le_refl _, Nat.zero_le _, fun _ => ⟨rfl, rfl⟩⟩
  · simp at hcs
    subst hcs
    have hr : IsRow .u8 W (some x) l c zs := .inr ⟨_, rfl, hl, hm, by simpa using hz, hcell, hwz⟩
    obtain ⟨h1, h2, h3⟩ := bts_of_row hr
    have e : (zs.take l).length = l := h1.len
    exact ⟨zs.take l, some x, c, by rw [e], by rw [e]; exact h1, by rw [e]; exact h2, h3, (by intro h; cases h)⟩
theorem open_ns {n : Nat} {v : Value} {y : DataW H × List MemPlace} (h : DataW.trod enc Tryd.prog W 0 (fun _ => true) true n 43 [v] = some y) : ∃ vs, Ns W v vs := by
  rcases Go.ChangeShapes.open_ints Tryd.underlying43 Tryd.underlying22 (by kernel_rfl) h with ⟨hcs, _⟩ | ⟨x, l, c, zs, hcs, _, hl, hm, hz, _, hcell, hwz⟩
  · simp at hcs
    subst hcs
    exact ⟨[], none, 0, rfl, Nat.le_refl _, Nat.zero_le _, fun _ => ⟨rfl, rfl⟩, by simp, fun h => by simp at h⟩
  · simp at hcs
    subst hcs
    have hzl : zs.length = c := by simpa using hz
    have bd : ∀ z ∈ zs, 0 ≤ z ∧ z ≤ 18446744073709551615 := fun z hz => bounds_u64 (hwz z hz)
    have e : ((zs.take l).map Int.toNat).length = l := by simp; omega
    refine ⟨(zs.take l).map Int.toNat, some x, c, by rw [e], by rw [e]; exact hl, hm, (by intro h; cases h), ?_, fun hp => ?_⟩
    · intro z hz
      obtain ⟨y, hy, rfl⟩ := List.mem_map.1 hz
      have := bd y (List.mem_of_mem_take hy)
      omega
    · rw [e] at hp
      obtain ⟨b, off, spot⟩ := x
      have h8 := World.cell?_spot (hcell 0 (by omega))
      have hspot : spot = none := by simpa [Addr.add] using h8
      subst hspot
      refine ⟨b, off, rfl, fun j hj => ?_⟩
      rw [e] at hj
      have hc := hcell j (by omega)
      rw [add_spot] at hc
      rw [hc]
      have hjz : j < zs.length := by omega
      have h0 := bd zs[j] (List.getElem_mem hjz)
      simp [List.getD, hj, hjz]
      omega
set_option maxRecDepth 100000 in
theorem open_as {n : Nat} {v : Value} {y : DataW H × List MemPlace} (h : DataW.trod enc Tryd.prog W 0 (fun _ => true) true n 44 [v] = some y) : ∃ al, As W v al := by
  rcases Deep.open_slice Tryd.underlying44 h with ⟨hcs, _⟩ | ⟨a, l, c, m, n, D, Pl, hcs, _, hl, hm, hmm, _, hi⟩
  · simp at hcs
    subst hcs
    exact ⟨[], none, 0, rfl, Nat.le_refl _, Nat.zero_le _, fun _ => ⟨rfl, rfl⟩, by simp, fun h => by simp at h⟩
  · simp at hcs
    subst hcs
    have hmc : m = c := by simpa using hmm
    subst hmc
    have hall : ∀ j, ∃ s : Int × Int, j < l → (W.cell? ((a.add (j * 2)).add 0) = some (.int .u32 s.1) ∧ W.cell? ((a.add (j * 2)).add 1) = some (.int .i64 s.2) ∧ 0 ≤ s.1 ∧ s.1 < 4294967296) := fun j => by
      by_cases hj : j < l
      · obtain ⟨cs, hc, ht⟩ := hi j (by omega)
        obtain ⟨_, hlen, hat⟩ := World.cells?_some hc
        have h2 : Tryd.prog.cellsOf 87 = 2 := by kernel_rfl
        rw [h2] at hlen hat
        have c43 : Tryd.prog.cellsOf 85 = 1 := by kernel_rfl
        have c3 : Tryd.prog.cellsOf 3 = 1 := by kernel_rfl
        match cs, hlen with
        | [x0, x1], _ =>
          obtain ⟨ys, k, _, _, _, hlen2, hel2⟩ := DataW.trod_struct Tryd.underlying87 ht
          match ys, hlen2 with
          | [z0, z1], _ =>
            have f0 : DataW.trod enc Tryd.prog W 0 (fun _ => true) true k 85 (([x0, x1].drop 0).take (Tryd.prog.cellsOf 85)) = some z0 := hel2 0 _ rfl
            have f1 : DataW.trod enc Tryd.prog W 0 (fun _ => true) true k 3 (([x0, x1].drop 1).take (Tryd.prog.cellsOf 3)) = some z1 := hel2 1 _ rfl
            rw [c43] at f0; rw [c3] at f1
            obtain ⟨u, q0, _, hu⟩ := DataW.trod_int Tryd.underlying85 f0
            obtain ⟨b, q1, _, hb⟩ := DataW.trod_int Tryd.underlying3 f1
            have r0 : x0 = .int .u32 u := by simpa using q0
            have r1 : x1 = .int .i64 b := by simpa using q1
            have a0 := hat 0 (by omega)
            have a1 := hat 1 (by omega)
            have hu' := bounds_u32 hu
            refine ⟨(u, b), fun _ => ⟨?_, ?_, hu'.1, by show u < _; omega⟩⟩
            · rw [a0, ← r0]; rfl
            · rw [a1, ← r1]; rfl
      · exact ⟨(0, 0), fun h => absurd h hj⟩
    obtain ⟨f, hf⟩ := Classical.axiomOfChoice hall
    have e : ((List.range l).map f).length = l := by simp
    refine ⟨(List.range l).map f, some a, m, by rw [e], by rw [e]; simpa using hl, hm, (by intro h; cases h), ?_, fun hp => ?_⟩
    · intro x hx
      obtain ⟨j, hj, rfl⟩ := List.mem_map.1 hx
      exact (hf j (List.mem_range.1 hj)).2.2
    · rw [e] at hp
      obtain ⟨b, off, spot⟩ := a
      have h8 := World.cell?_spot (hf 0 hp).1
      have hspot : spot = none := by simpa [Addr.add] using h8
      subst hspot
      refine ⟨b, off, rfl, fun j hj => ?_⟩
      rw [e] at hj
      have hg : ((List.range l).map f).getD j (0, 0) = f j := by simp [List.getD, hj]
      have h0 := (hf j hj).1
      have h1 := (hf j hj).2.1
      rw [add_spot, add_spot] at h0 h1
      rw [hg]
      exact ⟨by simpa using h0, h1⟩
theorem open_msg {r : Reach} {b0 : Nat} {v : Value} {d : DataW H} {p : List MemPlace} (hv : Value.okWide Tryd.prog W r b0 46 v) (h : DataW.Trod enc Tryd.prog W 0 (fun _ => true) true  46 v d p) : ∃ m, IsMsg W v m := by
  obtain ⟨x0, x1, x2, x3, y0, y1, y2, y3, n, rfl, _, _, h0, h1, h2, h3⟩ := Joins.open_agg4 Tryd.underlying46 (by kernel_rfl) (by kernel_rfl) hv h
  obtain ⟨k, e0, _, hk⟩ := DataW.trod_int Tryd.underlying3 h0
  obtain ⟨vs, hvs⟩ := open_ns h1
  obtain ⟨al, hal⟩ := open_as h2
  obtain ⟨zs, hzs⟩ := open_tx h3
  simp only [List.cons.injEq, and_true] at e0
  subst e0
  have hk' := bounds_i64 hk
  exact ⟨⟨k, vs, al, zs⟩, x1, x2, x3, rfl, hvs, hal, hzs, hk'⟩
end
end Go.Proofs.YtdiilgedicfekaaDoor
namespace Go.Proofs.YtdiilgedicfekaaDoor
open Go.RowKit
set_option linter.unusedVariables false
set_option maxRecDepth 100000

/-- the table of wire.counts is as it was laid -/
def Tb (W : World) : Prop := ∀ k, k < 19 → W.cell? ⟨0, k, none⟩ = some (.int .i64 (Wi.tab.getD k 0))
theorem Tb.below {w w' : World} (h : Tb w) (hb : Below w.heap.size w w') : Tb w' := fun k hk => (hb.cell (lt_of_cell (h k hk))).trans (h k hk)
theorem Tb.pos {w : World} (h : Tb w) : 0 < w.heap.size := lt_of_cell (h 0 (by omega))
theorem countG : Tryd.prog.globalNamed "embrasure/wire.counts" = some 0 := by kernel_rfl
theorem countT : (Tryd.prog.globals[0]?).map (·.type) = some 122 := by kernel_rfl
theorem countU : Tryd.prog.underlying 122 = some (.array 19 3) := by kernel_rfl
theorem countE : Tryd.prog.underlying 3 = some (.int .i64) := by kernel_rfl
theorem countC : Tryd.prog.cellsOf 3 = 1 := by kernel_rfl
theorem countS : Tryd.prog.cellsOf 122 = 19 := by kernel_rfl
theorem tb_laid {W : World} (h : laidMet Tryd.prog Rows.shakePlaysRow.laid W) : Tb W := by
  have h2 : laidMet Tryd.prog (("embrasure/wire.counts", Lib.tabData .i64 Wi.tab) :: []) W := h
  have ht := Lib.tabIs_of_head countG countT countU countE countC countS h2
  exact fun k hk => ht.cell countG k hk

set_option maxRecDepth 100000 in
set_option maxHeartbeats 2000000 in
theorem nums_any (k : Int) (w : World) (hT : Tb w) : Calls Tryd.prog 56 #[.int .i64 k] w fun e w' => e = .returned (.int .i64 (Wi.numsOf k)) ∧ w' = w := by
  by_cases h1 : k < 1
  · rw [Wi.numsOf_out (.inl h1)]
    go_enter Tryd.func56, Tryd.ntmps56
    go_wp2
    go_ret
    exact ⟨rfl, rfl⟩
  · by_cases h2 : 18 < k
    · rw [Wi.numsOf_out (.inr h2)]
      go_enter Tryd.func56, Tryd.ntmps56
      go_wp2
      go_ret
      exact ⟨rfl, rfl⟩
    · rw [(Wi.numsOf_in (by omega) (by omega)).1]
      obtain ⟨n, rfl⟩ : ∃ n : Nat, k = (n : Int) := ⟨k.toNat, by omega⟩
      have hc := hT n (by omega)
      rw [Int.toNat_natCast]
      obtain ⟨x, hx⟩ : ∃ x, Wi.tab.getD n 0 = x := ⟨_, rfl⟩
      rw [hx] at hc ⊢
      clear hT hx
      go_enter Tryd.func56, Tryd.ntmps56
      go_wp2
      go_ret
      exact ⟨rfl, rfl⟩
set_option maxRecDepth 100000 in
set_option maxHeartbeats 4000000 in
theorem rnums_any (k : Int) (w : World) : Calls Tryd.prog 53 #[.int .i64 k] w fun e w' => e = .returned (.int .i64 (Wi.numsOf k)) ∧ w' = w := by
  by_cases h1 : 1 ≤ k ∧ k ≤ 18
  · rcases (show k = 1 ∨ k = 2 ∨ k = 3 ∨ k = 4 ∨ k = 5 ∨ k = 6 ∨ k = 7 ∨ k = 8 ∨ k = 9 ∨ k = 10 ∨ k = 11 ∨ k = 12 ∨ k = 13 ∨ k = 14 ∨ k = 15 ∨ k = 16 ∨ k = 17 ∨ k = 18 by omega) with rfl | rfl | rfl | rfl | rfl | rfl | rfl | rfl | rfl | rfl | rfl | rfl | rfl | rfl | rfl | rfl | rfl | rfl
    all_goals
      go_enter Tryd.func53, Tryd.ntmps53
      go_wp2
      go_ret
      exact ⟨rfl, rfl⟩
  · rw [Wi.numsOf_out (by omega)]
    have e1 : (k == 1) = false := by simp; omega
    have e2 : (k == 2) = false := by simp; omega
    have e3 : (k == 3) = false := by simp; omega
    have e4 : (k == 4) = false := by simp; omega
    have e5 : (k == 5) = false := by simp; omega
    have e6 : (k == 6) = false := by simp; omega
    have e7 : (k == 7) = false := by simp; omega
    have e8 : (k == 8) = false := by simp; omega
    have e9 : (k == 9) = false := by simp; omega
    have e10 : (k == 10) = false := by simp; omega
    have e11 : (k == 11) = false := by simp; omega
    have e12 : (k == 12) = false := by simp; omega
    have e13 : (k == 13) = false := by simp; omega
    have e14 : (k == 14) = false := by simp; omega
    have e15 : (k == 15) = false := by simp; omega
    have e16 : (k == 16) = false := by simp; omega
    have e17 : (k == 17) = false := by simp; omega
    have e18 : (k == 18) = false := by simp; omega
    go_enter Tryd.func53, Tryd.ntmps53
    go_wp2
    go_ret
    exact ⟨rfl, rfl⟩
end Go.Proofs.YtdiilgedicfekaaDoor
namespace Go.Proofs.YtdiilgedicfekaaDoor
open Go.RowKit
set_option linter.unusedVariables false
set_option maxRecDepth 100000

/-- a message's box -/
structure Mx (W : World) (g : Nat) (k : Int) (x1 x2 x3 : Value) : Prop where
  c0 : W.cell? ⟨g, 0, none⟩ = some (.int .i64 k)
  c1 : W.cell? ⟨g, 1, none⟩ = some x1
  c2 : W.cell? ⟨g, 2, none⟩ = some x2
  c3 : W.cell? ⟨g, 3, none⟩ = some x3
theorem Mx.call {W W' : World} {g : Nat} {k : Int} {x1 x2 x3 : Value} (b : Mx W g k x1 x2 x3) (h : Below W.heap.size W W') : Mx W' g k x1 x2 x3 :=
  ⟨(h.cell (p := ⟨g, 0, none⟩) (lt_of_cell b.c0)).trans b.c0, (h.cell (p := ⟨g, 1, none⟩) (lt_of_cell b.c1)).trans b.c1, (h.cell (p := ⟨g, 2, none⟩) (lt_of_cell b.c2)).trans b.c2, (h.cell (p := ⟨g, 3, none⟩) (lt_of_cell b.c3)).trans b.c3⟩
theorem Mx.new (W : World) (k : Int) (x1 x2 x3 : Value) : Mx (W.alloc (.cells #[.int .i64 k, x1, x2, x3] 46)) W.heap.size k x1 x2 x3 := ⟨by go_simp, by go_simp, by go_simp, by go_simp⟩
theorem may_no {m : Wi.Msg} (h : ¬ ((m.nums.length : Int) = Wi.numsOf m.kind ∧ m.addrs.length ≤ 8 ∧ m.body.length ≤ 1000)) : Wi.may m = false := by
  cases hm : Wi.may m with
  | false => rfl
  | true => have := Wi.may_iff.1 hm; exact absurd ⟨this.1, this.2.1, this.2.2.1⟩ h
theorem may_num {m : Wi.Msg} {k : Nat} (hk : k < m.nums.length) (h : ¬ m.nums.getD k 0 < 9223372036854775808) : Wi.may m = false := by
  cases hm : Wi.may m with
  | false => rfl
  | true =>
    have := (Wi.may_iff.1 hm).2.2.2.1 (m.nums.getD k 0) (by simp [List.getD, hk])
    exact absurd this h
theorem may_adr {m : Wi.Msg} {k : Nat} (hk : k < m.addrs.length) (h : mayA (m.addrs.getD k (0, 0)).1 (m.addrs.getD k (0, 0)).2 = false) : Wi.may m = false := by
  cases hm : Wi.may m with
  | false => rfl
  | true =>
    have := (Wi.may_iff.1 hm).2.2.2.2 (m.addrs.getD k (0, 0)) (by simp [List.getD, hk])
    rw [this] at h
    cases h
theorem may_yes {m : Wi.Msg} (h : (m.nums.length : Int) = Wi.numsOf m.kind ∧ m.addrs.length ≤ 8 ∧ m.body.length ≤ 1000) (h1 : ∀ j, j < m.nums.length → m.nums.getD j 0 < 9223372036854775808) (h2 : ∀ j, j < m.addrs.length → mayA (m.addrs.getD j (0, 0)).1 (m.addrs.getD j (0, 0)).2 = true) : Wi.may m = true := by
  refine Wi.may_iff.2 ⟨h.1, h.2.1, h.2.2, fun v hv => ?_, fun a ha => ?_⟩
  · obtain ⟨j, hj, rfl⟩ := List.getElem_of_mem hv
    have := h1 j hj
    simpa [List.getD, hj] using this
  · obtain ⟨j, hj, rfl⟩ := List.getElem_of_mem ha
    have := h2 j hj
    simpa [List.getD, hj] using this

set_option maxRecDepth 100000 in
set_option maxHeartbeats 4000000 in
theorem may_msg (m : Wi.Msg) (x1 x2 x3 : Value) (w : World) (hv : MsgV w x1 x2 x3 m) (hT : Tb w) :
    Calls Tryd.prog 36 #[.agg #[.int .i64 m.kind, x1, x2, x3]] w fun e w' => e = .returned (.bool (Wi.may m)) ∧ Below w.heap.size w w' := by
  obtain ⟨T, hTT⟩ : ∃ T, Wi.may m = T := ⟨_, rfl⟩
  rw [hTT]
  have HTT := Lib.hid hTT; clear hTT
  have HV := Lib.hid hv
  obtain ⟨⟨A1, c1, rfl, n1, n2, n3, n4, n5⟩, ⟨A2, c2, rfl, a1, a2, a3, a4, a5⟩, ⟨A3, c3, rfl, b1, b2, b3, b4⟩, k0, k1⟩ := hv
  have N5 := Lib.hid n5; have A5 := Lib.hid a5; have A4 := Lib.hid a4; have N4 := Lib.hid n4
  have CN := Lib.hid (fun W (h : Tb W) => nums_any m.kind W h)
  have HTB := Lib.hid hT
  have hq0 := Wi.numsOf_bd m.kind
  obtain ⟨q, hq⟩ : ∃ q, Wi.numsOf m.kind = q := ⟨_, rfl⟩
  simp only [hq] at CN hq0
  have HQ := Lib.hid hq
  unfold maxLen at n2 a2 b3
  clear hq hT n3 n4 n5 a3 a4 a5 b1 b4
  obtain ⟨nl, hnl⟩ : ∃ n, m.nums.length = n := ⟨_, rfl⟩
  obtain ⟨al, hal⟩ : ∃ n, m.addrs.length = n := ⟨_, rfl⟩
  obtain ⟨bl, hbl⟩ : ∃ n, m.body.length = n := ⟨_, rfl⟩
  obtain ⟨kd, hkd⟩ : ∃ n, m.kind = n := ⟨_, rfl⟩
  have HNL := Lib.hid hnl; have HAL := Lib.hid hal; have HBL := Lib.hid hbl
  rw [hnl] at n1 N5 ⊢; rw [hal] at a1 A5 ⊢; rw [hbl] at b2 ⊢; rw [hkd] at k0 k1 CN ⊢
  clear hnl hal hbl
  by_cases hok : ((nl : Int) = q ∧ al ≤ 8 ∧ bl ≤ 1000)
  · obtain ⟨o1, o2, o3⟩ := hok
    go_enter Tryd.func36, Tryd.ntmps36
    go_wp2
    have HX := Mx.new w kd (.slice A1 nl c1) (.slice A2 al c2) (.slice A3 bl c3)
    have HB0 : Hid (Below w.heap.size w (w.alloc (.cells #[.int .i64 kd, .slice A1 nl c1, .slice A2 al c2, .slice A3 bl c3] 46))) := Lib.hid ((Below.refl _ _).alloc (Nat.le_refl _) _)
    generalize w.alloc (.cells #[.int .i64 kd, .slice A1 nl c1, .slice A2 al c2, .slice A3 bl c3] 46) = W0 at *
    have HTB1 : Hid (Tb W0.drew) := Lib.hid (HTB.out.below (HB0.out.trans (Below.refl _ _).drew))
    have HB1 : Hid (Below w.heap.size w W0.drew) := Lib.hid (HB0.out.trans (Below.refl _ _).drew)
    have t1 : ((nl : Int) != q) = false := by rw [bne_eq_false_iff_eq]; exact o1
    have t2 : decide ((8 : Int) < (al : Int)) = false := by simp; omega
    have t3 : decide ((1000 : Int) < (bl : Int)) = false := by simp; omega
    go_region_held3 (fun W => W.cell? ⟨w.heap.size, 0, none⟩ = some (.int .i64 kd) ∧ W.cell? ⟨w.heap.size, 1, none⟩ = some (.slice A1 nl c1) ∧ W.cell? ⟨w.heap.size, 2, none⟩ = some (.slice A2 al c2) ∧ W.cell? ⟨w.heap.size, 3, none⟩ = some (.slice A3 bl c3)) (first | exact ⟨HX.c0, HX.c1, HX.c2, HX.c3⟩) (first | (go_at_call 56; refine (CN.out _ HTB1.out).mono ?_; rintro e w' ⟨rfl, rfl⟩))
    have x0 : W0.drew.cell? ⟨w.heap.size, 0, none⟩ = some (.int .i64 kd) := HX.c0
    have x1 : W0.drew.cell? ⟨w.heap.size, 1, none⟩ = some (.slice A1 nl c1) := HX.c1
    have x2 : W0.drew.cell? ⟨w.heap.size, 2, none⟩ = some (.slice A2 al c2) := HX.c2
    have HO : Hid ((m.nums.length : Int) = Wi.numsOf m.kind ∧ m.addrs.length ≤ 8 ∧ m.body.length ≤ 1000) := Lib.hid (by rw [HNL.out, HAL.out, HBL.out, HQ.out]; exact ⟨o1, o2, o3⟩)
    clear t1 t2 t3 o1 o2 o3
    generalize W0.drew = W1 at *
    go_wp2
    go_loopw [29] (fun i wr => ∃ k : Nat, k ≤ nl ∧ i = .int .i64 (k : Int) ∧ wr = W1 ∧ ∀ j, j < k → m.nums.getD j 0 < 9223372036854775808) (fun i _ => nl - (intOf i).toNat)
    case atStart => exact ⟨0, by omega, rfl, rfl, fun j h => by omega⟩
    case round =>
      obtain ⟨k, hk, rfl, rfl, hP⟩ := hrel
      have HP := Lib.hid hP; clear hP
      by_cases hlt : k < nl
      · obtain ⟨b, off, rfl, hc⟩ := N5.out (by omega)
        have hcell := (HB1.out.cell (p := ⟨b, off + k, none⟩) (lt_of_cell (hc k hlt))).trans (hc k hlt)
        have hvb := N4.out (m.nums.getD k 0) (by have := HNL.out; simp [List.getD, show k < m.nums.length by omega])
        obtain ⟨v, hvv⟩ : ∃ v, m.nums.getD k 0 = v := ⟨_, rfl⟩
        rw [hvv] at hcell hvb
        have HVV := Lib.hid hvv
        have LN := Lib.hid (fun W => len_any v W hvb)
        clear hc hvv
        by_cases hv : v < 9223372036854775808
        · have hl : lenOf v = Uv.len v := by unfold lenOf; rw [if_pos hv]
          have hl1 := Uv.len_pos v
          rw [hl] at LN
          generalize Uv.len v = L at *
          have hl9 : ((L : Int) == 0) = false := by rw [beq_eq_false_iff_ne]; omega
          clear hl
          go_wp2_with fail
          refine (LN.out _).mono ?_
          rintro e w' ⟨rfl, rfl⟩
          go_wp2
          go_roundw
          case rel => exact ⟨k + 1, by omega, by go_num, trivial, fun j hj => by
            rcases Nat.lt_or_ge j k with h | h
            · exact HP.out j h
            · obtain rfl : j = k := by omega
              rw [HVV.out]; exact hv⟩
          case measure => simp [intOf]; omega
        · have hl : lenOf v = 0 := by unfold lenOf; rw [if_neg hv]
          rw [hl] at LN
          have HE : Hid (Wi.may m = false) := Lib.hid (may_num (k := k) (by have := HNL.out; omega) (by rw [HVV.out]; exact hv))
          clear hl
          go_wp2_with fail
          refine (LN.out _).mono ?_
          rintro e w' ⟨rfl, rfl⟩
          go_wp2
          go_ret
          exact ⟨ret_bool (by rw [← HTT.out, HE.out]), HB1.out⟩
      · obtain rfl : k = nl := by omega
        go_wp2
        go_loopw [40] (fun i wr => ∃ j : Nat, j ≤ al ∧ i = .int .i64 (j : Int) ∧ Below w.heap.size w wr ∧ ∀ l, l < j → mayA (m.addrs.getD l (0, 0)).1 (m.addrs.getD l (0, 0)).2 = true) (fun i _ => al - (intOf i).toNat)
        case atStart => exact ⟨0, by omega, rfl, HB1.out, fun j h => by omega⟩
        case round =>
          obtain ⟨j, hj, rfl, hB, hP2⟩ := hrel
          have HP2 := Lib.hid hP2; have HB2 := Lib.hid hB; clear hP2 hB
          by_cases hlt2 : j < al
          · obtain ⟨b, off, rfl, hc⟩ := A5.out (by omega)
            have hcell0 := (HB2.out.cell (p := ⟨b, off + j * 2, none⟩) (lt_of_cell (hc j hlt2).1)).trans (hc j hlt2).1
            have hcell1 := (HB2.out.cell (p := ⟨b, off + j * 2 + 1, none⟩) (lt_of_cell (hc j hlt2).2)).trans (hc j hlt2).2
            have hab := A4.out (m.addrs.getD j (0, 0)) (by have := HAL.out; simp [List.getD, show j < m.addrs.length by omega])
            obtain ⟨⟨h, p⟩, hvv⟩ : ∃ v, m.addrs.getD j (0, 0) = v := ⟨_, rfl⟩
            rw [hvv] at hcell0 hcell1 hab
            have HVV := Lib.hid hvv
            have HM := Lib.hid (fun W => may_any h p W hab.1 hab.2)
            unfold adr at HM
            clear hc hvv
            cases hm : mayA h p with
            | true =>
              have HMM := Lib.hid hm
              rw [hm] at HM
              clear hm
              go_wp2_with fail
              refine (HM.out _).mono ?_
              rintro e w' ⟨rfl, hb'⟩
              have HB3 : Hid (Below w.heap.size w w') := Lib.hid ((HB2.out.alloc HB2.out.size _).trans (hb'.mono (by have := HB2.out.size; simp; omega)))
              clear hb'
              go_wp2
              go_roundw
              case rel => exact ⟨j + 1, by omega, by go_num, HB3.out, fun l hl => by
                rcases Nat.lt_or_ge l j with h' | h'
                · exact HP2.out l h'
                · obtain rfl : l = j := by omega
                  rw [HVV.out]; exact HMM.out⟩
              case measure => simp [intOf]; omega
            | false =>
              have HE : Hid (Wi.may m = false) := Lib.hid (may_adr (k := j) (by have := HAL.out; omega) (by rw [HVV.out]; exact hm))
              rw [hm] at HM
              clear hm
              go_wp2_with fail
              refine (HM.out _).mono ?_
              rintro e w' ⟨rfl, hb'⟩
              have HB3 : Hid (Below w.heap.size w w') := Lib.hid ((HB2.out.alloc HB2.out.size _).trans (hb'.mono (by have := HB2.out.size; simp; omega)))
              clear hb'
              go_wp2
              go_ret
              exact ⟨ret_bool (by rw [← HTT.out, HE.out]), HB3.out⟩
          · obtain rfl : j = al := by omega
            have HE : Hid (Wi.may m = true) := Lib.hid (may_yes HO.out (fun l hl => HP.out l (by have := HNL.out; omega)) (fun l hl => HP2.out l (by have := HAL.out; omega)))
            go_wp2
            go_ret
            exact ⟨ret_bool (by rw [← HTT.out, HE.out]), HB2.out⟩
  · have HE : Hid (Wi.may m = false) := Lib.hid (may_no (by rw [HNL.out, HAL.out, HBL.out, HQ.out]; exact hok))
    have HF : Hid (T = false) := Lib.hid (by rw [← HTT.out, HE.out])
    go_enter Tryd.func36, Tryd.ntmps36
    go_wp2
    have HX := Mx.new w kd (.slice A1 nl c1) (.slice A2 al c2) (.slice A3 bl c3)
    have HB0 : Hid (Below w.heap.size w (w.alloc (.cells #[.int .i64 kd, .slice A1 nl c1, .slice A2 al c2, .slice A3 bl c3] 46))) := Lib.hid ((Below.refl _ _).alloc (Nat.le_refl _) _)
    generalize w.alloc (.cells #[.int .i64 kd, .slice A1 nl c1, .slice A2 al c2, .slice A3 bl c3] 46) = W0 at *
    have HTB1 : Hid (Tb W0.drew) := Lib.hid (HTB.out.below (HB0.out.trans (Below.refl _ _).drew))
    have HB1 : Hid (Below w.heap.size w W0.drew) := Lib.hid (HB0.out.trans (Below.refl _ _).drew)
    by_cases o1 : (nl : Int) = q
    · have t1 : ((nl : Int) != q) = false := by rw [bne_eq_false_iff_eq]; exact o1
      by_cases o2 : al ≤ 8
      · have o3 : ¬ bl ≤ 1000 := fun h => hok ⟨o1, o2, h⟩
        have t2 : decide ((8 : Int) < (al : Int)) = false := by simp; omega
        have t3 : decide ((1000 : Int) < (bl : Int)) = true := by simp; omega
        clear hok
        have x0 : W0.cell? ⟨w.heap.size, 0, none⟩ = some (.int .i64 kd) := HX.c0
        have x1 : W0.cell? ⟨w.heap.size, 1, none⟩ = some (.slice A1 nl c1) := HX.c1
        have x2 : W0.cell? ⟨w.heap.size, 2, none⟩ = some (.slice A2 al c2) := HX.c2
        have x3 : W0.cell? ⟨w.heap.size, 3, none⟩ = some (.slice A3 bl c3) := HX.c3
        go_quiet ((go_at_call 56; refine Calls.quiet_of_same (CN.out _ (fun j hj => HTB1.out j hj))))
        go_wp2
        go_ret
        exact ⟨ret_bool HF.out.symm, below_drewN' HB0.out _⟩
      · have t2 : decide ((8 : Int) < (al : Int)) = true := by simp; omega
        clear hok
        have x0 : W0.cell? ⟨w.heap.size, 0, none⟩ = some (.int .i64 kd) := HX.c0
        have x1 : W0.cell? ⟨w.heap.size, 1, none⟩ = some (.slice A1 nl c1) := HX.c1
        have x2 : W0.cell? ⟨w.heap.size, 2, none⟩ = some (.slice A2 al c2) := HX.c2
        have x3 : W0.cell? ⟨w.heap.size, 3, none⟩ = some (.slice A3 bl c3) := HX.c3
        go_quiet ((go_at_call 56; refine Calls.quiet_of_same (CN.out _ (fun j hj => HTB1.out j hj))))
        go_wp2
        go_ret
        exact ⟨ret_bool HF.out.symm, below_drewN' HB0.out _⟩
    · have t1 : ((nl : Int) != q) = true := by rw [bne_iff_ne]; exact o1
      clear hok
      have x0 : W0.cell? ⟨w.heap.size, 0, none⟩ = some (.int .i64 kd) := HX.c0
      have x1 : W0.cell? ⟨w.heap.size, 1, none⟩ = some (.slice A1 nl c1) := HX.c1
      have x2 : W0.cell? ⟨w.heap.size, 2, none⟩ = some (.slice A2 al c2) := HX.c2
      have x3 : W0.cell? ⟨w.heap.size, 3, none⟩ = some (.slice A3 bl c3) := HX.c3
      go_quiet ((go_at_call 56; refine Calls.quiet_of_same (CN.out _ (fun j hj => HTB1.out j hj))))
      go_wp2
      go_ret
      exact ⟨ret_bool HF.out.symm, below_drewN' HB0.out _⟩
end Go.Proofs.YtdiilgedicfekaaDoor
namespace Go.Proofs.YtdiilgedicfekaaDoor
open Go.RowKit
set_option linter.unusedVariables false
set_option maxRecDepth 100000

/-- the block R holds a reader of these bytes, which lie in block b -/
def Rd (w : World) (R b : Nat) (zs : List Int) (bd : Bool) : Prop := ∃ A n c, w.heap[R]? = some (.cells #[.slice A n c, .bool bd] 100 (0, 0)) ∧ Bts w A n zs ∧ n ≤ c ∧ c ≤ maxLen ∧ (A = none → n = 0 ∧ c = 0) ∧ (0 < n → ∃ ad, A = some ad ∧ ad.block = b ∧ b ≠ R)
theorem Bts.same {w w' : World} {A : Option Addr} {n b : Nat} {zs : List Int} (h : Bts w A n zs) (hs : w.heap.size ≤ w'.heap.size) (hA : 0 < n → ∃ ad, A = some ad ∧ ad.block = b) (hb : 0 < n → w'.heap[b]? = w.heap[b]?) : Bts w' A n zs := by
  obtain ⟨h1, h2, h3⟩ := h
  refine ⟨h1, h2, fun hn => ?_⟩
  obtain ⟨b', off, rfl, hlt, hc⟩ := h3 hn
  obtain ⟨ad, e, e2⟩ := hA hn
  cases e
  refine ⟨b', off, rfl, Nat.lt_of_lt_of_le hlt hs, fun j hj => ?_⟩
  have := hb hn
  rw [← e2] at this
  exact (World.cell?_of_block (w := w) (a := ⟨b', off + j, none⟩) this).trans (hc j hj)
theorem Rd.kept {w w' : World} {R b : Nat} {zs : List Int} {bd : Bool} (h : Rd w R b zs bd) (hs : w.heap.size ≤ w'.heap.size) (h1 : w'.heap[R]? = w.heap[R]?) (h2 : zs ≠ [] → w'.heap[b]? = w.heap[b]?) : Rd w' R b zs bd := by
  obtain ⟨A, n, c, e, hb, r1, r2, r3, r4⟩ := h
  refine ⟨A, n, c, h1.trans e, hb.same hs (fun hn => ?_) (fun hn => h2 ?_), r1, r2, r3, r4⟩
  · obtain ⟨ad, e1, e2, _⟩ := r4 hn; exact ⟨ad, e1, e2⟩
  · intro hz; have := hb.len; rw [hz] at this; simp at this; omega
theorem Rd.below {w w' : World} {R b : Nat} {zs : List Int} {bd : Bool} (h : Rd w R b zs bd) (hb : Below w.heap.size w w') : Rd w' R b zs bd := by
  obtain ⟨A, n, c, e, hbt, r⟩ := h
  exact ⟨A, n, c, (hb.block R (Array.getElem?_eq_some_iff.1 e).1).trans e, hbt.below hb, r⟩
theorem Rd.lt {w : World} {R b : Nat} {zs : List Int} {bd : Bool} (h : Rd w R b zs bd) : R < w.heap.size := by
  obtain ⟨A, n, c, e, _⟩ := h
  exact (Array.getElem?_eq_some_iff.1 e).1
theorem Rd.bd {w : World} {R b : Nat} {zs : List Int} {bd : Bool} (h : Rd w R b zs bd) : ∀ z ∈ zs, 0 ≤ z ∧ z ≤ 255 := by
  obtain ⟨A, n, c, e, hb, _⟩ := h
  exact hb.bd
theorem heap_mod {w : World} {g k : Nat} {C : Array Value} {t : TypeId} (h : w.heap[g]? = some (.cells C t (0, 0))) (hk : k < C.size) (u : Value) : (w.setCell ⟨g, k, none⟩ u).heap[g]? = some (.cells (C.setIfInBounds k u) t (0, 0)) := by
  simp [World.setCell, Array.getElem?_modify, h]
theorem grown_set (w : World) (g k : Nat) (u : Value) : w.grownBy (w.setCell ⟨g, k, none⟩ u) (some g) :=
  ⟨rfl, rfl, rfl, by simp [World.setCell], fun i _ hi => Below.heap_setCell _ _ _ _ (fun e => hi (by rw [e]))⟩
theorem Rd.next {w : World} {R b k n c : Nat} {A : Option Addr} {zs : List Int} {bd : Bool} (e : w.heap[R]? = some (.cells #[.slice A n c, .bool bd] 100 (0, 0))) (hb : Bts w A n zs) (r1 : n ≤ c) (r2 : c ≤ maxLen) (r3 : A = none → n = 0 ∧ c = 0) (r4 : 0 < n → ∃ ad, A = some ad ∧ ad.block = b ∧ b ≠ R) (hk : k ≤ n) :
    Rd (w.setCell ⟨R, 0, none⟩ (.slice (if c = k then A else A.map (·.add k)) (n - k) (c - k))) R b (zs.drop k) bd := by
  have hb2 := hb.from (c := c) hk r1
  refine ⟨_, n - k, c - k, by rw [heap_mod e (by simp)]; rfl, hb2.same (b := b) (by simp [World.setCell]) (fun hn => ?_) (fun hn => ?_), by omega, by omega, fun h => ?_, fun hn => ?_⟩
  · obtain ⟨ad, rfl, h2, h3⟩ := r4 (by omega)
    split
    · exact ⟨ad, rfl, h2⟩
    · exact ⟨_, rfl, by rw [add_block, h2]⟩
  · obtain ⟨ad, rfl, h2, h3⟩ := r4 (by omega)
    exact Below.heap_setCell _ _ _ _ h3
  · have : A = none := by
      split at h
      · exact h
      · simpa using h
    have := r3 this
    omega
  · obtain ⟨ad, rfl, h2, h3⟩ := r4 (by omega)
    split
    · exact ⟨ad, rfl, h2, h3⟩
    · exact ⟨_, rfl, by rw [add_block, h2], h3⟩
theorem Rd.spoilt {w : World} {R b : Nat} {zs : List Int} {bd : Bool} (h : Rd w R b zs bd) : Rd (w.setCell ⟨R, 1, none⟩ (.bool true)) R b zs true := by
  obtain ⟨A, n, c, e, hb, r1, r2, r3, r4⟩ := h
  refine ⟨A, n, c, by rw [heap_mod e (by simp)]; rfl, hb.same (b := b) (by simp [World.setCell]) (fun hn => ?_) (fun hn => ?_), r1, r2, r3, r4⟩
  · obtain ⟨ad, rfl, h2, h3⟩ := r4 hn; exact ⟨ad, rfl, h2⟩
  · obtain ⟨ad, rfl, h2, h3⟩ := r4 hn; exact Below.heap_setCell _ _ _ _ h3
theorem Rd.cells {w : World} {R : Nat} {v u : Value} {t : TypeId} (e : w.heap[R]? = some (.cells #[v, u] t (0, 0))) : R < w.heap.size ∧ w.cell? ⟨R, 0, none⟩ = some v ∧ w.cell? ⟨R, 1, none⟩ = some u ∧ w.frozen? ⟨R, 0, none⟩ = false ∧ w.frozen? ⟨R, 1, none⟩ = false :=
  ⟨(Array.getElem?_eq_some_iff.1 e).1, by rw [(cells_of e 0).1]; rfl, by rw [(cells_of e 1).1]; rfl, (cells_of e 0).2, (cells_of e 1).2⟩

set_option maxHeartbeats 1000000 in
theorem pass_bad (R b : Nat) (n k : Int) (zs : List Int) (bd : Bool) (w : World) (h : Rd w R b zs bd) (hk : k ≠ 0) :
    Calls Tryd.prog 69 #[.pointer (some ⟨R, 0, none⟩), .int .i64 n, .int .i64 k] w fun e w' => (∃ r, e = .returned r) ∧ w.grownBy w' (some R) ∧ Rd w' R b zs true := by
  have H := Lib.hid h
  obtain ⟨A, n, c, e, _⟩ := h
  obtain ⟨l0, c0, c1, f0, f1⟩ := Rd.cells e
  have t1 : (k != 0) = true := by rw [bne_iff_ne]; exact hk
  clear e hk
  go_enter Tryd.func69, Tryd.ntmps69
  go_wp2
  refine ⟨rfl, .tuple #[], by simp [results, Tryd.f69], ⟨_, rfl⟩, grown_set _ _ _ _, H.out.spoilt⟩
set_option maxHeartbeats 1000000 in
theorem pass_ok (R b k : Nat) (zs : List Int) (bd : Bool) (w : World) (h : Rd w R b zs bd) (hk : k ≤ zs.length) :
    Calls Tryd.prog 69 #[.pointer (some ⟨R, 0, none⟩), .int .i64 (k : Int), .int .i64 0] w fun e w' => (∃ r, e = .returned r) ∧ w.grownBy w' (some R) ∧ Rd w' R b (zs.drop k) bd := by
  obtain ⟨A, n, c, e, hb, r1, r2, r3, r4⟩ := h
  obtain ⟨l0, c0, c1, f0, f1⟩ := Rd.cells e
  have hkn : k ≤ n := by have := hb.len; omega
  have HX := Lib.hid (Rd.next e hb r1 r2 r3 r4 hkn)
  unfold maxLen at r2
  clear e hb r3 r4 hk
  go_enter Tryd.func69, Tryd.ntmps69
  go_wp2
  · have HX2 := HX.out
    have hcc : c - k = 0 := by omega
    rw [if_pos (by omega), hcc] at HX2
    exact ⟨rfl, .tuple #[], by simp [results, Tryd.f69], ⟨_, rfl⟩, grown_set _ _ _ _, HX2⟩
  · have HX2 := HX.out
    rw [if_neg (by omega)] at HX2
    exact ⟨rfl, .tuple #[], by simp [results, Tryd.f69], ⟨_, rfl⟩, grown_set _ _ _ _, HX2⟩

/-- what is left behind a number -/
def nrest (zs : List Int) : List Int := if Uv.code zs = 0 then zs.drop (Uv.size zs) else zs
def spoils (bd : Bool) (k : Int) : Bool := if k = 0 then bd else true
theorem pass_num (R b : Nat) (zs : List Int) (bd : Bool) (w : World) (h : Rd w R b zs bd) :
    Calls Tryd.prog 69 #[.pointer (some ⟨R, 0, none⟩), .int .i64 (Uv.size zs : Int), .int .i64 (Uv.code zs)] w fun e w' => (∃ r, e = .returned r) ∧ w.grownBy w' (some R) ∧ Rd w' R b (nrest zs) (spoils bd (Uv.code zs)) := by
  unfold nrest spoils
  by_cases hc : Uv.code zs = 0
  · rw [if_pos hc, if_pos hc, hc]
    rcases Uv.got_cases zs with h1 | h1
    · exact pass_ok R b _ zs bd w h h1.2.2.1
    · omega
  · rw [if_neg hc, if_neg hc]
    exact pass_bad R b _ _ zs bd w h hc
set_option maxHeartbeats 1000000 in
theorem number_any (R b : Nat) (zs : List Int) (bd : Bool) (w : World) (h : Rd w R b zs bd) :
    Calls Tryd.prog 63 #[.pointer (some ⟨R, 0, none⟩)] w fun e w' => e = .returned (.int .u64 (Uv.val zs)) ∧ w.grownBy w' (some R) ∧ Rd w' R b (nrest zs) (spoils bd (Uv.code zs)) := by
  have H := Lib.hid h
  have CP := Lib.hid (pass_num R b zs bd w h)
  obtain ⟨A, n, c, e, hb, r1, r2, _⟩ := h
  obtain ⟨l0, c0, c1, f0, f1⟩ := Rd.cells e
  have CG : Hid (Calls Tryd.prog 68 #[.slice A n c] w fun e w' => e = .returned (.tuple #[.int .u64 (Uv.val zs), .int .i64 (Uv.size zs : Int), .int .i64 (Uv.code zs)]) ∧ w = w') := Lib.hid (by
    refine (get_any A n c zs w r1 r2 hb).mono ?_
    rintro e w' ⟨rfl, rfl⟩
    refine ⟨?_, rfl⟩
    unfold tup Uv.val Uv.size Uv.code
    have h0 : 0 ≤ (Uv.got zs).2.1 := by
      unfold Uv.got
      split
      · simp
      · split
        · simp
        · split <;> simp <;> omega
    rw [Int.toNat_of_nonneg h0])
  generalize Uv.val zs = v at *
  generalize Uv.size zs = s at *
  generalize Uv.code zs = k at *
  clear e hb r1 r2
  go_enter Tryd.func63, Tryd.ntmps63
  go_wp2_with (first
    | (go_at_call 68; refine CG.out.mono ?_; rintro e w' ⟨rfl, rfl⟩)
    | (go_at_call 69; refine CP.out.mono ?_; rintro e w2 ⟨⟨r, rfl⟩, hg, hr⟩; have HG := Lib.hid hg; have HR := Lib.hid hr; clear hg hr))
  go_ret
  exact ⟨rfl, HG.out, HR.out⟩

theorem grown_after {w w1 w2 : World} {R : Nat} (h : Below w.heap.size w w1) (hg : w1.grownBy w2 (some R)) : w.grownBy w2 (some R) :=
  ⟨hg.os.trans h.os, hg.tape.trans h.tape, hg.output.trans h.output, Nat.le_trans h.size hg.size, fun k hk hn => (hg.block k (Nat.lt_of_lt_of_le hk h.size) hn).trans (h.block k hk)⟩
theorem grown_trans {w w1 w2 : World} {R : Nat} (h : w.grownBy w1 (some R)) (hg : w1.grownBy w2 (some R)) : w.grownBy w2 (some R) :=
  ⟨hg.os.trans h.os, hg.tape.trans h.tape, hg.output.trans h.output, Nat.le_trans h.size hg.size, fun k hk hn => (hg.block k (Nat.lt_of_lt_of_le hk h.size) hn).trans (h.block k hk hn)⟩
theorem grown_below {w w1 : World} (h : Below w.heap.size w w1) (R : Nat) : w.grownBy w1 (some R) := ⟨h.os, h.tape, h.output, h.size, fun k hk _ => h.block k hk⟩
/-- what is left behind a frame -/
def frest (zs : List Int) : List Int := if Fr.code zs = 0 then zs.drop (Fr.size zs) else zs
theorem pass_row (R b : Nat) (zs : List Int) (bd : Bool) (w : World) (h : Rd w R b zs bd) :
    Calls Tryd.prog 69 #[.pointer (some ⟨R, 0, none⟩), .int .i64 (Fr.size zs : Int), .int .i64 (Fr.code zs)] w fun e w' => (∃ r, e = .returned r) ∧ w.grownBy w' (some R) ∧ Rd w' R b (frest zs) (spoils bd (Fr.code zs)) := by
  unfold frest spoils
  by_cases hc : Fr.code zs = 0
  · rw [if_pos hc, if_pos hc]
    have := pass_ok R b (Fr.size zs) zs bd w h (by have := (Fr.size_ok hc); omega)
    rw [hc]
    exact this
  · rw [if_neg hc, if_neg hc]
    exact pass_bad R b _ _ zs bd w h hc
set_option maxHeartbeats 1000000 in
theorem body_any (R b : Nat) (zs : List Int) (bd : Bool) (w : World) (h : Rd w R b zs bd) :
    Calls Tryd.prog 65 #[.pointer (some ⟨R, 0, none⟩)] w fun e w' => ∃ v, e = .returned v ∧ w'.ownsRow w.heap.size 5 1 v (Fr.row zs).length (B (Fr.row zs)) ∧ w.grownBy w' (some R) ∧ Rd w' R b (frest zs) (spoils bd (Fr.code zs)) := by
  have CP := Lib.hid (fun W hb => pass_row R b zs bd W (h.below hb))
  obtain ⟨A, n, c, e, hb, r1, r2, _⟩ := h
  obtain ⟨l0, c0, c1, f0, f1⟩ := Rd.cells e
  have CG : Hid (Calls Tryd.prog 72 #[.slice A n c] w fun e w' => ∃ v, e = .returned (.tuple #[v, .int .i64 (Fr.size zs : Int), .int .i64 (Fr.code zs)]) ∧ w'.ownsRow w.heap.size 5 1 v (Fr.row zs).length (B (Fr.row zs)) ∧ Below w.heap.size w w') := Lib.hid (fget_any A n c zs w hb r1 r2)
  generalize Fr.size zs = s at *
  generalize Fr.code zs = k at *
  generalize Fr.row zs = rs at *
  have L0 := Lib.hid l0
  clear e hb r1 r2
  go_enter Tryd.func65, Tryd.ntmps65
  go_wp2_with (first
    | (go_at_call 72; refine CG.out.mono ?_; rintro e w1 ⟨v, rfl, ho, hb1⟩; have HO := Lib.hid ho; have HB1 := Lib.hid hb1; clear ho hb1)
    | (go_at_call 69; refine (CP.out _ HB1.out).mono ?_; rintro e w2 ⟨⟨r, rfl⟩, hg, hr⟩; have HG := Lib.hid hg; have HR := Lib.hid hr; clear hg hr))
  go_ret
  refine ⟨_, rfl, HO.out.kept HG.out (.inr ?_), grown_after HB1.out HG.out, HR.out⟩
  intro e
  have := (HO.out.lt R e).1
  have := L0.out
  omega

/-- the next address, or what is said where it is none -/
def ahost (zs : List Int) : Int := if 6 ≤ zs.length ∧ mayA (Wi.host6 zs) (Wi.port6 zs) = true then Wi.host6 zs else 0
def aport (zs : List Int) : Int := if 6 ≤ zs.length ∧ mayA (Wi.host6 zs) (Wi.port6 zs) = true then Wi.port6 zs else 0
def acode (zs : List Int) : Int := if 6 ≤ zs.length ∧ mayA (Wi.host6 zs) (Wi.port6 zs) = true then 0 else 3
def arest (zs : List Int) : List Int := if acode zs = 0 then zs.drop 6 else zs
theorem from_at (A : Option Addr) (n c m : Nat) (zs : List Int) (w : World) (hb : Bts w A n zs) (r1 : n ≤ c) (r2 : c ≤ maxLen) (hm : m = min 6 n) :
    Calls Tryd.prog 73 #[.slice A m c] w fun e w' => e = .returned (.tuple #[.agg #[.int .u32 (ahost zs), .int .i64 (aport zs)], .int .i64 (acode zs)]) ∧ Below w.heap.size w w' := by
  have hl := hb.len
  by_cases h6 : 6 ≤ n
  · obtain rfl : m = 6 := by omega
    obtain ⟨h1, h2, h3⟩ := hb
    obtain ⟨b, off, rfl, hlt, hc⟩ := h3 (by omega)
    have hg := getD_bd h2
    refine (from_six b off c zs w (by omega) r2 hg hlt (fun j hj => hc j (by omega))).mono ?_
    rintro e w' ⟨rfl, hbe⟩
    refine ⟨?_, hbe⟩
    rw [hostUp4 hg, portUp2]
    show Ending.returned (gaveOr (Wi.host6 zs) (Wi.port6 zs)) = _
    unfold gaveOr ahost aport acode refusedA adr
    by_cases hm : mayA (Wi.host6 zs) (Wi.port6 zs) = true
    · have : 6 ≤ zs.length ∧ mayA (Wi.host6 zs) (Wi.port6 zs) = true := ⟨by omega, hm⟩
      rw [if_pos this, if_pos this, if_pos this, if_pos hm]
      rfl
    · have : ¬ (6 ≤ zs.length ∧ mayA (Wi.host6 zs) (Wi.port6 zs) = true) := fun h => hm h.2
      rw [if_neg this, if_neg this, if_neg this, if_neg hm]
  · obtain rfl : m = n := by omega
    refine (from_short A m c w (by omega) (by omega)).mono ?_
    rintro e w' ⟨rfl, hbe⟩
    refine ⟨?_, hbe⟩
    have : ¬ (6 ≤ zs.length ∧ mayA (Wi.host6 zs) (Wi.port6 zs) = true) := fun h => by omega
    unfold ahost aport acode refusedA adr
    simp only [if_neg this]
theorem pass_adr (R b : Nat) (zs : List Int) (bd : Bool) (w : World) (h : Rd w R b zs bd) :
    Calls Tryd.prog 69 #[.pointer (some ⟨R, 0, none⟩), .int .i64 6, .int .i64 (acode zs)] w fun e w' => (∃ r, e = .returned r) ∧ w.grownBy w' (some R) ∧ Rd w' R b (arest zs) (spoils bd (acode zs)) := by
  unfold arest spoils
  by_cases hc : acode zs = 0
  · rw [if_pos hc, if_pos hc, hc]
    have h6 : 6 ≤ zs.length := by
      unfold acode at hc
      split at hc
      · rename_i h; exact h.1
      · cases hc
    exact pass_ok R b 6 zs bd w h h6
  · rw [if_neg hc, if_neg hc]
    exact pass_bad R b _ _ zs bd w h hc
end Go.Proofs.YtdiilgedicfekaaDoor
