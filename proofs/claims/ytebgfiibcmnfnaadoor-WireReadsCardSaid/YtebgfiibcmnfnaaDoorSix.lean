/-
  Contracts of embrasure/addr's FromBytes and the document's own, at six bytes. Conditions: as each states.
-/
import Derived.Test.YtebgfiibcmnfnaaDoorAdrB
import Derived.OwnWalk
import Derived.Deep.RegionHeld3
namespace Go.Proofs.YtebgfiibcmnfnaaDoor
open Go.RowKit
set_option linter.unusedVariables false

/-- the host of the first k of four bytes -/
def hostUp (zs : List Int) : Nat → Int
  | 0 => 0
  | k + 1 => hostUp zs k * 256 % 4294967296 + zs.getD k 0
def portUp (zs : List Int) : Nat → Int
  | 0 => 0
  | k + 1 => portUp zs k * 256 + zs.getD (4 + k) 0
theorem hostUp_bd {zs : List Int} (h : ∀ j, 0 ≤ zs.getD j 0 ∧ zs.getD j 0 ≤ 255) : ∀ k, 0 ≤ hostUp zs k ∧ hostUp zs k < 4294967296
  | 0 => by simp [hostUp]
  | k + 1 => by have := hostUp_bd h k; have := h k; simp only [hostUp]; omega
theorem portUp_bd {zs : List Int} (h : ∀ j, 0 ≤ zs.getD j 0 ∧ zs.getD j 0 ≤ 255) : ∀ k, k ≤ 2 → 0 ≤ portUp zs k ∧ portUp zs k < 256 ^ k
  | 0, _ => by simp [portUp]
  | 1, _ => by have := h 4; simp only [portUp, Nat.add_zero]; omega
  | 2, _ => by have := h 4; have := h 5; simp only [portUp, Nat.add_zero, Nat.reduceAdd]; omega
  | k + 3, h => by omega
/-- the cells of a call of FromBytes -/
structure SixAt (w V : World) (h p : Int) : Prop where
  below : Below w.heap.size w V
  size : V.heap.size = w.heap.size + 2
  c0 : V.heap[w.heap.size]? = some (.cells #[.int .u32 0, .int .i64 0] 45 (0, 0))
  c1 : V.heap[w.heap.size + 1]? = some (.cells #[.int .u32 h, .int .i64 p] 45 (0, 0))
/-- .. behind a call -/
structure SixLater (w V : World) (h p : Int) : Prop where
  below : Below w.heap.size w V
  size : w.heap.size + 2 ≤ V.heap.size
  c0 : V.heap[w.heap.size]? = some (.cells #[.int .u32 0, .int .i64 0] 45 (0, 0))
  c1 : V.heap[w.heap.size + 1]? = some (.cells #[.int .u32 h, .int .i64 p] 45 (0, 0))
theorem six_start (w : World) (W0 : World) (h : (w.alloc (.cells #[.int .u32 0, .int .i64 0] 45)).alloc (.cells #[.int .u32 0, .int .i64 0] 45) = W0) : SixAt w W0 0 0 := by
  subst h
  refine ⟨((Below.refl _ w).alloc (Nat.le_refl _) _).alloc (by simp) _, by simp, ?_, ?_⟩
  · exact (Below.heap_alloc _ _ _ (by simp)).trans (MapKept.heap_alloc w _).1
  · have := (MapKept.heap_alloc (w.alloc (.cells #[.int .u32 0, .int .i64 0] 45)) (.cells #[.int .u32 0, .int .i64 0] 45)).1
    simpa using this
theorem six_start2 (w : World) (W0 : World) (h p : Int) (e : ((w.alloc (.cells #[.int .u32 0, .int .i64 0] 45)).alloc (.cells #[.int .u32 h, .int .i64 p] 45)).drew = W0) : SixAt w W0 h p := by
  subst e
  refine ⟨(((Below.refl _ w).alloc (Nat.le_refl _) _).alloc (by simp) _).drew, by simp, ?_, ?_⟩
  · exact (Below.heap_alloc _ _ _ (by simp)).trans (MapKept.heap_alloc w _).1
  · have := (MapKept.heap_alloc (w.alloc (.cells #[.int .u32 0, .int .i64 0] 45)) (.cells #[.int .u32 h, .int .i64 p] 45)).1
    rw [World.size_alloc] at this
    exact this
theorem SixAt.setH {w V : World} {h p : Int} (a : SixAt w V h p) (x : Int) : SixAt w (V.setCell ⟨w.heap.size + 1, 0, none⟩ (.int .u32 x)) x p :=
  ⟨a.below.setCell (by simp) _, by simp [World.setCell, a.size], (Below.heap_setCell _ _ _ _ (by simp)).trans a.c0, by simp [World.setCell, Array.getElem?_modify, a.c1]⟩
theorem SixAt.setP {w V : World} {h p : Int} (a : SixAt w V h p) (x : Int) : SixAt w (V.setCell ⟨w.heap.size + 1, 1, none⟩ (.int .i64 x)) h x :=
  ⟨a.below.setCell (by simp) _, by simp [World.setCell, a.size], (Below.heap_setCell _ _ _ _ (by simp)).trans a.c0, by simp [World.setCell, Array.getElem?_modify, a.c1]⟩
theorem SixAt.later {w V V' : World} {h p : Int} (a : SixAt w V h p) (hb : Below V.heap.size V V') : SixLater w V' h p :=
  ⟨a.below.trans (hb.mono a.below.size), by have := hb.size; have := a.size; omega, (hb.block _ (by have := a.size; omega)).trans a.c0, (hb.block _ (by have := a.size; omega)).trans a.c1⟩
theorem SixLater.store {w V : World} {h p : Int} (a : SixLater w V h p) (x y : Value) :
    ((V.setCell ⟨w.heap.size, 0, none⟩ x).setCell ⟨w.heap.size, 1, none⟩ y).cell? ⟨w.heap.size, 0, none⟩ = some x ∧ ((V.setCell ⟨w.heap.size, 0, none⟩ x).setCell ⟨w.heap.size, 1, none⟩ y).cell? ⟨w.heap.size, 1, none⟩ = some y ∧
    Below w.heap.size w ((V.setCell ⟨w.heap.size, 0, none⟩ x).setCell ⟨w.heap.size, 1, none⟩ y) := by
  have h4 : ((V.setCell ⟨w.heap.size, 0, none⟩ x).setCell ⟨w.heap.size, 1, none⟩ y).heap[w.heap.size]? = some (.cells #[x, y] 45 (0, 0)) := by
    simp [World.setCell, Array.getElem?_modify, a.c0]
  exact ⟨by simpa using (cells_of h4 0).1, by simpa using (cells_of h4 1).1, (a.below.setCell (Nat.le_refl _) _).setCell (Nat.le_refl _) _⟩
def gaveA (h p : Int) : Value := .tuple #[adr h p, .int .i64 0]
def refusedA : Value := .tuple #[adr 0 0, .int .i64 3]
def gaveOr (h p : Int) : Value := if mayA h p = true then gaveA h p else refusedA

theorem or32 (v m : Int) (hv : 0 ≤ v) (h0 : 0 ≤ m) (h1 : m ≤ 255) : bits .or .u32 (v * 256 % 4294967296) m = v * 256 % 4294967296 + m := by
  rw [bits_join .u32 32 (by decide) (fun n h0 h1 => by rw [IntKind.wrap_u32]; omega) 8 _ _ (by omega) (by omega) (by omega) (by omega) (by omega) (by omega)]
theorem or64 (v m : Int) (hv : 0 ≤ v) (hv2 : v < 256) (h0 : 0 ≤ m) (h1 : m ≤ 255) : bits .or .i64 (v * 256) m = v * 256 + m := by
  rw [bits_join .i64 32 (by decide) (fun n h0 h1 => by rw [IntKind.wrap_i64]; omega) 8 _ _ (by omega) (by omega) (by omega) (by omega) (by omega) (by omega)]

set_option maxRecDepth 100000 in
set_option maxHeartbeats 4000000 in
theorem from_six (b off c : Nat) (zs : List Int) (w : World) (hc : 6 ≤ c) (hc2 : c ≤ maxLen) (hbd : ∀ j, 0 ≤ zs.getD j 0 ∧ zs.getD j 0 ≤ 255) (hb : b < w.heap.size) (hz : ∀ j, j < 6 → w.cell? ⟨b, off + j, none⟩ = some (.int .u8 (zs.getD j 0))) :
    Calls Tryd.prog 43 #[.slice (some ⟨b, off, none⟩) 6 c] w fun e w' => e = .returned (gaveOr (hostUp zs 4) (portUp zs 2)) ∧ Below w.heap.size w w' := by
  have HBD := Lib.hid hbd; have HZ := Lib.hid hz; clear hbd hz
  unfold maxLen at hc2
  go_enter Tryd.func43, Tryd.ntmps43
  go_wp2
  obtain ⟨W0, hW0⟩ : ∃ W0, (w.alloc (.cells #[.int .u32 0, .int .i64 0] 45)).alloc (.cells #[.int .u32 0, .int .i64 0] 45) = W0 := ⟨_, rfl⟩
  have hS := six_start w W0 hW0
  rw [hW0]
  clear hW0
  go_loopw [16] (fun i V => ∃ k : Nat, k ≤ 4 ∧ i = .int .i64 k ∧ SixAt w V (hostUp zs k) 0) (fun i _ => 4 - (intOf i).toNat)
  case atStart => exact ⟨0, by omega, rfl, hS⟩
  case round =>
    obtain ⟨k, hk, rfl, hS⟩ := hrel
    have HS := Lib.hid hS
    have d0 := (cells_of hS.c1 0).1
    have d1 := (cells_of hS.c1 1).1
    have f0 := (cells_of hS.c1 0).2
    simp at d0 d1
    obtain ⟨H, hH⟩ : ∃ H, hostUp zs k = H := ⟨_, rfl⟩
    have hh := hostUp_bd HBD.out k
    rw [hH] at d0 hh
    by_cases hlt : k < 4
    · have hcell := (hS.below.cell (p := ⟨b, off + k, none⟩) hb).trans (HZ.out k (by omega))
      have hbd := HBD.out k
      have hn : hostUp zs (k + 1) = hostUp zs k * 256 % 4294967296 + zs.getD k 0 := rfl
      obtain ⟨z, hzz⟩ : ∃ z, zs.getD k 0 = z := ⟨_, rfl⟩
      rw [hzz] at hcell hbd hn
      rw [hH] at hn
      have HN := Lib.hid hn
      have HO := Lib.hid (or32 H z hh.1 hbd.1 hbd.2)
      clear hS hzz hH hn
      go_wp2
      go_roundw
      case rel => exact ⟨k + 1, by omega, by go_num, by rw [HO.out, HN.out]; exact HS.out.setH _⟩
      case measure => simp [intOf]; omega
    · obtain rfl : k = 4 := by omega
      have HH := Lib.hid hH
      clear hS hH
      go_wp2
      go_loopw [31] (fun i V => ∃ k : Nat, k ≤ 2 ∧ i = .int .i64 k ∧ SixAt w V (hostUp zs 4) (portUp zs k)) (fun i _ => 2 - (intOf i).toNat)
      case atStart => exact ⟨0, by omega, rfl, HS.out⟩
      case round =>
        obtain ⟨j, hj, rfl, hS⟩ := hrel
        have HS2 := Lib.hid hS
        have d0 := (cells_of hS.c1 0).1
        have d1 := (cells_of hS.c1 1).1
        have f1 := (cells_of hS.c1 1).2
        have g0 := (cells_of hS.c0 0).2
        have g1 := (cells_of hS.c0 1).2
        simp at d0 d1
        rw [HH.out] at d0
        obtain ⟨P, hP⟩ : ∃ P, portUp zs j = P := ⟨_, rfl⟩
        have hp := portUp_bd HBD.out j hj
        rw [hP] at d1 hp
        by_cases hlt2 : j < 2
        · have hcell := (hS.below.cell (p := ⟨b, off + (4 + j), none⟩) hb).trans (HZ.out (4 + j) (by omega))
          rw [← Nat.add_assoc] at hcell
          have hbd := HBD.out (4 + j)
          have hn : portUp zs (j + 1) = portUp zs j * 256 + zs.getD (4 + j) 0 := rfl
          obtain ⟨z, hzz⟩ : ∃ z, zs.getD (4 + j) 0 = z := ⟨_, rfl⟩
          rw [hzz] at hcell hbd hn
          rw [hP] at hn
          have hp2 : P < 256 := by
            rcases (show j = 0 ∨ j = 1 by omega) with rfl | rfl <;> omega
          have HN := Lib.hid hn
          have HO := Lib.hid (or64 P z hp.1 hp2 hbd.1 hbd.2)
          clear hS hzz hP hn
          go_wp2
          go_roundw
          case rel => exact ⟨j + 1, by omega, by go_num, by rw [HO.out, HN.out]; exact HS2.out.setP _⟩
          case measure => simp [intOf]; omega
        · obtain rfl : j = 2 := by omega
          have HP := Lib.hid hP
          have HM := Lib.hid (fun W => may_any H P W hh.1 hh.2)
          clear hS hP
          unfold adr at HM
          cases hm : mayA H P with
          | true =>
            rw [hm] at HM
            have HG : Hid (gaveOr H P = gaveA H P) := Lib.hid (by unfold gaveOr; rw [if_pos hm])
            clear hm
            go_wp2_with fail
            refine (HM.out _).mono ?_
            rintro e w1 ⟨rfl, hb1⟩
            have hS1 := HS2.out.later hb1
            have HS1 := Lib.hid hS1
            have d0 := (cells_of hS1.c1 0).1
            have d1 := (cells_of hS1.c1 1).1
            have e0 := (cells_of hS1.c0 0).1
            have e1 := (cells_of hS1.c0 1).1
            have g0 := (cells_of hS1.c0 0).2
            have g1 := (cells_of hS1.c0 1).2
            simp at d0 d1 e0 e1
            rw [HH.out] at d0
            rw [HP.out] at d1
            clear hS1 hb1
            go_wp2
            have q := HS1.out.store (.int .u32 H) (.int .i64 P)
            refine ⟨rfl, gaveA H P, by simp [results, Tryd.results43, go_sem, gaveA, adr, q.1, q.2.1], by rw [HH.out, HP.out, HG.out], q.2.2⟩
          | false =>
            rw [hm] at HM
            have HG : Hid (gaveOr H P = refusedA) := Lib.hid (by unfold gaveOr; rw [if_neg (by rw [hm]; simp)])
            clear hm
            go_wp2_with fail
            refine (HM.out _).mono ?_
            rintro e w1 ⟨rfl, hb1⟩
            have hS1 := HS2.out.later hb1
            have HS1 := Lib.hid hS1
            have e0 := (cells_of hS1.c0 0).1
            have e1 := (cells_of hS1.c0 1).1
            have g0 := (cells_of hS1.c0 0).2
            have g1 := (cells_of hS1.c0 1).2
            simp at e0 e1
            clear hS1 hb1
            go_wp2
            have q := HS1.out.store (.int .u32 0) (.int .i64 0)
            refine ⟨rfl, refusedA, by simp [results, Tryd.results43, go_sem, refusedA, adr, q.1, q.2.1], by rw [HH.out, HP.out, HG.out], q.2.2⟩

theorem hostUp4 {zs : List Int} (h : ∀ j, 0 ≤ zs.getD j 0 ∧ zs.getD j 0 ≤ 255) : hostUp zs 4 = zs.getD 0 0 * 16777216 + zs.getD 1 0 * 65536 + zs.getD 2 0 * 256 + zs.getD 3 0 := by
  have h0 := h 0; have h1 := h 1; have h2 := h 2; have h3 := h 3
  simp only [hostUp]
  omega
theorem portUp2 (zs : List Int) : portUp zs 2 = zs.getD 4 0 * 256 + zs.getD 5 0 := by simp only [portUp, Nat.add_zero, Nat.reduceAdd]; omega

set_option maxRecDepth 100000 in
set_option maxHeartbeats 4000000 in
theorem rfrom_six (b off c : Nat) (zs : List Int) (w : World) (hc : 6 ≤ c) (hc2 : c ≤ maxLen) (hbd : ∀ j, 0 ≤ zs.getD j 0 ∧ zs.getD j 0 ≤ 255) (hb : b < w.heap.size) (hz : ∀ j, j < 6 → w.cell? ⟨b, off + j, none⟩ = some (.int .u8 (zs.getD j 0))) :
    Calls Tryd.prog 32 #[.slice (some ⟨b, off, none⟩) 6 c] w fun e w' => e = .returned (gaveOr (hostUp zs 4) (portUp zs 2)) ∧ Below w.heap.size w w' := by
  rw [hostUp4 hbd, portUp2]
  unfold maxLen at hc2
  obtain ⟨a0, h0⟩ : ∃ a, zs.getD 0 0 = a := ⟨_, rfl⟩
  obtain ⟨a1, h1⟩ : ∃ a, zs.getD 1 0 = a := ⟨_, rfl⟩
  obtain ⟨a2, h2⟩ : ∃ a, zs.getD 2 0 = a := ⟨_, rfl⟩
  obtain ⟨a3, h3⟩ : ∃ a, zs.getD 3 0 = a := ⟨_, rfl⟩
  obtain ⟨a4, h4⟩ : ∃ a, zs.getD 4 0 = a := ⟨_, rfl⟩
  obtain ⟨a5, h5⟩ : ∃ a, zs.getD 5 0 = a := ⟨_, rfl⟩
  have z0 := hz 0 (by omega); have z1 := hz 1 (by omega); have z2 := hz 2 (by omega); have z3 := hz 3 (by omega); have z4 := hz 4 (by omega); have z5 := hz 5 (by omega)
  have b0 := hbd 0; have b1 := hbd 1; have b2 := hbd 2; have b3 := hbd 3; have b4 := hbd 4; have b5 := hbd 5
  rw [h0] at z0 b0 ⊢; rw [h1] at z1 b1 ⊢; rw [h2] at z2 b2 ⊢; rw [h3] at z3 b3 ⊢; rw [h4] at z4 b4 ⊢; rw [h5] at z5 b5 ⊢
  rw [Nat.add_zero] at z0
  clear hz hbd h0 h1 h2 h3 h4 h5
  obtain ⟨T, hT⟩ : ∃ T, gaveOr (a0 * 16777216 + a1 * 65536 + a2 * 256 + a3) (a4 * 256 + a5) = T := ⟨_, rfl⟩
  rw [hT]
  go_enter Tryd.func32, Tryd.ntmps32
  go_wp2
  go_region_held3 (fun w' => w'.cell? ⟨b, off, none⟩ = some (.int .u8 a0) ∧ w'.cell? ⟨b, off + 1, none⟩ = some (.int .u8 a1) ∧ w'.cell? ⟨b, off + 2, none⟩ = some (.int .u8 a2) ∧ w'.cell? ⟨b, off + 3, none⟩ = some (.int .u8 a3) ∧ w'.cell? ⟨b, off + 4, none⟩ = some (.int .u8 a4) ∧ w'.cell? ⟨b, off + 5, none⟩ = some (.int .u8 a5)) (go_keep) (fail)
  have u0 : IntKind.u32.wrap a0 = a0 := by rw [IntKind.wrap_u32]; omega
  have u1 : IntKind.u32.wrap a1 = a1 := by rw [IntKind.wrap_u32]; omega
  have u2 : IntKind.u32.wrap a2 = a2 := by rw [IntKind.wrap_u32]; omega
  have u3 : IntKind.u32.wrap a3 = a3 := by rw [IntKind.wrap_u32]; omega
  have p0 : IntKind.u32.wrap (a0 * 16777216) = a0 * 16777216 := by rw [IntKind.wrap_u32]; omega
  have p1 : IntKind.u32.wrap (a1 * 65536) = a1 * 65536 := by rw [IntKind.wrap_u32]; omega
  have p2 : IntKind.u32.wrap (a2 * 256) = a2 * 256 := by rw [IntKind.wrap_u32]; omega
  have s1 : IntKind.u32.wrap (a0 * 16777216 + a1 * 65536) = a0 * 16777216 + a1 * 65536 := by rw [IntKind.wrap_u32]; omega
  have s2 : IntKind.u32.wrap (a0 * 16777216 + a1 * 65536 + a2 * 256) = a0 * 16777216 + a1 * 65536 + a2 * 256 := by rw [IntKind.wrap_u32]; omega
  have s3 : IntKind.u32.wrap (a0 * 16777216 + a1 * 65536 + a2 * 256 + a3) = a0 * 16777216 + a1 * 65536 + a2 * 256 + a3 := by rw [IntKind.wrap_u32]; omega
  have i4 : IntKind.i64.wrap a4 = a4 := by rw [IntKind.wrap_i64]; omega
  have i5 : IntKind.i64.wrap a5 = a5 := by rw [IntKind.wrap_i64]; omega
  have j4 : IntKind.i64.wrap (a4 * 256) = a4 * 256 := by rw [IntKind.wrap_i64]; omega
  have j5 : IntKind.i64.wrap (a4 * 256 + a5) = a4 * 256 + a5 := by rw [IntKind.wrap_i64]; omega
  simp only [u0, u1, u2, u3, p0, p1, p2, s1, s2, s3, i4, i5, j4, j5]
  have hH : 0 ≤ a0 * 16777216 + a1 * 65536 + a2 * 256 + a3 ∧ a0 * 16777216 + a1 * 65536 + a2 * 256 + a3 < 4294967296 := by omega
  clear u0 u1 u2 u3 p0 p1 p2 s1 s2 s3 i4 i5 j4 j5
  generalize a0 * 16777216 + a1 * 65536 + a2 * 256 + a3 = H at *
  generalize a4 * 256 + a5 = P at *
  obtain ⟨W0, hW0⟩ : ∃ W0, ((w.alloc (.cells #[.int .u32 0, .int .i64 0] 45)).alloc (.cells #[.int .u32 H, .int .i64 P] 45)).drew = W0 := ⟨_, rfl⟩
  have hS := six_start2 w W0 H P hW0
  rw [hW0]
  clear hW0 z0 z1 z2 z3 z4 z5 b0 b1 b2 b3 b4 b5
  have HM := Lib.hid (fun W => rmay_any H P W hH.1 hH.2)
  unfold adr at HM
  have HS2 := Lib.hid hS
  have d0 := (cells_of hS.c1 0).1
  have d1 := (cells_of hS.c1 1).1
  simp at d0 d1
  clear hS
  cases hm : mayA H P with
  | true =>
    rw [hm] at HM
    have HG : Hid (T = gaveA H P) := Lib.hid (by rw [← hT]; unfold gaveOr; rw [if_pos hm])
    clear hm hT
    go_wp2_with fail
    refine (HM.out _).mono ?_
    rintro e w1 ⟨rfl, hb1⟩
    have hS1 := HS2.out.later hb1
    have HS1 := Lib.hid hS1
    have d0 := (cells_of hS1.c1 0).1
    have d1 := (cells_of hS1.c1 1).1
    have e0 := (cells_of hS1.c0 0).1
    have e1 := (cells_of hS1.c0 1).1
    have g0 := (cells_of hS1.c0 0).2
    have g1 := (cells_of hS1.c0 1).2
    simp at d0 d1 e0 e1
    clear hS1 hb1
    go_wp2
    have q := HS1.out.store (.int .u32 H) (.int .i64 P)
    refine ⟨rfl, gaveA H P, by simp [results, Tryd.results32, go_sem, gaveA, adr, q.1, q.2.1], by rw [HG.out], q.2.2⟩
  | false =>
    rw [hm] at HM
    have HG : Hid (T = refusedA) := Lib.hid (by rw [← hT]; unfold gaveOr; rw [if_neg (by rw [hm]; simp)])
    clear hm hT
    go_wp2_with fail
    refine (HM.out _).mono ?_
    rintro e w1 ⟨rfl, hb1⟩
    have hS1 := HS2.out.later hb1
    have HS1 := Lib.hid hS1
    have e0 := (cells_of hS1.c0 0).1
    have e1 := (cells_of hS1.c0 1).1
    have g0 := (cells_of hS1.c0 0).2
    have g1 := (cells_of hS1.c0 1).2
    simp at e0 e1
    clear hS1 hb1
    go_wp2
    have q := HS1.out.store (.int .u32 0) (.int .i64 0)
    refine ⟨rfl, refusedA, by simp [results, Tryd.results32, go_sem, refusedA, adr, q.1, q.2.1], by rw [HG.out], q.2.2⟩
end Go.Proofs.YtebgfiibcmnfnaaDoor
