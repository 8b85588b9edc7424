/-
  A law of the box: as many bindings are there as may be, or as there are ports, and then none more; behind a reboot all begins anew. Conditions: none.
-/
import Derived.Test.YtcfbnepcinlheaaAlw
import Derived.Test.YtcfbnepcinlheaaFul
import Derived.Test.YtcfbnepcinlheaaRows
import Derived.WalkKit
import Derived.ProofKit
import Derived.OpenShut
import Derived.ShutString
import Derived.ChangeOld
import Derived.Below
namespace Go.Proofs.Ytcfbnepcinlheaa.natFull
open Go.ChangeShapes Go.WideShapes Go.ChangeAt Go.RowKit
open Go.ChangeMaps (open_string shut_string)
set_option linter.unusedVariables false

theorem own : ownKnob Try.prog.godebug = none := by kernel_rfl
theorem laidOut : laidOutB Try.prog = true := by kernel_rfl

set_option maxRecDepth 100000 in
set_option maxHeartbeats 8000000 in
theorem walk (a0 : Int) (a1 : Int) (v2 : Value) (s2 : A2) (w : World) (w0 : (Lit.int .u8 a0).wf = true) (w1 : (Lit.int .u8 a1).wf = true) (w2 : IsAdr w v2 s2) :
    Calls Try.prog 7 #[.int .u8 a0, .int .u8 a1, v2] w fun e w' => e = .returned (.bool true) ∧ Below w.heap.size w w' := by
  obtain ⟨q0, q1⟩ := bounds_u8 w0
  obtain ⟨q2, q3⟩ := bounds_u8 w1
  obtain ⟨m, rfl⟩ := Int.eq_ofNat_of_zero_le q0
  obtain ⟨p, rfl⟩ := Int.eq_ofNat_of_zero_le q2
  obtain ⟨rfl, hb⟩ := w2
  have HB := Lib.hid hb
  obtain ⟨b, hb2⟩ : ∃ b, b = s2 := ⟨_, rfl⟩
  rw [← hb2] at HB ⊢
  clear hb hb2 w0 w1
  have hg38 := noGuard38
  have H25 := Lib.hid (fun W => box25 0 (by omega) W)
  have hs0 := (Hs.nil w).box #[.int .u32 b.1, .int .i64 b.2] 38 rfl
  unfold adr
  go_enter Try.func7, Try.ntmps7
  go_wp2_with fail
  refine (awake_any _).mono ?_
  rintro e w1 ⟨rfl, hb1⟩
  have hs1 := hs0.below hb1
  clear hs0 hb1
  go_wp2_with fail
  refine (H25.out _).mono ?_
  rintro e w2 ⟨rfl, hb2⟩
  have hs2 := hs1.below hb2
  clear hs1 hb2
  unfold boxCells bxC
  have hs3 := hs2.box (boxCells (bxF m p)) 24 rfl
  have hN := new_hs (bxF m p) (bxF_is m p) (bxF_2 m p) hs3
  obtain ⟨x, hx⟩ : ∃ x, x = bxF m p := ⟨_, rfl⟩
  have HOK : Hid (OkB x) := Lib.hid (by rw [hx]; exact bxF_ok m p)
  have HLIFE : Hid (x.life = 30) := Lib.hid (by rw [hx]; rfl)
  have HM : Hid (x.most = 1 + (m : Int) % 12) := Lib.hid (by rw [hx]; rfl)
  have HPT : Hid (ports x = p % 12 + 1) := Lib.hid (by rw [hx]; unfold ports bxF; dsimp only; omega)
  obtain ⟨k, hk⟩ : ∃ k : Nat, k = min (1 + m % 12) (p % 12 + 1) := ⟨_, rfl⟩
  have hkz : min (1 + (m : Int) % 12) (40000 + (p : Int) % 12 - 40000 + 1) = (k : Int) := by rw [hk]; omega
  have hk12 : k ≤ 12 := by rw [hk]; omega
  have HK1 : Hid ((k : Int) ≤ x.most) := Lib.hid (by rw [HM.out, hk]; omega)
  have HK2 : Hid (k ≤ ports x) := Lib.hid (by rw [HPT.out, hk]; omega)
  have HK3 : Hid ((k : Int) = x.most ∨ k = ports x) := Lib.hid (by rw [HM.out, HPT.out, hk]; omega)
  clear hs2 hs3 hk
  unfold boxCells at hN
  have e1 : (bxF m p).host = 3405803777 := rfl
  unfold bxF at hN
  dsimp only at hN
  clear e1
  go_wp2_with fail
  refine hN.mono ?_
  rintro e V ⟨g, rfl, hp⟩
  have hp : Pl w g x 0 [] [(w2.heap.size, .cells (boxCells x) 24 (0, 0)), (w.heap.size, .cells #[.int .u32 b.1, .int .i64 b.2] 38 (0, 0))] V := by rw [hx]; exact hp
  have HP := Lib.hid hp
  have c1 : V.cell? ⟨w2.heap.size, 1, none⟩ = some (.int .i64 40000) := by
    have := (cells_of (hp.held (w2.heap.size, .cells (boxCells x) 24 (0, 0)) (by simp)) 1).1
    rw [hx] at this; exact this
  have c2 : V.cell? ⟨w2.heap.size, 2, none⟩ = some (.int .i64 (40000 + (p : Int) % 12)) := by
    have := (cells_of (hp.held (w2.heap.size, .cells (boxCells x) 24 (0, 0)) (by simp)) 2).1
    rw [hx] at this; exact this
  have c6 : V.cell? ⟨w2.heap.size, 6, none⟩ = some (.int .i64 (1 + (m : Int) % 12)) := by
    have := (cells_of (hp.held (w2.heap.size, .cells (boxCells x) 24 (0, 0)) (by simp)) 6).1
    rw [hx] at this; exact this
  clear hN hp hx
  go_wp2
  go_loopw [11] (fun rv wr => ∃ r : Nat, r ≤ 2 ∧ rv = .int .i64 (r : Int) ∧ Hid (Pl w g x 0 [] [(w2.heap.size, .cells (boxCells x) 24 (0, 0)), (w.heap.size, .cells #[.int .u32 b.1, .int .i64 b.2] 38 (0, 0))] wr)) (fun rv _ => 2 - (intOf rv).toNat)
  case atStart => exact ⟨0, by omega, rfl, HP⟩
  case round =>
    obtain ⟨r, hr, rfl, HPR⟩ := hrel
    by_cases hr2 : r < 2
    · have hrz : (r : Int) < 2 := by omega
      go_wp2
      go_loopw [12] (fun iv wi => ∃ (i : Nat) (M : List Bn), i ≤ 14 ∧ iv = .int .i64 (i : Int) ∧ Hid (Fl x i k M) ∧ Hid (Pl w g x 0 M [(w2.heap.size, .cells (boxCells x) 24 (0, 0)), (w.heap.size, .cells #[.int .u32 b.1, .int .i64 b.2] 38 (0, 0))] wi)) (fun iv _ => 14 - (intOf iv).toNat)
      case atStart => exact ⟨0, [], by omega, rfl, Lib.hid (Fl.nil x k), HPR⟩
      case round =>
        obtain ⟨i, M, hi, rfl, HF, HPI⟩ := hrel
        by_cases hi2 : i < 14
        · have hiz : (i : Int) < 14 := by omega
          have d0 := (cells_of (HPI.out.held (w.heap.size, .cells #[.int .u32 b.1, .int .i64 b.2] 38 (0, 0)) (by simp)) 0).1
          have d1 := (cells_of (HPI.out.held (w.heap.size, .cells #[.int .u32 b.1, .int .i64 b.2] 38 (0, 0)) (by simp)) 1).1
          change _ = some (Value.int .u32 b.1) at d0
          change _ = some (Value.int .i64 b.2) at d1
          have hma : mayA (((1 : Int) + (i : Int)), (9 : Int)) = true := by rw [mayA_iff]; dsimp only; omega
          have hia : isA (((1 : Int) + (i : Int)), (9 : Int)) := ⟨⟨by dsimp only; omega, by dsimp only; omega⟩, by simp, by simp⟩
          have HC := Lib.hid (out_pl HPI.out HOK.out (HF.out.ok (by omega)) 0 (((1 : Int) + (i : Int)), (9 : Int)) b hia HB.out (by decide))
          by_cases hmb : mayA b = true
          · by_cases hik : i < k
            · have hikz : (i : Int) < (k : Int) := by omega
              obtain ⟨M', rr, hS, hF2⟩ := full_yes HOK.out HLIFE.out HK1.out HK2.out HF.out hik (((1 : Int) + (i : Int)), (9 : Int)) (by dsimp only; omega) hma hmb
              rw [hS] at HC
              have HF2 := Lib.hid hF2
              unfold ansA adr at HC
              dsimp only at HC
              clear hS hF2 hma hia hmb
              go_wp2_with fail
              refine HC.out.mono ?_
              rintro e W2 ⟨rfl, hp2⟩
              have HP2 := Lib.hid (hp2.alloc (.cells #[.int .u32 rr.1, .int .i64 rr.2] 38))
              clear hp2 HC d0 d1
              go_wp2
              go_roundw
              case rel => exact ⟨i + 1, M', by omega, by go_num, HF2, HP2⟩
              case measure => simp [intOf]; omega
            · have hikz : ¬ (i : Int) < (k : Int) := by omega
              obtain ⟨hS, hF2⟩ := full_no HOK.out HK3.out HF.out (by omega) (((1 : Int) + (i : Int)), (9 : Int)) (by dsimp only; omega) hma hmb
              rw [hS] at HC
              have HF2 := Lib.hid hF2
              unfold ansA adr at HC
              dsimp only at HC
              clear hS hF2 hma hia hmb
              go_wp2_with fail
              refine HC.out.mono ?_
              rintro e W2 ⟨rfl, hp2⟩
              have HP2 := Lib.hid (hp2.alloc (.cells #[.int .u32 0, .int .i64 0] 38))
              clear hp2 HC d0 d1
              go_wp2
              go_roundw
              case rel => exact ⟨i + 1, M, by omega, by go_num, HF2, HP2⟩
              case measure => simp [intOf]; omega
          · have hbad := full_bad (x := x) (M := M) (a := (((1 : Int) + (i : Int)), (9 : Int))) (b := b) (fun h => hmb h.2)
            rw [hbad.1, hbad.2] at HC
            unfold ansA adr at HC
            dsimp only at HC
            clear hbad hma hia hmb
            go_wp2_with fail
            refine HC.out.mono ?_
            rintro e W2 ⟨rfl, hp2⟩
            have HP2 := Lib.hid (hp2.alloc (.cells #[.int .u32 0, .int .i64 0] 38)).low
            clear hp2 HC d0 d1
            go_wp2
            go_ret
            exact ⟨rfl, HP2.out⟩
        · have hiz : ¬ (i : Int) < 14 := by omega
          obtain rfl : i = 14 := by omega
          have HC := Lib.hid (all_pl HPI.out (HF.out.ok (by omega)) 0 (by decide))
          have HLN : Hid (M.length = k) := Lib.hid (by have := HF.out.len; omega)
          go_wp2_with fail
          refine HC.out.mono ?_
          rintro e W2 ⟨⟨v, l', rfl, hpm, -, ⟨A, c, rfl, -⟩⟩, hp2⟩
          have hll : l'.length = k := by rw [hpm.length_eq, HF.out.live]; exact HLN.out
          have HR := Lib.hid (reboot_pl hp2)
          rw [hll]
          clear hp2 hpm hll HC
          go_wp2_with fail
          refine HR.out.mono ?_
          rintro e W3 ⟨rfl, hp3⟩
          have HP3 := Lib.hid hp3
          clear hp3 HR
          go_wp2
          go_roundw
          case rel => exact ⟨r + 1, by omega, by go_num, HP3⟩
          case measure => simp [intOf]; omega
    · have hrz : ¬ (r : Int) < 2 := by omega
      have HC := Lib.hid (all_pl HPR.out ok_nil 0 (by decide))
      go_wp2_with fail
      refine HC.out.mono ?_
      rintro e W2 ⟨⟨v, l', rfl, hpm, -, ⟨A, c, rfl, -⟩⟩, hp2⟩
      have hll : l'.length = 0 := hpm.length_eq
      rw [hll]
      have HLOW := Lib.hid hp2.low
      clear hp2 hpm hll HC
      go_wp2
      go_ret
      exact ⟨rfl, HLOW.out⟩

/-! ### THE ROW's STEP: WRITTEN OUT: LEAVE IT -/
set_option maxRecDepth 100000 in
theorem lifted (os : Os) (started : os.Started) (H : Type) (enc : TypeId × Value → H) :
    ReturnsInHanded {} Try.checked os 7 .any (Rows.natFullSpec.pre6 enc Try.prog Try.f7 Rows.natFullRow.domain false) (Rows.natFullSpec.post enc Try.prog Try.f7 false true false false) := by
  refine returnsInHanded_of_change (C := Try.checked) own started (by kernel_rfl) Try.func7
    (ChangeSpec.witness6 (enc := enc) (C := Try.checked) false ⟨#[], #[.int .u8 0, .int .u8 0, .agg #[.int .u32 0, .int .i64 0]], []⟩ 8 (by kernel_rfl) (by kernel_rfl) (by kernel_rfl) (by kernel_rfl)) ?_
  intro W base args ds gs before hval0 hW hcnd _
  have hval : ∀ (j : Nat) t v, Try.f7.params[j]? = some t → args[j]? = some v → Value.okWide Try.prog W .any base t v := hval0
  have hW' := hW
  obtain ⟨p, q, hA0, hV, rfl, hfz, hnd⟩ := hW
  have hA : DataW.TrodAll enc Try.prog W 0 (fun _ => true) true Try.f7.params.toList args.toList ds p := hA0
  rw [Try.params7] at hA hval
  obtain ⟨v0, vs0, d0, ds0, p0, q0, hargs, rfl, rfl, h0, r0⟩ := trodAll_cons hA
  obtain ⟨v1, vs1, d1, ds1, p1, q1, rfl, rfl, rfl, h1, r1⟩ := trodAll_cons r0
  obtain ⟨v2, vs2, d2, ds2, p2, q2, rfl, rfl, rfl, h2, r2⟩ := trodAll_cons r1
  obtain ⟨rfl, rfl, rfl⟩ := trodAll_nil r2
  obtain rfl : args = #[v0, v1, v2] := by cases args; simp_all
  obtain ⟨rfl, rfl⟩ := trodVars_none hV
  obtain ⟨a0, rfl, rfl, rfl, w0⟩ := open_int Try.underlying5 (hval 0 5 v0 rfl rfl) h0
  obtain ⟨a1, rfl, rfl, rfl, w1⟩ := open_int Try.underlying5 (hval 1 5 v1 rfl rfl) h1
  have k2 := h2
  have lt2 : ∀ x ∈ p2, x.block < W.heap.size := by obtain ⟨m, hm⟩ := k2; exact DataW.trod_lt m _ _ _ hm
  obtain ⟨s2, w2⟩ := open_adr (hval 2 38 v2 rfl rfl) h2
  clear hA0 hval0
  refine (walk a0 a1 v2 s2 W w0 w1 w2).mono fun e W' ⟨he, bel⟩ => ?_
  subst he
  exact ⟨_, rfl, _, _, _, [], _, [], hW', trodAll_mk1 (shut_bool Try.underlying4 _), (trodAll_cons_mk (shut_int Try.underlying5 w0) (trodAll_cons_mk (shut_int Try.underlying5 w1) (trodAll_cons_mk (Below.trod laidOut (by kernel_rfl) (of_decide_eq_true (by kernel_rfl)) k2 bel lt2) trodAll_mk0))), rfl, bel.frame _, fun h => by cases h⟩

theorem over : Rows.natFullRow.holds Try.pinned (OpenSpec.ofChange Rows.natFullSpec) :=
  OpenClaim.holds_of_wide 7 Try.f7 rfl rfl rfl rfl rfl rfl rfl ⟨rfl, rfl, rfl, rfl, rfl⟩ rfl rfl rfl rfl rfl (by kernel_rfl) Try.func7 (by kernel_rfl)
    (of_decide_eq_true (by kernel_rfl)) (by unfold Func.isWrapper; first | (rw [if_pos (by decide +kernel)]; kernel_rfl) | (rw [if_neg (by decide +kernel)]; exact ⟨rfl, rfl⟩))
    (fun os started H enc _ => lifted os started H enc)

/-- ████ THE STATEMENT ████ -/
theorem proved : Rows.NatFullSaid := over
#print axioms proved
end Go.Proofs.Ytcfbnepcinlheaa.natFull
