/-
  The statement DueAgain holds: a name has the time that it was set to last, and one alone; dropped it is never told; behind all that are due are told none is. Conditions: none beyond the row's own.
-/
import Derived.Test.YtahccfljgmleiaaAgnIn
import Derived.Test.YtahccfljgmleiaaRows
import Derived.WalkKit
import Derived.ProofKit
import Derived.OpenShut
import Derived.ShutString
import Derived.ChangeOld
import Derived.Below
namespace Go.Proofs.Ytahccfljgmleiaa.dueAgain
open Go.ChangeShapes Go.WideShapes Go.ChangeAt Go.RowKit
open Go.ChangeMaps (open_string shut_string)
set_option linter.unusedVariables false

theorem own : ownKnob Try.prog.godebug = none := by kernel_rfl
theorem laidOut : laidOutB Try.prog = true := by kernel_rfl

attribute [local go_sem] Oper.semAt_some
open Go.Shelf
def timeN (n : Nat) (zs : List Int) (i : Nat) : Int := zs.getD (i % n) 0
set_option maxRecDepth 100000 in
set_option maxHeartbeats 4000000 in
theorem walk (v0 : Value) (s0 : List Ky) (v1 : Value) (s1 : List Int) (a2 : Int) (w : World) (w0 : IsNms w v0 s0) (w1 : IsTms w v1 s1) (w2 : (Lit.int .u8 a2).wf = true) :
    Calls Try.prog 5 #[v0, v1, .int .u8 a2] w fun e w' => e = .returned (.bool true) ∧ Below w.heap.size w w' := by
  obtain ⟨A0, c0, rfl, hN, hlc, hcm⟩ := w0
  obtain ⟨A1, n1, c1, rfl, hU, hlc1, hcm1⟩ := w1
  obtain ⟨d0, d1⟩ := bounds_u8 w2
  clear w2
  obtain ⟨n0, hn0⟩ : ∃ n0, n0 = s0.length := ⟨_, rfl⟩
  have HL := Lib.hid hn0
  rw [← hn0] at hlc ⊢
  unfold maxLen at hcm hcm1
  have HU := Lib.hid hU; have HN := Lib.hid hN
  have hx : ∀ i, 0 ≤ timeN n1 s1 i ∧ timeN n1 s1 i ≤ 65535 := fun i => by have := hU.bd (i % n1); unfold timeN; omega
  have HX := Lib.hid hx
  have mixed : Try.prog.follows .mixedOrders = true := follows
  clear hU hN hx hn0
  refine (callsIn_wide (n := 8)).1 ?_
  refine callsIn_of_wp_marks Try.func5 rfl trivial ?_ rfl
  refine wpIn_wide.2 ?_
  simp only [Try.ntmps5, List.size_toArray, List.length_cons, List.length_nil, Nat.reduceSub, Nat.reduceAdd, Array.replicate_succ, Array.replicate_zero, List.push_toArray, List.append_toArray, List.nil_append, List.cons_append]
  go_wp2_with fail
  refine (awake_any _).mono ?_
  rintro e w1 ⟨rfl, hb⟩
  have h0 : Boxed w1 w.heap.size 4 (.bool false) := bx_after (Boxed.new w 4 (.bool false)) hb (by simp)
  have HB1 : Hid (Below w.heap.size w w1) := Lib.hid (((Below.refl _ w).alloc (Nat.le_refl _) _).trans (hb.mono (by simp)))
  have hz1 : w.heap.size < w1.heap.size := h0.lt
  have HC1 := Lib.hid h0
  clear hb h0
  by_cases hbig : n0 ≤ 60 ∧ ¬ n1 = 0
  · obtain ⟨hbig, hz⟩ := hbig
    have l0 : decide ((60 : Int) < (n0 : Int)) = false := by simp; omega
    have l1 : ((n1 : Int) == 0) = false := by simp; omega
    have l1' : ¬ (n1 : Int) = 0 := by omega
    go_wp2_with fail
    refine (new_any _).mono ?_
    rintro e w2 ⟨rfl, hD, hb⟩
    obtain ⟨tb, htb⟩ : ∃ tb, tb = w1.heap.size + 1 := ⟨_, rfl⟩
    obtain ⟨bm, hbm⟩ : ∃ bm, bm = w1.heap.size := ⟨_, rfl⟩
    have HB2 : Hid (Below w.heap.size w w2) := Lib.hid (HB1.out.trans (hb.mono HB1.out.size))
    have HC2 := Lib.hid (bx_after HC1.out hb hz1)
    rw [← htb, ← hbm] at hD
    rw [← htb]
    have HBW := Lib.hid (show w.heap.size < bm ∧ w.heap.size < tb ∧ bm ≠ tb by omega)
    have HD2 := Lib.hid hD
    clear hb hD htb hbm HC1 HB1
    go_wp2
    go_loopw [8, 9, 10] (fun i _ _ wr => ∃ k : Nat, k ≤ n0 ∧ i = .int .i64 k ∧ Du wr tb bm (tabN s0 (timeN n1 s1) k) ∧ Boxed wr w.heap.size 4 (.bool false) ∧ Below w.heap.size w wr) (fun i _ _ _ => n0 - (intOf i).toNat)
    case atStart => exact ⟨0, by omega, rfl, HD2.out, HC2.out, HB2.out⟩
    case round =>
      obtain ⟨k, hk, rfl, hD, hC, hB⟩ := hrel
      have HD := Lib.hid hD; have HC := Lib.hid hC; have HB := Lib.hid hB; clear hD hC hB
      by_cases hlt : k < n0
      · obtain ⟨b, off, rfl, hb, hc⟩ := HN.out.cells (by have := HL.out; omega)
        obtain ⟨x, hx⟩ : ∃ x, s0[k]? = some x := ⟨_, List.getElem?_eq_getElem (by have := HL.out; omega)⟩
        have hcx := (cell_below (a := ⟨b, off + k, none⟩) HB.out hb).trans (hc k x hx)
        obtain ⟨b1, off1, rfl, hb1, hc1⟩ := HU.out.cells (by omega)
        obtain ⟨u, hu, hu2⟩ : ∃ u : Nat, (k : Int).tmod (n1 : Int) = (u : Int) ∧ u = k % n1 := ⟨k % n1, by rw [Int.tmod_eq_emod_of_nonneg (by omega)]; omega, rfl⟩
        have hu3 : u < n1 := by rw [hu2]; exact Nat.mod_lt _ (by omega)
        have hu4 : (k : Int) % (n1 : Int) = (u : Int) := by rw [hu2]; omega
        have hcu := (cell_below (a := ⟨b1, off1 + u, none⟩) HB.out hb1).trans (hc1 u hu3)
        obtain ⟨t, ht⟩ : ∃ t, t = s1.getD u 0 := ⟨_, rfl⟩
        have ht3 : 0 ≤ t ∧ t ≤ 65535 := by rw [ht]; exact HU.out.bd u
        rw [← ht] at hcu
        have HT2 : Hid (timeN n1 s1 k = t) := Lib.hid (by unfold timeN; rw [← hu2, ht])
        have HKX := Lib.hid hx
        have HS : Hid (∀ W W' : World, Keeps (· = bm) W W' → w.heap.size ≤ W.heap.size → (W.cell? ⟨b, off + k, none⟩ = some (.string (str x)) ∧ W.cell? ⟨b1, off1 + u, none⟩ = some (.int .u16 t)) → (W'.cell? ⟨b, off + k, none⟩ = some (.string (str x)) ∧ W'.cell? ⟨b1, off1 + u, none⟩ = some (.int .u16 t))) := Lib.hid (fun W W' hk hw h => by
          have hbm := HBW.out.1
          exact ⟨(World.cell?_of_block (w := W) (a := ⟨b, off + k, none⟩) (hk.block b (Nat.lt_of_lt_of_le hb hw) (by show ¬ b = bm; omega))).trans h.1, (World.cell?_of_block (w := W) (a := ⟨b1, off1 + u, none⟩) (hk.block b1 (Nat.lt_of_lt_of_le hb1 hw) (by show ¬ b1 = bm; omega))).trans h.2⟩)
        clear hc hc1 ht hu2 hx
        by_cases hsz : (str x).size ≤ 60
        · have l2 : decide ((60 : Int) < ((str x).size : Int)) = false := by simp; omega
          have hln : (k : Int) < (n0 : Int) := by omega
          have hun : (u : Int) < (n1 : Int) := by omega
          have h00 : (0 : Int) ≤ (k : Int) := by omega
          have h01 : (0 : Int) ≤ (u : Int) := by omega
          have hwt : IntKind.i64.wrap t = t := by
            simp [IntKind.wrap, IntKind.signed, IntKind.bits] <;> omega
          have HD3 : Hid (Du wr.drew tb bm (tabN s0 (timeN n1 s1) k)) := Lib.hid (HD.out.after ((Below.refl _ wr).drew))
          have HBB : Hid (w.heap.size ≤ wr.drew.heap.size) := Lib.hid HB.out.size
          go_wp2_with fail
          refine Code.wp_mono (Q := Only _) Only.all ?_
          refine wp_region_held_drew (S := fun W => W.cell? ⟨b, off + k, none⟩ = some (.string (str x)) ∧ W.cell? ⟨b1, off1 + u, none⟩ = some (.int .u16 t)) (by kernel_rfl) ⟨hcx, hcu⟩ (fun hHeld => ?_)
          refine wpAnyH_take (i := 0) (oi := _) (v := ?_) rfl (by kernel_rfl) (by kernel_rfl) (by kernel_rfl) (fun _ _ _ h => h) (Or.inl ⟨by rfl, ?_⟩) (by assumption) ?_
          case refine_2 => intro w hSw; (try dsimp only at hSw); go_simp; first | done | (with_reducible rfl)
          try simp only [Act.put, List.getElem_toArray, List.getElem_cons_zero, List.setIfInBounds_toArray, List.set_cons_zero, List.set_cons_succ]
          refine wpAnyH_take (i := 1) (oi := _) (v := ?_) rfl (by kernel_rfl) (by kernel_rfl) (by kernel_rfl) (fun _ _ _ h => h) (Or.inl ⟨by rfl, ?_⟩) (by assumption) ?_
          case refine_2 => intro w hSw; (try dsimp only at hSw); go_simp; first | done | (with_reducible rfl)
          try simp only [Act.put, List.getElem_toArray, List.getElem_cons_zero, List.getElem_cons_succ, List.setIfInBounds_toArray, List.set_cons_zero, List.set_cons_succ]
          refine wpAnyH_take (i := 2) (oi := _) (v := ?_) rfl (by kernel_rfl) (by kernel_rfl) (by kernel_rfl) (fun _ _ _ h => h) (Or.inl ⟨by rfl, ?_⟩) (by assumption) ?_
          case refine_2 => intro w hSw; (try dsimp only at hSw); go_simp; first | done | (with_reducible rfl)
          try simp only [Act.put, List.getElem_toArray, List.getElem_cons_zero, List.getElem_cons_succ, List.setIfInBounds_toArray, List.set_cons_zero, List.set_cons_succ]
          refine wpAnyH_take (i := 3) (oi := _) (v := ?_) rfl (by kernel_rfl) (by kernel_rfl) (by kernel_rfl) (fun _ _ _ h => h) (Or.inl ⟨by rfl, ?_⟩) (by assumption) ?_
          case refine_2 => intro w hSw; (try dsimp only at hSw); go_simp; first | done | (with_reducible rfl)
          try simp only [Act.put, List.getElem_toArray, List.getElem_cons_zero, List.getElem_cons_succ, List.setIfInBounds_toArray, List.set_cons_zero, List.set_cons_succ]
          refine wpAnyH_take (i := 4) (oi := _) (v := ?_) rfl (by kernel_rfl) (by kernel_rfl) (by kernel_rfl) (fun _ _ _ h => h) (Or.inl ⟨by rfl, ?_⟩) (by assumption) ?_
          case refine_2 => intro w hSw; (try dsimp only at hSw); go_simp; first | done | (with_reducible rfl)
          try simp only [Act.put, List.getElem_toArray, List.getElem_cons_zero, List.getElem_cons_succ, List.setIfInBounds_toArray, List.set_cons_zero, List.set_cons_succ]
          refine wpAnyH_ready (rs := [5]) (by kernel_rfl) (by simp) ?_
          refine AllReadyH.cons rfl (fun K hK => ?_) AllReadyH.nil
          go_simp
          go_at_call 11
          refine (agn_set1 HX.out k (by omega) x tb bm _ HD3.out).mono ?_
          rintro e w4 ⟨rfl, hD4, hk4⟩
          have HD4 := Lib.hid hD4; have HK4 := Lib.hid hk4
          have hS4 := HS.out _ _ hk4 HBB.out hHeld
          clear hD4 hk4
          refine hK.out _ _ hS4 (fun hHeld => ?_)
          clear hK K
          try simp only [Act.put, List.getElem_toArray, List.getElem_cons_zero, List.getElem_cons_succ, List.setIfInBounds_toArray, List.set_cons_zero, List.set_cons_succ]
          refine wpAnyH_take (i := 6) (oi := _) (v := ?_) rfl (by kernel_rfl) (by kernel_rfl) (by kernel_rfl) (fun _ _ _ h => h) (Or.inl ⟨by rfl, ?_⟩) (by assumption) ?_
          case refine_2 => intro w hSw; (try dsimp only at hSw); go_simp; first | done | (with_reducible rfl)
          try simp only [Act.put, List.getElem_toArray, List.getElem_cons_zero, List.getElem_cons_succ, List.setIfInBounds_toArray, List.set_cons_zero, List.set_cons_succ]
          refine wpAnyH_take (i := 7) (oi := _) (v := ?_) rfl (by kernel_rfl) (by kernel_rfl) (by kernel_rfl) (fun _ _ _ h => h) (Or.inl ⟨by rfl, ?_⟩) (by assumption) ?_
          case refine_2 => intro w hSw; (try dsimp only at hSw); go_simp; first | done | (with_reducible rfl)
          try simp only [Act.put, List.getElem_toArray, List.getElem_cons_zero, List.getElem_cons_succ, List.setIfInBounds_toArray, List.set_cons_zero, List.set_cons_succ]
          refine wpAnyH_take (i := 8) (oi := _) (v := ?_) rfl (by kernel_rfl) (by kernel_rfl) (by kernel_rfl) (fun _ _ _ h => h) (Or.inl ⟨by rfl, ?_⟩) (by assumption) ?_
          case refine_2 => intro w hSw; (try dsimp only at hSw); go_simp; first | done | (with_reducible rfl)
          try simp only [Act.put, List.getElem_toArray, List.getElem_cons_zero, List.getElem_cons_succ, List.setIfInBounds_toArray, List.set_cons_zero, List.set_cons_succ]
          refine wpAnyH_take (i := 9) (oi := _) (v := ?_) rfl (by kernel_rfl) (by kernel_rfl) (by kernel_rfl) (fun _ _ _ h => h) (Or.inl ⟨by rfl, ?_⟩) (by assumption) ?_
          case refine_2 => intro w hSw; (try dsimp only at hSw); go_simp; first | done | (with_reducible rfl)
          try simp only [Act.put, List.getElem_toArray, List.getElem_cons_zero, List.getElem_cons_succ, List.setIfInBounds_toArray, List.set_cons_zero, List.set_cons_succ]
          refine wpAnyH_take (i := 10) (oi := _) (v := ?_) rfl (by kernel_rfl) (by kernel_rfl) (by kernel_rfl) (fun _ _ _ h => h) (Or.inl ⟨by rfl, ?_⟩) (by assumption) ?_
          case refine_2 => intro w hSw; (try dsimp only at hSw); go_simp; first | done | (with_reducible rfl)
          try simp only [Act.put, List.getElem_toArray, List.getElem_cons_zero, List.getElem_cons_succ, List.setIfInBounds_toArray, List.set_cons_zero, List.set_cons_succ]
          refine wpAnyH_take (i := 11) (oi := _) (v := ?_) rfl (by kernel_rfl) (by kernel_rfl) (by kernel_rfl) (fun _ _ _ h => h) (Or.inl ⟨by rfl, ?_⟩) (by assumption) ?_
          case refine_2 => intro w hSw; (try dsimp only at hSw); go_simp; first | done | (with_reducible rfl)
          try simp only [Act.put, List.getElem_toArray, List.getElem_cons_zero, List.getElem_cons_succ, List.setIfInBounds_toArray, List.set_cons_zero, List.set_cons_succ]
          refine wpAnyH_take (i := 12) (oi := _) (v := ?_) rfl (by kernel_rfl) (by kernel_rfl) (by kernel_rfl) (fun _ _ _ h => h) (Or.inl ⟨by rfl, ?_⟩) (by assumption) ?_
          case refine_2 => intro w hSw; (try dsimp only at hSw); go_simp; first | done | (with_reducible rfl)
          try simp only [Act.put, List.getElem_toArray, List.getElem_cons_zero, List.getElem_cons_succ, List.setIfInBounds_toArray, List.set_cons_zero, List.set_cons_succ]
          refine wpAnyH_take (i := 13) (oi := _) (v := ?_) rfl (by kernel_rfl) (by kernel_rfl) (by kernel_rfl) (fun _ _ _ h => h) (Or.inl ⟨by rfl, ?_⟩) (by assumption) ?_
          case refine_2 => intro w hSw; (try dsimp only at hSw); go_simp; first | done | (with_reducible rfl)
          try simp only [Act.put, List.getElem_toArray, List.getElem_cons_zero, List.getElem_cons_succ, List.setIfInBounds_toArray, List.set_cons_zero, List.set_cons_succ]
          refine wpAnyH_take (i := 14) (oi := _) (v := ?_) rfl (by kernel_rfl) (by kernel_rfl) (by kernel_rfl) (fun _ _ _ h => h) (Or.inl ⟨by rfl, ?_⟩) (by assumption) ?_
          case refine_2 => intro w hSw; (try dsimp only at hSw); go_simp; first | done | (with_reducible rfl)
          try simp only [Act.put, List.getElem_toArray, List.getElem_cons_zero, List.getElem_cons_succ, List.setIfInBounds_toArray, List.set_cons_zero, List.set_cons_succ]
          refine wpAnyH_take (i := 15) (oi := _) (v := ?_) rfl (by kernel_rfl) (by kernel_rfl) (by kernel_rfl) (fun _ _ _ h => h) (Or.inl ⟨by rfl, ?_⟩) (by assumption) ?_
          case refine_2 => intro w hSw; (try dsimp only at hSw); go_simp; first | done | (with_reducible rfl)
          try simp only [Act.put, List.getElem_toArray, List.getElem_cons_zero, List.getElem_cons_succ, List.setIfInBounds_toArray, List.set_cons_zero, List.set_cons_succ]
          refine wpAnyH_take (i := 16) (oi := _) (v := ?_) rfl (by kernel_rfl) (by kernel_rfl) (by kernel_rfl) (fun _ _ _ h => h) (Or.inl ⟨by rfl, ?_⟩) (by assumption) ?_
          case refine_2 => intro w hSw; (try dsimp only at hSw); go_simp; first | done | (with_reducible rfl)
          try simp only [Act.put, List.getElem_toArray, List.getElem_cons_zero, List.getElem_cons_succ, List.setIfInBounds_toArray, List.set_cons_zero, List.set_cons_succ]
          refine wpAnyH_take (i := 17) (oi := _) (v := ?_) rfl (by kernel_rfl) (by kernel_rfl) (by kernel_rfl) (fun _ _ _ h => h) (Or.inl ⟨by rfl, ?_⟩) (by assumption) ?_
          case refine_2 => intro w hSw; (try dsimp only at hSw); go_simp; first | done | (with_reducible rfl)
          try simp only [Act.put, List.getElem_toArray, List.getElem_cons_zero, List.getElem_cons_succ, List.setIfInBounds_toArray, List.set_cons_zero, List.set_cons_succ]
          refine wpAnyH_take (i := 18) (oi := _) (v := ?_) rfl (by kernel_rfl) (by kernel_rfl) (by kernel_rfl) (fun _ _ _ h => h) (Or.inl ⟨by rfl, ?_⟩) (by assumption) ?_
          case refine_2 => intro w hSw; (try dsimp only at hSw); go_simp; first | done | (with_reducible rfl)
          try simp only [Act.put, List.getElem_toArray, List.getElem_cons_zero, List.getElem_cons_succ, List.setIfInBounds_toArray, List.set_cons_zero, List.set_cons_succ]
          refine wpAnyH_take (i := 19) (oi := _) (v := ?_) rfl (by kernel_rfl) (by kernel_rfl) (by kernel_rfl) (fun _ _ _ h => h) (Or.inl ⟨by rfl, ?_⟩) (by assumption) ?_
          case refine_2 => intro w hSw; (try dsimp only at hSw); go_simp; first | done | (with_reducible rfl)
          try simp only [Act.put, List.getElem_toArray, List.getElem_cons_zero, List.getElem_cons_succ, List.setIfInBounds_toArray, List.set_cons_zero, List.set_cons_succ]
          refine wpAnyH_take (i := 20) (oi := _) (v := ?_) rfl (by kernel_rfl) (by kernel_rfl) (by kernel_rfl) (fun _ _ _ h => h) (Or.inl ⟨by rfl, ?_⟩) (by assumption) ?_
          case refine_2 => intro w hSw; (try dsimp only at hSw); go_simp; first | done | (with_reducible rfl)
          try simp only [Act.put, List.getElem_toArray, List.getElem_cons_zero, List.getElem_cons_succ, List.setIfInBounds_toArray, List.set_cons_zero, List.set_cons_succ]
          refine wpAnyH_ready (rs := [21]) (by kernel_rfl) (by simp) ?_
          refine AllReadyH.cons rfl (fun K hK => ?_) AllReadyH.nil
          go_simp
          go_at_call 11
          refine (agn_set2 HX.out k (by omega) x HKX.out t HT2.out tb bm _ HD4.out).mono ?_
          rintro e w5 ⟨rfl, hD5, hk5⟩
          have HD5 := Lib.hid hD5; have HK5 := Lib.hid (HK4.out.trans hk5)
          have hS5 := HS.out _ _ hk5 (by have := HBB.out; have := HK4.out.size; omega) hS4
          clear hD5 hk5
          refine hK.out _ _ hS5 (fun hHeld => ?_)
          clear hK K
          try simp only [Act.put, List.getElem_toArray, List.getElem_cons_zero, List.getElem_cons_succ, List.setIfInBounds_toArray, List.set_cons_zero, List.set_cons_succ]
          refine wpAnyH_take (i := 22) (oi := _) (v := ?_) rfl (by kernel_rfl) (by kernel_rfl) (by kernel_rfl) (fun _ _ _ h => h) (Or.inl ⟨by rfl, ?_⟩) (by assumption) ?_
          case refine_2 => intro w hSw; (try dsimp only at hSw); go_simp; first | done | (with_reducible rfl)
          try simp only [Act.put, List.getElem_toArray, List.getElem_cons_zero, List.getElem_cons_succ, List.setIfInBounds_toArray, List.set_cons_zero, List.set_cons_succ]
          refine wpAnyH_take (i := 23) (oi := _) (v := ?_) rfl (by kernel_rfl) (by kernel_rfl) (by kernel_rfl) (fun _ _ _ h => h) (Or.inl ⟨by rfl, ?_⟩) (by assumption) ?_
          case refine_2 => intro w hSw; (try dsimp only at hSw); go_simp; first | done | (with_reducible rfl)
          try simp only [Act.put, List.getElem_toArray, List.getElem_cons_zero, List.getElem_cons_succ, List.setIfInBounds_toArray, List.set_cons_zero, List.set_cons_succ]
          refine wpAnyH_done (by kernel_rfl) ?_ _
          obtain ⟨hcx5, hcu5⟩ := hS5
          have hB5 : Below w.heap.size w w5 := (HB.out.drew).trans (HK5.out.below (fun k e => by have := HBW.out; omega) HBB.out)
          have hC5 : Boxed w5 w.heap.size 4 (.bool false) := bx_keeps (bx_after HC.out ((Below.refl _ wr).drew) HC.out.lt) HK5.out (by have := HBW.out; show ¬ w.heap.size = bm; omega)
          have HB5 := Lib.hid hB5; have HC5 := Lib.hid hC5
          have hat := agn_at HX.out k (by omega) x HKX.out t HT2.out
          have HAT := Lib.hid hat
          have t5 : (t != t) = false := by simp
          clear hB5 hC5 hat hcx hcu hS4 HS
          dsimp only [Only]
          go_wp2_with fail
          refine (at_any tb bm _ x _ HD5.out).mono ?_
          rintro e v6 ⟨rfl, rfl⟩
          rw [HAT.out.1, HAT.out.2]
          go_wp2
          go_roundw
          case rel => exact ⟨k + 1, by omega, by go_num, HD5.out, HC5.out, HB5.out⟩
          case measure => simp [intOf]; omega
        · have l2 : decide ((60 : Int) < ((str x).size : Int)) = true := by simp; omega
          have c6 := HC.out.cell
          have f6 := HC.out.frozen
          have c9 := (HC.out.set (.bool true)).cell
          go_wp2
          exact ⟨.bool true, by simp [results, Try.results5, go_sem, c9], rfl, HB.out.setCell (p := ⟨w.heap.size, 0, none⟩) (Nat.le_refl _) _⟩
      · obtain rfl : k = n0 := by omega
        have hM := nt (ks := s0) HX.out k hbig
        have hMT := agn_times (ks := s0) HX.out k hbig
        by_cases hk0 : k = 0
        · subst hk0
          have l3 : decide ((0 : Int) < ((0 : Nat) : Int)) = false := by simp
          obtain ⟨wA, hwA⟩ : ∃ wA, wA = wr.alloc (.cells #[.string { data := #[] }] 9) := ⟨_, rfl⟩
          have hbA : Below wr.heap.size wr wA := by rw [hwA]; exact (Below.refl _ wr).alloc (Nat.le_refl _) _
          have HDA : Hid (Du wA tb bm []) := Lib.hid (HD.out.after hbA)
          have HGA : Hid (Boxed wA wr.heap.size 9 (.string { data := #[] })) := Lib.hid (by rw [hwA]; exact Boxed.new wr 9 _)
          have HRA : Hid (Boxed wA w.heap.size 4 (.bool false)) := Lib.hid (bx_after HC.out hbA HC.out.lt)
          have HBA : Hid (Below w.heap.size w wA) := Lib.hid (HB.out.trans (hbA.mono HB.out.size))
          have HSA : Hid ((tb < wr.heap.size ∧ bm < wr.heap.size) ∧ w.heap.size < wr.heap.size) := Lib.hid ⟨HD.out.lt, HC.out.lt⟩
          have HM : Hid ((([] : List En).length ≤ 60) ∧ (∀ e ∈ ([] : List En), e.2 ≤ 65535) ∧ (∀ e ∈ ([] : List En), ((str e.1).toList == (ByteArray.mk #[]).toList) = false)) := Lib.hid ⟨by simp, by simp, by simp⟩
          have HWA := Lib.hid hwA.symm
          clear hwA hbA hM hMT
          go_wp2_with fail
          rw [HWA.out]
          obtain ⟨M, hMM⟩ : ∃ M : List En, M = [] := ⟨_, rfl⟩
          rw [← hMM] at HDA HM
          clear hMM
          obtain ⟨G, hG⟩ : ∃ G : ByteArray, G = { data := #[] } := ⟨_, rfl⟩
          rw [← hG] at HM HGA
          clear hG
          refine (names_any tb bm M wA HDA.out).mono ?_
          rintro e w5 ⟨v5, rfl, ⟨A5, c5, rfl, hc5, _⟩, hb5⟩
          have hl5 : (namesL M).length = M.length := by unfold namesL; rw [List.length_map]
          rw [hl5] at hc5 ⊢
          obtain ⟨N, hN⟩ : ∃ N, N = M.length := ⟨_, rfl⟩
          rw [← hN] at hc5 ⊢
          have HNN := Lib.hid hN
          have HD5 := Lib.hid (HDA.out.after hb5)
          have HC5 := Lib.hid (bx_after HRA.out hb5 HRA.out.lt)
          have HG5 := Lib.hid (bx_after HGA.out hb5 HGA.out.lt)
          have HB5 := Lib.hid (HBA.out.trans (hb5.mono HBA.out.size))
          clear hb5 hl5 hN
          go_wp2_with fail
          refine (due_any _ _ _).mono ?_
          rintro e w6 ⟨rfl, rfl⟩
          go_wp2_with fail
          have h5 : Boxed (w5.alloc (.cells #[.int .i64 (N : Nat)] 3)) w5.heap.size 3 (.int .i64 (N : Nat)) := Boxed.new w5 3 _
          obtain ⟨W0, hW0⟩ : ∃ W0, W0 = (((w5.alloc (.cells #[.int .i64 (N : Nat)] 3)).alloc (.cells #[.pointer (some ⟨tb, 0, none⟩)] 25)).alloc (.cells #[.int .i64 1073741824] 3)) := ⟨_, rfl⟩
          have hb4 : Below w5.heap.size w5 W0 := by rw [hW0]; exact (((Below.refl _ w5).alloc (Nat.le_refl _) _).alloc (by simp) _).alloc (by simp; omega) _
          have hs0 : W0.heap.size = w5.heap.size + 3 := by rw [hW0]; simp
          have hlt5 := HD5.out.lt
          have hbw := HBW.out
          have hr5 := HC5.out.lt
          have hg5 := HG5.out.lt
          have hsa := HSA.out
          have HDW : Hid (Du W0 tb bm M) := Lib.hid (HD5.out.after hb4)
          have HP : Hid (Pag w w.heap.size wr.heap.size w5.heap.size G N [] W0) := Lib.hid ⟨bx_after HC5.out hb4 hr5, bx_after HG5.out hb4 hg5, by rw [hW0]; simpa using (h5.alloc (.cells #[.pointer (some ⟨tb, 0, none⟩)] 25)).alloc (.cells #[.int .i64 1073741824] 3), HB5.out.trans (hb4.mono (by omega))⟩
          have HT : Hid (W0.cell? ⟨w5.heap.size + 1, 0, none⟩ = some (.pointer (some ⟨tb, 0, none⟩))) := Lib.hid (by
            rw [hW0]
            have := ((Boxed.new (w5.alloc (.cells #[.int .i64 (N : Nat)] 3)) 25 (.pointer (some ⟨tb, 0, none⟩))).alloc (.cells #[.int .i64 1073741824] 3)).cell
            rwa [World.size_alloc] at this)
          have HN9 : Hid (W0.cell? ⟨w5.heap.size + 1 + 1, 0, none⟩ = some (.int .i64 1073741824)) := Lib.hid (by
            rw [hW0]
            have := (Boxed.new ((w5.alloc (.cells #[.int .i64 (N : Nat)] 3)).alloc (.cells #[.pointer (some ⟨tb, 0, none⟩)] 25)) 3 (.int .i64 1073741824)).cell
            rwa [World.size_alloc, World.size_alloc] at this)
          have HW := Lib.hid hW0.symm
          rw [show (((w5.alloc (.cells #[.int .i64 (N : Nat)] 3)).alloc (.cells #[.pointer (some ⟨tb, 0, none⟩)] 25)).alloc (.cells #[.int .i64 1073741824] 3)) = W0 from HW.out]
          have HS0 := Lib.hid hs0
          have hgs : ∀ g ∈ [w5.heap.size + 1, w5.heap.size + 1 + 1], g < W0.heap.size := by intro g hg; simp at hg; omega
          have HE : Hid ((w.heap.size ≠ bm ∧ w.heap.size ≠ tb ∧ wr.heap.size ≠ bm ∧ wr.heap.size ≠ tb ∧ w5.heap.size ≠ bm ∧ w5.heap.size ≠ tb) ∧ tb < W0.heap.size ∧ bm < W0.heap.size ∧ w.heap.size ≤ bm ∧ w.heap.size ≤ W0.heap.size ∧ w.heap.size < w5.heap.size ∧ wr.heap.size < w5.heap.size ∧ w.heap.size < wr.heap.size) := Lib.hid (by omega)
          have HPS : Hid (Still W0 bm (Pag w w.heap.size wr.heap.size w5.heap.size G N)) := Lib.hid (pag_still HE.out.1.1 HE.out.1.2.2.1 HE.out.1.2.2.2.2.1 HE.out.2.2.2.1 HE.out.2.2.2.2.1)
          clear h5 hb4 hs0 hW0 hlt5 hr5 hg5 hsa hbw
          refine (wpIn_wide (n := 8)).1 ?_
          apply range_stand (F := Fence.wide) (n := 8) (f := 23) (own := #[.pointer (some ⟨w5.heap.size + 1, 0, none⟩), .pointer (some ⟨w5.heap.size + 1 + 1, 0, none⟩)]) (k0 := M.length)
            ⟨rfl, by omega, trivial, enters_of Try.func23 (by kernel_rfl) rfl, due_tells 7 tb bm (w5.heap.size + 1) (w5.heap.size + 1 + 1) 1073741824 W0 HT.out HN9.out⟩ rfl (Below.refl _ _) hgs (fun _ => rfl)
            (JS tb bm 1073741824 M (Pag w w.heap.size wr.heap.size w5.heap.size G N)) (MS tb bm 1073741824 M (Pag w w.heap.size wr.heap.size w5.heap.size G N)) (fun _ _ => False)
            (loop_adm HPS.out HE.out.2.2.1) (loop_own HPS.out HE.out.2.1 HE.out.2.2.1) (loop_ownM HPS.out HE.out.2.1 HE.out.2.2.1)
            (fun c s X Y row hs _ _ => hs) (loop_ownE HE.out.2.1 HE.out.2.2.1) (loop_start HDW.out HP.out)
          case hassign =>
            intro l x W K hK
            simp only [encE]
            gi_wp2
            exact hK
          case hbody =>
            rintro lr k ⟨y, t⟩ V hVs hm
            have HMS := Lib.hid hm
            obtain ⟨done, rest, a1, a2, a3, a4, a5, b0, b1, b2, b3⟩ := hm
            have hdl : done.length < N := by
              rw [HNN.out, a1]; simp
            have hN6 : N ≤ 60 := by rw [HNN.out]; exact HM.out.1
            have t6 : ((str y).toList == G.toList) = false := HM.out.2.2 (y, t) (by rw [a1]; simp)
            have c1 := b1.cell
            have c2 := b2.cell
            have f2 := b2.frozen
            have HB0 := Lib.hid b0; have HB1 := Lib.hid b1; have HB2 := Lib.hid b2
            clear a1 a2 a3 a4 a5 b0 b1 b2 b3
            gi_wp2
            have hE := HE.out
            have hS0 := HS0.out
            refine ⟨kept_set (by omega) (by simp <;> omega), loop_next HMS.out (fun L h => h.set hE.1.2.2.2.2.2 hE.1.2.2.2.2.1) (fun d hp => ⟨hp.1.other (by omega) _, hp.2.1.other (by omega) _, ?_, hp.2.2.2.setCell (p := ⟨w5.heap.size, 0, none⟩) (by show w.heap.size ≤ w5.heap.size; omega) _⟩)⟩
            have e1 := hp.2.2.1.cell
            rw [HB2.out.cell] at e1
            have e3 : (N : Int) - (done.length : Int) = (N : Int) - (d.length : Int) := by simpa using e1
            have e2 : done.length = d.length := by omega
            rw [List.length_append, ← e2]
            have := HB2.out.set (.int .i64 ((N : Int) - (done.length : Int) - 1))
            have e4 : (N : Int) - ((done.length + [(y, t)].length : Nat) : Int) = (N : Int) - (done.length : Int) - 1 := by simp; omega
            rw [e4]; exact this
          case hdone =>
            rintro D k V hD hj hf hK
            obtain ⟨done, rest, e1, e2, hd, _, hp⟩ := loop_end hj hf
            rw [take_all (fun e he => by have := HM.out.2.1 e he; omega)] at e2
            subst e2
            obtain rfl : rest = [] := by simpa using e1
            have HD7 := Lib.hid hd; have HP7 := Lib.hid hp; have HK7 := Lib.hid hK
            clear e1 hd hp hj hf hK
            go_wp2_with fail
            refine (next_any' tb bm [] V HD7.out).mono ?_
            rintro e w6 ⟨rfl, hb6⟩
            rw [show firstOf [] = (⟨[], Nat.zero_le _⟩, 0, false) from rfl]
            have hn6 : Boxed w6 w5.heap.size 3 (.int .i64 0) := by
              have := bx_after HP7.out.2.2.1 hb6 HP7.out.2.2.1.lt
              rw [← HNN.out, Int.sub_self] at this
              exact this
            have hr6 := bx_after HP7.out.1 hb6 HP7.out.1.lt
            have HK6 : Hid (w6.heap[D]? = some (.deferred (some []))) := Lib.hid ((hb6.block D (Array.getElem?_eq_some_iff.1 HK7.out).1).trans HK7.out)
            have HB6 : Hid (Below w.heap.size w w6) := Lib.hid (HP7.out.2.2.2.trans (hb6.mono HP7.out.2.2.2.size))
            have c7 := hn6.cell
            have c8 := hr6.cell
            have f8 := hr6.frozen
            have HR8 := Lib.hid hr6
            clear hb6 hn6 hr6
            have hD8 : Hid ((w6.setCell ⟨w.heap.size, 0, none⟩ (.bool true)).heap[D]? = some (.deferred (some []))) := Lib.hid ((heap_setCell_other _ ⟨w.heap.size, 0, none⟩ D _ (by show D ≠ w.heap.size; have := HE.out; have := HP7.out.1.lt; omega)).trans HK6.out)
            have hB8 : Hid (Below w.heap.size w (w6.setCell ⟨w.heap.size, 0, none⟩ (.bool true))) := Lib.hid (HB6.out.setCell (p := ⟨w.heap.size, 0, none⟩) (Nat.le_refl _) _)
            have hR9 : Hid (((w6.setCell ⟨w.heap.size, 0, none⟩ (.bool true)).putObj D (.deferred none)).cell? ⟨w.heap.size, 0, none⟩ = some (.bool true)) := Lib.hid (by
              have h1 := HR8.out.set (.bool true)
              refine (Boxed.kept h1 (grownBy_putObj' _ D (.deferred none)) (fun e => ?_)).cell
              have e2 := Option.some.inj e
              have := HE.out
              omega)
            go_wp2
            refine ⟨by simp, .inl ⟨_, _, rfl, run_takeDeferred hD8.out, ?_⟩⟩
            have c9 := hR9.out
            exact ⟨.bool true, by simp [results, Try.results5, go_sem, c9], rfl, hB8.out.trans (belowK_b (w := w) (Nat.le_refl _) _ D _ _ (by have := HE.out; omega) hD8.out rfl rfl)⟩
          case hstop =>
            rintro D c V hD h hK
            exact h.elim
        · obtain ⟨b, off, rfl, hb, hc⟩ := HN.out.cells (by have := HL.out; omega)
          obtain ⟨p, hp, hp2⟩ : ∃ p : Nat, a2.tmod (k : Int) = (p : Int) ∧ p < k := ⟨(a2 % (k : Int)).toNat, by rw [Int.tmod_eq_emod_of_nonneg d0]; exact (Int.toNat_of_nonneg (Int.emod_nonneg _ (by omega))).symm, by have h1 := Int.emod_lt_of_pos a2 (show (0 : Int) < k by omega); have h2 := Int.emod_nonneg a2 (show (k : Int) ≠ 0 by omega); omega⟩
          have hp4 : a2 % (k : Int) = (p : Int) := by rw [← hp, Int.tmod_eq_emod_of_nonneg d0]
          obtain ⟨x, hx⟩ : ∃ x, s0[p]? = some x := ⟨_, List.getElem?_eq_getElem (by have := HL.out; omega)⟩
          have hcx := (cell_below (a := ⟨b, off + p, none⟩) HB.out hb).trans (hc p x hx)
          have hcx2 : (wr.alloc (.cells #[.string { data := #[] }] 9)).cell? ⟨b, off + p, none⟩ = some (.string (str x)) := (cell_below (a := ⟨b, off + p, none⟩) ((Below.refl _ wr).alloc (Nat.le_refl _) _) (Nat.lt_of_lt_of_le hb HB.out.size)).trans hcx
          have hin := hM.has p x hp2 hx
          obtain ⟨wB, hwB⟩ : ∃ wB, wB = wr.alloc (.cells #[.string (str x)] 9) := ⟨_, rfl⟩
          have hbB : Below wr.heap.size wr wB := by rw [hwB]; exact (Below.refl _ wr).alloc (Nat.le_refl _) _
          obtain ⟨L, hLL⟩ : ∃ L, L = tabN s0 (timeN n1 s1) k := ⟨_, rfl⟩
          rw [← hLL] at hM hMT hin HD
          have HDB : Hid (Du wB tb bm L) := Lib.hid (HD.out.after hbB)
          have HGB : Hid (Boxed wB wr.heap.size 9 (.string (str x))) := Lib.hid (by rw [hwB]; exact Boxed.new wr 9 _)
          have HRB : Hid (Boxed wB w.heap.size 4 (.bool false)) := Lib.hid (bx_after HC.out hbB HC.out.lt)
          have HBB : Hid (Below w.heap.size w wB) := Lib.hid (HB.out.trans (hbB.mono HB.out.size))
          have HSA : Hid ((tb < wr.heap.size ∧ bm < wr.heap.size) ∧ w.heap.size < wr.heap.size) := Lib.hid ⟨HD.out.lt, HC.out.lt⟩
          have HM : Hid (((dropL L x).length ≤ 60) ∧ (∀ e ∈ dropL L x, e.2 ≤ 65535) ∧ (∀ e ∈ dropL L x, ((str e.1).toList == (str x).toList) = false)) := Lib.hid ⟨by have := dropL_len L x; have := hM.len; omega, fun e he => hMT e (mem_dropL.1 he).1, fun e he => by rw [str_beq]; have := (mem_dropL.1 he).2; simp [this]⟩
          have HIN := Lib.hid hin
          have HWB := Lib.hid hwB.symm
          have l3 : decide ((0 : Int) < (k : Int)) = true := by simp; omega
          have hpk : (p : Int) < (k : Int) := by omega
          have hp0 : (0 : Int) ≤ (p : Int) := by omega
          have hk1 : ((k : Int) == 0) = false := by simp; omega
          have hk2 : ¬ (k : Int) = 0 := by omega
          clear hwB hbB hM hMT hin hLL hx hc hp2
          go_wp2_with fail
          rw [HWB.out]
          refine (drop_any tb bm L x wB HDB.out).mono ?_
          rintro e wA ⟨rfl, hDA, hkA⟩
          rw [HIN.out]
          have HDA := Lib.hid hDA
          have HGA : Hid (Boxed wA wr.heap.size 9 (.string (str x))) := Lib.hid (bx_keeps HGB.out hkA (by have := HSA.out; show ¬ wr.heap.size = bm; omega))
          have HRA : Hid (Boxed wA w.heap.size 4 (.bool false)) := Lib.hid (bx_keeps HRB.out hkA (by have := HBW.out; show ¬ w.heap.size = bm; omega))
          have HBA : Hid (Below w.heap.size w wA) := Lib.hid (HBB.out.trans (hkA.below (fun k e => by have := HBW.out; omega) HBB.out.size))
          clear hDA hkA hcx hcx2
          go_wp2_with fail
          obtain ⟨M, hMM⟩ : ∃ M : List En, M = dropL L x := ⟨_, rfl⟩
          rw [← hMM] at HDA HM
          clear hMM
          obtain ⟨G, hG⟩ : ∃ G : ByteArray, G = str x := ⟨_, rfl⟩
          rw [← hG] at HM HGA
          clear hG
          refine (names_any tb bm M wA HDA.out).mono ?_
          rintro e w5 ⟨v5, rfl, ⟨A5, c5, rfl, hc5, _⟩, hb5⟩
          have hl5 : (namesL M).length = M.length := by unfold namesL; rw [List.length_map]
          rw [hl5] at hc5 ⊢
          obtain ⟨N, hN⟩ : ∃ N, N = M.length := ⟨_, rfl⟩
          rw [← hN] at hc5 ⊢
          have HNN := Lib.hid hN
          have HD5 := Lib.hid (HDA.out.after hb5)
          have HC5 := Lib.hid (bx_after HRA.out hb5 HRA.out.lt)
          have HG5 := Lib.hid (bx_after HGA.out hb5 HGA.out.lt)
          have HB5 := Lib.hid (HBA.out.trans (hb5.mono HBA.out.size))
          clear hb5 hl5 hN
          go_wp2_with fail
          refine (due_any _ _ _).mono ?_
          rintro e w6 ⟨rfl, rfl⟩
          go_wp2_with fail
          have h5 : Boxed (w5.alloc (.cells #[.int .i64 (N : Nat)] 3)) w5.heap.size 3 (.int .i64 (N : Nat)) := Boxed.new w5 3 _
          obtain ⟨W0, hW0⟩ : ∃ W0, W0 = (((w5.alloc (.cells #[.int .i64 (N : Nat)] 3)).alloc (.cells #[.pointer (some ⟨tb, 0, none⟩)] 25)).alloc (.cells #[.int .i64 1073741824] 3)) := ⟨_, rfl⟩
          have hb4 : Below w5.heap.size w5 W0 := by rw [hW0]; exact (((Below.refl _ w5).alloc (Nat.le_refl _) _).alloc (by simp) _).alloc (by simp; omega) _
          have hs0 : W0.heap.size = w5.heap.size + 3 := by rw [hW0]; simp
          have hlt5 := HD5.out.lt
          have hbw := HBW.out
          have hr5 := HC5.out.lt
          have hg5 := HG5.out.lt
          have hsa := HSA.out
          have HDW : Hid (Du W0 tb bm M) := Lib.hid (HD5.out.after hb4)
          have HP : Hid (Pag w w.heap.size wr.heap.size w5.heap.size G N [] W0) := Lib.hid ⟨bx_after HC5.out hb4 hr5, bx_after HG5.out hb4 hg5, by rw [hW0]; simpa using (h5.alloc (.cells #[.pointer (some ⟨tb, 0, none⟩)] 25)).alloc (.cells #[.int .i64 1073741824] 3), HB5.out.trans (hb4.mono (by omega))⟩
          have HT : Hid (W0.cell? ⟨w5.heap.size + 1, 0, none⟩ = some (.pointer (some ⟨tb, 0, none⟩))) := Lib.hid (by
            rw [hW0]
            have := ((Boxed.new (w5.alloc (.cells #[.int .i64 (N : Nat)] 3)) 25 (.pointer (some ⟨tb, 0, none⟩))).alloc (.cells #[.int .i64 1073741824] 3)).cell
            rwa [World.size_alloc] at this)
          have HN9 : Hid (W0.cell? ⟨w5.heap.size + 1 + 1, 0, none⟩ = some (.int .i64 1073741824)) := Lib.hid (by
            rw [hW0]
            have := (Boxed.new ((w5.alloc (.cells #[.int .i64 (N : Nat)] 3)).alloc (.cells #[.pointer (some ⟨tb, 0, none⟩)] 25)) 3 (.int .i64 1073741824)).cell
            rwa [World.size_alloc, World.size_alloc] at this)
          have HW := Lib.hid hW0.symm
          rw [show (((w5.alloc (.cells #[.int .i64 (N : Nat)] 3)).alloc (.cells #[.pointer (some ⟨tb, 0, none⟩)] 25)).alloc (.cells #[.int .i64 1073741824] 3)) = W0 from HW.out]
          have HS0 := Lib.hid hs0
          have hgs : ∀ g ∈ [w5.heap.size + 1, w5.heap.size + 1 + 1], g < W0.heap.size := by intro g hg; simp at hg; omega
          have HE : Hid ((w.heap.size ≠ bm ∧ w.heap.size ≠ tb ∧ wr.heap.size ≠ bm ∧ wr.heap.size ≠ tb ∧ w5.heap.size ≠ bm ∧ w5.heap.size ≠ tb) ∧ tb < W0.heap.size ∧ bm < W0.heap.size ∧ w.heap.size ≤ bm ∧ w.heap.size ≤ W0.heap.size ∧ w.heap.size < w5.heap.size ∧ wr.heap.size < w5.heap.size ∧ w.heap.size < wr.heap.size) := Lib.hid (by omega)
          have HPS : Hid (Still W0 bm (Pag w w.heap.size wr.heap.size w5.heap.size G N)) := Lib.hid (pag_still HE.out.1.1 HE.out.1.2.2.1 HE.out.1.2.2.2.2.1 HE.out.2.2.2.1 HE.out.2.2.2.2.1)
          clear h5 hb4 hs0 hW0 hlt5 hr5 hg5 hsa hbw
          refine (wpIn_wide (n := 8)).1 ?_
          apply range_stand (F := Fence.wide) (n := 8) (f := 23) (own := #[.pointer (some ⟨w5.heap.size + 1, 0, none⟩), .pointer (some ⟨w5.heap.size + 1 + 1, 0, none⟩)]) (k0 := M.length)
            ⟨rfl, by omega, trivial, enters_of Try.func23 (by kernel_rfl) rfl, due_tells 7 tb bm (w5.heap.size + 1) (w5.heap.size + 1 + 1) 1073741824 W0 HT.out HN9.out⟩ rfl (Below.refl _ _) hgs (fun _ => rfl)
            (JS tb bm 1073741824 M (Pag w w.heap.size wr.heap.size w5.heap.size G N)) (MS tb bm 1073741824 M (Pag w w.heap.size wr.heap.size w5.heap.size G N)) (fun _ _ => False)
            (loop_adm HPS.out HE.out.2.2.1) (loop_own HPS.out HE.out.2.1 HE.out.2.2.1) (loop_ownM HPS.out HE.out.2.1 HE.out.2.2.1)
            (fun c s X Y row hs _ _ => hs) (loop_ownE HE.out.2.1 HE.out.2.2.1) (loop_start HDW.out HP.out)
          case hassign =>
            intro l x W K hK
            simp only [encE]
            gi_wp2
            exact hK
          case hbody =>
            rintro lr k ⟨y, t⟩ V hVs hm
            have HMS := Lib.hid hm
            obtain ⟨done, rest, a1, a2, a3, a4, a5, b0, b1, b2, b3⟩ := hm
            have hdl : done.length < N := by
              rw [HNN.out, a1]; simp
            have hN6 : N ≤ 60 := by rw [HNN.out]; exact HM.out.1
            have t6 : ((str y).toList == G.toList) = false := HM.out.2.2 (y, t) (by rw [a1]; simp)
            have c1 := b1.cell
            have c2 := b2.cell
            have f2 := b2.frozen
            have HB0 := Lib.hid b0; have HB1 := Lib.hid b1; have HB2 := Lib.hid b2
            clear a1 a2 a3 a4 a5 b0 b1 b2 b3
            gi_wp2
            have hE := HE.out
            have hS0 := HS0.out
            refine ⟨kept_set (by omega) (by simp <;> omega), loop_next HMS.out (fun L h => h.set hE.1.2.2.2.2.2 hE.1.2.2.2.2.1) (fun d hp => ⟨hp.1.other (by omega) _, hp.2.1.other (by omega) _, ?_, hp.2.2.2.setCell (p := ⟨w5.heap.size, 0, none⟩) (by show w.heap.size ≤ w5.heap.size; omega) _⟩)⟩
            have e1 := hp.2.2.1.cell
            rw [HB2.out.cell] at e1
            have e3 : (N : Int) - (done.length : Int) = (N : Int) - (d.length : Int) := by simpa using e1
            have e2 : done.length = d.length := by omega
            rw [List.length_append, ← e2]
            have := HB2.out.set (.int .i64 ((N : Int) - (done.length : Int) - 1))
            have e4 : (N : Int) - ((done.length + [(y, t)].length : Nat) : Int) = (N : Int) - (done.length : Int) - 1 := by simp; omega
            rw [e4]; exact this
          case hdone =>
            rintro D k V hD hj hf hK
            obtain ⟨done, rest, e1, e2, hd, _, hp⟩ := loop_end hj hf
            rw [take_all (fun e he => by have := HM.out.2.1 e he; omega)] at e2
            subst e2
            obtain rfl : rest = [] := by simpa using e1
            have HD7 := Lib.hid hd; have HP7 := Lib.hid hp; have HK7 := Lib.hid hK
            clear e1 hd hp hj hf hK
            go_wp2_with fail
            refine (next_any' tb bm [] V HD7.out).mono ?_
            rintro e w6 ⟨rfl, hb6⟩
            rw [show firstOf [] = (⟨[], Nat.zero_le _⟩, 0, false) from rfl]
            have hn6 : Boxed w6 w5.heap.size 3 (.int .i64 0) := by
              have := bx_after HP7.out.2.2.1 hb6 HP7.out.2.2.1.lt
              rw [← HNN.out, Int.sub_self] at this
              exact this
            have hr6 := bx_after HP7.out.1 hb6 HP7.out.1.lt
            have HK6 : Hid (w6.heap[D]? = some (.deferred (some []))) := Lib.hid ((hb6.block D (Array.getElem?_eq_some_iff.1 HK7.out).1).trans HK7.out)
            have HB6 : Hid (Below w.heap.size w w6) := Lib.hid (HP7.out.2.2.2.trans (hb6.mono HP7.out.2.2.2.size))
            have c7 := hn6.cell
            have c8 := hr6.cell
            have f8 := hr6.frozen
            have HR8 := Lib.hid hr6
            clear hb6 hn6 hr6
            have hD8 : Hid ((w6.setCell ⟨w.heap.size, 0, none⟩ (.bool true)).heap[D]? = some (.deferred (some []))) := Lib.hid ((heap_setCell_other _ ⟨w.heap.size, 0, none⟩ D _ (by show D ≠ w.heap.size; have := HE.out; have := HP7.out.1.lt; omega)).trans HK6.out)
            have hB8 : Hid (Below w.heap.size w (w6.setCell ⟨w.heap.size, 0, none⟩ (.bool true))) := Lib.hid (HB6.out.setCell (p := ⟨w.heap.size, 0, none⟩) (Nat.le_refl _) _)
            have hR9 : Hid (((w6.setCell ⟨w.heap.size, 0, none⟩ (.bool true)).putObj D (.deferred none)).cell? ⟨w.heap.size, 0, none⟩ = some (.bool true)) := Lib.hid (by
              have h1 := HR8.out.set (.bool true)
              refine (Boxed.kept h1 (grownBy_putObj' _ D (.deferred none)) (fun e => ?_)).cell
              have e2 := Option.some.inj e
              have := HE.out
              omega)
            go_wp2
            refine ⟨by simp, .inl ⟨_, _, rfl, run_takeDeferred hD8.out, ?_⟩⟩
            have c9 := hR9.out
            exact ⟨.bool true, by simp [results, Try.results5, go_sem, c9], rfl, hB8.out.trans (belowK_b (w := w) (Nat.le_refl _) _ D _ _ (by have := HE.out; omega) hD8.out rfl rfl)⟩
          case hstop =>
            rintro D c V hD h hK
            exact h.elim
  · by_cases hc : n0 ≤ 60
    · have l0 : decide ((60 : Int) < (n0 : Int)) = false := by simp; omega
      have l1 : ((n1 : Int) == 0) = true := by simp; omega
      have c6 := HC1.out.cell
      have f6 := HC1.out.frozen
      have c9 := (HC1.out.set (.bool true)).cell
      go_wp2
      exact ⟨.bool true, by simp [results, Try.results5, go_sem, c9], rfl, HB1.out.setCell (p := ⟨w.heap.size, 0, none⟩) (Nat.le_refl _) _⟩
    · have l0 : decide ((60 : Int) < (n0 : Int)) = true := by simp; omega
      have c6 := HC1.out.cell
      have f6 := HC1.out.frozen
      have c9 := (HC1.out.set (.bool true)).cell
      go_wp2
      exact ⟨.bool true, by simp [results, Try.results5, go_sem, c9], rfl, HB1.out.setCell (p := ⟨w.heap.size, 0, none⟩) (Nat.le_refl _) _⟩

/-! ### THE ROW's STEP: WRITTEN OUT: LEAVE IT -/
set_option maxRecDepth 100000 in
theorem lifted (os : Os) (started : os.Started) (H : Type) (enc : TypeId × Value → H) :
    ReturnsInHanded {} Try.checked os 5 .any (Rows.dueAgainSpec.pre6 enc Try.prog Try.f5 Rows.dueAgainRow.domain false) (Rows.dueAgainSpec.post enc Try.prog Try.f5 false true false false) := by
  refine returnsInHanded_of_change (C := Try.checked) own started (by kernel_rfl) Try.func5
    (ChangeSpec.witness6 (enc := enc) (C := Try.checked) false ⟨#[], #[.slice none 0 0, .slice none 0 0, .int .u8 0], []⟩ 8 (by kernel_rfl) (by kernel_rfl) (by kernel_rfl) (by kernel_rfl)) ?_
  intro W base args ds gs before hval0 hW hcnd _
  have hval : ∀ (j : Nat) t v, Try.f5.params[j]? = some t → args[j]? = some v → Value.okWide Try.prog W .any base t v := hval0
  have hW' := hW
  obtain ⟨p, q, hA0, hV, rfl, hfz, hnd⟩ := hW
  have hA : DataW.TrodAll enc Try.prog W 0 (fun _ => true) true Try.f5.params.toList args.toList ds p := hA0
  rw [Try.params5] at hA hval
  obtain ⟨v0, vs0, d0, ds0, p0, q0, hargs, rfl, rfl, h0, r0⟩ := trodAll_cons hA
  obtain ⟨v1, vs1, d1, ds1, p1, q1, rfl, rfl, rfl, h1, r1⟩ := trodAll_cons r0
  obtain ⟨v2, vs2, d2, ds2, p2, q2, rfl, rfl, rfl, h2, r2⟩ := trodAll_cons r1
  obtain ⟨rfl, rfl, rfl⟩ := trodAll_nil r2
  obtain rfl : args = #[v0, v1, v2] := by cases args; simp_all
  obtain ⟨rfl, rfl⟩ := trodVars_none hV
  have k0 := h0
  have lt0 : ∀ x ∈ p0, x.block < W.heap.size := by obtain ⟨m, hm⟩ := k0; exact DataW.trod_lt m _ _ _ hm
  obtain ⟨s0, w0⟩ := open_nms (hval 0 47 v0 rfl rfl) h0
  have k1 := h1
  have lt1 : ∀ x ∈ p1, x.block < W.heap.size := by obtain ⟨m, hm⟩ := k1; exact DataW.trod_lt m _ _ _ hm
  obtain ⟨s1, w1⟩ := open_tms (hval 1 44 v1 rfl rfl) h1
  obtain ⟨a2, rfl, rfl, rfl, w2⟩ := open_int Try.underlying5 (hval 2 5 v2 rfl rfl) h2
  clear hA0 hval0
  refine (walk v0 s0 v1 s1 a2 W w0 w1 w2).mono fun e W' ⟨he, bel⟩ => ?_
  subst he
  exact ⟨_, rfl, _, _, _, [], _, [], hW', trodAll_mk1 (shut_bool Try.underlying4 _), (trodAll_cons_mk (Below.trod laidOut (by kernel_rfl) (of_decide_eq_true (by kernel_rfl)) k0 bel lt0) (trodAll_cons_mk (Below.trod laidOut (by kernel_rfl) (of_decide_eq_true (by kernel_rfl)) k1 bel lt1) (trodAll_cons_mk (shut_int Try.underlying5 w2) trodAll_mk0))), rfl, bel.frame _, fun h => by cases h⟩

theorem over : Rows.dueAgainRow.holds Try.pinned (OpenSpec.ofChange Rows.dueAgainSpec) :=
  OpenClaim.holds_of_wide 5 Try.f5 rfl rfl rfl rfl rfl rfl rfl ⟨rfl, rfl, rfl, rfl, rfl⟩ rfl rfl rfl rfl rfl (by kernel_rfl) Try.func5 (by kernel_rfl)
    (of_decide_eq_true (by kernel_rfl)) (by unfold Func.isWrapper; first | (rw [if_pos (by decide +kernel)]; kernel_rfl) | (rw [if_neg (by decide +kernel)]; exact ⟨rfl, rfl⟩))
    (fun os started H enc _ => lifted os started H enc)

/-- ████ THE STATEMENT ████ -/
theorem proved : Rows.DueAgainSaid := over
#print axioms proved
end Go.Proofs.Ytahccfljgmleiaa.dueAgain
