/-
  The iterator of embrasure/wire's reader.addrs: it tells the addresses that the number ahead of them says, up to the first that isn't one. Conditions: the rounds keep the reader's blocks.
-/
import Derived.Test.YtebgfiibcmnfnaaDoorTell
import Derived.Test.YtebgfiibcmnfnaaDoorRdrB
import Derived.Shelf.Abstract
import Derived.Shelf.RegionOpen
import Derived.OwnWalkIn
import Derived.TacticsInMore
import Derived.LoopNIn
import Derived.LoopIn
namespace Go.Proofs.YtebgfiibcmnfnaaDoor
open Go.RowKit Go.Shelf
attribute [local go_sem] Oper.semAt_some
set_option linter.unusedVariables false

def encA (z : Int × Int) : Array Value := #[.agg #[.int .u32 z.1, .int .i64 z.2]]
/-- what a round is handed: a further address -/
def OkA (zs : List Int) (b0 : Bool) (pre : List (Int × Int)) (z : Int × Int) (W : World) : Prop :=
  b0 = false ∧ Uv.code zs = 0 ∧ ∃ r, Wi.readAddrs (nrest zs) (pre.length + 1) = some (pre ++ [z], r)
/-- what the iterator leaves in the reader -/
def SA (zs : List Int) (b0 : Bool) (R b : Nat) (ys : List (Int × Int)) (V : World) : Prop :=
  ∃ r bd, Rd V R b r bd ∧ (bd = false → b0 = false ∧ Uv.code zs = 0 ∧ Wi.readAddrs (nrest zs) (Uv.val zs).toNat = some (ys, r)) ∧ (bd = true → b0 = true ∨ Uv.code zs ≠ 0 ∨ Wi.readAddrs (nrest zs) (Uv.val zs).toNat = none)
theorem readAddrs_none {zs : List Int} {i : Nat} (h : Wi.readAddrs zs i = none) : ∀ {j : Nat}, i ≤ j → Wi.readAddrs zs j = none := by
  intro j hj
  induction j with
  | zero => obtain rfl : i = 0 := by omega
            exact h
  | succ j ih =>
    rcases Nat.lt_or_ge i (j + 1) with h' | h'
    · unfold Wi.readAddrs
      rw [ih (by omega)]
    · obtain rfl : i = j + 1 := by omega
      exact h
theorem spoils_f {b : Bool} {k : Int} (h : spoils b k = false) : b = false ∧ k = 0 := by
  unfold spoils at h
  split at h
  · exact ⟨h, by assumption⟩
  · cases h
theorem spoils_t {b : Bool} {k : Int} (h : spoils b k = true) : b = true ∨ k ≠ 0 := by
  unfold spoils at h
  split at h
  · exact .inl h
  · exact .inr (by assumption)
def AdrAt (zs : List Int) (b0 : Bool) (R b C v : Nat) (J : List (Int × Int) → World → Prop) (k : Nat) (wr : World) : Prop :=
  ∃ pre r bd, k + pre.length = v ∧ J pre wr ∧ Rd wr R b r bd ∧ wr.cell? ⟨C, 0, none⟩ = some (.pointer (some ⟨R, 0, none⟩)) ∧
    (bd = false → b0 = false ∧ Uv.code zs = 0 ∧ Wi.readAddrs (nrest zs) pre.length = some (pre, r)) ∧ (bd = true → b0 = true ∨ Uv.code zs ≠ 0)
theorem adr_yes {zs r : List Int} {i : Nat} {al : List (Int × Int)} (h : Wi.readAddrs zs i = some (al, r)) (hc : acode r = 0) : Wi.readAddrs zs (i + 1) = some (al ++ [(ahost r, aport r)], arest r) := by
  unfold Wi.readAddrs
  rw [h]
  have h6 : 6 ≤ r.length ∧ mayA (Wi.host6 r) (Wi.port6 r) = true := by
    unfold acode at hc
    split at hc
    · assumption
    · cases hc
  simp only
  rw [if_pos h6]
  unfold ahost aport arest
  rw [if_pos h6, if_pos h6, if_pos hc]
theorem adr_no {zs r : List Int} {i : Nat} {al : List (Int × Int)} (h : Wi.readAddrs zs i = some (al, r)) (hc : acode r ≠ 0) : Wi.readAddrs zs (i + 1) = none := by
  unfold Wi.readAddrs
  rw [h]
  have h6 : ¬ (6 ≤ r.length ∧ mayA (Wi.host6 r) (Wi.port6 r) = true) := fun h => hc (by unfold acode; rw [if_pos h])
  simp only
  rw [if_neg h6]

set_option maxRecDepth 100000 in
set_option maxHeartbeats 4000000 in
theorem adrs_in (n : Nat) (hn : 1 ≤ n) (l R b C B0 : Nat) (gs : List Nat) (zs : List Int) (b0 : Bool) (J Jx : List (Int × Int) → World → Prop)
    (hY : ∀ pre z W, J pre W → OkA zs b0 pre z W → YieldAt Fence.wide (n - 1) Tryd.prog l (encA z) W fun e W' => Kept gs false B0 W W' ∧
      ((e = .returned (.bool true) ∧ J (pre ++ [z]) W') ∨ (e = .returned (.bool false) ∧ Jx (pre ++ [z]) W')))
    (hT : Turns [R] J) (W : World) (hR : Rd W R b zs b0) (hC : W.cell? ⟨C, 0, none⟩ = some (.pointer (some ⟨R, 0, none⟩))) (g0 : C ∈ gs) (g1 : R ∈ gs) (g2 : b ∈ gs) (hCR : C ≠ R) (h0 : J [] W) :
    CallsIn Fence.wide n Tryd.prog 40 #[.func (.yield l) #[] #[], .pointer (some ⟨C, 0, none⟩)] W fun e W' => (∃ v, e = .returned v) ∧
      ((∃ ys, SA zs b0 R b ys W' ∧ J ys W') ∨ (∃ pre, True ∧ Jx pre W')) := by
  refine callsIn_of_wp Tryd.func40 rfl trivial ?_ rfl
  simp only [Tryd.ntmps40, List.size_toArray, List.length_cons, List.length_nil, Nat.reduceAdd, Nat.reduceSub, Array.replicate_succ, Array.replicate_zero, List.push_toArray, List.append_toArray, List.nil_append, List.cons_append]
  have HY := Lib.hid hY; have HT := Lib.hid hT; clear hY hT
  have HRD := Lib.hid hR
  have hcr : some C ≠ some R := fun e => hCR (by simpa using e)
  have CN := Lib.hid (number_any R b zs b0 W hR)
  have hvb := Uv.val_bd zs
  obtain ⟨v, hv⟩ : ∃ v : Nat, Uv.val zs = (v : Int) := ⟨(Uv.val zs).toNat, by omega⟩
  have hvb2 : v < 9223372036854775808 := by omega
  have HV : Hid ((Uv.val zs).toNat = v) := Lib.hid (by omega)
  rw [hv] at CN
  clear hR hvb hv
  gi_wp2_with fail
  refine ⟨trivial, ?_⟩
  refine (callsIn_wide.2 CN.out).mono ?_
  rintro e w1 ⟨rfl, hg1, hr1⟩
  have hC1 := hg1.cell hC hcr
  have HJ1 := Lib.hid (HT.out _ _ _ R (by simp) h0 hg1)
  have HR1 := Lib.hid hr1
  clear hg1 hr1 hC h0
  have HC1 := Lib.hid hC1
  have HA1 : Hid (AdrAt zs b0 R b C v J v w1) := Lib.hid ⟨[], nrest zs, _, by simp, HJ1.out, HR1.out, hC1, fun h => ⟨(spoils_f h).1, (spoils_f h).2, rfl⟩, fun h => spoils_t h⟩
  clear hC1 HJ1 HR1 CN
  gi_wp2
  gi_loopw [3] (fun p wr => ∃ k : Nat, p = .int .u64 (k : Int) ∧ k ≤ v ∧ AdrAt zs b0 R b C v J k wr) (fun p _ => (intOf p).toNat)
  case atStart => exact ⟨v, rfl, Nat.le_refl _, HA1.out⟩
  case round =>
    clear HA1 HC1
    obtain ⟨k, rfl, hkv, pre, r, bd, hlen, hJ, hr, hc, hf, ht⟩ := hrel
    have HJ := Lib.hid hJ; have HF := Lib.hid hf; have HT2 := Lib.hid ht; have HL := Lib.hid hlen
    have HR := Lib.hid hr
    clear hJ hf ht hlen
    by_cases hk : k = 0
    · subst hk
      clear hr hc
      gi_wp2
      go_end0
      refine ⟨⟨_, rfl⟩, .inl ⟨pre, ⟨r, bd, HR.out, fun h => ?_, fun h => ?_⟩, HJ.out⟩⟩
      · have := HF.out h
        rw [HV.out]
        have hl : pre.length = v := by have := HL.out; omega
        rw [hl] at this
        exact this
      · rcases HT2.out h with h | h
        · exact .inl h
        · exact .inr (.inl h)
    · have CA := Lib.hid (addr_any R b r bd _ hr)
      have t1 : decide ((0 : Int) < (k : Int)) = true := by simp; omega
      have HCC := Lib.hid hc
      clear hr
      gi_wp2_with fail
      refine ⟨trivial, ?_⟩
      refine (callsIn_wide.2 CA.out).mono ?_
      rintro e w2 ⟨rfl, hg2, hr2⟩
      have hc2 := hg2.cell HCC.out hcr
      have HC2 := Lib.hid hc2
      have HJ2 := Lib.hid (HT.out _ _ _ R (by simp) (HT.out _ _ _ R (by simp) HJ.out hg2) (World.grownBy_alloc w2 (.cells #[.int .u32 (ahost r), .int .i64 (aport r)] 45) (some R)))
      have hr3 := hr2.below ((Below.refl _ _).alloc (Nat.le_refl _) (.cells #[.int .u32 (ahost r), .int .i64 (aport r)] 45))
      have HR3 := Lib.hid hr3
      obtain ⟨A, n', c', e, _⟩ := hr3
      have hlr := hr2.lt
      have hlc := lt_of_cell hc2
      dsimp only at hlc
      have d1 := (Rd.cells e).2.2.1
      clear hc hg2 hr2 e CA
      have HSP : Hid (∀ sp, spoils bd (acode r) = sp → (sp = true → b0 = true ∨ Uv.code zs ≠ 0 ∨ Wi.readAddrs (nrest zs) (Uv.val zs).toNat = none) ∧ (sp = false → b0 = false ∧ Uv.code zs = 0 ∧ Wi.readAddrs (nrest zs) (pre.length + 1) = some (pre ++ [(ahost r, aport r)], arest r))) := Lib.hid (by
        rintro sp rfl
        refine ⟨fun h => ?_, fun h => ?_⟩
        · cases hb : bd with
          | true => rcases HT2.out hb with h | h
                    · exact .inl h
                    · exact .inr (.inl h)
          | false =>
            rcases spoils_t h with h2 | h2
            · rw [hb] at h2; cases h2
            · exact .inr (.inr (by rw [HV.out]; exact readAddrs_none (adr_no (HF.out hb).2.2 h2) (by have := HL.out; omega)))
        · obtain ⟨h1, h2⟩ := spoils_f h
          obtain ⟨h3, h4, h5⟩ := HF.out h1
          exact ⟨h3, h4, adr_yes h5 h2⟩)
      obtain ⟨sp, hsp⟩ : ∃ sp, spoils bd (acode r) = sp := ⟨_, rfl⟩
      have HS1 := Lib.hid (HSP.out sp hsp)
      rw [hsp] at d1 HR3
      clear hsp HSP
      generalize ahost r = ah at *
      generalize aport r = ap at *
      cases sp with
      | true =>
        have HS2 := Lib.hid (HS1.out.1 rfl)
        gi_wp2
        refine ⟨by simp, ?_⟩
        gi_wp2
        refine bodyPost_ret (results_none rfl _ _ _) rfl ?_
        exact ⟨⟨_, rfl⟩, .inl ⟨pre, ⟨_, true, HR3.out, (fun h => by cases h), fun _ => HS2.out⟩, HJ2.out⟩⟩
      | false =>
        have HS2 := Lib.hid (HS1.out.2 rfl)
        obtain ⟨fn, tmps, assign, body, hy, hR⟩ := HY.out pre (ah, ap) _ HJ2.out ⟨(HS1.out.2 rfl).1, (HS1.out.2 rfl).2.1, _, (HS1.out.2 rfl).2.2⟩
        dsimp only [encA] at hy hR
        gi_wp2
        refine hR.mono ?_
        rintro e W3 ⟨hk3, ⟨rfl, hJ3⟩ | ⟨rfl, hJx3⟩⟩
        · have HJ3 := Lib.hid hJ3; have HK3 := Lib.hid hk3
          clear hJ3 hk3 d1 hc2
          gi_wp2
          go_roundw
          case rel =>
            refine ⟨k - 1, by go_num, by omega, pre ++ [(ah, ap)], _, false, by have := HL.out; simp; omega, HJ3.out, HR3.out.kept HK3.out.size (HK3.out.same _ g1) (fun _ => HK3.out.same _ g2), ?_, fun _ => ?_, fun h => by cases h⟩
            · exact (World.cell?_of_block (a := ⟨C, 0, none⟩) (HK3.out.same _ g0)).trans ((World.cell?_of_block (a := ⟨C, 0, none⟩) (Below.heap_alloc _ _ _ (lt_of_cell HC2.out))).trans HC2.out)
            · have := HS2.out
              rw [List.length_append]
              exact this
          case measure => simp [intOf]; omega
        · gi_wp2
          refine bodyPost_ret (results_none rfl _ _ _) rfl ?_
          exact ⟨⟨_, rfl⟩, .inr ⟨_, trivial, hJx3⟩⟩

theorem Rd.own {R b B0 : Nat} {r : List Int} {bd : Bool} : OwnFrom B0 (fun (_ : Unit) V => Rd V R b r bd) := by
  intro s W W' row h hg hr
  have hn : ∀ g C t, W.heap[g]? = some (Obj.cells C t (0, 0)) → W'.heap[g]? = W.heap[g]? := fun g C t hc => hg.block g (Array.getElem?_eq_some_iff.1 hc).1 (fun e => by
    obtain ⟨_, o, ho, h2⟩ := hr g e.symm
    rw [hc] at ho; cases ho; cases h2)
  have h' : Rd W R b r bd := h
  obtain ⟨A, n, c, e, hb, r1, r2, r3, r4⟩ := h
  refine h'.kept hg.size (hn _ _ _ e) (fun hz => ?_)
  have hb2 := h'.blk hz
  refine hg.block b hb2 (fun e => ?_)
  obtain ⟨_, o, ho, h2⟩ := hr b e.symm
  have hn : 0 < n := by
    rcases Nat.eq_zero_or_pos n with h | h
    · have := hb.len; exact absurd (List.eq_nil_of_length_eq_zero (by omega)) hz
    · exact h
  obtain ⟨ad, e1, e2, _⟩ := r4 hn
  obtain ⟨b', off, e3, hlt, hc⟩ := hb.2.2 hn
  rw [e3] at e1
  cases e1
  have hb' : b' = b := e2
  have hc0 := hc 0 hn
  rw [hb'] at hc0
  simp only [World.cell?, ho] at hc0
  cases o <;> simp_all [Obj.isCells]
theorem SA.own {zs : List Int} {b0 : Bool} {R b B0 : Nat} (ys : List (Int × Int)) : OwnFrom B0 (fun (_ : Unit) V => SA zs b0 R b ys V) := by
  rintro s W W' row ⟨r, bd, h1, h2, h3⟩ hg hr
  exact ⟨r, bd, Rd.own () W W' row h1 hg hr, h2, h3⟩
/-- the iterator of reader.addrs, over the cell C that leads to the reader -/
theorem adrs_tells (n : Nat) (hn : 1 ≤ n) (R b C : Nat) (gs : List Nat) (zs : List Int) (b0 : Bool) (w : World) (hR : Rd w R b zs b0) (hC : w.cell? ⟨C, 0, none⟩ = some (.pointer (some ⟨R, 0, none⟩))) (g0 : C ∈ gs) (g1 : R ∈ gs) (g2 : b ∈ gs) (hCR : C ≠ R) :
    Tells Fence.wide n Tryd.prog 40 #[.pointer (some ⟨C, 0, none⟩)] encA (OkA zs b0) gs [R] false (SA zs b0 R b) (fun _ _ => True) w := fun l J Jx W hW hJ h0 hY =>
  adrs_in n hn l R b C W.heap.size gs zs b0 J Jx hY hJ.2 W (hR.below hW) ((hW.cell (lt_of_cell hC)).trans hC) g0 g1 g2 hCR h0
end Go.Proofs.YtebgfiibcmnfnaaDoor
