/-
  FromBytes once more: the numbers lie in a block of their own. Conditions: as it states.
-/
import Derived.Test.YtdiilgedicfekaaDoorMh9
import Derived.Test.YtdiilgedicfekaaDoorNMsq
import Derived.Test.YtdiilgedicfekaaDoorMh8
namespace Go.Proofs.YtdiilgedicfekaaDoor
open Go.RowKit
set_option linter.unusedVariables false
set_option maxRecDepth 100000

/-- what FromBytes answers, the numbers in a block of their own -/
def ReadAns2 (w : World) (zs : List Int) (e : Ending) (w' : World) : Prop :=
  ∃ m x1 x2 x3, MsgV w' x1 x2 x3 m ∧ Below w.heap.size w w' ∧ ((e = .returned (.tuple #[.agg #[.int .i64 m.kind, x1, x2, x3], .int .i64 0]) ∧ Wi.read zs = some m) ∨ (e = .returned (.tuple #[.agg #[.int .i64 m.kind, x1, x2, x3], .int .i64 3]) ∧ Wi.read zs = none ∧ m = noMsg)) ∧ ∀ g, x1.ownBlock = some g → w.heap.size ≤ g ∧ ∃ C, w'.heap[g]? = some (.cells C 22 (0, 0))
set_option maxRecDepth 100000 in
set_option maxHeartbeats 4000000 in
theorem from_own (A : Option Addr) (n c : Nat) (zs : List Int) (w : World) (hb : Bts w A n zs) (h1 : n ≤ c) (h2 : c ≤ maxLen) (h3 : A = none → n = 0 ∧ c = 0) (hT : Tb w) (hz : zs.length ≤ 1000000) :
    Calls Tryd.prog 28 #[.slice A n c] w (ReadAns2 w zs) := by
  obtain ⟨b, hbl, hrd⟩ := rd_of hb h1 h2 h3 hT.pos
  have hB0 : Below w.heap.size w (w.alloc zbox) := (Below.refl _ _).alloc (Nat.le_refl _) _
  have hB1 : Below w.heap.size w ((w.alloc zbox).alloc (.cells #[.slice A n c, .bool false] 100)) := hB0.alloc (by simp) _
  have CM : Hid (Calls Tryd.prog 46 #[.pointer (some ⟨w.heap.size + 1, 0, none⟩)] ((w.alloc zbox).alloc (.cells #[.slice A n c, .bool false] 100)) (MsgAns2 ((w.alloc zbox).alloc (.cells #[.slice A n c, .bool false] 100)) (w.heap.size + 1) b zs)) := Lib.hid (by
    have := message_any2 (w.heap.size + 1) b zs _ (by have := hrd _ hB0; rwa [World.size_alloc] at this) (by simp; omega) (hT.below hB1) hz
    exact this)
  have HT := Lib.hid hT
  have HB1 := Lib.hid hB1
  have HGZ : Hid (((w.alloc zbox).alloc (.cells #[.slice A n c, .bool false] 100)).heap[w.heap.size]? = some (.cells #[.int .i64 0, .slice none 0 0, .slice none 0 0, .slice none 0 0] 46 (0, 0))) := Lib.hid ((Below.heap_alloc _ _ _ (by simp)).trans (heap_new _ _))
  unfold zbox at CM HB1 HGZ
  clear hb h1 h2 h3 hbl hrd hB0 hB1 hT
  go_enter Tryd.func28, Tryd.ntmps28
  go_wp2_with fail
  refine CM.out.mono ?_
  rintro e w1 ⟨m, x1, x2, x3, r, bd, rfl, hv, hg, hr, hy, hn, hx, hx2⟩
  have hG1 := (hg.block w.heap.size (by simp; omega) (by simp)).trans HGZ.out
  have HBW : Hid (Below w.heap.size w w1) := Lib.hid (HB1.out.grown hg (by simp; omega) (fun r e => by simp at e; omega))
  have HGR := Lib.hid hg.size
  simp at HGR
  have HMM : Hid (∀ W : World, w1.heap.size ≤ W.heap.size → (∀ g, w.heap.size + 2 ≤ g → g < w1.heap.size → W.heap[g]? = w1.heap[g]?) → MsgV W x1 x2 x3 m) := Lib.hid (fun W h1 h2 => hv.at h1 (fun g hg => by
    have h3 := hx g hg
    simp at h3
    exact h2 g h3.1 h3.2))
  have HX2 : Hid (∀ g, x1.ownBlock = some g → w.heap.size + 2 ≤ g ∧ g < w1.heap.size ∧ ∃ C, w1.heap[g]? = some (.cells C 22 (0, 0))) := Lib.hid (fun g hg => by have h3 := hx g (.inl hg); simp at h3; exact ⟨h3.1, h3.2, hx2 g hg⟩)
  have G1 := Lib.hid hG1
  have HNO : Hid (∀ V : World, V.heap[w.heap.size]? = some (.cells #[.int .i64 0, .slice none 0 0, .slice none 0 0, .slice none 0 0] 46 (0, 0)) → Below w.heap.size w V → ∀ W, (W = (((V.setCell ⟨w.heap.size, 0, none⟩ (.int .i64 0)).setCell ⟨w.heap.size, 1, none⟩ (.slice none 0 0)).setCell ⟨w.heap.size, 2, none⟩ (.slice none 0 0)).setCell ⟨w.heap.size, 3, none⟩ (.slice none 0 0) ∨ ∃ o, W = ((((V.setCell ⟨w.heap.size, 0, none⟩ (.int .i64 0)).setCell ⟨w.heap.size, 1, none⟩ (.slice none 0 0)).setCell ⟨w.heap.size, 2, none⟩ (.slice none 0 0)).setCell ⟨w.heap.size, 3, none⟩ (.slice none 0 0)).alloc o) →
      Mx W w.heap.size 0 (.slice none 0 0) (.slice none 0 0) (.slice none 0 0) ∧ Below w.heap.size w W) := Lib.hid (fun V hV hB W hW => by
    obtain ⟨p1, p2⟩ := put4 (x1 := .slice none 0 0) (x2 := .slice none 0 0) (x3 := .slice none 0 0) (k' := 0) hV rfl
    have p3 := hB.grown p2 hB.size (fun r e => by cases e; exact Nat.le_refl _)
    rcases hW with rfl | ⟨o, rfl⟩
    · exact ⟨(MBox.mx p1).1, p3⟩
    · have p4 := (MBox.mx p1).2.1
      exact ⟨(MBox.mx ((Below.heap_alloc _ _ _ p4).trans p1)).1, p3.alloc p3.size _⟩)
  have HV := Lib.hid hv; have HY := Lib.hid hy; have HN := Lib.hid hn
  have HT1 := Lib.hid (HT.out.below HBW.out)
  obtain ⟨A1, c1, e1, _⟩ := hv.1
  obtain ⟨A2', c2, e2, _⟩ := hv.2.1
  obtain ⟨A3, c3, e3, _⟩ := hv.2.2.1
  obtain ⟨A', n', c', e, hbt, _⟩ := hr
  obtain ⟨l0, d0, d1, _, _⟩ := Rd.cells e
  have hnl := hbt.len
  obtain ⟨⟨g0, g1, g2, g3⟩, hGL, gf⟩ := MBox.mx hG1
  have gf0 := gf 0; have gf1 := gf 1; have gf2 := gf 2; have gf3 := gf 3
  subst e1 e2 e3
  clear hv hg hx hx2 hy hn hG1 e hbt gf
  obtain ⟨kd, hkd⟩ : ∃ kd, m.kind = kd := ⟨_, rfl⟩
  rw [hkd]
  cases bd with
  | true =>
    have HN2 : Hid (Wi.read zs = none) := Lib.hid (by unfold Wi.read; rw [HN.out rfl])
    go_wp2
    obtain ⟨⟨k0, k1, k2, k3⟩, hb5⟩ := HNO.out w1 G1.out HBW.out _ (.inr ⟨.cells #[.int .i64 kd, .slice A1 m.nums.length c1, .slice A2' m.addrs.length c2, .slice A3 m.body.length c3] 46, rfl⟩)
    refine ⟨rfl, .tuple #[.agg #[.int .i64 0, .slice none 0 0, .slice none 0 0, .slice none 0 0], .int .i64 3], by simp [results, Tryd.f28, go_sem, k0, k1, k2, k3], ?_⟩
    exact ⟨noMsg, _, _, _, msgV_no _, hb5, .inr ⟨rfl, HN2.out, rfl⟩, fun g hg => by cases hg⟩
  | false =>
    have HY2 := Lib.hid (HY.out rfl)
    by_cases hr0 : n' = 0
    · subst hr0
      have HZ0 : Hid (r = []) := Lib.hid (List.eq_nil_of_length_eq_zero (by omega))
      have CMay : Hid (Calls Tryd.prog 36 #[.agg #[.int .i64 kd, .slice A1 m.nums.length c1, .slice A2' m.addrs.length c2, .slice A3 m.body.length c3]] (w1.alloc (.cells #[.int .i64 kd, .slice A1 m.nums.length c1, .slice A2' m.addrs.length c2, .slice A3 m.body.length c3] 46)) fun e w' => e = .returned (.bool (Wi.may m)) ∧ Below (w1.heap.size + 1) (w1.alloc (.cells #[.int .i64 kd, .slice A1 m.nums.length c1, .slice A2' m.addrs.length c2, .slice A3 m.body.length c3] 46)) w') := Lib.hid (by
        have hb := (Below.refl w1.heap.size w1).alloc (Nat.le_refl _) (.cells #[.int .i64 kd, .slice A1 m.nums.length c1, .slice A2' m.addrs.length c2, .slice A3 m.body.length c3] 46)
        have := may_msg m _ _ _ _ (HV.out.below hb) (HT1.out.below hb)
        rw [hkd, World.size_alloc] at this
        exact this)
      have hrd : Wi.read zs = if Wi.may m = true then some m else none := by
        unfold Wi.read
        rw [HY2.out]
        simp [HZ0.out]
      clear g0 g1 g2 g3 gf0 gf1 gf2 gf3 hnl
      go_wp2_with fail
      refine CMay.out.mono ?_
      rintro e w2 ⟨rfl, hb2⟩
      have hM1 : (w1.alloc (.cells #[.int .i64 kd, .slice A1 m.nums.length c1, .slice A2' m.addrs.length c2, .slice A3 m.body.length c3] 46)).heap[w1.heap.size]? = _ := heap_new _ _
      have hM2 : MBox w2 w1.heap.size kd (.slice A1 m.nums.length c1) (.slice A2' m.addrs.length c2) (.slice A3 m.body.length c3) := (hb2.block _ (by simp)).trans hM1
      have hG2 : w2.heap[w.heap.size]? = some (.cells #[.int .i64 0, .slice none 0 0, .slice none 0 0, .slice none 0 0] 46 (0, 0)) := (hb2.block _ (by omega)).trans ((Below.heap_alloc _ _ _ hGL).trans G1.out)
      have HB2 : Hid (Below w.heap.size w w2) := Lib.hid ((HBW.out.alloc HBW.out.size _).trans (hb2.mono (by omega)))
      have HS2 : Hid (∀ g, g < w1.heap.size → w2.heap[g]? = w1.heap[g]?) := Lib.hid (fun g hg => (hb2.block g (by omega)).trans (Below.heap_alloc _ _ _ hg))
      have hsz2 := hb2.size
      simp at hsz2
      have G2 := Lib.hid hG2
      obtain ⟨⟨m0, m1, m2, m3⟩, hML, _⟩ := MBox.mx hM2
      obtain ⟨⟨g0, g1, g2, g3⟩, hGL2, gf⟩ := MBox.mx hG2
      have gf0 := gf 0; have gf1 := gf 1; have gf2 := gf 2; have gf3 := gf 3
      clear hM1 hM2 hG2 hb2 gf
      cases hmay : Wi.may m with
      | false =>
        have HN2 : Hid (Wi.read zs = none) := Lib.hid (by rw [hrd, hmay]; rfl)
        clear hrd hmay
        go_wp2
        obtain ⟨⟨k0, k1, k2, k3⟩, hb5⟩ := HNO.out w2 G2.out HB2.out _ (.inl rfl)
        refine ⟨rfl, .tuple #[.agg #[.int .i64 0, .slice none 0 0, .slice none 0 0, .slice none 0 0], .int .i64 3], by simp [results, Tryd.f28, go_sem, k0, k1, k2, k3], ?_⟩
        exact ⟨noMsg, _, _, _, msgV_no _, hb5, .inr ⟨rfl, HN2.out, rfl⟩, fun g hg => by cases hg⟩
      | true =>
        have HN2 : Hid (Wi.read zs = some m) := Lib.hid (by rw [hrd, hmay]; rfl)
        clear hrd hmay
        go_wp2
        obtain ⟨p1, p2⟩ := put4 (x1 := .slice A1 m.nums.length c1) (x2 := .slice A2' m.addrs.length c2) (x3 := .slice A3 m.body.length c3) (k' := kd) G2.out rfl
        obtain ⟨k0, k1, k2, k3⟩ := (MBox.mx p1).1
        refine ⟨rfl, .tuple #[.agg #[.int .i64 kd, .slice A1 m.nums.length c1, .slice A2' m.addrs.length c2, .slice A3 m.body.length c3], .int .i64 0], by simp [results, Tryd.f28, go_sem, k0, k1, k2, k3], ?_⟩
        refine ⟨m, _, _, _, HMM.out _ (by have := p2.size; omega) (fun g h3 h4 => (p2.block g (by omega) (fun e => by simp at e; omega)).trans (HS2.out g h4)), HB2.out.grown p2 HB2.out.size (fun r e => by cases e; exact Nat.le_refl _), .inl ⟨by rw [hkd], HN2.out⟩, fun g hg => by
          obtain ⟨q1, q2, C, q3⟩ := HX2.out g hg
          exact ⟨by omega, C, ((p2.block g (by omega) (fun e => by simp at e; omega)).trans (HS2.out g q2)).trans q3⟩⟩
    · have t1 : decide ((0 : Int) < (n' : Int)) = true := by simp; omega
      have HN2 : Hid (Wi.read zs = none) := Lib.hid (by
        unfold Wi.read
        rw [HY2.out]
        have : ¬ (r = [] ∧ Wi.may m = true) := fun h => by have := h.1; subst this; simp at hnl; omega
        simp only [if_neg this])
      go_wp2
      obtain ⟨⟨k0, k1, k2, k3⟩, hb5⟩ := HNO.out w1 G1.out HBW.out _ (.inr ⟨.cells #[.int .i64 kd, .slice A1 m.nums.length c1, .slice A2' m.addrs.length c2, .slice A3 m.body.length c3] 46, rfl⟩)
      refine ⟨rfl, .tuple #[.agg #[.int .i64 0, .slice none 0 0, .slice none 0 0, .slice none 0 0], .int .i64 3], by simp [results, Tryd.f28, go_sem, k0, k1, k2, k3], ?_⟩
      exact ⟨noMsg, _, _, _, msgV_no _, hb5, .inr ⟨rfl, HN2.out, rfl⟩, fun g hg => by cases hg⟩
end Go.Proofs.YtdiilgedicfekaaDoor
