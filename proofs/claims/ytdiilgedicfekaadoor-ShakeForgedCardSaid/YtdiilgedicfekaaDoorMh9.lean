/-
  The contract of embrasure/wire's FromBytes. Conditions: the table is as it was laid; at most 1,000,000 bytes.
  The contract of the statements' own 'awake': it answers true, and writes nothing that was there. Conditions: the table is as it was laid.
  What the statements' walks take: Bytes of a message that may be, FromBytes of bytes that are one, or none. Conditions: as each states.
  The contract of the document's own Same of two messages. No conditions.
  What Bytes gives of any message, and a walk's facts behind it. Conditions: as each states.
  What the document's own FromBytes reads, step by step, against the message of bytes: pure facts of lists. Conditions: as each states.
  The contract of the document's own FromBytes. Conditions: at most 1,000,000 bytes.
-/
import Derived.Test.YtdiilgedicfekaaDoorMh8
namespace Go.Proofs.YtdiilgedicfekaaDoor
open Go.RowKit
set_option linter.unusedVariables false
set_option maxRecDepth 100000

def noMsg : Wi.Msg := ⟨0, [], [], []⟩
theorem msgV_no (w : World) : MsgV w (.slice none 0 0) (.slice none 0 0) (.slice none 0 0) noMsg :=
  ⟨⟨none, 0, rfl, Nat.le_refl _, Nat.zero_le _, fun _ => ⟨rfl, rfl⟩, by simp [noMsg], fun h => by simp [noMsg] at h⟩, ⟨none, 0, rfl, Nat.le_refl _, Nat.zero_le _, fun _ => ⟨rfl, rfl⟩, by simp [noMsg], fun h => by simp [noMsg] at h⟩,
    ⟨none, 0, rfl, ⟨rfl, by simp [noMsg], fun h => by simp [noMsg] at h⟩, Nat.le_refl _, Nat.zero_le _, fun _ => ⟨rfl, rfl⟩⟩, by simp [noMsg], by simp [noMsg]⟩
/-- a message where its blocks are as they were -/
theorem MsgV.at {w w' : World} {x1 x2 x3 : Value} {m : Wi.Msg} (h : MsgV w x1 x2 x3 m) (hs : w.heap.size ≤ w'.heap.size) (hb : ∀ g, (x1.ownBlock = some g ∨ x2.ownBlock = some g ∨ x3.ownBlock = some g) → w'.heap[g]? = w.heap[g]?) : MsgV w' x1 x2 x3 m := by
  obtain ⟨⟨A1, c1, rfl, a1, a2, a3, a4, a5⟩, ⟨A2, c2, rfl, b1, b2, b3, b4, b5⟩, ⟨A3, c3, rfl, d1, d2, d3, d4⟩, e1, e2⟩ := h
  refine ⟨⟨A1, c1, rfl, a1, a2, a3, a4, fun hp => ?_⟩, ⟨A2, c2, rfl, b1, b2, b3, b4, fun hp => ?_⟩, ⟨A3, c3, rfl, ⟨d1.1, d1.2.1, fun hp => ?_⟩, d2, d3, d4⟩, e1, e2⟩
  · obtain ⟨b, off, rfl, hc⟩ := a5 hp
    exact ⟨b, off, rfl, fun j hj => (World.cell?_of_block (a := ⟨b, off + j, none⟩) (hb b (.inl rfl))).trans (hc j hj)⟩
  · obtain ⟨b, off, rfl, hc⟩ := b5 hp
    exact ⟨b, off, rfl, fun j hj => ⟨(World.cell?_of_block (a := ⟨b, off + j * 2, none⟩) (hb b (.inr (.inl rfl)))).trans (hc j hj).1, (World.cell?_of_block (a := ⟨b, off + j * 2 + 1, none⟩) (hb b (.inr (.inl rfl)))).trans (hc j hj).2⟩⟩
  · obtain ⟨b, off, rfl, hlt, hc⟩ := d1.2.2 hp
    exact ⟨b, off, rfl, Nat.lt_of_lt_of_le hlt hs, fun j hj => (World.cell?_of_block (a := ⟨b, off + j, none⟩) (hb b (.inr (.inr rfl)))).trans (hc j hj)⟩
/-- what FromBytes answers -/
def ReadAns (w : World) (zs : List Int) (e : Ending) (w' : World) : Prop :=
  ∃ m x1 x2 x3, MsgV w' x1 x2 x3 m ∧ Below w.heap.size w w' ∧ ((e = .returned (.tuple #[.agg #[.int .i64 m.kind, x1, x2, x3], .int .i64 0]) ∧ Wi.read zs = some m) ∨ (e = .returned (.tuple #[.agg #[.int .i64 m.kind, x1, x2, x3], .int .i64 3]) ∧ Wi.read zs = none ∧ m = noMsg))
/-- a reader of bytes that lie in a block -/
theorem rd_of {w : World} {A : Option Addr} {n c : Nat} {zs : List Int} (hb : Bts w A n zs) (h1 : n ≤ c) (h2 : c ≤ maxLen) (h3 : A = none → n = 0 ∧ c = 0) (h0 : 0 < w.heap.size) :
    ∃ b, b < w.heap.size ∧ ∀ W : World, Below w.heap.size w W → Rd (W.alloc (.cells #[.slice A n c, .bool false] 100)) W.heap.size b zs false := by
  by_cases hn : 0 < n
  · obtain ⟨b, off, e, hlt, hc⟩ := hb.2.2 hn
    refine ⟨b, hlt, fun W hW => ⟨A, n, c, heap_new _ _, (hb.below hW).below ((Below.refl _ _).alloc (Nat.le_refl _) _), h1, h2, h3, fun _ => ⟨_, e, rfl, by have := hW.size; omega⟩⟩⟩
  · exact ⟨0, h0, fun W hW => ⟨A, n, c, heap_new _ _, (hb.below hW).below ((Below.refl _ _).alloc (Nat.le_refl _) _), h1, h2, h3, fun h => absurd h hn⟩⟩

/-- a message has been put into a cell, field by field -/
theorem put4 {V : World} {G : Nat} {k k' : Int} {a b c x1 x2 x3 : Value} (h : MBox V G k a b c) {W5 : World} (hW : W5 = (((V.setCell ⟨G, 0, none⟩ (.int .i64 k')).setCell ⟨G, 1, none⟩ x1).setCell ⟨G, 2, none⟩ x2).setCell ⟨G, 3, none⟩ x3) :
    MBox W5 G k' x1 x2 x3 ∧ V.grownBy W5 (some G) := by
  have h0 : V.heap[G]? = _ := h
  subst hW
  refine ⟨?_, ?_⟩
  · have a1 := heap_mod (k := 0) h0 (by simp) (.int .i64 k')
    have a2 := heap_mod (k := 1) a1 (by simp) x1
    have a3 := heap_mod (k := 2) a2 (by simp) x2
    have a4 := heap_mod (k := 3) a3 (by simp) x3
    unfold MBox
    simpa using a4
  · exact grown_trans (grown_trans (grown_trans (grown_set V G 0 _) (grown_set _ G 1 _)) (grown_set _ G 2 _)) (grown_set _ G 3 _)

set_option maxRecDepth 100000 in
set_option maxHeartbeats 4000000 in
theorem from_any (A : Option Addr) (n c : Nat) (zs : List Int) (w : World) (hb : Bts w A n zs) (h1 : n ≤ c) (h2 : c ≤ maxLen) (h3 : A = none → n = 0 ∧ c = 0) (hT : Tb w) (hz : zs.length ≤ 1000000) :
    Calls Tryd.prog 28 #[.slice A n c] w (ReadAns w zs) := by
  obtain ⟨b, hbl, hrd⟩ := rd_of hb h1 h2 h3 hT.pos
  have hB0 : Below w.heap.size w (w.alloc zbox) := (Below.refl _ _).alloc (Nat.le_refl _) _
  have hB1 : Below w.heap.size w ((w.alloc zbox).alloc (.cells #[.slice A n c, .bool false] 100)) := hB0.alloc (by simp) _
  have CM : Hid (Calls Tryd.prog 46 #[.pointer (some ⟨w.heap.size + 1, 0, none⟩)] ((w.alloc zbox).alloc (.cells #[.slice A n c, .bool false] 100)) (MsgAns ((w.alloc zbox).alloc (.cells #[.slice A n c, .bool false] 100)) (w.heap.size + 1) b zs)) := Lib.hid (by
    have := message_any (w.heap.size + 1) b zs _ (by have := hrd _ hB0; rwa [World.size_alloc] at this) (by simp; omega) (hT.below hB1) hz
    exact this)
  have HT := Lib.hid hT
  have HB1 := Lib.hid hB1
  have HGZ : Hid (((w.alloc zbox).alloc (.cells #[.slice A n c, .bool false] 100)).heap[w.heap.size]? = some (.cells #[.int .i64 0, .slice none 0 0, .slice none 0 0, .slice none 0 0] 46 (0, 0))) := Lib.hid ((Below.heap_alloc _ _ _ (by simp)).trans (heap_new _ _))
  unfold zbox at CM HB1 HGZ
  clear hb h1 h2 h3 hbl hrd hB0 hB1 hT
  go_enter Tryd.func28, Tryd.ntmps28
  go_wp2_with fail
  refine CM.out.mono ?_
  rintro e w1 ⟨m, x1, x2, x3, r, bd, rfl, hv, hg, hr, hy, hn, hx⟩
  have hG1 := (hg.block w.heap.size (by simp; omega) (by simp)).trans HGZ.out
  have HBW : Hid (Below w.heap.size w w1) := Lib.hid (HB1.out.grown hg (by simp; omega) (fun r e => by simp at e; omega))
  have HGR := Lib.hid hg.size
  simp at HGR
  have HMM : Hid (∀ W : World, w1.heap.size ≤ W.heap.size → (∀ g, w.heap.size + 2 ≤ g → g < w1.heap.size → W.heap[g]? = w1.heap[g]?) → MsgV W x1 x2 x3 m) := Lib.hid (fun W h1 h2 => hv.at h1 (fun g hg => by
    have h3 := hx g hg
    simp at h3
    exact h2 g h3.1 h3.2))
  have G1 := Lib.hid hG1
  have HNO : Hid (∀ V : World, V.heap[w.heap.size]? = some (.cells #[.int .i64 0, .slice none 0 0, .slice none 0 0, .slice none 0 0] 46 (0, 0)) → Below w.heap.size w V → ∀ W, (W = (((V.setCell ⟨w.heap.size, 0, none⟩ (.int .i64 0)).setCell ⟨w.heap.size, 1, none⟩ (.slice none 0 0)).setCell ⟨w.heap.size, 2, none⟩ (.slice none 0 0)).setCell ⟨w.heap.size, 3, none⟩ (.slice none 0 0) ∨ ∃ o, W = ((((V.setCell ⟨w.heap.size, 0, none⟩ (.int .i64 0)).setCell ⟨w.heap.size, 1, none⟩ (.slice none 0 0)).setCell ⟨w.heap.size, 2, none⟩ (.slice none 0 0)).setCell ⟨w.heap.size, 3, none⟩ (.slice none 0 0)).alloc o) →
      Mx W w.heap.size 0 (.slice none 0 0) (.slice none 0 0) (.slice none 0 0) ∧ Below w.heap.size w W) := Lib.hid (fun V hV hB W hW => by
    obtain ⟨p1, p2⟩ := put4 (x1 := .slice none 0 0) (x2 := .slice none 0 0) (x3 := .slice none 0 0) (k' := 0) hV rfl
    have p3 := hB.grown p2 hB.size (fun r e => by cases e; exact Nat.le_refl _)
    rcases hW with rfl | ⟨o, rfl⟩
    · exact ⟨(MBox.mx p1).1, p3⟩
    · have p4 := (MBox.mx p1).2.1
      exact ⟨(MBox.mx ((Below.heap_alloc _ _ _ p4).trans p1)).1, p3.alloc p3.size _⟩)
  have HV := Lib.hid hv; have HY := Lib.hid hy; have HN := Lib.hid hn
  have HT1 := Lib.hid (HT.out.below HBW.out)
  obtain ⟨A1, c1, e1, _⟩ := hv.1
  obtain ⟨A2', c2, e2, _⟩ := hv.2.1
  obtain ⟨A3, c3, e3, _⟩ := hv.2.2.1
  obtain ⟨A', n', c', e, hbt, _⟩ := hr
  obtain ⟨l0, d0, d1, _, _⟩ := Rd.cells e
  have hnl := hbt.len
  obtain ⟨⟨g0, g1, g2, g3⟩, hGL, gf⟩ := MBox.mx hG1
  have gf0 := gf 0; have gf1 := gf 1; have gf2 := gf 2; have gf3 := gf 3
  subst e1 e2 e3
  clear hv hg hx hy hn hG1 e hbt gf
  obtain ⟨kd, hkd⟩ : ∃ kd, m.kind = kd := ⟨_, rfl⟩
  rw [hkd]
  cases bd with
  | true =>
    have HN2 : Hid (Wi.read zs = none) := Lib.hid (by unfold Wi.read; rw [HN.out rfl])
    go_wp2
    obtain ⟨⟨k0, k1, k2, k3⟩, hb5⟩ := HNO.out w1 G1.out HBW.out _ (.inr ⟨.cells #[.int .i64 kd, .slice A1 m.nums.length c1, .slice A2' m.addrs.length c2, .slice A3 m.body.length c3] 46, rfl⟩)
    refine ⟨rfl, .tuple #[.agg #[.int .i64 0, .slice none 0 0, .slice none 0 0, .slice none 0 0], .int .i64 3], by simp [results, Tryd.f28, go_sem, k0, k1, k2, k3], ?_⟩
    exact ⟨noMsg, _, _, _, msgV_no _, hb5, .inr ⟨rfl, HN2.out, rfl⟩⟩
  | false =>
    have HY2 := Lib.hid (HY.out rfl)
    by_cases hr0 : n' = 0
    · subst hr0
      have HZ0 : Hid (r = []) := Lib.hid (List.eq_nil_of_length_eq_zero (by omega))
      have CMay : Hid (Calls Tryd.prog 36 #[.agg #[.int .i64 kd, .slice A1 m.nums.length c1, .slice A2' m.addrs.length c2, .slice A3 m.body.length c3]] (w1.alloc (.cells #[.int .i64 kd, .slice A1 m.nums.length c1, .slice A2' m.addrs.length c2, .slice A3 m.body.length c3] 46)) fun e w' => e = .returned (.bool (Wi.may m)) ∧ Below (w1.heap.size + 1) (w1.alloc (.cells #[.int .i64 kd, .slice A1 m.nums.length c1, .slice A2' m.addrs.length c2, .slice A3 m.body.length c3] 46)) w') := Lib.hid (by
        have hb := (Below.refl w1.heap.size w1).alloc (Nat.le_refl _) (.cells #[.int .i64 kd, .slice A1 m.nums.length c1, .slice A2' m.addrs.length c2, .slice A3 m.body.length c3] 46)
        have := may_msg m _ _ _ _ (HV.out.below hb) (HT1.out.below hb)
        rw [hkd, World.size_alloc] at this
        exact this)
      have hrd : Wi.read zs = if Wi.may m = true then some m else none := by
        unfold Wi.read
        rw [HY2.out]
        simp [HZ0.out]
      clear g0 g1 g2 g3 gf0 gf1 gf2 gf3 hnl
      go_wp2_with fail
      refine CMay.out.mono ?_
      rintro e w2 ⟨rfl, hb2⟩
      have hM1 : (w1.alloc (.cells #[.int .i64 kd, .slice A1 m.nums.length c1, .slice A2' m.addrs.length c2, .slice A3 m.body.length c3] 46)).heap[w1.heap.size]? = _ := heap_new _ _
      have hM2 : MBox w2 w1.heap.size kd (.slice A1 m.nums.length c1) (.slice A2' m.addrs.length c2) (.slice A3 m.body.length c3) := (hb2.block _ (by simp)).trans hM1
      have hG2 : w2.heap[w.heap.size]? = some (.cells #[.int .i64 0, .slice none 0 0, .slice none 0 0, .slice none 0 0] 46 (0, 0)) := (hb2.block _ (by omega)).trans ((Below.heap_alloc _ _ _ hGL).trans G1.out)
      have HB2 : Hid (Below w.heap.size w w2) := Lib.hid ((HBW.out.alloc HBW.out.size _).trans (hb2.mono (by omega)))
      have HS2 : Hid (∀ g, g < w1.heap.size → w2.heap[g]? = w1.heap[g]?) := Lib.hid (fun g hg => (hb2.block g (by omega)).trans (Below.heap_alloc _ _ _ hg))
      have hsz2 := hb2.size
      simp at hsz2
      have G2 := Lib.hid hG2
      obtain ⟨⟨m0, m1, m2, m3⟩, hML, _⟩ := MBox.mx hM2
      obtain ⟨⟨g0, g1, g2, g3⟩, hGL2, gf⟩ := MBox.mx hG2
      have gf0 := gf 0; have gf1 := gf 1; have gf2 := gf 2; have gf3 := gf 3
      clear hM1 hM2 hG2 hb2 gf
      cases hmay : Wi.may m with
      | false =>
        have HN2 : Hid (Wi.read zs = none) := Lib.hid (by rw [hrd, hmay]; rfl)
        clear hrd hmay
        go_wp2
        obtain ⟨⟨k0, k1, k2, k3⟩, hb5⟩ := HNO.out w2 G2.out HB2.out _ (.inl rfl)
        refine ⟨rfl, .tuple #[.agg #[.int .i64 0, .slice none 0 0, .slice none 0 0, .slice none 0 0], .int .i64 3], by simp [results, Tryd.f28, go_sem, k0, k1, k2, k3], ?_⟩
        exact ⟨noMsg, _, _, _, msgV_no _, hb5, .inr ⟨rfl, HN2.out, rfl⟩⟩
      | true =>
        have HN2 : Hid (Wi.read zs = some m) := Lib.hid (by rw [hrd, hmay]; rfl)
        clear hrd hmay
        go_wp2
        obtain ⟨p1, p2⟩ := put4 (x1 := .slice A1 m.nums.length c1) (x2 := .slice A2' m.addrs.length c2) (x3 := .slice A3 m.body.length c3) (k' := kd) G2.out rfl
        obtain ⟨k0, k1, k2, k3⟩ := (MBox.mx p1).1
        refine ⟨rfl, .tuple #[.agg #[.int .i64 kd, .slice A1 m.nums.length c1, .slice A2' m.addrs.length c2, .slice A3 m.body.length c3], .int .i64 0], by simp [results, Tryd.f28, go_sem, k0, k1, k2, k3], ?_⟩
        refine ⟨m, _, _, _, HMM.out _ (by have := p2.size; omega) (fun g h3 h4 => (p2.block g (by omega) (fun e => by simp at e; omega)).trans (HS2.out g h4)), HB2.out.grown p2 HB2.out.size (fun r e => by cases e; exact Nat.le_refl _), .inl ⟨by rw [hkd], HN2.out⟩⟩
    · have t1 : decide ((0 : Int) < (n' : Int)) = true := by simp; omega
      have HN2 : Hid (Wi.read zs = none) := Lib.hid (by
        unfold Wi.read
        rw [HY2.out]
        have : ¬ (r = [] ∧ Wi.may m = true) := fun h => by have := h.1; subst this; simp at hnl; omega
        simp only [if_neg this])
      go_wp2
      obtain ⟨⟨k0, k1, k2, k3⟩, hb5⟩ := HNO.out w1 G1.out HBW.out _ (.inr ⟨.cells #[.int .i64 kd, .slice A1 m.nums.length c1, .slice A2' m.addrs.length c2, .slice A3 m.body.length c3] 46, rfl⟩)
      refine ⟨rfl, .tuple #[.agg #[.int .i64 0, .slice none 0 0, .slice none 0 0, .slice none 0 0], .int .i64 3], by simp [results, Tryd.f28, go_sem, k0, k1, k2, k3], ?_⟩
      exact ⟨noMsg, _, _, _, msgV_no _, hb5, .inr ⟨rfl, HN2.out, rfl⟩⟩
end Go.Proofs.YtdiilgedicfekaaDoor
namespace Go.Proofs.YtdiilgedicfekaaDoor
open Go.RowKit
set_option linter.unusedVariables false
set_option maxRecDepth 100000

def msgP : Wi.Msg := ⟨5, [300], [], []⟩
theorem may_P : Wi.may msgP = true := by decide +kernel
theorem wf_P : Wi.Wf msgP := ⟨by simp [msgP], by simp [msgP], by simp [msgP]⟩
theorem bytes_P : Wi.bytes msgP = [5, 172, 2, 0, 0] := by decide +kernel
theorem read_P : Wi.read [5, 172, 2, 0, 0] = some msgP := by rw [← bytes_P]; exact Wi.read_bytes wf_P may_P
theorem read_nil : Wi.read [] = none := by
  cases h : Wi.read [] with
  | none => rfl
  | some m =>
    obtain ⟨h1, h2, _⟩ := Wi.read_ok (by simp) h
    have := (Wi.bytes_len h1).1
    rw [h2] at this
    simp at this
theorem putP (b : Nat) (w : World) (hT : Tb w) (hc : w.cell? ⟨b, 0, none⟩ = some (.int .u64 300)) : Calls Tryd.prog 21 #[.agg #[.int .i64 5, .slice (some ⟨b, 0, none⟩) 1 1, .slice none 0 0, .slice none 0 0]] w fun e w' => ∃ g c, e = .returned (.slice (some ⟨g, 0, none⟩) 5 c) ∧
    w'.cell? ⟨g, 0, none⟩ = some (.int .u8 5) ∧ w'.cell? ⟨g, 1, none⟩ = some (.int .u8 172) ∧ g < w'.heap.size ∧ Hid (5 ≤ c ∧ c ≤ maxLen ∧ Bts w' (some ⟨g, 0, none⟩) 5 [5, 172, 2, 0, 0]) ∧ Hid (Below w.heap.size w w') := by
  have hv : MsgV w (.slice (some ⟨b, 0, none⟩) 1 1) (.slice none 0 0) (.slice none 0 0) msgP :=
    ⟨⟨_, 1, rfl, by simp [msgP], by decide, by simp, by simp [msgP], fun _ => ⟨b, 0, rfl, fun j hj => by
      obtain rfl : j = 0 := by simp [msgP] at hj; exact hj
      simpa [msgP] using hc⟩⟩, (msgV_no w).2.1, (msgV_no w).2.2.1, by simp [msgP], by simp [msgP]⟩
  refine (bytes_msg_ok msgP _ _ _ w hv hT may_P).mono ?_
  rintro e w' ⟨r, rfl, hown, hb⟩
  rw [bytes_P] at hown
  obtain ⟨A, c, rfl, i1, i2, hbt⟩ := own_form hown (by simp)
  rcases hown.2 with ⟨h', _⟩ | ⟨g, cap, cur, h', _, hg, _⟩
  · simp at h'
  · simp only [Value.slice.injEq] at h'
    obtain ⟨rfl, _, rfl⟩ := h'
    have h0 := hown.cellAt 0 (by simp)
    have h1 := hown.cellAt 1 (by simp)
    exact ⟨g, c, rfl, h0, h1, (Array.getElem?_eq_some_iff.1 hg).1, Lib.hid ⟨i1, i2, hbt⟩, Lib.hid hb⟩
theorem readP (g c : Nat) (w : World) (hT : Tb w) (h1 : 5 ≤ c) (h2 : c ≤ maxLen) (hb : Bts w (some ⟨g, 0, none⟩) 5 [5, 172, 2, 0, 0]) : Calls Tryd.prog 28 #[.slice (some ⟨g, 0, none⟩) 5 c] w fun e w' =>
    ∃ b off c1 A2 c2 A3 c3, e = .returned (.tuple #[.agg #[.int .i64 5, .slice (some ⟨b, off, none⟩) 1 c1, .slice A2 0 c2, .slice A3 0 c3], .int .i64 0]) ∧ w'.cell? ⟨b, off, none⟩ = some (.int .u64 300) ∧ b < w'.heap.size ∧ Hid (Below w.heap.size w w') := by
  refine (from_any _ 5 c _ w hb h1 h2 (by simp) hT (by simp)).mono ?_
  rintro e w' ⟨m, x1, x2, x3, hv, hbe, ⟨rfl, hr⟩ | ⟨_, hr, _⟩⟩
  · rw [read_P] at hr
    cases hr
    obtain ⟨⟨A1, c1, rfl, a1, a2, a3, a4, a5⟩, ⟨A2, c2, rfl, _⟩, ⟨A3, c3, rfl, _⟩, _⟩ := hv
    obtain ⟨b, off, rfl, hc⟩ := a5 (by simp [msgP])
    have h0 : w'.cell? ⟨b, off, none⟩ = some (.int .u64 300) := hc 0 (by simp [msgP])
    exact ⟨b, off, c1, A2, c2, A3, c3, rfl, h0, lt_of_cell h0, Lib.hid hbe⟩
  · rw [read_P] at hr; cases hr
theorem readNil (w : World) (hT : Tb w) : Calls Tryd.prog 28 #[.slice none 0 0] w fun e w' =>
    ∃ A1 c1 A2 c2 A3 c3, e = .returned (.tuple #[.agg #[.int .i64 0, .slice A1 0 c1, .slice A2 0 c2, .slice A3 0 c3], .int .i64 3]) ∧ Hid (Below w.heap.size w w') := by
  refine (from_any none 0 0 [] w ⟨rfl, by simp, fun h => by simp at h⟩ (Nat.le_refl _) (Nat.zero_le _) (fun _ => ⟨rfl, rfl⟩) hT (by simp)).mono ?_
  rintro e w' ⟨m, x1, x2, x3, hv, hbe, ⟨_, hr⟩ | ⟨rfl, hr, rfl⟩⟩
  · rw [read_nil] at hr; cases hr
  · obtain ⟨⟨A1, c1, rfl, _⟩, ⟨A2, c2, rfl, _⟩, ⟨A3, c3, rfl, _⟩, _⟩ := hv
    exact ⟨A1, c1, A2, c2, A3, c3, rfl, Lib.hid hbe⟩

end Go.Proofs.YtdiilgedicfekaaDoor
namespace Go.Proofs.YtdiilgedicfekaaDoor
open Go.RowKit
set_option linter.unusedVariables false
set_option maxRecDepth 100000

theorem law_bytes (m : Wi.Msg) (x1 x2 x3 : Value) (w : World) (hv : MsgV w x1 x2 x3 m) (hT : Tb w) (hm : Wi.may m = true) :
    Calls Tryd.prog 21 #[.agg #[.int .i64 m.kind, x1, x2, x3]] w fun e w' => ∃ g c, e = .returned (.slice (some ⟨g, 0, none⟩) (Wi.bytes m).length c) ∧ (Wi.bytes m).length ≤ c ∧ c ≤ maxLen ∧ w.heap.size ≤ g ∧ g < w'.heap.size ∧
      w'.ownsRow w.heap.size 5 1 (.slice (some ⟨g, 0, none⟩) (Wi.bytes m).length c) (Wi.bytes m).length (B (Wi.bytes m)) ∧ Bts w' (some ⟨g, 0, none⟩) (Wi.bytes m).length (Wi.bytes m) ∧ Below w.heap.size w w' := by
  refine (bytes_msg_ok m x1 x2 x3 w hv hT hm).mono ?_
  rintro e w' ⟨r, rfl, ho, hb⟩
  have hl := (Wi.bytes_len hm).1
  obtain ⟨g, c, rfl, h1, h2, h3⟩ := own_some ho (by omega)
  obtain ⟨A, c', e', _, _, hbt⟩ := own_form ho (Wi.bytes_bd hv.wf hm)
  cases e'
  exact ⟨g, c, rfl, h2, h3, h1, (ho.lt g rfl).2, ho, hbt, hb⟩
theorem law_read (A : Option Addr) (n c : Nat) (zs : List Int) (m : Wi.Msg) (w : World) (hb : Bts w A n zs) (h1 : n ≤ c) (h2 : c ≤ maxLen) (h3 : A = none → n = 0 ∧ c = 0) (hT : Tb w) (hz : zs.length ≤ 1000000) (hr : Wi.read zs = some m) :
    Calls Tryd.prog 28 #[.slice A n c] w fun e w' => ∃ x1 x2 x3, e = .returned (.tuple #[.agg #[.int .i64 m.kind, x1, x2, x3], .int .i64 0]) ∧ MsgV w' x1 x2 x3 m ∧ Below w.heap.size w w' := by
  refine (from_any A n c zs w hb h1 h2 h3 hT hz).mono ?_
  rintro e w' ⟨m', x1, x2, x3, hv, hbe, ⟨rfl, hr'⟩ | ⟨_, hr', _⟩⟩
  · rw [hr] at hr'
    cases hr'
    exact ⟨x1, x2, x3, rfl, hv, hbe⟩
  · rw [hr] at hr'
    cases hr'
theorem law_none (A : Option Addr) (n c : Nat) (zs : List Int) (w : World) (hb : Bts w A n zs) (h1 : n ≤ c) (h2 : c ≤ maxLen) (h3 : A = none → n = 0 ∧ c = 0) (hT : Tb w) (hz : zs.length ≤ 1000000) (hr : Wi.read zs = none) :
    Calls Tryd.prog 28 #[.slice A n c] w fun e w' => ∃ x1 x2 x3, e = .returned (.tuple #[.agg #[.int .i64 0, x1, x2, x3], .int .i64 3]) ∧ MsgV w' x1 x2 x3 noMsg ∧ Below w.heap.size w w' := by
  refine (from_any A n c zs w hb h1 h2 h3 hT hz).mono ?_
  rintro e w' ⟨m', x1, x2, x3, hv, hbe, ⟨_, hr'⟩ | ⟨rfl, hr', rfl⟩⟩
  · rw [hr] at hr'
    cases hr'
  · exact ⟨x1, x2, x3, rfl, hv, hbe⟩
theorem MsgV.forms {w : World} {x1 x2 x3 : Value} {m : Wi.Msg} (h : MsgV w x1 x2 x3 m) : ∃ A1 c1 A2 c2 A3 c3, x1 = .slice A1 m.nums.length c1 ∧ x2 = .slice A2 m.addrs.length c2 ∧ x3 = .slice A3 m.body.length c3 := by
  obtain ⟨⟨A1, c1, rfl, _⟩, ⟨A2, c2, rfl, _⟩, ⟨A3, c3, rfl, _⟩, _⟩ := h
  exact ⟨_, _, _, _, _, _, rfl, rfl, rfl⟩
theorem small_bd {m : Wi.Msg} (h : Wi.may m = true) : small m = true := by
  obtain ⟨h1, h2, h3, _⟩ := Wi.may_iff.1 h
  have := Wi.numsOf_bd m.kind
  unfold small
  simp
  omega
theorem drewN_below {w W : World} (h : ∃ q, W = w.drewN q) : Below w.heap.size w W := by
  obtain ⟨q, rfl⟩ := h
  exact below_drewN' (Below.refl _ _) q
end Go.Proofs.YtdiilgedicfekaaDoor
namespace Go.Proofs.YtdiilgedicfekaaDoor
open Go.RowKit
set_option linter.unusedVariables false
set_option maxRecDepth 100000

theorem msg_eq {m n : Wi.Msg} : m = n ↔ m.kind = n.kind ∧ m.nums = n.nums ∧ m.addrs = n.addrs ∧ m.body = n.body := by
  cases m; cases n; simp
theorem list_eq {α : Type} [Inhabited α] (d : α) {a b : List α} (hl : a.length = b.length) (h : ∀ j, j < a.length → a.getD j d = b.getD j d) : a = b := by
  refine List.ext_getElem hl (fun i h1 h2 => ?_)
  have := h i h1
  simpa [List.getD, h1, h2] using this

end Go.Proofs.YtdiilgedicfekaaDoor
namespace Go.Proofs.YtdiilgedicfekaaDoor
open Go.RowKit
set_option linter.unusedVariables false
set_option maxRecDepth 100000

/-- what Bytes gives -/
def outB (m : Wi.Msg) : List Int := if Wi.may m = true then Wi.bytes m else []
theorem outB_len (m : Wi.Msg) : (outB m).length ≤ 1200 := by
  unfold outB
  split
  · exact (Wi.bytes_len (by assumption)).2
  · simp
theorem bts_nil (w : World) : Bts w none 0 [] := ⟨rfl, by simp, fun h => by simp at h⟩
theorem any_bytes (m : Wi.Msg) (x1 x2 x3 : Value) (w : World) (hv : MsgV w x1 x2 x3 m) (hT : Tb w) :
    Calls Tryd.prog 21 #[.agg #[.int .i64 m.kind, x1, x2, x3]] w fun e w' => ∃ A c, e = .returned (.slice A (outB m).length c) ∧ (outB m).length ≤ c ∧ c ≤ maxLen ∧ (A = none → (outB m).length = 0 ∧ c = 0) ∧ Bts w' A (outB m).length (outB m) ∧ Below w.heap.size w w' := by
  unfold outB
  cases hm : Wi.may m with
  | true =>
    rw [if_pos rfl]
    refine (law_bytes m x1 x2 x3 w hv hT hm).mono ?_
    rintro e w' ⟨g, c, rfl, h1, h2, _, _, _, h3, h4⟩
    exact ⟨_, c, rfl, h1, h2, (fun h => by cases h), h3, h4⟩
  | false =>
    rw [if_neg (by simp)]
    refine (bytes_msg_no m x1 x2 x3 w hv hT hm).mono ?_
    rintro e w' ⟨rfl, hb⟩
    exact ⟨none, 0, rfl, Nat.le_refl _, Nat.zero_le _, fun _ => ⟨rfl, rfl⟩, bts_nil _, hb⟩
theorem any_rbytes (m : Wi.Msg) (x1 x2 x3 : Value) (w : World) (hv : MsgV w x1 x2 x3 m) :
    Calls Tryd.prog 44 #[.agg #[.int .i64 m.kind, x1, x2, x3]] w fun e w' => ∃ A c, e = .returned (.slice A (outB m).length c) ∧ Bts w' A (outB m).length (outB m) ∧ Below w.heap.size w w' := by
  unfold outB
  cases hm : Wi.may m with
  | true =>
    rw [if_pos rfl]
    refine (rbytes_msg_ok m x1 x2 x3 w hv hm).mono ?_
    rintro e w' ⟨r, rfl, ho, hb⟩
    obtain ⟨A, c, rfl, _, _, hbt⟩ := own_form ho (Wi.bytes_bd hv.wf hm)
    exact ⟨A, c, rfl, hbt, hb⟩
  | false =>
    rw [if_neg (by simp)]
    refine (rbytes_msg_no m x1 x2 x3 w hv hm).mono ?_
    rintro e w' ⟨rfl, hb⟩
    exact ⟨none, 0, rfl, bts_nil _, hb⟩
/-- a message's box, and a row of bytes -/
structure U3 (w W : World) (kd : Int) (x1 x2 x3 : Value) (A : Option Addr) (n : Nat) (xs : List Int) : Prop where
  mx : Mx W w.heap.size kd x1 x2 x3
  bel : Below w.heap.size w W
  row : Bts W A n xs
theorem U3.call {w W W' : World} {kd : Int} {x1 x2 x3 : Value} {A : Option Addr} {n : Nat} {xs : List Int} (h : U3 w W kd x1 x2 x3 A n xs) (hb : Below W.heap.size W W') : U3 w W' kd x1 x2 x3 A n xs :=
  ⟨h.mx.call hb, h.bel.trans (hb.mono h.bel.size), h.row.below hb⟩
theorem U3.five {w W : World} {kd : Int} {x1 x2 x3 : Value} {A : Option Addr} {n : Nat} {xs : List Int} (h : U3 w W kd x1 x2 x3 A n xs) :
    W.cell? ⟨w.heap.size, 0, none⟩ = some (.int .i64 kd) ∧ W.cell? ⟨w.heap.size, 1, none⟩ = some x1 ∧ W.cell? ⟨w.heap.size, 2, none⟩ = some x2 ∧ W.cell? ⟨w.heap.size, 3, none⟩ = some x3 ∧ U3 w W kd x1 x2 x3 A n xs := ⟨h.mx.c0, h.mx.c1, h.mx.c2, h.mx.c3, h⟩
end Go.Proofs.YtdiilgedicfekaaDoor
namespace Go.Proofs.YtdiilgedicfekaaDoor
open Go.RowKit
set_option linter.unusedVariables false
set_option maxRecDepth 100000

theorem readMsg_parts {zs r : List Int} {m : Wi.Msg} (h : Wi.readMsg zs = some (m, r)) : Uv.code zs = 0 ∧ m.kind = Uv.val zs ∧ ∃ r1 r2, Wi.readNums (nrest zs) (Wi.numsOf (Uv.val zs)).toNat = some (m.nums, r1) ∧ Uv.code r1 = 0 ∧ Wi.readAddrs (nrest r1) (Uv.val r1).toNat = some (m.addrs, r2) ∧ Fr.code r2 = 0 := by
  unfold Wi.readMsg at h
  by_cases c1 : Uv.code zs = 0
  · rw [if_pos c1] at h
    have e1 : nrest zs = zs.drop (Uv.size zs) := by unfold nrest; rw [if_pos c1]
    rw [← e1] at h
    cases h1 : Wi.readNums (nrest zs) (Wi.numsOf (Uv.val zs)).toNat with
    | none => rw [h1] at h; cases h
    | some x =>
      obtain ⟨vs, r1⟩ := x
      rw [h1] at h
      simp only at h
      by_cases c2 : Uv.code r1 = 0
      · rw [if_pos c2] at h
        have e2 : nrest r1 = r1.drop (Uv.size r1) := by unfold nrest; rw [if_pos c2]
        rw [← e2] at h
        cases h2 : Wi.readAddrs (nrest r1) (Uv.val r1).toNat with
        | none => rw [h2] at h; cases h
        | some x =>
          obtain ⟨al, q⟩ := x
          rw [h2] at h
          simp only at h
          by_cases c3 : Fr.code q = 0
          · rw [if_pos c3] at h
            simp only [Option.some.injEq, Prod.mk.injEq] at h
            obtain ⟨rfl, rfl⟩ := h
            exact ⟨c1, rfl, r1, q, rfl, c2, h2, c3⟩
          · rw [if_neg c3] at h; cases h
      · rw [if_neg c2] at h; cases h
  · rw [if_neg c1] at h; cases h
theorem read_parts {zs : List Int} {m : Wi.Msg} (h : Wi.read zs = some m) : Wi.may m = true ∧ Wi.readMsg zs = some (m, []) := by
  unfold Wi.read at h
  cases h1 : Wi.readMsg zs with
  | none => rw [h1] at h; cases h
  | some x =>
    obtain ⟨m', r⟩ := x
    rw [h1] at h
    simp only at h
    by_cases c : r = [] ∧ Wi.may m' = true
    · rw [if_pos c] at h
      simp only [Option.some.injEq] at h
      subst h
      rw [c.1]
      exact ⟨c.2, rfl⟩
    · rw [if_neg c] at h; cases h
/-- where one step fails, none is read -/
theorem read_not {zs : List Int} (h : ∀ m, Wi.may m = true → Wi.readMsg zs = some (m, []) → False) : Wi.read zs = none := by
  cases h1 : Wi.read zs with
  | none => rfl
  | some m => exact (h m (read_parts h1).1 (read_parts h1).2).elim
theorem readNums_none {zs : List Int} {i : Nat} (h : Wi.readNums zs i = none) : ∀ {j : Nat}, i ≤ j → Wi.readNums zs j = none := by
  intro j hj
  induction j with
  | zero => obtain rfl : i = 0 := by omega
            exact h
  | succ j ih =>
    rcases Nat.lt_or_ge i (j + 1) with h' | h'
    · unfold Wi.readNums
      rw [ih (by omega)]
    · obtain rfl : i = j + 1 := by omega
      exact h
theorem rd_kind {zs : List Int} (h : Uv.code zs ≠ 0 ∨ Uv.val zs < 1 ∨ 18 < Uv.val zs) : Wi.read zs = none := read_not (fun m hm hr => by
  obtain ⟨h1, h2, _⟩ := readMsg_parts hr
  have h3 := Wi.numsOf_bd m.kind
  have h4 := (Wi.may_iff.1 hm).1
  omega)
theorem rd_num {zs : List Int} {i a K : Nat} {vs : List Nat} (hK : (Wi.numsOf (Uv.val zs)).toNat = K) (hi : i < K) (h : Wi.readNums (nrest zs) i = some (vs, zs.drop a)) (hc : Uv.code (zs.drop a) ≠ 0) : Wi.read zs = none := read_not (fun m hm hr => by
  obtain ⟨_, _, r1, r2, h1, _⟩ := readMsg_parts hr
  rw [hK, readNums_none (num_no h hc) (by omega)] at h1
  cases h1)
theorem rd_num_yes {zs : List Int} {i a : Nat} {vs : List Nat} (ha : a ≤ zs.length) (h : Wi.readNums (nrest zs) i = some (vs, zs.drop a)) (hc : Uv.code (zs.drop a) = 0) :
    Wi.readNums (nrest zs) (i + 1) = some (vs ++ [(Uv.val (zs.drop a)).toNat], zs.drop (a + Uv.size (zs.drop a))) ∧ a + Uv.size (zs.drop a) ≤ zs.length := by
  have h1 := num_yes h hc
  have e : nrest (zs.drop a) = zs.drop (a + Uv.size (zs.drop a)) := by unfold nrest; rw [if_pos hc, List.drop_drop]
  rw [e] at h1
  refine ⟨h1, ?_⟩
  rcases Uv.got_cases (zs.drop a) with h2 | h2
  · have := h2.2.2.1
    simp at this
    omega
  · omega
theorem nrest_size {zs : List Int} (hc : Uv.code zs = 0) : nrest zs = zs.drop (Uv.size zs) ∧ Uv.size zs ≤ zs.length := by
  refine ⟨by unfold nrest; rw [if_pos hc], ?_⟩
  rcases Uv.got_cases zs with h2 | h2
  · exact h2.2.2.1
  · omega
theorem code_nil : Uv.code [] ≠ 0 := by decide +kernel
theorem rd_many {zs : List Int} {a K : Nat} {vs : List Nat} (hb : ∀ z ∈ zs, 0 ≤ z ∧ z ≤ 255) (hK : (Wi.numsOf (Uv.val zs)).toNat = K) (h : Wi.readNums (nrest zs) K = some (vs, zs.drop a)) (hc : zs.length ≤ a ∨ 8 < zs.getD a 0) : Wi.read zs = none := read_not (fun m hm hr => by
  obtain ⟨_, _, r1, r2, h1, h2, h3, _⟩ := readMsg_parts hr
  rw [hK, h] at h1
  simp only [Option.some.injEq, Prod.mk.injEq] at h1
  obtain ⟨_, rfl⟩ := h1
  rcases hc with hc | hc
  · rw [List.drop_eq_nil_of_le hc] at h2
    exact code_nil h2
  · have hb1 : ∀ z ∈ zs.drop a, 0 ≤ z ∧ z ≤ 255 := fun z hz => hb z (List.mem_of_mem_drop hz)
    have h4 := (Wi.readAddrs_bd (nrest_bd hb1) h3).2.1
    have h5 := (Wi.may_iff.1 hm).2.1
    have h6 := Uv.val_bd (zs.drop a)
    have h7 := Uv.enc_val (zs.drop a) hb1 h2
    rw [Uv.enc_one _ (by omega)] at h7
    have h8 := congrArg (fun l : List Int => l.getD 0 0) h7
    simp only [List.getD, List.getElem?_drop, Nat.add_zero] at h8
    simp at h8
    have h9 : zs.getD a 0 = ((Uv.val (zs.drop a)).toNat : Int) := by
      unfold List.getD
      rw [← h8]
      omega
    omega)
theorem rd_many_yes {zs : List Int} {a : Nat} (hb : ∀ z ∈ zs, 0 ≤ z ∧ z ≤ 255) (ha : a < zs.length) (h8 : zs.getD a 0 ≤ 8) : Uv.code (zs.drop a) = 0 ∧ Uv.val (zs.drop a) = zs.getD a 0 ∧ nrest (zs.drop a) = zs.drop (a + 1) := by
  have h0 := hb zs[a] (List.getElem_mem ha)
  have hg : zs.getD a 0 = zs[a] := by simp [List.getD, ha]
  have hd : zs.drop a = Uv.enc zs[a].toNat ++ zs.drop (a + 1) := by
    rw [Uv.enc_one _ (by omega), List.drop_eq_getElem_cons ha, Int.toNat_of_nonneg h0.1]
    rfl
  have h1 := Wi.enc_code zs[a].toNat (zs.drop (a + 1)) (by omega)
  rw [← hd] at h1
  refine ⟨h1.1, by rw [h1.2.1, hg]; omega, ?_⟩
  unfold nrest
  rw [if_pos h1.1]
  exact h1.2.2
/-- what stands when j addresses have been read: they are the message's, or none is read, and one of them isn't one -/
def AdOk (zs : List Int) (a0 j a : Nat) (al : List (Int × Int)) : Prop := Wi.readAddrs (zs.drop a0) j = some (al, zs.drop a) ∨ (Wi.read zs = none ∧ ∃ x ∈ al, mayA x.1 x.2 = false)
theorem rd_adr {zs : List Int} {a a0 j a1 K V : Nat} {vs : List Nat} {al : List (Int × Int)} (hK : (Wi.numsOf (Uv.val zs)).toNat = K) (h : Wi.readNums (nrest zs) K = some (vs, zs.drop a)) (hv : Uv.val (zs.drop a) = (V : Int)) (hn : nrest (zs.drop a) = zs.drop a0) (hj : j < V) (ho : Wi.readAddrs (zs.drop a0) j = some (al, zs.drop a1)) (hc : acode (zs.drop a1) ≠ 0) : Wi.read zs = none := read_not (fun m hm hr => by
  obtain ⟨_, _, r1, r2, h1, h2, h3, _⟩ := readMsg_parts hr
  rw [hK, h] at h1
  simp only [Option.some.injEq, Prod.mk.injEq] at h1
  obtain ⟨_, rfl⟩ := h1
  rw [hn, hv, Int.toNat_natCast, readAddrs_none (adr_no ho hc) (by omega)] at h3
  cases h3)
theorem acode_short {r : List Int} (h : r.length < 6) : acode r ≠ 0 := by
  unfold acode
  rw [if_neg (by omega)]
  decide
theorem adOk_short {zs : List Int} {a a0 j a1 K V : Nat} {vs : List Nat} {al : List (Int × Int)} (hK : (Wi.numsOf (Uv.val zs)).toNat = K) (h : Wi.readNums (nrest zs) K = some (vs, zs.drop a)) (hv : Uv.val (zs.drop a) = (V : Int)) (hn : nrest (zs.drop a) = zs.drop a0) (hj : j < V) (ho : AdOk zs a0 j a1 al) (hc : zs.length < a1 + 6) : Wi.read zs = none := by
  rcases ho with ho | ho
  · exact rd_adr hK h hv hn hj ho (acode_short (by simp; omega))
  · exact ho.1
theorem adOk_step {zs : List Int} {a a0 j a1 K V : Nat} {vs : List Nat} {al : List (Int × Int)} (hK : (Wi.numsOf (Uv.val zs)).toNat = K) (h : Wi.readNums (nrest zs) K = some (vs, zs.drop a)) (hv : Uv.val (zs.drop a) = (V : Int)) (hn : nrest (zs.drop a) = zs.drop a0) (hj : j < V) (ho : AdOk zs a0 j a1 al) : AdOk zs a0 (j + 1) (a1 + 6) (al ++ [(ahost (zs.drop a1), aport (zs.drop a1))]) := by
  rcases ho with ho | ⟨h1, x, hx, h2⟩
  · by_cases hc : acode (zs.drop a1) = 0
    · have h1 := adr_yes ho hc
      unfold arest at h1
      rw [if_pos hc, List.drop_drop] at h1
      exact .inl h1
    · refine .inr ⟨rd_adr hK h hv hn hj ho hc, (ahost (zs.drop a1), aport (zs.drop a1)), by simp, ?_⟩
      have h6 : ¬ (6 ≤ (zs.drop a1).length ∧ mayA (Wi.host6 (zs.drop a1)) (Wi.port6 (zs.drop a1)) = true) := fun h => hc (by unfold acode; rw [if_pos h])
      unfold ahost aport
      rw [if_neg h6, if_neg h6]
      decide
  · exact .inr ⟨h1, x, by simp [hx], h2⟩
theorem rd_frame {zs : List Int} {a a0 a1 K V : Nat} {vs : List Nat} {al : List (Int × Int)} (hK : (Wi.numsOf (Uv.val zs)).toNat = K) (h : Wi.readNums (nrest zs) K = some (vs, zs.drop a)) (hv : Uv.val (zs.drop a) = (V : Int)) (hn : nrest (zs.drop a) = zs.drop a0) (ho : AdOk zs a0 V a1 al) (hc : Fr.code (zs.drop a1) ≠ 0) : Wi.read zs = none := by
  rcases ho with ho | ho
  · exact read_not (fun m hm hr => by
      obtain ⟨_, _, r1, r2, h1, h2, h3, h4⟩ := readMsg_parts hr
      rw [hK, h] at h1
      simp only [Option.some.injEq, Prod.mk.injEq] at h1
      obtain ⟨_, rfl⟩ := h1
      rw [hn, hv, Int.toNat_natCast, ho] at h3
      simp only [Option.some.injEq, Prod.mk.injEq] at h3
      obtain ⟨_, rfl⟩ := h3
      exact hc h4)
  · exact ho.1
theorem rd_end {zs : List Int} {a a0 a1 K V : Nat} {vs : List Nat} {al : List (Int × Int)} (hb : ∀ z ∈ zs, 0 ≤ z ∧ z ≤ 255) (hz : Uv.code zs = 0) (hK : (Wi.numsOf (Uv.val zs)).toNat = K) (h : Wi.readNums (nrest zs) K = some (vs, zs.drop a)) (h2 : Uv.code (zs.drop a) = 0) (hv : Uv.val (zs.drop a) = (V : Int)) (hn : nrest (zs.drop a) = zs.drop a0) (ho : AdOk zs a0 V a1 al) (hc : Fr.code (zs.drop a1) = 0) (hw : Wi.Wf ⟨Uv.val zs, vs, al, Fr.row (zs.drop a1)⟩) :
    Wi.read zs = if outB ⟨Uv.val zs, vs, al, Fr.row (zs.drop a1)⟩ = zs then some ⟨Uv.val zs, vs, al, Fr.row (zs.drop a1)⟩ else none := by
  have hne : zs ≠ [] := fun e => code_nil (by rw [e] at hz; exact hz)
  by_cases he : outB ⟨Uv.val zs, vs, al, Fr.row (zs.drop a1)⟩ = zs
  · rw [if_pos he]
    unfold outB at he
    by_cases hm : Wi.may ⟨Uv.val zs, vs, al, Fr.row (zs.drop a1)⟩ = true
    · rw [if_pos hm] at he
      have := Wi.read_bytes hw hm
      rw [he] at this
      exact this
    · rw [if_neg hm] at he
      exact absurd he.symm hne
  · rw [if_neg he]
    rcases ho with ho | ho
    · have hr := readMsg_yes hK hz h h2 (by rw [hn, hv, Int.toNat_natCast]; exact ho) hc
      unfold Wi.read
      rw [hr]
      simp only
      have : ¬ (frest (zs.drop a1) = [] ∧ Wi.may ⟨Uv.val zs, vs, al, Fr.row (zs.drop a1)⟩ = true) := fun hh => he (by
        have := (Wi.readMsg_ok hb hr).1
        rw [hh.1, List.append_nil] at this
        unfold outB
        rw [if_pos hh.2, this])
      rw [if_neg this]
    · exact ho.1
end Go.Proofs.YtdiilgedicfekaaDoor
namespace Go.Proofs.YtdiilgedicfekaaDoor
open Go.RowKit
set_option linter.unusedVariables false
set_option maxRecDepth 100000

theorem rget_parts (A : Option Addr) (n c : Nat) (zs : List Int) (w : World) (r1 : n ≤ c) (r2 : c ≤ maxLen) (hb : Bts w A n zs) : Calls Tryd.prog 52 #[.slice A n c] w fun e w' => e = .returned (.tuple #[.int .u64 (Uv.val zs), .int .i64 (Uv.size zs : Int), .int .i64 (Uv.code zs)]) ∧ w = w' := by
  refine (ref_get_any A n c zs w r1 r2 hb).mono ?_
  rintro e w' ⟨rfl, rfl⟩
  refine ⟨?_, rfl⟩
  unfold tup Uv.val Uv.size Uv.code
  have h0 : 0 ≤ (Uv.got zs).2.1 := by
    unfold Uv.got
    split
    · simp
    · split
      · simp
      · split <;> simp <;> omega
  rw [Int.toNat_of_nonneg h0]
theorem rfrom_at (b off n c : Nat) (zs : List Int) (w : World) (hb : Bts w (some ⟨b, off, none⟩) n zs) (h6 : 6 ≤ n) (r1 : n ≤ c) (r2 : c ≤ maxLen) :
    Calls Tryd.prog 54 #[.slice (some ⟨b, off, none⟩) 6 c] w fun e w' => e = .returned (.tuple #[.agg #[.int .u32 (ahost zs), .int .i64 (aport zs)], .int .i64 (acode zs)]) ∧ Below w.heap.size w w' := by
  have hl := hb.len
  obtain ⟨h1, h2, h3⟩ := hb
  obtain ⟨b', off', e, hlt, hc⟩ := h3 (by omega)
  cases e
  have hg := getD_bd h2
  refine (rfrom_six b off c zs w (by omega) r2 hg hlt (fun j hj => hc j (by omega))).mono ?_
  rintro e w' ⟨rfl, hbe⟩
  refine ⟨?_, hbe⟩
  rw [hostUp4 hg, portUp2]
  show Ending.returned (gaveOr (Wi.host6 zs) (Wi.port6 zs)) = _
  unfold gaveOr ahost aport acode refusedA adr
  by_cases hm : mayA (Wi.host6 zs) (Wi.port6 zs) = true
  · have : 6 ≤ zs.length ∧ mayA (Wi.host6 zs) (Wi.port6 zs) = true := ⟨by omega, hm⟩
    rw [if_pos this, if_pos this, if_pos this, if_pos hm]
    rfl
  · have : ¬ (6 ≤ zs.length ∧ mayA (Wi.host6 zs) (Wi.port6 zs) = true) := fun h => hm h.2
    rw [if_neg this, if_neg this, if_neg this, if_neg hm]
theorem ahost_bd {zs : List Int} (hb : ∀ z ∈ zs, 0 ≤ z ∧ z ≤ 255) : 0 ≤ ahost zs ∧ ahost zs < 4294967296 := by
  unfold ahost
  split
  · rename_i h; exact (Wi.six_of h.1 hb).2
  · decide
/-- the message's box and the answer's, while a message is read -/
structure Rb (w W : World) (M G : Nat) (kd : Int) (k : Nat) (v1 : Value) (vs : List Nat) (j : Nat) (v2 : Value) (al : List (Int × Int)) : Prop where
  mb : MBox W M kd v1 v2 (.slice none 0 0)
  gb : MBox W G 0 (.slice none 0 0) (.slice none 0 0) (.slice none 0 0)
  r1 : W.ownsRow (M + 1) 22 1 v1 k (U vs)
  r2 : W.ownsRow (M + 1) 87 2 v2 j (A2 al)
  bel : Below w.heap.size w W
theorem Rb.call {w W W' : World} {M G k j : Nat} {kd : Int} {v1 v2 : Value} {vs : List Nat} {al : List (Int × Int)} (h : Rb w W M G kd k v1 vs j v2 al) (hb : Below W.heap.size W W') : Rb w W' M G kd k v1 vs j v2 al :=
  ⟨(hb.block M (Array.getElem?_eq_some_iff.1 h.mb).1).trans h.mb, (hb.block G (Array.getElem?_eq_some_iff.1 h.gb).1).trans h.gb, own_at h.r1 (fun g _ _ _ hc => hb.block g (Array.getElem?_eq_some_iff.1 hc).1), own_at h.r2 (fun g _ _ _ hc => hb.block g (Array.getElem?_eq_some_iff.1 hc).1), h.bel.trans (hb.mono h.bel.size)⟩
theorem Rb.apart {w W : World} {M G k j : Nat} {kd : Int} {v1 v2 : Value} {vs : List Nat} {al : List (Int × Int)} (h : Rb w W M G kd k v1 vs j v2 al) {g : Nat} (h1 : v1.ownBlock = some g) (h2 : v2.ownBlock = some g) : False := by
  obtain ⟨_, ⟨rfl, _⟩ | ⟨g1, cap1, cur1, rfl, _, e1, _⟩⟩ := h.r1
  · cases h1
  · obtain ⟨_, ⟨rfl, _⟩ | ⟨g2, cap2, cur2, rfl, _, e2, _⟩⟩ := h.r2
    · cases h2
    · cases h1; cases h2
      rw [e1] at e2
      cases e2
theorem Rb.num {w W w4 : World} {M G k j x : Nat} {kd : Int} {v1 v2 v' : Value} {vs : List Nat} {al : List (Int × Int)} {o : Obj} (h : Rb w W M G kd k v1 vs j v2 al) (hGM : G < M) (hw : w.heap.size ≤ G) (hg : (W.alloc o).grownBy w4 v1.ownBlock) (ho : w4.ownsRow (M + 1) 22 1 v' (k + 1) (U vs ++ [.int .u64 (x : Int)])) :
    w4.cell? ⟨M, 1, none⟩ = some v1 ∧ w4.frozen? ⟨M, 1, none⟩ = false ∧ M < w4.heap.size ∧ Hid (Rb w (w4.setCell ⟨M, 1, none⟩ v') M G kd (k + 1) v' (vs ++ [x]) j v2 al) := by
  have hML := (Array.getElem?_eq_some_iff.1 h.mb).1
  have hGL := (Array.getElem?_eq_some_iff.1 h.gb).1
  have hvb : ∀ g, v1.ownBlock = some g → M + 1 ≤ g := fun g hg => (h.r1.lt g hg).1
  have same : ∀ g, g < W.heap.size → (∀ g', v1.ownBlock = some g' → g ≠ g') → w4.heap[g]? = W.heap[g]? := fun g h8 h9 =>
    (hg.block g (by simp; omega) (fun e => h9 g e.symm rfl)).trans (Below.heap_alloc _ _ _ h8)
  have hm4 : MBox w4 M kd v1 v2 (.slice none 0 0) := (same M hML (fun g hg => by have := hvb g hg; omega)).trans h.mb
  have hg4 : MBox w4 G 0 (.slice none 0 0) (.slice none 0 0) (.slice none 0 0) := (same G hGL (fun g hg => by have := hvb g hg; omega)).trans h.gb
  have h4 : w4.ownsRow (M + 1) 87 2 v2 j (A2 al) := (h.r2.alloc o).kept hg (by
    cases e : v2.ownBlock with
    | none => exact .inl rfl
    | some g => exact .inr (fun e2 => h.apart e2.symm e))
  have hb4 : Below w.heap.size w w4 := (h.bel.alloc h.bel.size o).grown hg (by have := h.bel.size; simp; omega) (fun r e => by have := hvb r e; omega)
  obtain ⟨⟨_, m1, _, _⟩, hl, mf⟩ := MBox.mx hm4
  refine ⟨m1, mf 1, hl, Lib.hid ⟨?_, (Below.heap_setCell _ _ _ _ (by show G ≠ M; omega)).trans hg4, ?_, ownsRow_setCell_below h4 (by show M < M + 1; omega) _, hb4.setCell (by show w.heap.size ≤ M; omega) _⟩⟩
  · unfold MBox at hm4 ⊢
    rw [heap_mod hm4 (by simp)]; rfl
  · rw [U_snoc]
    exact ownsRow_setCell_below ho (by show M < M + 1; omega) _
theorem Rb.adr {w W w4 : World} {M G k j : Nat} {kd hh pp : Int} {v1 v2 v' : Value} {vs : List Nat} {al : List (Int × Int)} {o : Obj} (h : Rb w W M G kd k v1 vs j v2 al) (hGM : G < M) (hw : w.heap.size ≤ G) (hg : (W.alloc o).grownBy w4 v2.ownBlock) (ho : w4.ownsRow (M + 1) 87 2 v' (j + 1) (A2 al ++ [.int .u32 hh, .int .i64 pp])) :
    w4.cell? ⟨M, 2, none⟩ = some v2 ∧ w4.frozen? ⟨M, 2, none⟩ = false ∧ M < w4.heap.size ∧ Hid (Rb w (w4.setCell ⟨M, 2, none⟩ v') M G kd k v1 vs (j + 1) v' (al ++ [(hh, pp)])) := by
  have hML := (Array.getElem?_eq_some_iff.1 h.mb).1
  have hGL := (Array.getElem?_eq_some_iff.1 h.gb).1
  have hvb : ∀ g, v2.ownBlock = some g → M + 1 ≤ g := fun g hg => (h.r2.lt g hg).1
  have same : ∀ g, g < W.heap.size → (∀ g', v2.ownBlock = some g' → g ≠ g') → w4.heap[g]? = W.heap[g]? := fun g h8 h9 =>
    (hg.block g (by simp; omega) (fun e => h9 g e.symm rfl)).trans (Below.heap_alloc _ _ _ h8)
  have hm4 : MBox w4 M kd v1 v2 (.slice none 0 0) := (same M hML (fun g hg => by have := hvb g hg; omega)).trans h.mb
  have hg4 : MBox w4 G 0 (.slice none 0 0) (.slice none 0 0) (.slice none 0 0) := (same G hGL (fun g hg => by have := hvb g hg; omega)).trans h.gb
  have h4 : w4.ownsRow (M + 1) 22 1 v1 k (U vs) := (h.r1.alloc o).kept hg (by
    cases e : v1.ownBlock with
    | none => exact .inl rfl
    | some g => exact .inr (fun e2 => h.apart e e2.symm))
  have hb4 : Below w.heap.size w w4 := (h.bel.alloc h.bel.size o).grown hg (by have := h.bel.size; simp; omega) (fun r e => by have := hvb r e; omega)
  obtain ⟨⟨_, _, m2, _⟩, hl, mf⟩ := MBox.mx hm4
  refine ⟨m2, mf 2, hl, Lib.hid ⟨?_, (Below.heap_setCell _ _ _ _ (by show G ≠ M; omega)).trans hg4, ownsRow_setCell_below h4 (by show M < M + 1; omega) _, ?_, hb4.setCell (by show w.heap.size ≤ M; omega) _⟩⟩
  · unfold MBox at hm4 ⊢
    rw [heap_mod hm4 (by simp)]; rfl
  · rw [A2_snoc]
    exact ownsRow_setCell_below ho (by show M < M + 1; omega) _
/-- 'append(m.Nums, v)' and 'append(m.Addrs, a)', as steps -/
theorem list_num {w : World} {ops : Array Oper} {rest : List Oper} {o : Oper} {a : Act} {Q : Exit → Act → World → Prop} (hf : o.guard = none) (s x : Operand)
    (ho : o.op = .call { callee := .builtin .append, args := #[s, x], argTypes := #[43, 43] }) {k g base y : Nat} {v : Value} {xs : List Value} (hs : a.eval s = v) (hown : w.ownsRow base 22 1 v k xs) (hx : a.eval x = .slice (some ⟨g, 0, none⟩) 1 1)
    (h0 : w.cell? ⟨g, 0, none⟩ = some (.int .u64 (y : Int))) (hk : k ≤ 1000000) (hb : base ≤ w.heap.size)
    (h : ∀ v' w', w'.ownsRow base 22 1 v' (k + 1) (xs ++ [.int .u64 (y : Int)]) → w.grownBy w' v.ownBlock → wpList Tryd.prog ops Q rest (a.put o.dst v') w') : wpList Tryd.prog ops Q (o :: rest) a w := by
  obtain ⟨i0, hi0, hz0, hz1, hz2⟩ := info_parts num_info
  refine wpList_append_own w hf s x 43 ho base 22 i0 (.int .u64 0) 1 8 Tryd.underlying43 hi0 hz0 hz1 hz2 rfl (by decide) v k xs hs hown ⟨g, 0, none⟩ 1 1 [.int .u64 (y : Int)] hx rfl
    (fun j u hu => by
      match j, hu with
      | 0, hu => simp at hu; subst hu; exact h0) (by simp [Value.oneCell']) (by unfold maxLen; omega) (by omega) hb (fun v' w' h2 h3 _ => h v' w' h2 h3)
theorem list_adr {w : World} {ops : Array Oper} {rest : List Oper} {o : Oper} {a : Act} {Q : Exit → Act → World → Prop} (hf : o.guard = none) (s x : Operand)
    (ho : o.op = .call { callee := .builtin .append, args := #[s, x], argTypes := #[44, 44] }) {k g base : Nat} {h p : Int} {v : Value} {xs : List Value} (hs : a.eval s = v) (hown : w.ownsRow base 87 2 v k xs) (hx : a.eval x = .slice (some ⟨g, 0, none⟩) 1 1)
    (h0 : w.heap[g]? = some (.cells #[.int .u32 h, .int .i64 p] 87 (0, 0))) (hk : k ≤ 1000000) (hb : base ≤ w.heap.size)
    (hh : ∀ v' w', w'.ownsRow base 87 2 v' (k + 1) (xs ++ [.int .u32 h, .int .i64 p]) → w.grownBy w' v.ownBlock → wpList Tryd.prog ops Q rest (a.put o.dst v') w') : wpList Tryd.prog ops Q (o :: rest) a w := by
  obtain ⟨i0, hi0, hz0, hz1, hz2⟩ := info_parts adr_info
  refine wpList_append_own w hf s x 44 ho base 87 i0 (.agg #[.int .u32 0, .int .i64 0]) 2 16 Tryd.underlying44 hi0 hz0 hz1 hz2 rfl (by decide) v k xs hs hown ⟨g, 0, none⟩ 1 1 [.int .u32 h, .int .i64 p] hx rfl
    (fun j u hu => by
      match j, hu with
      | 0, hu => simp at hu; subst hu; rw [add_spot, (cells_of h0 _).1]; rfl
      | 1, hu => simp at hu; subst hu; rw [add_spot, (cells_of h0 _).1]; rfl) (by simp [Value.oneCell']) (by unfold maxLen; omega) (by omega) hb (fun v' w' h2 h3 _ => hh v' w' h2 h3)
end Go.Proofs.YtdiilgedicfekaaDoor
