/-
  The contract of embrasure/wire's reader.message: what is read as a message, though it may be none. Conditions: the block holds a reader; the table is as it was laid.
  The contract of the document's own May. No conditions.
  The contract of embrasure/wire's Bytes. Conditions: the table is as the program's text lays it.
  The contract of the document's own Bytes of layer 5. No conditions but that the values read.
-/
import Derived.Test.YtdiilgedicfekaaDoorMh7
import Derived.Test.YtdiilgedicfekaaDoorMh6
import Derived.Test.YtdiilgedicfekaaDoorMh5
namespace Go.Proofs.YtdiilgedicfekaaDoor
open Go.RowKit
attribute [local go_sem] Oper.semAt_some
set_option linter.unusedVariables false
set_option maxRecDepth 100000

/-- what the reader's message answers -/
def MsgAns (w : World) (R b : Nat) (zs : List Int) (e : Ending) (w' : World) : Prop :=
  ∃ m x1 x2 x3 r bd, e = .returned (.agg #[.int .i64 m.kind, x1, x2, x3]) ∧ MsgV w' x1 x2 x3 m ∧ w.grownBy w' (some R) ∧ Rd w' R b r bd ∧ (bd = false → Wi.readMsg zs = some (m, r)) ∧ (bd = true → Wi.readMsg zs = none) ∧ ∀ g, (x1.ownBlock = some g ∨ x2.ownBlock = some g ∨ x3.ownBlock = some g) → w.heap.size ≤ g ∧ g < w'.heap.size
set_option maxHeartbeats 1000000 in
theorem addrs_any (R : Nat) (w : World) : Calls Tryd.prog 64 #[.pointer (some ⟨R, 0, none⟩)] w fun e w' => e = .returned (.func (.func 70) #[] #[.pointer (some ⟨w.heap.size, 0, none⟩)]) ∧ w' = w.alloc (.cells #[.pointer (some ⟨R, 0, none⟩)] 115) := by
  go_enter Tryd.func64, Tryd.ntmps64
  go_wp2
  go_ret
  exact ⟨rfl, rfl⟩
theorem nrest_len (zs : List Int) : (nrest zs).length ≤ zs.length := by
  unfold nrest
  split
  · simp
  · exact Nat.le_refl _
theorem nrest_bd {zs : List Int} (h : ∀ z ∈ zs, 0 ≤ z ∧ z ≤ 255) : ∀ z ∈ nrest zs, 0 ≤ z ∧ z ≤ 255 := by
  unfold nrest
  split
  · exact fun z hz => h z (List.mem_of_mem_drop hz)
  · exact h
theorem nums_len {zs r : List Int} {vs : List Nat} {k : Nat} {bd : Bool} (hb : ∀ z ∈ zs, 0 ≤ z ∧ z ≤ 255) (hz : zs.length ≤ 1000000) (h : bd = false → Uv.code zs = 0 ∧ Wi.readNums (nrest zs) k = some (vs, r)) : bd = false → r.length ≤ 1000000 := fun h0 => by
  have h1 := (Wi.readNums_bd (nrest_bd hb) (h h0).2).1
  have h2 := congrArg List.length h1
  have h3 := nrest_len zs
  simp at h2
  omega
theorem okA_facts {r : List Int} {bd : Bool} {pre : List (Int × Int)} {z : Int × Int} {W : World} (hr : ∀ z ∈ r, 0 ≤ z ∧ z ≤ 255) (hl : bd = false → r.length ≤ 1000000) (h : OkA r bd pre z W) : pre.length ≤ 1000000 ∧ 0 ≤ z.1 ∧ z.1 < 4294967296 := by
  obtain ⟨h1, h2, r', h3⟩ := h
  obtain ⟨e1, e2, e3, e4⟩ := Wi.readAddrs_bd (nrest_bd hr) h3
  have h4 := congrArg List.length e1
  have h5 := nrest_len r
  have h6 := hl h1
  have h7 := Wi.aflat_len (pre ++ [z])
  have h8 := (e3 z (by simp)).2
  rw [List.length_append, h7, List.length_append] at h4
  exact ⟨by simp at h4; omega, h8⟩
theorem adr_start {w wr : World} {R M G k : Nat} {kd : Int} {v : Value} {vs : List Nat} (o : Obj) (h3 : MBox wr M kd v (.slice none 0 0) (.slice none 0 0)) (h4 : MBox wr G 0 (.slice none 0 0) (.slice none 0 0) (.slice none 0 0)) (h5 : wr.ownsRow (M + 1) 22 1 v k (U vs)) (h6 : w.grownBy wr (some R)) :
    AdrI w R M G wr.heap.size kd k v vs [] (wr.alloc o) :=
  ⟨.slice none 0 0, (Below.heap_alloc _ _ _ (Array.getElem?_eq_some_iff.1 h3).1).trans h3, (Below.heap_alloc _ _ _ (Array.getElem?_eq_some_iff.1 h4).1).trans h4, h5.alloc o, ⟨rfl, .inl ⟨rfl, rfl⟩⟩, grown_trans h6 (World.grownBy_alloc _ _ _), by simp, by simp⟩
def zbox : Obj := .cells #[.int .i64 0, .slice none 0 0, .slice none 0 0, .slice none 0 0] 46
def Only (Q : Exit → Act → World → Prop) : Exit → Act → World → Prop
  | .normal, a, w => Q .normal a w
  | _, _, _ => False
theorem Only.all {Q : Exit → Act → World → Prop} : ∀ e a w, Only Q e a w → Q e a w
  | .normal, _, _, h => h
  | .exit _, _, _, h => h.elim
  | .ret, _, _, h => h.elim
  | .panic _, _, _, h => h.elim
  | .outgrown, _, _, h => h.elim
  | .goto _, _, _, h => h.elim
theorem num_start {w w1 : World} {R b q : Nat} {zs : List Int} (hR : R < w.heap.size) (hb : b < w.heap.size) (hg : (w.alloc zbox).grownBy w1 (some R)) (hr : Rd w1 R b (nrest zs) (spoils false (Uv.code zs))) :
    Hid (NumAt w R b w1.heap.size w.heap.size (q : Int) zs 0 (w1.alloc (.cells #[.int .i64 (q : Int), .slice none 0 0, .slice none 0 0, .slice none 0 0] 46)) ∧ Below w1.heap.size w1 (w1.alloc (.cells #[.int .i64 (q : Int), .slice none 0 0, .slice none 0 0, .slice none 0 0] 46))) := by
  have hs := hg.size
  simp at hs
  refine Lib.hid ⟨⟨[], nrest zs, _, .slice none 0 0, rfl, by simp, heap_new _ _, ?_, ⟨rfl, .inl ⟨rfl, rfl⟩⟩, ?_, hr.below ((Below.refl _ _).alloc (Nat.le_refl _) _), fun h => ⟨(spoils_f h).2, rfl⟩, fun h => ?_⟩, (Below.refl _ _).alloc (Nat.le_refl _) _⟩
  · refine (Below.heap_alloc _ _ _ (by omega)).trans ((hg.block _ (by simp) (fun e => by simp at e; omega)).trans (heap_new _ _))
  · exact grown_trans (grown_after ((Below.refl _ _).alloc (Nat.le_refl _) _) hg) (World.grownBy_alloc _ _ _)
  · rcases spoils_t h with h | h
    · cases h
    · exact .inl h

theorem readMsg_yes {zs r r2 : List Int} {k : Nat} {vs : List Nat} {xs : List (Int × Int)} (hk : (Wi.numsOf (Uv.val zs)).toNat = k) (h1 : Uv.code zs = 0) (h2 : Wi.readNums (nrest zs) k = some (vs, r)) (h3 : Uv.code r = 0) (h4 : Wi.readAddrs (nrest r) (Uv.val r).toNat = some (xs, r2)) (h5 : Fr.code r2 = 0) :
    Wi.readMsg zs = some (⟨Uv.val zs, vs, xs, Fr.row r2⟩, frest r2) := by
  unfold nrest at h2 h4
  rw [if_pos h1] at h2
  rw [if_pos h3] at h4
  unfold Wi.readMsg
  rw [if_pos h1, hk, h2]
  simp only
  rw [if_pos h3, h4]
  simp only
  rw [if_pos h5]
  unfold frest
  rw [if_pos h5]
theorem readMsg_no {zs r r2 : List Int} {k : Nat} {vs : List Nat} {xs : List (Int × Int)} {bd bd2 : Bool} (hk : (Wi.numsOf (Uv.val zs)).toNat = k)
    (h8 : bd = false → Uv.code zs = 0 ∧ Wi.readNums (nrest zs) k = some (vs, r)) (h9 : bd = true → Uv.code zs ≠ 0 ∨ Wi.readNums (nrest zs) k = none)
    (hf : bd2 = false → bd = false ∧ Uv.code r = 0 ∧ Wi.readAddrs (nrest r) (Uv.val r).toNat = some (xs, r2)) (ht : bd2 = true → bd = true ∨ Uv.code r ≠ 0 ∨ Wi.readAddrs (nrest r) (Uv.val r).toNat = none) (h : bd2 = true ∨ Fr.code r2 ≠ 0) : Wi.readMsg zs = none := by
  unfold Wi.readMsg
  by_cases h1 : Uv.code zs = 0
  · rw [if_pos h1, hk]
    have hn : zs.drop (Uv.size zs) = nrest zs := by unfold nrest; rw [if_pos h1]
    rw [hn]
    cases hb : bd with
    | true =>
      rcases h9 hb with h | h
      · exact absurd h1 h
      · rw [h]
    | false =>
      rw [(h8 hb).2]
      simp only
      by_cases h3 : Uv.code r = 0
      · have hn : r.drop (Uv.size r) = nrest r := by unfold nrest; rw [if_pos h3]
        rw [if_pos h3, hn]
        cases hb2 : bd2 with
        | true =>
          rcases ht hb2 with h | h | h
          · rw [hb] at h; cases h
          · exact absurd h3 h
          · rw [h]
        | false =>
          rw [(hf hb2).2.2]
          simp only
          rcases h with h | h
          · rw [hb2] at h; cases h
          · rw [if_neg h]
      · rw [if_neg h3]
  · rw [if_neg h1]
theorem own_at {V W : World} {base e size n : Nat} {v : Value} {xs : List Value} (h : V.ownsRow base e size v n xs) (hb : ∀ g C t, base ≤ g → V.heap[g]? = some (.cells C t (0, 0)) → W.heap[g]? = V.heap[g]?) : W.ownsRow base e size v n xs := by
  refine ⟨h.1, ?_⟩
  rcases h.2 with hn | ⟨g, cap, cur, rfl, h1, hgg, rest⟩
  · exact .inl hn
  · exact .inr ⟨g, cap, cur, rfl, h1, (hb g _ _ h1 hgg).trans hgg, rest⟩
/-- the message has been put into the answer's cell -/
theorem msg_end {w V3 : World} {R b M G C k D q : Nat} {v1 v2 x3 : Value} {vs : List Nat} {xs : List (Int × Int)} {zs r r2 : List Int} {bd bd2 : Bool}
    (hR : R < G) (hb : b < G) (hG : w.heap.size = G) (hGM : G < M) (hMC : M < C) (hCD : C < D) (hB3 : M < V3.heap.size) (hqb : q < 9223372036854775808) (hq : Uv.val zs = (q : Int)) (hk : (Wi.numsOf (q : Int)).toNat = k)
    (h1 : MBox V3 M (q : Int) v1 v2 (.slice none 0 0)) (h2 : MBox V3 G 0 (.slice none 0 0) (.slice none 0 0) (.slice none 0 0)) (h3 : V3.ownsRow (M + 1) 22 1 v1 k (U vs)) (h4 : V3.ownsRow (C + 1) 87 2 v2 xs.length (A2 xs)) (h5 : w.grownBy V3 (some R)) (h7 : ∀ a ∈ xs, 0 ≤ a.1 ∧ a.1 < 4294967296)
    {B3 : Nat} (hB : M < B3) (ho : V3.ownsRow B3 5 1 x3 (Fr.row r2).length (B (Fr.row r2))) (hrb : ∀ z ∈ Fr.row r2, 0 ≤ z ∧ z ≤ 255) (hr : Rd V3 R b (frest r2) (spoils bd2 (Fr.code r2))) (hD : V3.heap[D]? = some (.deferred (some [])))
    (e1 : vs.length = k) (e2 : ∀ x ∈ vs, x < 9223372036854775808) (h8 : bd = false → Uv.code zs = 0 ∧ Wi.readNums (nrest zs) k = some (vs, r)) (h9 : bd = true → Uv.code zs ≠ 0 ∨ Wi.readNums (nrest zs) k = none)
    (hf : bd2 = false → bd = false ∧ Uv.code r = 0 ∧ Wi.readAddrs (nrest r) (Uv.val r).toNat = some (xs, r2)) (ht : bd2 = true → bd = true ∨ Uv.code r ≠ 0 ∨ Wi.readAddrs (nrest r) (Uv.val r).toNat = none)
    {W5 : World} (hW : W5 = ((((V3.setCell ⟨M, 3, none⟩ x3).setCell ⟨G, 0, none⟩ (.int .i64 (q : Int))).setCell ⟨G, 1, none⟩ v1).setCell ⟨G, 2, none⟩ v2).setCell ⟨G, 3, none⟩ x3) :
    W5.heap[D]? = some (.deferred (some [])) ∧ Mx (W5.putObj D (.deferred none)) G (q : Int) v1 v2 x3 ∧ MsgAns w R b zs (.returned (.agg #[.int .i64 (q : Int), v1, v2, x3])) (W5.putObj D (.deferred none)) := by
  have hsz : W5.heap.size = V3.heap.size := by subst hW; simp [World.setCell]
  have other : ∀ g, g ≠ M → g ≠ G → W5.heap[g]? = V3.heap[g]? := fun g n1 n2 => by
    subst hW
    exact (Below.heap_setCell _ _ _ _ n2).trans ((Below.heap_setCell _ _ _ _ n2).trans ((Below.heap_setCell _ _ _ _ n2).trans ((Below.heap_setCell _ _ _ _ n2).trans (Below.heap_setCell _ _ _ _ n1))))
  have hG5 : W5.heap[G]? = some (.cells #[.int .i64 (q : Int), v1, v2, x3] 46 (0, 0)) := by
    subst hW
    have a0 : (V3.setCell ⟨M, 3, none⟩ x3).heap[G]? = _ := (Below.heap_setCell _ _ _ _ (by show G ≠ M; omega)).trans h2
    have a1 := heap_mod (k := 0) a0 (by simp) (.int .i64 (q : Int))
    have a2 := heap_mod (k := 1) a1 (by simp) v1
    have a3 := heap_mod (k := 2) a2 (by simp) v2
    have a4 := heap_mod (k := 3) a3 (by simp) x3
    simpa using a4
  have hD5 : W5.heap[D]? = some (.deferred (some [])) := (other D (by omega) (by omega)).trans hD
  have o6 : ∀ g, g ≠ M → g ≠ G → g ≠ D → (W5.putObj D (.deferred none)).heap[g]? = V3.heap[g]? := fun g n1 n2 n3 => (World.putObj_heap_other n3).trans (other g n1 n2)
  have hG6 : (W5.putObj D (.deferred none)).heap[G]? = some (.cells #[.int .i64 (q : Int), v1, v2, x3] 46 (0, 0)) := (World.putObj_heap_other (by omega)).trans hG5
  have hs6 : (W5.putObj D (.deferred none)).heap.size = V3.heap.size := by rw [World.putObj_size, hsz]
  have oc : ∀ g c t, V3.heap[g]? = some (.cells c t (0, 0)) → g ≠ D := fun g c t hc e => by
    subst e
    rw [hD] at hc
    cases hc
  have hg6 : w.grownBy (W5.putObj D (.deferred none)) (some R) := by
    have q1 : W5.os = V3.os ∧ W5.tape = V3.tape ∧ W5.output = V3.output := by subst hW; simp only [World.setCell, and_self]
    have q2 := grownBy_putObj' W5 D (.deferred none)
    refine ⟨q2.os.trans (q1.1.trans h5.os), q2.tape.trans (q1.2.1.trans h5.tape), q2.output.trans (q1.2.2.trans h5.output), by rw [hs6]; exact h5.size, fun g hg hn => ?_⟩
    exact (o6 g (by omega) (by omega) (by omega)).trans (h5.block g hg hn)
  refine ⟨hD5, (MBox.mx hG6).1, ⟨⟨Uv.val zs, vs, xs, Fr.row r2⟩, v1, v2, x3, frest r2, spoils bd2 (Fr.code r2), by rw [hq], ⟨?_, ?_, ?_, by show _ ≤ Uv.val zs; omega, by show Uv.val zs ≤ _; omega⟩, hg6, hr.kept (by rw [hs6]; exact Nat.le_refl _) (o6 R (by omega) (by omega) (by omega)) (fun _ => o6 b (by omega) (by omega) (by omega)), fun h => ?_, fun h => ?_, ?_⟩⟩
  · exact own_ns (own_at h3 (fun g c t hg hc => o6 g (by omega) (by omega) (oc g c t hc))) e1 (fun x hx => by have := e2 x hx; omega)
  · exact own_as (own_at h4 (fun g c t hg hc => o6 g (by omega) (by omega) (oc g c t hc))) rfl h7
  · exact own_tx (own_at ho (fun g c t hg hc => o6 g (by omega) (by omega) (oc g c t hc))) hrb
  · obtain ⟨a1, a2⟩ := spoils_f h
    obtain ⟨b1, b2, b3⟩ := hf a1
    obtain ⟨c1, c2⟩ := h8 b1
    exact readMsg_yes (by rw [hq]; exact hk) c1 c2 b2 b3 a2
  · exact readMsg_no (by rw [hq]; exact hk) h8 h9 hf ht (spoils_t h)
  · rintro g (h | h | h)
    · have := h3.lt g h; omega
    · have := h4.lt g h; omega
    · have := ho.lt g h; omega

set_option maxRecDepth 100000 in
set_option maxHeartbeats 4000000 in
theorem message_any (R b : Nat) (zs : List Int) (w : World) (hR : Rd w R b zs false) (hb : b < w.heap.size) (hT : Tb w) (hz : zs.length ≤ 1000000) :
    Calls Tryd.prog 46 #[.pointer (some ⟨R, 0, none⟩)] w (MsgAns w R b zs) := by
  have HL := Lib.hid hR.lt
  have HBD := Lib.hid hR.bd
  have CN := Lib.hid (number_any R b zs false (w.alloc zbox) (hR.below ((Below.refl _ _).alloc (Nat.le_refl _) _)))
  have hvb := Uv.val_bd zs
  obtain ⟨q, hq⟩ : ∃ q : Nat, Uv.val zs = (q : Int) := ⟨(Uv.val zs).toNat, by omega⟩
  have hqb : q < 9223372036854775808 := by omega
  have HQ := Lib.hid hq
  rw [hq] at CN
  have HB := Lib.hid hb
  have HT := Lib.hid hT
  have HNS : Hid (R ≠ 0) := Lib.hid (by
    rintro rfl
    obtain ⟨A, n, c, e, _⟩ := hR
    have h1 := (Rd.cells e).2.1
    rw [hT 0 (by omega)] at h1
    cases h1)
  have hRG := hR.lt
  unfold zbox at CN
  clear hR hb hvb hq hT
  refine (callsIn_wide (n := 6)).1 ?_
  refine callsIn_of_wp_marks Tryd.func46 rfl trivial ?_ rfl
  refine wpIn_wide.2 ?_
  simp only [Tryd.ntmps46, List.size_toArray, List.length_cons, List.length_nil, Nat.reduceAdd, Nat.reduceSub, Array.replicate_succ, Array.replicate_zero, List.push_toArray, List.append_toArray, List.nil_append, List.cons_append]
  go_wp2_with (go_at_call 63; refine CN.out.mono ?_; rintro e w1 ⟨rfl, hg1, hr1⟩; have HG1 := Lib.hid hg1; have HR1 := Lib.hid hr1; clear hg1 hr1)
  obtain ⟨HN0, HBE⟩ := (num_start (q := q) HL.out HB.out HG1.out HR1.out).out
  have hM0 := HG1.out.size
  simp at hM0
  have HT1 : Tb (w1.alloc (.cells #[.int .i64 (q : Int), .slice none 0 0, .slice none 0 0, .slice none 0 0] 46)) := fun k hk =>
    (World.cell?_of_block (a := ⟨0, k, none⟩) ((HBE.block 0 (by omega)).trans ((HG1.out.block 0 (by simp) (fun e => HNS.out (by simpa using e.symm))).trans (Below.heap_alloc _ _ _ HT.out.pos)))).trans (HT.out k hk)
  have CK := Lib.hid (nums_any (q : Int) _ HT1)
  have hnb := Wi.numsOf_bd (q : Int)
  obtain ⟨cc, hcc⟩ : ∃ cc : Int, Wi.numsOf (q : Int) = cc := ⟨_, rfl⟩
  rw [hcc] at CK hnb
  have HCC := Lib.hid hcc
  have HA0 := Lib.hid HN0
  have HM0 : Hid (w.heap.size < w1.heap.size) := Lib.hid (by omega)
  obtain ⟨M, hM⟩ : ∃ M, w1.heap.size = M := ⟨_, rfl⟩
  have hc1 : -1 ≤ cc := hnb.1
  have hc6 : cc ≤ 6 := hnb.2.1
  obtain ⟨G, hG⟩ : ∃ G, w.heap.size = G := ⟨_, rfl⟩
  clear hcc HT1 HBE hnb HN0 hM0 HG1 HR1 CN
  go_wp2_with (go_at_call 56; refine CK.out.mono ?_; rintro e w2 ⟨rfl, rfl⟩)
  rw [hM] at HA0 HM0
  rw [hG] at HA0 HM0 HL HB hRG
  try simp only [hM, hG]
  clear CK hM
  have HG := Lib.hid hG
  clear hG
  go_loopw [12] (fun p wr => ∃ k : Nat, p = .int .i64 (k : Int) ∧ (k = 0 ∨ (k : Int) ≤ cc) ∧ NumAt w R b M G (q : Int) zs k wr) (fun p _ => (cc - intOf p).toNat)
  case atStart => exact ⟨0, rfl, .inl rfl, HA0.out⟩
  case round =>
    clear HA0
    obtain ⟨k, rfl, hkc, hN⟩ := hrel
    by_cases hk : (k : Int) < cc
    · obtain ⟨vs, r, bd, v, h1, h2, h3, h4, h5, h6, h7, h8, h9⟩ := hN
      have hx := Uv.val_bd r
      obtain ⟨x, hxe⟩ : ∃ x : Nat, Uv.val r = (x : Int) := ⟨_, (Int.toNat_of_nonneg hx.1).symm⟩
      have hMs : M < wr.heap.size := (Array.getElem?_eq_some_iff.1 h3).1
      have hMR : some M ≠ some R := (fun e => by have := HM0.out; simp at e; omega)
      have CS : Hid (Calls Tryd.prog 63 #[.pointer (some ⟨R, 0, none⟩)] wr.drew fun e w2 => e = .returned (.int .u64 (x : Int)) ∧ w2.cell? ⟨M, 1, none⟩ = some v ∧ w2.frozen? ⟨M, 1, none⟩ = false ∧ M < w2.heap.size ∧
          Hid ((∀ o, (w2.alloc o).ownsRow (M + 1) 22 1 v k (U vs)) ∧ ∀ o w4 v2, w4.ownsRow (M + 1) 22 1 v2 (k + 1) (U vs ++ [.int .u64 (x : Int)]) → (w2.alloc o).grownBy w4 v.ownBlock → w4.cell? ⟨M, 1, none⟩ = some v ∧ w4.frozen? ⟨M, 1, none⟩ = false ∧ M < w4.heap.size ∧ Hid (NumAt w R b M G (q : Int) zs (k + 1) (w4.setCell ⟨M, 1, none⟩ v2)))) := Lib.hid (by
        refine (number_any R b r bd wr.drew (h7.below (Below.refl _ _).drew)).mono ?_
        rintro e w2 ⟨rfl, hg2, hr2⟩
        have hb2 : w2.heap[M]? = some _ := (hg2.block M hMs hMR).trans h3
        have hc2 := MBox.mx hb2
        refine ⟨by rw [hxe], hc2.1.c1, hc2.2.2 1, hc2.2.1, Lib.hid ⟨fun o => ((h5.drew).kept hg2 ?_).alloc o, fun o w4 v2 ho4 hg4 => ?_⟩⟩
        · exact .inr (fun e => by have := (h5.lt R e).1; have := HM0.out; omega)
        · have hb4 : w4.heap[M]? = some _ := (hg4.block M (by simp; omega) (fun e => by have := (h5.lt M e.symm).1; omega)).trans ((Below.heap_alloc _ _ _ hc2.2.1).trans hb2)
          have hc4 := MBox.mx hb4
          exact ⟨hc4.1.c1, hc4.2.2 1, hc4.2.1, num_step (by have := HL.out; have := HG.out; omega) (by have := HB.out; have := HG.out; omega) (Nat.le_of_eq HG.out) HM0.out h1 h2 h3 h4 h5 h6 h8 h9 hxe hg2 hr2 hg4 ho4⟩)
      have hc := (MBox.mx h3).1.c1
      have hf := (MBox.mx h3).2.2 1
      have hk6 : k ≤ 1000000 := by omega
      clear h1 h2 h3 h4 h5 h6 h7 h8 h9 hx hxe hMR hkc
      go_wp2_with fail
      refine Code.wp_mono (Q := Only _) Only.all ?_
      go_region_law (first
        | (refine step_num rfl (.tmp 15) (.tmp 18) rfl (k := k) (g := w2.heap.size) (base := M + 1) (y := x) (xs := U vs) (v := v) rfl (HZ.out.1 _) rfl (by go_simp) hk6 (by simp; omega) ?_; intro v2 w4 ho4 hg4; obtain ⟨A4, c4, rfl⟩ := own_slice ho4; obtain ⟨d1, d2, d3, HN4⟩ := HZ.out.2 _ _ _ ho4 hg4; clear ho4 hg4)
        | (go_simp; go_at_call 63; refine CS.out.mono ?_; rintro e w2 ⟨rfl, hc2, hf2, hl2, HZ⟩; dsimp only))
      all_goals simp only [Only]
      all_goals
        go_wp2
        go_roundw
        case rel => exact ⟨k + 1, by go_num, .inr (by omega), HN4.out⟩
        case measure => simp [intOf]; omega
    · have HK : Hid (cc.toNat = k) := Lib.hid (by omega)
      have hk6 : k ≤ 6 := by omega
      have HN := Lib.hid hN
      clear hN hkc
      go_wp2_with (go_at_call 64; refine (addrs_any R _).mono ?_; rintro e w2 ⟨rfl, rfl⟩)
      obtain ⟨w5, hw5⟩ : ∃ w5, wr.alloc (.cells #[.pointer (some ⟨R, 0, none⟩)] 115) = w5 := ⟨_, rfl⟩
      obtain ⟨C, hC⟩ : ∃ C, wr.heap.size = C := ⟨_, rfl⟩
      obtain ⟨vs, r, bd, v1, h1, h2, h3, h4, h5, h6, h7, h8, h9⟩ := HN.out
      have HA := adr_start (.cells #[.pointer (some ⟨R, 0, none⟩)] 115) h3 h4 h5 h6
      have HR5 : Rd w5 R b r bd := hw5 ▸ h7.below ((Below.refl _ _).alloc (Nat.le_refl _) _)
      have hC5 : w5.cell? ⟨C, 0, none⟩ = some (.pointer (some ⟨R, 0, none⟩)) := by
        have := (cells_of (heap_new wr (.cells #[.pointer (some ⟨R, 0, none⟩)] 115)) 0).1
        rw [hw5, hC] at this
        exact this
      have hS5 : w5.heap.size = C + 1 := by rw [← hw5, World.size_alloc, hC]
      have hMC : M < C := by rw [← hC]; exact (Array.getElem?_eq_some_iff.1 h3).1
      have hv1 : ∀ g, v1.ownBlock = some g → g < C := fun g hg => by rw [← hC]; exact (h5.lt g hg).2
      rw [hw5, hC] at HA
      rw [hw5, hC]
      have hn1 : C ≠ R := by have := HM0.out; omega
      have HLR := Lib.hid (nums_len HBD.out hz h8)
      have HOK := Lib.hid (fun pre z W => okA_facts (pre := pre) (z := z) (W := W) h7.bd HLR.out)
      have HT5 := adrs_tells 5 (by omega) R b C [C, R, b] r bd w5 HR5 hC5 (by simp) (by simp) (by simp) hn1
      have H1 := Lib.hid h1; have H2 := Lib.hid h2; have H8 := Lib.hid h8; have H9 := Lib.hid h9; have HV1 := Lib.hid hv1
      have HS5 := Lib.hid hS5; have HMC := Lib.hid hMC
      have hgs : ∀ g ∈ [C, R, b], g < w5.heap.size := by
        intro g hg
        have := HB.out; have := HL.out; have := HM0.out
        simp at hg
        omega
      have hms : ∀ g ∈ [R], g < w5.heap.size := by
        intro g hg
        have := HL.out; have := HM0.out
        simp at hg
        omega
      have HWG : Hid (w.heap.size ≤ w5.heap.size) := Lib.hid (by have := HG.out; have := HM0.out; omega)
      clear h1 h2 h3 h4 h5 h6 h7 h8 h9 hv1 hw5 hC hC5 HR5 hn1 hS5 hMC HN hk wr
      refine (wpIn_wide (n := 6)).1 ?_
      apply range_told2 (F := Fence.wide) (n := 6) (f := 70) (own := #[.pointer (some ⟨C, 0, none⟩)]) ⟨rfl, by omega, trivial, enters_of Tryd.func70 (by kernel_rfl) rfl, HT5⟩ rfl (Below.refl _ _) hgs hms (fun _ => rfl) (fun zs => SA.own zs) (fun zs => fun s A B row h _ _ => h)
        (AdrI w R M G C (q : Int) k v1 vs) (fun _ _ _ => False) ⟨AdrI.own HWG.out, ?_, fun c s A B row h _ _ => h, fun zs z s A B row h _ _ => h⟩ HA
      case al => exact fun z => .cells #[.int .u32 z.1, .int .i64 z.2] 87
      case hassign =>
        intro l z V g K hg hK
        simp only [encA]
        gi_wp2
        exact hK
      case hbody =>
        rintro l pre z V g hg hVg hal ⟨v2, h1, h2, h3, h4, h5, h6, h7⟩ hok
        have hf := HOK.out _ _ _ hok
        have hc := (MBox.mx h1).1.c2
        have hcf := (MBox.mx h1).2.2 2
        have hML := (MBox.mx h1).2.1
        have hz0 := (cells_of hal 0).1
        have hz1 := (cells_of hal 1).1
        simp at hz0 hz1
        have hpl : pre.length ≤ 1000000 := hf.1
        have hgl : g < V.heap.size := by omega
        have HWS : Hid (∀ o, (V.alloc o).heap[g + 1]? = some o) := Lib.hid (fun o => by rw [← hVg]; exact heap_new V o)
        have HST : Hid (∀ o w4 v3, (V.alloc o).grownBy w4 v2.ownBlock → w4.ownsRow (C + 1) 87 2 v3 (pre.length + 1) (A2 pre ++ [.int .u32 z.1, .int .i64 z.2]) → w4.cell? ⟨M, 2, none⟩ = some v2 ∧ w4.frozen? ⟨M, 2, none⟩ = false ∧ M < w4.heap.size ∧
            Hid (Kept [C, R, b] false w5.heap.size V (w4.setCell ⟨M, 2, none⟩ v3) ∧ AdrI w R M G C (q : Int) k v1 vs (pre ++ [(z.1, z.2)]) (w4.setCell ⟨M, 2, none⟩ v3))) := Lib.hid (by
          intro o w4 v3 hg4 ho4
          have hb4 : w4.heap[M]? = some _ := (hg4.block M (by simp; omega) (fun e => by have := (h4.lt M e.symm).1; have := HMC.out; omega)).trans ((Below.heap_alloc _ _ _ hML).trans h1)
          have hc4 := MBox.mx hb4
          exact ⟨hc4.1.c2, hc4.2.2 2, hc4.2.1, adr_step (by have := HL.out; have := HG.out; omega) (by have := HB.out; have := HG.out; omega) (Nat.le_of_eq HG.out) HM0.out HMC.out (by have := HS5.out; omega) (by omega) HV1.out h1 h2 h3 h4 h5 h6 h7 hf.2 hg4 ho4⟩)
        have HO4 : Hid (∀ o, (V.alloc o).ownsRow (C + 1) 87 2 v2 pre.length (A2 pre)) := Lib.hid (fun o => h4.alloc o)
        have HCV : Hid (C < V.heap.size) := Lib.hid h6
        clear h1 h2 h3 h4 h5 h6 h7 hok hf hal hg
        gi_wp2_with (gi_at_builtin; refine stepIn_adr rfl (.tmp 26) (.tmp 28) rfl (base := C + 1) (g := g + 1) (h := z.1) (p := z.2) (k := pre.length) (v := v2) (xs := A2 pre) rfl (HO4.out _) rfl (HWS.out _) hpl (by simp; have := HCV.out; omega) ?_; intro v3 w4 ho4 hg4; obtain ⟨A4, c4, rfl⟩ := own_slice ho4; obtain ⟨d1, d2, d3, HN4⟩ := HST.out _ _ _ hg4 ho4; clear ho4 hg4)
        exact ⟨HN4.out.1, HN4.out.2⟩
      case hstop =>
        rintro D c xs V hD _ h _
        exact h.elim
      case hdone =>
        rintro D xs V hD ⟨r2, bd2, hr2, hf2, ht2⟩ hI hK
        have CB := Lib.hid (body_any R b r2 bd2 V hr2)
        have HI := Lib.hid hI
        have HK2 := Lib.hid hK
        have HF2 := Lib.hid hf2; have HT2 := Lib.hid ht2
        have HRB : Hid (∀ z ∈ Fr.row r2, 0 ≤ z ∧ z ≤ 255) := Lib.hid (Fr.row_bd hr2.bd)
        have HD : Hid (w5.heap.size ≤ D) := Lib.hid hD
        clear hI hK hf2 ht2 hr2 hD
        go_wp2_with fail
        refine CB.out.mono ?_
        rintro e V3 ⟨x3, rfl, ho3, hg3, hr3⟩
        have hI3 := HI.out.turn hg3 (by have := HL.out; have := HM0.out; omega) (by have := HL.out; omega) HMC.out
        have hD3 : V3.heap[D]? = some (.deferred (some [])) := (hg3.block D (Array.getElem?_eq_some_iff.1 HK2.out).1 (fun e => by simp at e; have := HD.out; have := HS5.out; have := HL.out; have := HM0.out; have := HMC.out; omega)).trans HK2.out
        obtain ⟨v2, h1, h2, h3, h4, h5, h6, h7⟩ := hI3
        obtain ⟨A1, c1, rfl⟩ := own_slice h3
        obtain ⟨A2', c2, rfl⟩ := own_slice h4
        obtain ⟨A3, c3, rfl⟩ := own_slice ho3
        obtain ⟨⟨m0, m1, m2, m3⟩, hML, mf⟩ := MBox.mx h1
        obtain ⟨⟨g0, g1, g2, g3⟩, hGL, gf⟩ := MBox.mx h2
        have mf3 := mf 3
        have gf0 := gf 0; have gf1 := gf 1; have gf2 := gf 2; have gf3 := gf 3
        have hgm := HM0.out
        have HR3 := Lib.hid hr3
        clear hr3
        have HE := Lib.hid (fun W5 hW => msg_end (W5 := W5) (zs := zs) (r := r) (bd := bd) HL.out HB.out HG.out HM0.out HMC.out (by have := HD.out; have := HS5.out; omega) hML hqb HQ.out (by rw [HCC.out]; exact HK.out) h1 h2 h3 h4 h5 h7 (by have := HD.out; have := HS5.out; have := HMC.out; have := (Array.getElem?_eq_some_iff.1 HK2.out).1; omega) ho3 HRB.out HR3.out hD3 H1.out H2.out H8.out H9.out HF2.out HT2.out hW)
        clear h1 h2 h3 h4 h5 h6 h7 ho3 hD3
        go_wp2
        obtain ⟨hD5, hm, ha⟩ := HE.out _ rfl
        refine ⟨by simp, .inl ⟨_, _, rfl, run_takeDeferred hD5, ?_⟩⟩
        obtain ⟨k0, k1, k2, k3⟩ := hm
        exact ⟨.agg #[.int .i64 (q : Int), .slice A1 k c1, .slice A2' xs.length c2, .slice A3 (Fr.row r2).length c3], by simp [results, Tryd.f46, go_sem, k0, k1, k2, k3], ha⟩
      · exact fun zs A B g hg hs hgr => by
          have hg' : g = R := by simpa using hg
          subst hg'
          exact hs.turn hgr (by have := HL.out; have := HM0.out; omega) (by have := HL.out; omega) HMC.out
end Go.Proofs.YtdiilgedicfekaaDoor
namespace Go.Proofs.YtdiilgedicfekaaDoor
open Go.RowKit
set_option linter.unusedVariables false
set_option maxRecDepth 100000

set_option maxRecDepth 100000 in
set_option maxHeartbeats 4000000 in
theorem rmay_msg (m : Wi.Msg) (x1 x2 x3 : Value) (w : World) (hv : MsgV w x1 x2 x3 m) :
    Calls Tryd.prog 42 #[.agg #[.int .i64 m.kind, x1, x2, x3]] w fun e w' => e = .returned (.bool (Wi.may m)) ∧ Below w.heap.size w w' := by
  obtain ⟨T, hTT⟩ : ∃ T, Wi.may m = T := ⟨_, rfl⟩
  rw [hTT]
  have HTT := Lib.hid hTT; clear hTT
  obtain ⟨⟨A1, c1, rfl, n1, n2, n3, n4, n5⟩, ⟨A2, c2, rfl, a1, a2, a3, a4, a5⟩, ⟨A3, c3, rfl, b1, b2, b3, b4⟩, k0, k1⟩ := hv
  have N5 := Lib.hid n5; have A5 := Lib.hid a5; have A4 := Lib.hid a4; have N4 := Lib.hid n4
  have CN := Lib.hid (fun W => rnums_any m.kind W)
  have hq0 := Wi.numsOf_bd m.kind
  obtain ⟨q, hq⟩ : ∃ q, Wi.numsOf m.kind = q := ⟨_, rfl⟩
  simp only [hq] at CN hq0
  have HQ := Lib.hid hq
  unfold maxLen at n2 a2 b3
  clear hq n3 n4 n5 a3 a4 a5 b1 b4
  obtain ⟨nl, hnl⟩ : ∃ n, m.nums.length = n := ⟨_, rfl⟩
  obtain ⟨al, hal⟩ : ∃ n, m.addrs.length = n := ⟨_, rfl⟩
  obtain ⟨bl, hbl⟩ : ∃ n, m.body.length = n := ⟨_, rfl⟩
  obtain ⟨kd, hkd⟩ : ∃ n, m.kind = n := ⟨_, rfl⟩
  have HNL := Lib.hid hnl; have HAL := Lib.hid hal; have HBL := Lib.hid hbl
  rw [hnl] at n1 N5 ⊢; rw [hal] at a1 A5 ⊢; rw [hbl] at b2 ⊢; rw [hkd] at k0 k1 CN ⊢
  clear hnl hal hbl
  go_enter Tryd.func42, Tryd.ntmps42
  go_wp2
  have HX := Mx.new w kd (.slice A1 nl c1) (.slice A2 al c2) (.slice A3 bl c3)
  have HB0 : Hid (Below w.heap.size w (w.alloc (.cells #[.int .i64 kd, .slice A1 nl c1, .slice A2 al c2, .slice A3 bl c3] 46))) := Lib.hid ((Below.refl _ _).alloc (Nat.le_refl _) _)
  generalize w.alloc (.cells #[.int .i64 kd, .slice A1 nl c1, .slice A2 al c2, .slice A3 bl c3] 46) = W0 at *
  have HXX := Lib.hid HX
  obtain ⟨x0, x1, x2, x3⟩ := HX
  go_loopw [3] (fun i wr => ∃ k : Nat, k ≤ nl ∧ i = .int .i64 (k : Int) ∧ wr = W0 ∧ ∀ j, j < k → m.nums.getD j 0 < 9223372036854775808) (fun i _ => nl - (intOf i).toNat)
  case atStart => exact ⟨0, by omega, rfl, rfl, fun j h => by omega⟩
  case round =>
    obtain ⟨k, hk, rfl, rfl, hP⟩ := hrel
    have HP := Lib.hid hP; clear hP
    by_cases hlt : k < nl
    · obtain ⟨b, off, rfl, hc⟩ := N5.out (by omega)
      have hcell := (HB0.out.cell (p := ⟨b, off + k, none⟩) (lt_of_cell (hc k hlt))).trans (hc k hlt)
      have hvb := N4.out (m.nums.getD k 0) (by have := HNL.out; simp [List.getD, show k < m.nums.length by omega])
      obtain ⟨v, hvv⟩ : ∃ v, m.nums.getD k 0 = v := ⟨_, rfl⟩
      rw [hvv] at hcell hvb
      have HVV := Lib.hid hvv
      clear hc hvv
      by_cases hv : v < 9223372036854775808
      · have t1 : decide ((9223372036854775807 : Int) < (v : Int)) = false := by simp; omega
        go_wp2
        go_roundw
        case rel => exact ⟨k + 1, by omega, by go_num, trivial, fun j hj => by
          rcases Nat.lt_or_ge j k with h | h
          · exact HP.out j h
          · obtain rfl : j = k := by omega
            rw [HVV.out]; exact hv⟩
        case measure => simp [intOf]; omega
      · have t1 : decide ((9223372036854775807 : Int) < (v : Int)) = true := by simp; omega
        have HE : Hid (Wi.may m = false) := Lib.hid (may_num (k := k) (by have := HNL.out; omega) (by rw [HVV.out]; exact hv))
        go_wp2
        go_ret
        exact ⟨ret_bool (by rw [← HTT.out, HE.out]), HB0.out⟩
    · obtain rfl : k = nl := by omega
      go_wp2
      clear x0 x1 x2 x3
      go_loopw [4] (fun i wr => ∃ j : Nat, j ≤ al ∧ i = .int .i64 (j : Int) ∧ Below w.heap.size w wr ∧ Mx wr w.heap.size kd (.slice A1 k c1) (.slice A2 al c2) (.slice A3 bl c3) ∧ ∀ l, l < j → mayA (m.addrs.getD l (0, 0)).1 (m.addrs.getD l (0, 0)).2 = true) (fun i _ => al - (intOf i).toNat)
      case atStart => exact ⟨0, by omega, rfl, HB0.out, HXX.out, fun j h => by omega⟩
      case round =>
        obtain ⟨j, hj, rfl, hB, hX, hP2⟩ := hrel
        have HP2 := Lib.hid hP2; have HB2 := Lib.hid hB; have HX2 := Lib.hid hX; clear hP2 hB
        obtain ⟨x0, x1, x2, x3⟩ := hX
        by_cases hlt2 : j < al
        · obtain ⟨b, off, rfl, hc⟩ := A5.out (by omega)
          have hcell0 := (HB2.out.cell (p := ⟨b, off + j * 2, none⟩) (lt_of_cell (hc j hlt2).1)).trans (hc j hlt2).1
          have hcell1 := (HB2.out.cell (p := ⟨b, off + j * 2 + 1, none⟩) (lt_of_cell (hc j hlt2).2)).trans (hc j hlt2).2
          have hab := A4.out (m.addrs.getD j (0, 0)) (by have := HAL.out; simp [List.getD, show j < m.addrs.length by omega])
          obtain ⟨⟨h, p⟩, hvv⟩ : ∃ v, m.addrs.getD j (0, 0) = v := ⟨_, rfl⟩
          rw [hvv] at hcell0 hcell1 hab
          have HVV := Lib.hid hvv
          have HM := Lib.hid (fun W => rmay_any h p W hab.1 hab.2)
          unfold adr at HM
          clear hc hvv
          cases hm : mayA h p with
          | true =>
            have HMM := Lib.hid hm
            rw [hm] at HM
            clear hm
            go_wp2_with fail
            refine (HM.out _).mono ?_
            rintro e w' ⟨rfl, hb'⟩
            have HB3 : Hid (Below w.heap.size w w') := Lib.hid (HB2.out.trans (hb'.mono HB2.out.size))
            have HX3 := Lib.hid (HX2.out.call hb')
            clear hb' x0 x1 x2 x3
            go_wp2
            go_roundw
            case rel => exact ⟨j + 1, by omega, by go_num, HB3.out, HX3.out, fun l hl => by
              rcases Nat.lt_or_ge l j with h' | h'
              · exact HP2.out l h'
              · obtain rfl : l = j := by omega
                rw [HVV.out]; exact HMM.out⟩
            case measure => simp [intOf]; omega
          | false =>
            have HE : Hid (Wi.may m = false) := Lib.hid (may_adr (k := j) (by have := HAL.out; omega) (by rw [HVV.out]; exact hm))
            rw [hm] at HM
            clear hm
            go_wp2_with fail
            refine (HM.out _).mono ?_
            rintro e w' ⟨rfl, hb'⟩
            have HB3 : Hid (Below w.heap.size w w') := Lib.hid (HB2.out.trans (hb'.mono HB2.out.size))
            clear hb'
            go_wp2
            go_ret
            exact ⟨ret_bool (by rw [← HTT.out, HE.out]), HB3.out⟩
        · obtain rfl : j = al := by omega
          by_cases hok : ((k : Int) = q ∧ j ≤ 8 ∧ bl ≤ 1000)
          · have HE : Hid (Wi.may m = true) := Lib.hid (may_yes (by rw [HNL.out, HAL.out, HBL.out, HQ.out]; exact hok) (fun l hl => HP.out l (by have := HNL.out; omega)) (fun l hl => HP2.out l (by have := HAL.out; omega)))
            obtain ⟨o1, o2, o3⟩ := hok
            have t1 : ((k : Int) == q) = true := by simp [o1]
            have t2 : decide ((j : Int) ≤ 8) = true := by simp; omega
            have t3 : decide ((bl : Int) ≤ 1000) = true := by simp; omega
            have HF : Hid (T = true) := Lib.hid (by rw [← HTT.out, HE.out])
            clear o1
            go_wp2
            go_quiet ((go_at_call 53; refine Calls.quiet_of_same (CN.out _)))
            go_wp2
            go_ret
            exact ⟨ret_bool HF.out.symm, below_drewN' HB2.out _⟩
          · have HE : Hid (Wi.may m = false) := Lib.hid (may_no (by rw [HNL.out, HAL.out, HBL.out, HQ.out]; exact hok))
            have HF : Hid (T = false) := Lib.hid (by rw [← HTT.out, HE.out])
            by_cases o1 : (k : Int) = q
            · have t1 : ((k : Int) == q) = true := by simp [o1]
              by_cases o2 : j ≤ 8
              · have t2 : decide ((j : Int) ≤ 8) = true := by simp; omega
                have t3 : decide ((bl : Int) ≤ 1000) = false := decide_eq_false (by have h3 : ¬ bl ≤ 1000 := (fun h => hok ⟨o1, o2, h⟩); omega)
                clear hok o1
                go_wp2
                go_quiet ((go_at_call 53; refine Calls.quiet_of_same (CN.out _)))
                go_wp2
                go_ret
                exact ⟨ret_bool HF.out.symm, below_drewN' HB2.out _⟩
              · have t2 : decide ((j : Int) ≤ 8) = false := by simp; omega
                clear hok o1
                go_wp2
                go_quiet ((go_at_call 53; refine Calls.quiet_of_same (CN.out _)))
                go_wp2
                go_ret
                exact ⟨ret_bool HF.out.symm, below_drewN' HB2.out _⟩
            · have t1 : ((k : Int) == q) = false := by simpa using o1
              clear hok
              go_wp2
              go_quiet ((go_at_call 53; refine Calls.quiet_of_same (CN.out _)))
              go_wp2
              go_ret
              exact ⟨ret_bool HF.out.symm, below_drewN' HB2.out _⟩

/-- is a message such as is gone through? -/
def small (m : Wi.Msg) : Bool := decide (m.nums.length ≤ 40) && decide (m.addrs.length ≤ 40) && decide (m.body.length ≤ 3000)
end Go.Proofs.YtdiilgedicfekaaDoor
namespace Go.Proofs.YtdiilgedicfekaaDoor
open Go.RowKit
set_option linter.unusedVariables false
set_option maxRecDepth 100000

theorem bytesA_bd {h p : Int} (h0 : 0 ≤ h) (h1 : h < 4294967296) (hm : mayA h p = true) : ∀ z ∈ bytesA h p, 0 ≤ z ∧ z ≤ 255 := by
  have hp : h ≠ 0 ∧ 1 ≤ p ∧ p ≤ 65535 := by simpa [mayA, and_assoc] using hm
  intro z hz
  simp [bytesA] at hz
  omega
/-- a row of bytes, in a block of its own -/
theorem bts_block {w : World} {g : Nat} {zs : List Int} (hg : w.heap[g]? = some (.cells (zs.map (Value.int .u8)).toArray 5 (0, 0))) (hb : ∀ z ∈ zs, 0 ≤ z ∧ z ≤ 255) : Bts w (some ⟨g, 0, none⟩) zs.length zs := by
  refine ⟨rfl, hb, fun _ => ⟨g, 0, rfl, (Array.getElem?_eq_some_iff.1 hg).1, fun j hj => ?_⟩⟩
  rw [Nat.zero_add, (cells_of hg j).1]
  simp [List.getElem?_eq_getElem hj, List.getD]
theorem addr_row (h p : Int) (w : World) (h0 : 0 ≤ h) (h1 : h < 4294967296) (hm : mayA h p = true) : Calls Tryd.prog 38 #[.agg #[.int .u32 h, .int .i64 p]] w fun e w' => ∃ g, e = .returned (.slice (some ⟨g, 0, none⟩) 6 6) ∧ Bts w' (some ⟨g, 0, none⟩) 6 (bytesA h p) ∧ Below w.heap.size w w' := by
  refine (bytes_ok h p w h0 h1 hm).mono ?_
  rintro e w' ⟨g, rfl, hg, _, hb⟩
  exact ⟨g, rfl, bts_block hg (bytesA_bd h0 h1 hm), hb⟩
theorem put_row (v : Nat) (hv : v < 18446744073709551616) (w : World) : Calls Tryd.prog 37 #[.int .u64 (v : Int)] w fun e w' => ∃ A c, e = .returned (.slice A (Uv.enc v).length c) ∧ w'.ownsRow w.heap.size 5 1 (.slice A (Uv.enc v).length c) (Uv.enc v).length (B (Uv.enc v)) ∧ Bts w' A (Uv.enc v).length (Uv.enc v) ∧ (A = none → (Uv.enc v).length = 0 ∧ c = 0) ∧ Below w.heap.size w w' := by
  refine (put_any v w hv).mono ?_
  rintro e w' ⟨r, rfl, ho, hb⟩
  obtain ⟨A, c, rfl, _, _, hbt⟩ := own_form ho (Uv.enc_mem v)
  exact ⟨A, c, rfl, ho, hbt, own_nil ho, hb⟩
theorem frame_row (v : Value) (zs : List Int) (w : World) (h : Tx w v zs) (hn : zs.length ≤ 1000) : Calls Tryd.prog 39 #[v] w fun e w' => ∃ A c, e = .returned (.tuple #[.slice A (Fr.put zs).length c, .int .i64 0]) ∧ Bts w' A (Fr.put zs).length (Fr.put zs) ∧ (A = none → (Fr.put zs).length = 0 ∧ c = 0) ∧ Below w.heap.size w w' := by
  obtain ⟨A, c, rfl, hb, h1, h2, h3⟩ := h
  refine (fput_ok A zs.length c zs w hb h3 (by omega)).mono ?_
  rintro e w' ⟨r, rfl, ho, hbe⟩
  obtain ⟨A', c', rfl, _, _, hbt⟩ := own_form ho (by
    unfold Fr.put
    exact mem_append_bd (Uv.enc_mem _) hb.bd)
  exact ⟨A', c', rfl, hbt, own_nil ho, hbe⟩
theorem flat_take_succ (vs : List Nat) (k : Nat) (hk : k < vs.length) : Uv.flat (vs.take (k + 1)) = Uv.flat (vs.take k) ++ Uv.enc (vs.getD k 0) := by
  rw [List.take_add_one, List.getElem?_eq_getElem hk, Wi.flat_append]
  simp [Uv.flat, List.getD, hk]
theorem aflat_take_succ (al : List (Int × Int)) (k : Nat) (hk : k < al.length) : Wi.aflat (al.take (k + 1)) = Wi.aflat (al.take k) ++ bytesA (al.getD k (0, 0)).1 (al.getD k (0, 0)).2 := by
  rw [List.take_add_one, List.getElem?_eq_getElem hk, Wi.aflat_append]
  simp [Wi.aflat, List.getD, hk]

theorem flat_le (vs : List Nat) : (Uv.flat vs).length ≤ 9 * vs.length := by
  induction vs with
  | nil => simp [Uv.flat]
  | cons v t ih =>
    have h9 : (Uv.enc v).length ≤ 9 := by
      by_cases h : v < 9223372036854775808
      · rw [Uv.enc_length v h]; exact Uv.len_small v h
      · rw [Uv.enc_big v h]; simp
    simp [Uv.flat] at ih ⊢
    omega
theorem own_below' {w w' : World} {base n : Nat} {e : TypeId} {v : Value} {xs : List Value} (h : w.ownsRow base e 1 v n xs) (hb : Below w.heap.size w w') : w'.ownsRow base e 1 v n xs := by
  refine ⟨h.1, ?_⟩
  rcases h.2 with hn | ⟨g, cap, cur, rfl, h1, hgg, rest⟩
  · exact .inl hn
  · exact .inr ⟨g, cap, cur, rfl, h1, (hb.block g (Array.getElem?_eq_some_iff.1 hgg).1).trans hgg, rest⟩
def RelB (w1 : World) (zs : List Int) (v : Value) (wr : World) : Prop := wr.ownsRow w1.heap.size 5 1 v zs.length (B zs) ∧ Below w1.heap.size w1 wr

set_option maxRecDepth 100000 in
set_option maxHeartbeats 4000000 in
theorem bytes_msg_no (m : Wi.Msg) (x1 x2 x3 : Value) (w : World) (hv : MsgV w x1 x2 x3 m) (hT : Tb w) (hm : Wi.may m = false) :
    Calls Tryd.prog 21 #[.agg #[.int .i64 m.kind, x1, x2, x3]] w fun e w' => e = .returned (.slice none 0 0) ∧ Below w.heap.size w w' := by
  have C1 : Hid (∀ W, Below w.heap.size w W → Calls Tryd.prog 36 #[.agg #[.int .i64 m.kind, x1, x2, x3]] W fun e w' => e = .returned (.bool false) ∧ Below W.heap.size W w') := Lib.hid (fun W hb => by
    have := may_msg m x1 x2 x3 W (hv.below hb) (hT.below hb)
    rw [hm] at this
    exact this)
  clear hv hT hm
  go_enter Tryd.func21, Tryd.ntmps21
  go_wp2_with fail
  have HB0 : Hid (Below w.heap.size w (w.alloc (.cells #[.int .i64 m.kind, x1, x2, x3] 46))) := Lib.hid ((Below.refl _ _).alloc (Nat.le_refl _) _)
  refine (C1.out _ HB0.out).mono ?_
  rintro e w1 ⟨rfl, hb1⟩
  have HB1 := Lib.hid (HB0.out.trans (hb1.mono HB0.out.size)); clear hb1
  go_wp2
  go_ret
  exact ⟨rfl, HB1.out⟩

set_option maxRecDepth 100000 in
set_option maxHeartbeats 4000000 in
theorem bytes_msg_ok (m : Wi.Msg) (x1 x2 x3 : Value) (w : World) (hv : MsgV w x1 x2 x3 m) (hT : Tb w) (hm : Wi.may m = true) :
    Calls Tryd.prog 21 #[.agg #[.int .i64 m.kind, x1, x2, x3]] w fun e w' => ∃ v, e = .returned v ∧ w'.ownsRow w.heap.size 5 1 v (Wi.bytes m).length (B (Wi.bytes m)) ∧ Below w.heap.size w w' := by
  have C1 : Hid (∀ W, Below w.heap.size w W → Calls Tryd.prog 36 #[.agg #[.int .i64 m.kind, x1, x2, x3]] W fun e w' => e = .returned (.bool true) ∧ Below W.heap.size W w') := Lib.hid (fun W hb => by
    have := may_msg m x1 x2 x3 W (hv.below hb) (hT.below hb)
    rw [hm] at this
    exact this)
  have HV := Lib.hid hv
  obtain ⟨m1, m2, m3, m4, m5⟩ := Wi.may_iff.1 hm
  have hkb := (Wi.numsOf_bd m.kind).2
  obtain ⟨kn, hkn⟩ : ∃ kn : Nat, m.kind = (kn : Int) := ⟨m.kind.toNat, by omega⟩
  have hk18 : kn ≤ 18 := by omega
  have C2 := Lib.hid (put_row kn (by omega))
  have C3 := Lib.hid (put_row m.addrs.length (by omega))
  have C4 : Hid (∀ W, Below w.heap.size w W → Calls Tryd.prog 39 #[x3] W fun e w' => ∃ A c, e = .returned (.tuple #[.slice A (Fr.put m.body).length c, .int .i64 0]) ∧ Bts w' A (Fr.put m.body).length (Fr.put m.body) ∧ (A = none → (Fr.put m.body).length = 0 ∧ c = 0) ∧ Below W.heap.size W w') := Lib.hid (fun W hb => frame_row x3 m.body W (hv.2.2.1.below hb) m3)
  have M4 := Lib.hid m4; have M5 := Lib.hid m5
  have HBY : Hid (Wi.bytes m = ((Uv.enc kn ++ Uv.flat m.nums) ++ Uv.enc m.addrs.length ++ Wi.aflat m.addrs) ++ Fr.put m.body) := Lib.hid (by unfold Wi.bytes; rw [hkn, Int.toNat_natCast]; simp [List.append_assoc])
  obtain ⟨⟨A1, c1, rfl, n1, n2, n3, n4, n5⟩, ⟨A2, c2, rfl, a1, a2, a3, a4, a5⟩, hx3, k0, k1⟩ := hv
  have N5 := Lib.hid n5; have A5 := Lib.hid a5; have A4 := Lib.hid a4; have N4 := Lib.hid n4
  have hnl6 : m.nums.length ≤ 6 := by omega
  have he9 : ∀ v, (Uv.enc v).length ≤ 9 := fun v => by
    by_cases h : v < 9223372036854775808
    · rw [Uv.enc_length v h]; exact Uv.len_small v h
    · rw [Uv.enc_big v h]; simp
  have HE9 := Lib.hid he9
  unfold maxLen at n2 a2
  rw [hkn] at C1 ⊢
  clear hT hm n3 n4 n5 a3 a4 a5 hx3 m1 m4 m5 hkb hkn k0 k1 he9
  go_enter Tryd.func21, Tryd.ntmps21
  go_wp2_with fail
  have HX0 := Lib.hid (Mx.new w (kn : Int) (.slice A1 m.nums.length c1) (.slice A2 m.addrs.length c2) x3)
  have HB0 : Hid (Below w.heap.size w (w.alloc (.cells #[.int .i64 (kn : Int), .slice A1 m.nums.length c1, .slice A2 m.addrs.length c2, x3] 46))) := Lib.hid ((Below.refl _ _).alloc (Nat.le_refl _) _)
  generalize hW0 : w.alloc (.cells #[.int .i64 (kn : Int), .slice A1 m.nums.length c1, .slice A2 m.addrs.length c2, x3] 46) = W0 at *
  clear hW0
  refine (C1.out _ HB0.out).mono ?_
  rintro e w1 ⟨rfl, hb1⟩
  have HB1 := Lib.hid (HB0.out.trans (hb1.mono HB0.out.size))
  have HX1 := Lib.hid (HX0.out.call hb1)
  clear hb1 HX0 HB0 C1
  obtain ⟨y0, y1, y2, y3⟩ := HX1.out
  have HS1 := HB1.out.size
  go_wp2_with (go_at_call 37; refine (C2.out _).mono ?_; rintro e w2 ⟨A3, c3, rfl, ho2, _, _, hb2⟩; have HO2 := Lib.hid ho2; have HB2 := Lib.hid hb2; obtain ⟨z0, z1, z2, z3⟩ := HX1.out.call hb2; clear ho2 hb2)
  clear y0 y1 y2 y3 z0 z2 z3
  go_loopw [20, 3] (fun i v wr => ∃ k : Nat, k ≤ m.nums.length ∧ i = .int .i64 (k : Int) ∧ RelB w1 (Uv.enc kn ++ Uv.flat (m.nums.take k)) v wr) (fun i _ _ => m.nums.length - (intOf i).toNat)
  case atStart => exact ⟨0, Nat.zero_le _, rfl, by simpa [Uv.flat] using HO2.out, HB2.out⟩
  case round =>
    clear HO2 HB2 z1
    obtain ⟨k, hk, rfl, ho, hb⟩ := hrel
    have HO := Lib.hid ho; have HB := Lib.hid hb; clear ho hb
    have HE := HE9.out kn
    by_cases hlt : k < m.nums.length
    · obtain ⟨b, off, rfl, hc⟩ := N5.out (by omega)
      have hcell := ((HB1.out.trans (HB.out.mono HS1)).cell (p := ⟨b, off + k, none⟩) (lt_of_cell (hc k hlt))).trans (hc k hlt)
      have hvb := N4.out (m.nums.getD k 0) (by simp [List.getD, hlt])
      have HF := Lib.hid (flat_take_succ m.nums k hlt)
      have hv9 := HE9.out (m.nums.getD k 0)
      have hfl := flat_le (m.nums.take k)
      have hkl : (m.nums.take k).length ≤ 6 := by simp; omega
      have hjl : (Uv.enc kn ++ Uv.flat (m.nums.take k)).length ≤ 63 := by rw [List.length_append]; omega
      have HJ : Hid (Uv.enc kn ++ Uv.flat (m.nums.take (k + 1)) = (Uv.enc kn ++ Uv.flat (m.nums.take k)) ++ Uv.enc (m.nums.getD k 0)) := Lib.hid (by rw [HF.out, List.append_assoc])
      clear hc HF hfl hkl
      have CP := Lib.hid (put_row (m.nums.getD k 0) hvb)
      generalize m.nums.getD k 0 = v at *
      generalize Uv.enc kn ++ Uv.flat (m.nums.take k) = js at *
      go_wp2_with (first
        | (go_at_call 37; refine (CP.out _).mono ?_; rintro e w3 ⟨A9, c9, rfl, _, hbt, hn, hb3⟩; have HBT := Lib.hid hbt; have HN := Lib.hid hn; have HB3 := Lib.hid hb3; clear hbt hn hb3)
        | (at_builtin; refine wpList_append_bts rfl (.tmp 24) (.tmp 26) rfl w1.heap.size _ js.length js rfl (own_below' HO.out HB3.out) A9 (Uv.enc v).length c9 (Uv.enc v) rfl HBT.out HN.out (by omega) (by have := HB.out.size; have := HB3.out.size; omega) ?_; intro v5 w5 ho5 hg5; have HO5 := Lib.hid ho5; have HG5 := Lib.hid (own_grown_below (own_below' HO.out HB3.out) (HB.out.trans (HB3.out.mono HB.out.size)) (Nat.le_refl _) hg5); clear ho5 hg5))
      go_roundw
      case rel => exact ⟨k + 1, by omega, by go_num, by unfold RelB; rw [HJ.out, List.length_append]; exact ⟨HO5.out, HG5.out⟩⟩
      case measure => simp [intOf]; omega
    · obtain rfl : k = m.nums.length := by omega
      have hft : m.nums.take m.nums.length = m.nums := List.take_length
      rw [hft] at HO
      have hfl := flat_le m.nums
      have hjl : (Uv.enc kn ++ Uv.flat m.nums).length ≤ 63 := by rw [List.length_append]; omega
      have HE2 := HE9.out m.addrs.length
      clear hft hfl hlt hk
      generalize Uv.enc kn ++ Uv.flat m.nums = js at *
      obtain ⟨x0, x1, x2, x3⟩ := HX1.out.call HB.out
      clear x0 x1 x3
      go_wp2_with (first
        | (go_at_call 37; refine (C3.out _).mono ?_; rintro e w3 ⟨A9, c9, rfl, _, hbt, hn, hb3⟩; have HBT := Lib.hid hbt; have HN := Lib.hid hn; have HB3 := Lib.hid hb3; clear hbt hn hb3)
        | (at_builtin; refine wpList_append_bts rfl (.tmp 29) (.tmp 34) rfl w1.heap.size _ js.length js rfl (own_below' HO.out HB3.out) A9 (Uv.enc m.addrs.length).length c9 (Uv.enc m.addrs.length) rfl HBT.out HN.out (by omega) (by have := HB.out.size; have := HB3.out.size; omega) ?_; intro v5 w5 ho5 hg5; have HO5 := Lib.hid ho5; have HG5 := Lib.hid (own_grown_below (own_below' HO.out HB3.out) (HB.out.trans (HB3.out.mono HB.out.size)) (Nat.le_refl _) hg5); clear ho5 hg5; obtain ⟨u0, u1, u2, u3⟩ := HX1.out.call HG5.out; clear u0 u1 u3))
      rw [← List.length_append] at HO5
      have hjl2 : (js ++ Uv.enc m.addrs.length).length ≤ 72 := by rw [List.length_append]; omega
      clear HE2 hjl
      generalize js ++ Uv.enc m.addrs.length = ks at *
      go_loopw [39, 3] (fun i v wr => ∃ j : Nat, j ≤ m.addrs.length ∧ i = .int .i64 (j : Int) ∧ RelB w1 (ks ++ Wi.aflat (m.addrs.take j)) v wr) (fun i _ _ => m.addrs.length - (intOf i).toNat)
      case atStart => exact ⟨0, Nat.zero_le _, rfl, by simpa [Wi.aflat] using HO5.out, HG5.out⟩
      case round =>
        clear HO5 HG5 HO HB
        obtain ⟨j, hj, rfl, ho, hb⟩ := hrel
        have HO := Lib.hid ho; have HB := Lib.hid hb; clear ho hb
        by_cases hlt : j < m.addrs.length
        · obtain ⟨b, off, rfl, hc⟩ := A5.out (by omega)
          have hcell0 := ((HB1.out.trans (HB.out.mono HS1)).cell (p := ⟨b, off + j * 2, none⟩) (lt_of_cell (hc j hlt).1)).trans (hc j hlt).1
          have hcell1 := ((HB1.out.trans (HB.out.mono HS1)).cell (p := ⟨b, off + j * 2 + 1, none⟩) (lt_of_cell (hc j hlt).2)).trans (hc j hlt).2
          have hab := A4.out (m.addrs.getD j (0, 0)) (by simp [List.getD, hlt])
          have hma := M5.out (m.addrs.getD j (0, 0)) (by simp [List.getD, hlt])
          have HF := Lib.hid (aflat_take_succ m.addrs j hlt)
          have hjl : (ks ++ Wi.aflat (m.addrs.take j)).length ≤ 200 := by rw [List.length_append, Wi.aflat_len]; simp; omega
          have HJ : Hid (ks ++ Wi.aflat (m.addrs.take (j + 1)) = (ks ++ Wi.aflat (m.addrs.take j)) ++ bytesA (m.addrs.getD j (0, 0)).1 (m.addrs.getD j (0, 0)).2) := Lib.hid (by rw [HF.out, List.append_assoc])
          clear hc HF
          generalize ks ++ Wi.aflat (m.addrs.take j) = js at *
          obtain ⟨⟨h, p⟩, hvv⟩ : ∃ v, m.addrs.getD j (0, 0) = v := ⟨_, rfl⟩
          rw [hvv] at hcell0 hcell1 hab hma HJ
          have CA := Lib.hid (fun W => addr_row h p W hab.1 hab.2 hma)
          have hl6 : (bytesA h p).length = 6 := by simp [bytesA]
          have HJ2 : Hid ((js ++ bytesA h p).length = js.length + 6) := Lib.hid (by rw [List.length_append, hl6])
          clear hvv hab hma hl6
          go_wp2_with (first
            | (go_at_call 38; refine (CA.out _).mono ?_; rintro e w3 ⟨g, rfl, hbt, hb3⟩; have HBT := Lib.hid hbt; have HB3 := Lib.hid hb3; clear hbt hb3)
            | (at_builtin; refine wpList_append_bts rfl (.tmp 43) (.tmp 45) rfl w1.heap.size _ js.length js rfl (own_below' (HO.out.alloc _) HB3.out) (some ⟨g, 0, none⟩) 6 6 (bytesA h p) rfl HBT.out (by intro hh; cases hh) (by omega) (by have := HB.out.size; have := HB3.out.size; simp at this; omega) ?_; intro v5 w5 ho5 hg5; have HO5 := Lib.hid ho5; have HG5 := Lib.hid (own_grown_below (own_below' (HO.out.alloc _) HB3.out) ((HB.out.alloc HB.out.size _).trans (HB3.out.mono (by have := HB.out.size; simp; omega))) (Nat.le_refl _) hg5); clear ho5 hg5))
          go_roundw
          case rel => exact ⟨j + 1, by omega, by go_num, by unfold RelB; rw [HJ.out, HJ2.out]; exact ⟨HO5.out, HG5.out⟩⟩
          case measure => simp [intOf]; omega
        · obtain rfl : j = m.addrs.length := by omega
          have hft : m.addrs.take m.addrs.length = m.addrs := List.take_length
          rw [hft] at HO
          have hjl : (ks ++ Wi.aflat m.addrs).length ≤ 200 := by rw [List.length_append, Wi.aflat_len]; omega
          have HPL := (Fr.put_le m.body (by omega)).1
          clear hft hlt hj
          generalize ks ++ Wi.aflat m.addrs = js at *
          obtain ⟨x0, x1, x2, x3⟩ := HX1.out.call HB.out
          clear x0 x1 x2
          have C5 := Lib.hid (C4.out wr (HB1.out.trans (HB.out.mono HS1)))
          have HL : Hid ((Wi.bytes m).length = js.length + (Fr.put m.body).length) := Lib.hid (by rw [HBY.out, List.length_append])
          generalize Fr.put m.body = ps at *
          go_wp2_with (first
            | (go_at_call 39; refine C5.out.mono ?_; rintro e w3 ⟨A9, c9, rfl, hbt, hn, hb3⟩; have HBT := Lib.hid hbt; have HN := Lib.hid hn; have HB3 := Lib.hid hb3; clear hbt hn hb3)
            | (at_builtin; refine wpList_append_bts rfl (.tmp 54) (.tmp 55) rfl w1.heap.size _ js.length js rfl (own_below' HO.out HB3.out) A9 ps.length c9 ps rfl HBT.out HN.out (by omega) (by have := HB.out.size; have := HB3.out.size; omega) ?_; intro v6 w6 ho6 hg6; have HO6 := Lib.hid ho6; have HG6 := Lib.hid (own_grown_below (own_below' HO.out HB3.out) (HB.out.trans (HB3.out.mono HB.out.size)) (Nat.le_refl _) hg6); clear ho6 hg6))
          go_ret
          refine ⟨_, rfl, ?_, HB1.out.trans (HG6.out.mono HS1)⟩
          rw [HL.out, HBY.out]
          exact Go.Joins.ownsRow_le HO6.out HS1
end Go.Proofs.YtdiilgedicfekaaDoor
namespace Go.Proofs.YtdiilgedicfekaaDoor
open Go.RowKit
set_option linter.unusedVariables false
set_option maxRecDepth 100000

theorem raddr_row (h p : Int) (w : World) (h0 : 0 ≤ h) (h1 : h < 4294967296) (hm : mayA h p = true) : Calls Tryd.prog 61 #[.agg #[.int .u32 h, .int .i64 p]] w fun e w' => ∃ g, e = .returned (.slice (some ⟨g, 0, none⟩) 6 6) ∧ Bts w' (some ⟨g, 0, none⟩) 6 (bytesA h p) ∧ Below w.heap.size w w' := by
  refine (rbytes_ok h p w h0 h1 hm).mono ?_
  rintro e w' ⟨g, rfl, hg, _, hb⟩
  exact ⟨g, rfl, bts_block hg (bytesA_bd h0 h1 hm), hb⟩
theorem rput_row (v : Nat) (w : World) : Calls Tryd.prog 60 #[.int .u64 (v : Int)] w fun e w' => ∃ A c, e = .returned (.slice A (Uv.enc v).length c) ∧ w'.ownsRow w.heap.size 5 1 (.slice A (Uv.enc v).length c) (Uv.enc v).length (B (Uv.enc v)) ∧ Bts w' A (Uv.enc v).length (Uv.enc v) ∧ (A = none → (Uv.enc v).length = 0 ∧ c = 0) ∧ Below w.heap.size w w' := by
  refine (ref_put_any v w).mono ?_
  rintro e w' ⟨r, rfl, ho, hb⟩
  obtain ⟨A, c, rfl, _, _, hbt⟩ := own_form ho (Uv.enc_mem v)
  exact ⟨A, c, rfl, ho, hbt, own_nil ho, hb⟩
theorem rframe_row (v : Value) (zs : List Int) (w : World) (h : Tx w v zs) (hn : zs.length ≤ 1000) : Calls Tryd.prog 62 #[v] w fun e w' => ∃ A c, e = .returned (.tuple #[.slice A (Fr.put zs).length c, .int .i64 0]) ∧ Bts w' A (Fr.put zs).length (Fr.put zs) ∧ (A = none → (Fr.put zs).length = 0 ∧ c = 0) ∧ Below w.heap.size w w' := by
  obtain ⟨A, c, rfl, hb, h1, h2, h3⟩ := h
  refine (ref_fput_ok A zs.length c zs w hb h3 (by omega)).mono ?_
  rintro e w' ⟨r, rfl, ho, hbe⟩
  obtain ⟨A', c', rfl, _, _, hbt⟩ := own_form ho (by
    unfold Fr.put
    exact mem_append_bd (Uv.enc_mem _) hb.bd)
  exact ⟨A', c', rfl, hbt, own_nil ho, hbe⟩

set_option maxRecDepth 100000 in
set_option maxHeartbeats 4000000 in
theorem rbytes_msg_no (m : Wi.Msg) (x1 x2 x3 : Value) (w : World) (hv : MsgV w x1 x2 x3 m) (hm : Wi.may m = false) :
    Calls Tryd.prog 44 #[.agg #[.int .i64 m.kind, x1, x2, x3]] w fun e w' => e = .returned (.slice none 0 0) ∧ Below w.heap.size w w' := by
  have C1 : Hid (∀ W, Below w.heap.size w W → Calls Tryd.prog 42 #[.agg #[.int .i64 m.kind, x1, x2, x3]] W fun e w' => e = .returned (.bool false) ∧ Below W.heap.size W w') := Lib.hid (fun W hb => by
    have := rmay_msg m x1 x2 x3 W (hv.below hb)
    rw [hm] at this
    exact this)
  clear hv hm
  go_enter Tryd.func44, Tryd.ntmps44
  go_wp2_with fail
  have HB0 : Hid (Below w.heap.size w (w.alloc (.cells #[.int .i64 m.kind, x1, x2, x3] 46))) := Lib.hid ((Below.refl _ _).alloc (Nat.le_refl _) _)
  refine (C1.out _ HB0.out).mono ?_
  rintro e w1 ⟨rfl, hb1⟩
  have HB1 := Lib.hid (HB0.out.trans (hb1.mono HB0.out.size)); clear hb1
  go_wp2
  go_ret
  exact ⟨rfl, HB1.out⟩

set_option maxRecDepth 100000 in
set_option maxHeartbeats 4000000 in
theorem rbytes_msg_ok (m : Wi.Msg) (x1 x2 x3 : Value) (w : World) (hv : MsgV w x1 x2 x3 m) (hm : Wi.may m = true) :
    Calls Tryd.prog 44 #[.agg #[.int .i64 m.kind, x1, x2, x3]] w fun e w' => ∃ v, e = .returned v ∧ w'.ownsRow w.heap.size 5 1 v (Wi.bytes m).length (B (Wi.bytes m)) ∧ Below w.heap.size w w' := by
  have C1 : Hid (∀ W, Below w.heap.size w W → Calls Tryd.prog 42 #[.agg #[.int .i64 m.kind, x1, x2, x3]] W fun e w' => e = .returned (.bool true) ∧ Below W.heap.size W w') := Lib.hid (fun W hb => by
    have := rmay_msg m x1 x2 x3 W (hv.below hb)
    rw [hm] at this
    exact this)
  have HV := Lib.hid hv
  obtain ⟨m1, m2, m3, m4, m5⟩ := Wi.may_iff.1 hm
  have hkb := (Wi.numsOf_bd m.kind).2
  obtain ⟨kn, hkn⟩ : ∃ kn : Nat, m.kind = (kn : Int) := ⟨m.kind.toNat, by omega⟩
  have hk18 : kn ≤ 18 := by omega
  have C2 := Lib.hid (rput_row kn)
  have C4 : Hid (∀ W, Below w.heap.size w W → Calls Tryd.prog 62 #[x3] W fun e w' => ∃ A c, e = .returned (.tuple #[.slice A (Fr.put m.body).length c, .int .i64 0]) ∧ Bts w' A (Fr.put m.body).length (Fr.put m.body) ∧ (A = none → (Fr.put m.body).length = 0 ∧ c = 0) ∧ Below W.heap.size W w') := Lib.hid (fun W hb => rframe_row x3 m.body W (hv.2.2.1.below hb) m3)
  have M4 := Lib.hid m4; have M5 := Lib.hid m5
  have HBY : Hid (Wi.bytes m = ((Uv.enc kn ++ Uv.flat m.nums) ++ Uv.enc m.addrs.length ++ Wi.aflat m.addrs) ++ Fr.put m.body) := Lib.hid (by unfold Wi.bytes; rw [hkn, Int.toNat_natCast]; simp [List.append_assoc])
  obtain ⟨⟨A1, c1, rfl, n1, n2, n3, n4, n5⟩, ⟨A2, c2, rfl, a1, a2, a3, a4, a5⟩, hx3, k0, k1⟩ := hv
  have N5 := Lib.hid n5; have A5 := Lib.hid a5; have A4 := Lib.hid a4; have N4 := Lib.hid n4
  have hnl6 : m.nums.length ≤ 6 := by omega
  have he9 : ∀ v, (Uv.enc v).length ≤ 9 := fun v => by
    by_cases h : v < 9223372036854775808
    · rw [Uv.enc_length v h]; exact Uv.len_small v h
    · rw [Uv.enc_big v h]; simp
  have HE9 := Lib.hid he9
  unfold maxLen at n2 a2
  rw [hkn] at C1 ⊢
  clear hm n3 n4 n5 a3 a4 a5 hx3 m1 m4 m5 hkb hkn k0 k1 he9
  go_enter Tryd.func44, Tryd.ntmps44
  go_wp2_with fail
  have HX0 := Lib.hid (Mx.new w (kn : Int) (.slice A1 m.nums.length c1) (.slice A2 m.addrs.length c2) x3)
  have HB0 : Hid (Below w.heap.size w (w.alloc (.cells #[.int .i64 (kn : Int), .slice A1 m.nums.length c1, .slice A2 m.addrs.length c2, x3] 46))) := Lib.hid ((Below.refl _ _).alloc (Nat.le_refl _) _)
  generalize hW0 : w.alloc (.cells #[.int .i64 (kn : Int), .slice A1 m.nums.length c1, .slice A2 m.addrs.length c2, x3] 46) = W0 at *
  clear hW0
  refine (C1.out _ HB0.out).mono ?_
  rintro e w1 ⟨rfl, hb1⟩
  have HB1 := Lib.hid (HB0.out.trans (hb1.mono HB0.out.size))
  have HX1 := Lib.hid (HX0.out.call hb1)
  clear hb1 HX0 HB0 C1
  obtain ⟨y0, y1, y2, y3⟩ := HX1.out
  have HS1 := HB1.out.size
  go_wp2_with (go_at_call 60; refine (C2.out _).mono ?_; rintro e w2 ⟨A3, c3, rfl, ho2, _, _, hb2⟩; have HO2 := Lib.hid ho2; have HB2 := Lib.hid hb2; obtain ⟨z0, z1, z2, z3⟩ := HX1.out.call hb2; clear ho2 hb2)
  clear y0 y1 y2 y3 z0 z2 z3
  go_loopw [4, 3] (fun i v wr => ∃ k : Nat, k ≤ m.nums.length ∧ i = .int .i64 (k : Int) ∧ RelB w1 (Uv.enc kn ++ Uv.flat (m.nums.take k)) v wr) (fun i _ _ => m.nums.length - (intOf i).toNat)
  case atStart => exact ⟨0, Nat.zero_le _, rfl, by simpa [Uv.flat] using HO2.out, HB2.out⟩
  case round =>
    clear HO2 HB2 z1
    obtain ⟨k, hk, rfl, ho, hb⟩ := hrel
    have HO := Lib.hid ho; have HB := Lib.hid hb; clear ho hb
    have HE := HE9.out kn
    obtain ⟨x0, x1, x2, x3⟩ := HX1.out.call HB.out
    clear x0 x3
    by_cases hlt : k < m.nums.length
    · obtain ⟨b, off, rfl, hc⟩ := N5.out (by omega)
      have hcell := ((HB1.out.trans (HB.out.mono HS1)).cell (p := ⟨b, off + k, none⟩) (lt_of_cell (hc k hlt))).trans (hc k hlt)
      have hvb := N4.out (m.nums.getD k 0) (by simp [List.getD, hlt])
      have HF := Lib.hid (flat_take_succ m.nums k hlt)
      have hv9 := HE9.out (m.nums.getD k 0)
      have hfl := flat_le (m.nums.take k)
      have hkl : (m.nums.take k).length ≤ 6 := by simp; omega
      have hjl : (Uv.enc kn ++ Uv.flat (m.nums.take k)).length ≤ 63 := by rw [List.length_append]; omega
      have HJ : Hid (Uv.enc kn ++ Uv.flat (m.nums.take (k + 1)) = (Uv.enc kn ++ Uv.flat (m.nums.take k)) ++ Uv.enc (m.nums.getD k 0)) := Lib.hid (by rw [HF.out, List.append_assoc])
      clear hc HF hfl hkl
      have CP := Lib.hid (rput_row (m.nums.getD k 0))
      generalize m.nums.getD k 0 = v at *
      generalize Uv.enc kn ++ Uv.flat (m.nums.take k) = js at *
      go_wp2_with (first
        | (go_at_call 60; refine (CP.out _).mono ?_; rintro e w3 ⟨A9, c9, rfl, _, hbt, hn, hb3⟩; have HBT := Lib.hid hbt; have HN := Lib.hid hn; have HB3 := Lib.hid hb3; clear hbt hn hb3)
        | (at_builtin; refine wpList_append_bts rfl (.tmp 22) (.tmp 28) rfl w1.heap.size _ js.length js rfl (own_below' HO.out HB3.out) A9 (Uv.enc v).length c9 (Uv.enc v) rfl HBT.out HN.out (by omega) (by have := HB.out.size; have := HB3.out.size; omega) ?_; intro v5 w5 ho5 hg5; have HO5 := Lib.hid ho5; have HG5 := Lib.hid (own_grown_below (own_below' HO.out HB3.out) (HB.out.trans (HB3.out.mono HB.out.size)) (Nat.le_refl _) hg5); clear ho5 hg5))
      go_roundw
      case rel => exact ⟨k + 1, by omega, by go_num, by unfold RelB; rw [HJ.out, List.length_append]; exact ⟨HO5.out, HG5.out⟩⟩
      case measure => simp [intOf]; omega
    · obtain rfl : k = m.nums.length := by omega
      have hft : m.nums.take m.nums.length = m.nums := List.take_length
      rw [hft] at HO
      have hfl := flat_le m.nums
      have hjl : (Uv.enc kn ++ Uv.flat m.nums).length ≤ 63 := by rw [List.length_append]; omega
      have HE2 : (Uv.enc m.addrs.length).length = 1 := by rw [Uv.enc_one _ (by omega)]; rfl
      have HE1 := Lib.hid (Uv.enc_one m.addrs.length (by omega))
      clear hft hfl hlt hk
      generalize Uv.enc kn ++ Uv.flat m.nums = js at *
      go_wp2_with (first
        | (at_builtin; refine wpList_append_bts rfl (.tmp 30) (.tmp 35) rfl w1.heap.size _ js.length js rfl (HO.out.alloc _) _ 1 1 [(m.addrs.length : Int)] rfl (lit1 _ _ (by omega)) (by intro hh; cases hh) (by omega) (by have := HB.out.size; simp; omega) ?_; intro v5 w5 ho5 hg5; have HO5 : Hid (w5.ownsRow w1.heap.size 5 1 v5 (js ++ Uv.enc m.addrs.length).length (B (js ++ Uv.enc m.addrs.length))) := Lib.hid (by rw [HE1.out, List.length_append]; exact ho5); have HG5 := Lib.hid (own_grown_below (HO.out.alloc _) (HB.out.alloc HB.out.size _) (Nat.le_refl _) hg5); clear ho5 hg5; clear x1 x2; obtain ⟨u0, u1, u2, u3⟩ := HX1.out.call HG5.out; clear u0 u1 u3))
      have hjl2 : (js ++ Uv.enc m.addrs.length).length ≤ 72 := by rw [List.length_append]; omega
      clear HE2 hjl
      generalize js ++ Uv.enc m.addrs.length = ks at *
      go_loopw [5, 3] (fun i v wr => ∃ j : Nat, j ≤ m.addrs.length ∧ i = .int .i64 (j : Int) ∧ RelB w1 (ks ++ Wi.aflat (m.addrs.take j)) v wr) (fun i _ _ => m.addrs.length - (intOf i).toNat)
      case atStart => exact ⟨0, Nat.zero_le _, rfl, by simpa [Wi.aflat] using HO5.out, HG5.out⟩
      case round =>
        clear HO5 HG5 HO HB
        obtain ⟨j, hj, rfl, ho, hb⟩ := hrel
        have HO := Lib.hid ho; have HB := Lib.hid hb; clear ho hb
        clear u2
        obtain ⟨x0, x1, x2, x3⟩ := HX1.out.call HB.out
        clear x0 x1
        by_cases hlt : j < m.addrs.length
        · obtain ⟨b, off, rfl, hc⟩ := A5.out (by omega)
          have hcell0 := ((HB1.out.trans (HB.out.mono HS1)).cell (p := ⟨b, off + j * 2, none⟩) (lt_of_cell (hc j hlt).1)).trans (hc j hlt).1
          have hcell1 := ((HB1.out.trans (HB.out.mono HS1)).cell (p := ⟨b, off + j * 2 + 1, none⟩) (lt_of_cell (hc j hlt).2)).trans (hc j hlt).2
          have hab := A4.out (m.addrs.getD j (0, 0)) (by simp [List.getD, hlt])
          have hma := M5.out (m.addrs.getD j (0, 0)) (by simp [List.getD, hlt])
          have HF := Lib.hid (aflat_take_succ m.addrs j hlt)
          have hjl : (ks ++ Wi.aflat (m.addrs.take j)).length ≤ 200 := by rw [List.length_append, Wi.aflat_len]; simp; omega
          have HJ : Hid (ks ++ Wi.aflat (m.addrs.take (j + 1)) = (ks ++ Wi.aflat (m.addrs.take j)) ++ bytesA (m.addrs.getD j (0, 0)).1 (m.addrs.getD j (0, 0)).2) := Lib.hid (by rw [HF.out, List.append_assoc])
          clear hc HF
          generalize ks ++ Wi.aflat (m.addrs.take j) = js at *
          obtain ⟨⟨h, p⟩, hvv⟩ : ∃ v, m.addrs.getD j (0, 0) = v := ⟨_, rfl⟩
          rw [hvv] at hcell0 hcell1 hab hma HJ
          have CA := Lib.hid (fun W => raddr_row h p W hab.1 hab.2 hma)
          have hl6 : (bytesA h p).length = 6 := by simp [bytesA]
          have HJ2 : Hid ((js ++ bytesA h p).length = js.length + 6) := Lib.hid (by rw [List.length_append, hl6])
          clear hvv hab hma hl6
          go_wp2_with (first
            | (go_at_call 61; refine (CA.out _).mono ?_; rintro e w3 ⟨g, rfl, hbt, hb3⟩; have HBT := Lib.hid hbt; have HB3 := Lib.hid hb3; clear hbt hb3)
            | (at_builtin; refine wpList_append_bts rfl (.tmp 44) (.tmp 50) rfl w1.heap.size _ js.length js rfl (own_below' HO.out HB3.out) (some ⟨g, 0, none⟩) 6 6 (bytesA h p) rfl HBT.out (by intro hh; cases hh) (by omega) (by have := HB.out.size; have := HB3.out.size; omega) ?_; intro v5 w5 ho5 hg5; have HO5 := Lib.hid ho5; have HG5 := Lib.hid (own_grown_below (own_below' HO.out HB3.out) (HB.out.trans (HB3.out.mono HB.out.size)) (Nat.le_refl _) hg5); clear ho5 hg5))
          go_roundw
          case rel => exact ⟨j + 1, by omega, by go_num, by unfold RelB; rw [HJ.out, HJ2.out]; exact ⟨HO5.out, HG5.out⟩⟩
          case measure => simp [intOf]; omega
        · obtain rfl : j = m.addrs.length := by omega
          have hft : m.addrs.take m.addrs.length = m.addrs := List.take_length
          rw [hft] at HO
          have hjl : (ks ++ Wi.aflat m.addrs).length ≤ 200 := by rw [List.length_append, Wi.aflat_len]; omega
          have HPL := (Fr.put_le m.body (by omega)).1
          clear hft hlt hj
          generalize ks ++ Wi.aflat m.addrs = js at *
          have C5 := Lib.hid (C4.out wr (HB1.out.trans (HB.out.mono HS1)))
          have HL : Hid ((Wi.bytes m).length = js.length + (Fr.put m.body).length) := Lib.hid (by rw [HBY.out, List.length_append])
          generalize Fr.put m.body = ps at *
          go_wp2_with (first
            | (go_at_call 62; refine C5.out.mono ?_; rintro e w3 ⟨A9, c9, rfl, hbt, hn, hb3⟩; have HBT := Lib.hid hbt; have HN := Lib.hid hn; have HB3 := Lib.hid hb3; clear hbt hn hb3)
            | (at_builtin; refine wpList_append_bts rfl (.tmp 58) (.tmp 59) rfl w1.heap.size _ js.length js rfl (own_below' HO.out HB3.out) A9 ps.length c9 ps rfl HBT.out HN.out (by omega) (by have := HB.out.size; have := HB3.out.size; omega) ?_; intro v6 w6 ho6 hg6; have HO6 := Lib.hid ho6; have HG6 := Lib.hid (own_grown_below (own_below' HO.out HB3.out) (HB.out.trans (HB3.out.mono HB.out.size)) (Nat.le_refl _) hg6); clear ho6 hg6))
          go_ret
          refine ⟨_, rfl, ?_, HB1.out.trans (HG6.out.mono HS1)⟩
          rw [HL.out, HBY.out]
          exact Go.Joins.ownsRow_le HO6.out HS1
end Go.Proofs.YtdiilgedicfekaaDoor
