/-
  Messages as values: their numbers, addresses and bodies in memory, and messages that came in. Conditions: as each states.
-/
import Derived.Test.YtebgfiibcmnfnaaDoorWi
import Derived.Test.YtebgfiibcmnfnaaDoorRefGet
import Derived.Test.YtebgfiibcmnfnaaDoorFrom
import Derived.Lib.SmallJoins
import Derived.Deep.Slices
import Derived.ProofKit
import Derived.OpenShut
namespace Go.Proofs.YtebgfiibcmnfnaaDoor
open Go.RowKit
set_option linter.unusedVariables false

/-- the value reads, in w, as these numbers -/
def Ns (w : World) (v : Value) (vs : List Nat) : Prop := ∃ A c, v = .slice A vs.length c ∧ vs.length ≤ c ∧ c ≤ maxLen ∧ (A = none → vs.length = 0 ∧ c = 0) ∧ (∀ x ∈ vs, x < 18446744073709551616) ∧
  (0 < vs.length → ∃ b off, A = some ⟨b, off, none⟩ ∧ ∀ j, j < vs.length → w.cell? ⟨b, off + j, none⟩ = some (.int .u64 ((vs.getD j 0 : Nat) : Int)))
/-- .. as these addresses -/
def As (w : World) (v : Value) (al : List (Int × Int)) : Prop := ∃ A c, v = .slice A al.length c ∧ al.length ≤ c ∧ c ≤ maxLen ∧ (A = none → al.length = 0 ∧ c = 0) ∧ (∀ a ∈ al, 0 ≤ a.1 ∧ a.1 < 4294967296) ∧
  (0 < al.length → ∃ b off, A = some ⟨b, off, none⟩ ∧ ∀ j, j < al.length → w.cell? ⟨b, off + j * 2, none⟩ = some (.int .u32 (al.getD j (0, 0)).1) ∧ w.cell? ⟨b, off + j * 2 + 1, none⟩ = some (.int .i64 (al.getD j (0, 0)).2))
/-- .. as these bytes -/
def Tx (w : World) (v : Value) (zs : List Int) : Prop := ∃ A c, v = .slice A zs.length c ∧ Bts w A zs.length zs ∧ zs.length ≤ c ∧ c ≤ maxLen ∧ (A = none → zs.length = 0 ∧ c = 0)
theorem Ns.below {w w' : World} {v : Value} {vs : List Nat} (h : Ns w v vs) (hb : Below w.heap.size w w') : Ns w' v vs := by
  obtain ⟨A, c, rfl, h1, h2, h3, h4, h5⟩ := h
  refine ⟨A, c, rfl, h1, h2, h3, h4, fun hp => ?_⟩
  obtain ⟨b, off, e, hc⟩ := h5 hp
  exact ⟨b, off, e, fun j hj => (hb.cell (lt_of_cell (hc j hj))).trans (hc j hj)⟩
theorem As.below {w w' : World} {v : Value} {al : List (Int × Int)} (h : As w v al) (hb : Below w.heap.size w w') : As w' v al := by
  obtain ⟨A, c, rfl, h1, h2, h3, h4, h5⟩ := h
  refine ⟨A, c, rfl, h1, h2, h3, h4, fun hp => ?_⟩
  obtain ⟨b, off, e, hc⟩ := h5 hp
  exact ⟨b, off, e, fun j hj => ⟨(hb.cell (lt_of_cell (hc j hj).1)).trans (hc j hj).1, (hb.cell (lt_of_cell (hc j hj).2)).trans (hc j hj).2⟩⟩
theorem Tx.below {w w' : World} {v : Value} {zs : List Int} (h : Tx w v zs) (hb : Below w.heap.size w w') : Tx w' v zs := by
  obtain ⟨A, c, rfl, h1, h2⟩ := h
  exact ⟨A, c, rfl, h1.below hb, h2⟩
/-- a message's four values -/
def MsgV (w : World) (x1 x2 x3 : Value) (m : Wi.Msg) : Prop := Ns w x1 m.nums ∧ As w x2 m.addrs ∧ Tx w x3 m.body ∧ -9223372036854775808 ≤ m.kind ∧ m.kind ≤ 9223372036854775807
theorem MsgV.below {w w' : World} {x1 x2 x3 : Value} {m : Wi.Msg} (h : MsgV w x1 x2 x3 m) (hb : Below w.heap.size w w') : MsgV w' x1 x2 x3 m := ⟨h.1.below hb, h.2.1.below hb, h.2.2.1.below hb, h.2.2.2⟩
def IsMsg (w : World) (x : Value) (m : Wi.Msg) : Prop := ∃ x1 x2 x3, x = .agg #[.int .i64 m.kind, x1, x2, x3] ∧ MsgV w x1 x2 x3 m
theorem MsgV.wf {w : World} {x1 x2 x3 : Value} {m : Wi.Msg} (h : MsgV w x1 x2 x3 m) : Wi.Wf m := by
  obtain ⟨⟨_, _, _, _, _, _, h1, _⟩, ⟨_, _, _, _, _, _, h2, _⟩, ⟨_, _, _, h3, _⟩, _⟩ := h
  exact ⟨h2, h1, h3.bd⟩

theorem add_spot (b o k : Nat) : (⟨b, o, none⟩ : Addr).add k = ⟨b, o + k, none⟩ := by unfold Addr.add; split <;> simp_all
section
variable {H : Type} {enc : TypeId × Value → H} {W : World}
theorem open_tx {n : Nat} {v : Value} {y : DataW H × List MemPlace} (h : DataW.trod enc Tryd.prog W 0 (fun _ => true) true n 24 [v] = some y) : ∃ zs, Tx W v zs := by
  rcases Go.ChangeShapes.open_ints Tryd.underlying24 Tryd.underlying5 (by kernel_rfl) h with ⟨hcs, _⟩ | ⟨x, l, c, zs, hcs, _, hl, hm, hz, _, hcell, hwz⟩
  · simp at hcs
    subst hcs
    exact ⟨[], none, 0, rfl, ⟨rfl, by simp, fun h => by simp at h⟩, Nat.le_refl _, Nat.zero_le _, fun _ => ⟨rfl, rfl⟩⟩
  · simp at hcs
    subst hcs
    have hr : IsRow .u8 W (some x) l c zs := .inr ⟨_, rfl, hl, hm, by simpa using hz, hcell, hwz⟩
    obtain ⟨h1, h2, h3⟩ := bts_of_row hr
    have e : (zs.take l).length = l := h1.len
    exact ⟨zs.take l, some x, c, by rw [e], by rw [e]; exact h1, by rw [e]; exact h2, h3, (by intro h; cases h)⟩
theorem open_ns {n : Nat} {v : Value} {y : DataW H × List MemPlace} (h : DataW.trod enc Tryd.prog W 0 (fun _ => true) true n 22 [v] = some y) : ∃ vs, Ns W v vs := by
  rcases Go.ChangeShapes.open_ints Tryd.underlying22 Tryd.underlying39 (by kernel_rfl) h with ⟨hcs, _⟩ | ⟨x, l, c, zs, hcs, _, hl, hm, hz, _, hcell, hwz⟩
  · simp at hcs
    subst hcs
    exact ⟨[], none, 0, rfl, Nat.le_refl _, Nat.zero_le _, fun _ => ⟨rfl, rfl⟩, by simp, fun h => by simp at h⟩
  · simp at hcs
    subst hcs
    have hzl : zs.length = c := by simpa using hz
    have bd : ∀ z ∈ zs, 0 ≤ z ∧ z ≤ 18446744073709551615 := fun z hz => bounds_u64 (hwz z hz)
    have e : ((zs.take l).map Int.toNat).length = l := by simp; omega
    refine ⟨(zs.take l).map Int.toNat, some x, c, by rw [e], by rw [e]; exact hl, hm, (by intro h; cases h), ?_, fun hp => ?_⟩
    · intro z hz
      obtain ⟨y, hy, rfl⟩ := List.mem_map.1 hz
      have := bd y (List.mem_of_mem_take hy)
      omega
    · rw [e] at hp
      obtain ⟨b, off, spot⟩ := x
      have h8 := World.cell?_spot (hcell 0 (by omega))
      have hspot : spot = none := by simpa [Addr.add] using h8
      subst hspot
      refine ⟨b, off, rfl, fun j hj => ?_⟩
      rw [e] at hj
      have hc := hcell j (by omega)
      rw [add_spot] at hc
      rw [hc]
      have hjz : j < zs.length := by omega
      have h0 := bd zs[j] (List.getElem_mem hjz)
      simp [List.getD, hj, hjz]
      omega
set_option maxRecDepth 100000 in
theorem open_as {n : Nat} {v : Value} {y : DataW H × List MemPlace} (h : DataW.trod enc Tryd.prog W 0 (fun _ => true) true n 23 [v] = some y) : ∃ al, As W v al := by
  rcases Deep.open_slice Tryd.underlying23 h with ⟨hcs, _⟩ | ⟨a, l, c, m, n, D, Pl, hcs, _, hl, hm, hmm, _, hi⟩
  · simp at hcs
    subst hcs
    exact ⟨[], none, 0, rfl, Nat.le_refl _, Nat.zero_le _, fun _ => ⟨rfl, rfl⟩, by simp, fun h => by simp at h⟩
  · simp at hcs
    subst hcs
    have hmc : m = c := by simpa using hmm
    subst hmc
    have hall : ∀ j, ∃ s : Int × Int, j < l → (W.cell? ((a.add (j * 2)).add 0) = some (.int .u32 s.1) ∧ W.cell? ((a.add (j * 2)).add 1) = some (.int .i64 s.2) ∧ 0 ≤ s.1 ∧ s.1 < 4294967296) := fun j => by
      by_cases hj : j < l
      · obtain ⟨cs, hc, ht⟩ := hi j (by omega)
        obtain ⟨_, hlen, hat⟩ := World.cells?_some hc
        have h2 : Tryd.prog.cellsOf 45 = 2 := by kernel_rfl
        rw [h2] at hlen hat
        have c43 : Tryd.prog.cellsOf 43 = 1 := by kernel_rfl
        have c3 : Tryd.prog.cellsOf 3 = 1 := by kernel_rfl
        match cs, hlen with
        | [x0, x1], _ =>
          obtain ⟨ys, k, _, _, _, hlen2, hel2⟩ := DataW.trod_struct Tryd.underlying45 ht
          match ys, hlen2 with
          | [z0, z1], _ =>
            have f0 : DataW.trod enc Tryd.prog W 0 (fun _ => true) true k 43 (([x0, x1].drop 0).take (Tryd.prog.cellsOf 43)) = some z0 := hel2 0 _ rfl
            have f1 : DataW.trod enc Tryd.prog W 0 (fun _ => true) true k 3 (([x0, x1].drop 1).take (Tryd.prog.cellsOf 3)) = some z1 := hel2 1 _ rfl
            rw [c43] at f0; rw [c3] at f1
            obtain ⟨u, q0, _, hu⟩ := DataW.trod_int Tryd.underlying43 f0
            obtain ⟨b, q1, _, hb⟩ := DataW.trod_int Tryd.underlying3 f1
            have r0 : x0 = .int .u32 u := by simpa using q0
            have r1 : x1 = .int .i64 b := by simpa using q1
            have a0 := hat 0 (by omega)
            have a1 := hat 1 (by omega)
            have hu' := bounds_u32 hu
            refine ⟨(u, b), fun _ => ⟨?_, ?_, hu'.1, by show u < _; omega⟩⟩
            · rw [a0, ← r0]; rfl
            · rw [a1, ← r1]; rfl
      · exact ⟨(0, 0), fun h => absurd h hj⟩
    obtain ⟨f, hf⟩ := Classical.axiomOfChoice hall
    have e : ((List.range l).map f).length = l := by simp
    refine ⟨(List.range l).map f, some a, m, by rw [e], by rw [e]; simpa using hl, hm, (by intro h; cases h), ?_, fun hp => ?_⟩
    · intro x hx
      obtain ⟨j, hj, rfl⟩ := List.mem_map.1 hx
      exact (hf j (List.mem_range.1 hj)).2.2
    · rw [e] at hp
      obtain ⟨b, off, spot⟩ := a
      have h8 := World.cell?_spot (hf 0 hp).1
      have hspot : spot = none := by simpa [Addr.add] using h8
      subst hspot
      refine ⟨b, off, rfl, fun j hj => ?_⟩
      rw [e] at hj
      have hg : ((List.range l).map f).getD j (0, 0) = f j := by simp [List.getD, hj]
      have h0 := (hf j hj).1
      have h1 := (hf j hj).2.1
      rw [add_spot, add_spot] at h0 h1
      rw [hg]
      exact ⟨by simpa using h0, h1⟩
theorem open_msg {r : Reach} {b0 : Nat} {v : Value} {d : DataW H} {p : List MemPlace} (hv : Value.okWide Tryd.prog W r b0 26 v) (h : DataW.Trod enc Tryd.prog W 0 (fun _ => true) true 26 v d p) : ∃ m, IsMsg W v m := by
  obtain ⟨x0, x1, x2, x3, y0, y1, y2, y3, n, rfl, _, _, h0, h1, h2, h3⟩ := Joins.open_agg4 Tryd.underlying26 (by kernel_rfl) (by kernel_rfl) hv h
  obtain ⟨k, e0, _, hk⟩ := DataW.trod_int Tryd.underlying3 h0
  obtain ⟨vs, hvs⟩ := open_ns h1
  obtain ⟨al, hal⟩ := open_as h2
  obtain ⟨zs, hzs⟩ := open_tx h3
  simp only [List.cons.injEq, and_true] at e0
  subst e0
  have hk' := bounds_i64 hk
  exact ⟨⟨k, vs, al, zs⟩, x1, x2, x3, rfl, hvs, hal, hzs, hk'⟩
end
end Go.Proofs.YtebgfiibcmnfnaaDoor
