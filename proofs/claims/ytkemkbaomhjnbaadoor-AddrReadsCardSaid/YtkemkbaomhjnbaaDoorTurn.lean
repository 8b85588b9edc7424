/-
  Addresses compared; their bytes compared; one byte turned. Conditions: as each states.
-/
import Derived.Test.YtkemkbaomhjnbaaDoorAdrIn
import Derived.Test.YtkemkbaomhjnbaaDoorSame
import Derived.Laws.BitsAllLaws
namespace Go.Proofs.YtkemkbaomhjnbaaDoor
open Go.RowKit
set_option linter.unusedVariables false

theorem noGuard24 : Tryd.prog.eqGuardType Tryd.prog.depth 24 = false := by kernel_rfl
theorem eql_adr (h p h' p' : Int) (b : Bool) (hb : decide (h = h' ∧ p = p') = b) (W : World) : (binOp .eql 24 (.agg #[.int .u32 h, .int .i64 p]) (.agg #[.int .u32 h', .int .i64 p'])).run Tryd.prog W = .ok (.bool b) W := by
  subst hb
  have hm := noGuard24
  by_cases h1 : h = h' <;> by_cases h2 : p = p' <;> go_simp <;> simp [h1, h2]
theorem neq_adr (h p h' p' : Int) (b : Bool) (hb : decide (h = h' ∧ p = p') = b) (W : World) : (binOp .neq 24 (.agg #[.int .u32 h, .int .i64 p]) (.agg #[.int .u32 h', .int .i64 p'])).run Tryd.prog W = .ok (.bool (!b)) W := by
  subst hb
  have hm := noGuard24
  by_cases h1 : h = h' <;> by_cases h2 : p = p' <;> go_simp <;> simp [h1, h2]

theorem bytesA_bd {h p : Int} (h0 : 0 ≤ h) (h1 : h < 4294967296) (hm : mayA h p = true) : ∀ z ∈ bytesA h p, 0 ≤ z ∧ z ≤ 255 := by
  have hp : h ≠ 0 ∧ 1 ≤ p ∧ p ≤ 65535 := by simpa [mayA, and_assoc] using hm
  intro z hz
  simp [bytesA] at hz
  omega
/-- a row of six bytes, in a block of its own -/
theorem bts_block {w : World} {g : Nat} {zs : List Int} (hg : w.heap[g]? = some (.cells (zs.map (Value.int .u8)).toArray 5 (0, 0))) (hb : ∀ z ∈ zs, 0 ≤ z ∧ z ≤ 255) : Bts w (some ⟨g, 0, none⟩) zs.length zs := by
  refine ⟨rfl, hb, fun _ => ⟨g, 0, rfl, (Array.getElem?_eq_some_iff.1 hg).1, fun j hj => ?_⟩⟩
  rw [Nat.zero_add, (cells_of hg j).1]
  simp [List.getElem?_eq_getElem hj, List.getD]
theorem bytesA_length (h p : Int) : (bytesA h p).length = 6 := rfl
/-- the address of six bytes has those bytes -/
theorem up_bytes {zs : List Int} (hl : zs.length = 6) (hb : ∀ z ∈ zs, 0 ≤ z ∧ z ≤ 255) : bytesA (hostUp zs 4) (portUp zs 2) = zs := by
  match zs, hl with
  | [a, b, c, d, e, f], _ =>
    have ha := hb a (by simp); have hb1 := hb b (by simp); have hc := hb c (by simp); have hd := hb d (by simp); have he := hb e (by simp); have hf := hb f (by simp)
    rw [hostUp4 (fun j => getD_bd hb j), portUp2]
    simp [bytesA]
    omega
theorem up_of {h p : Int} (h0 : 0 ≤ h) (h1 : h < 4294967296) (hm : mayA h p = true) : hostUp (bytesA h p) 4 = h ∧ portUp (bytesA h p) 2 = p := by
  have hp : h ≠ 0 ∧ 1 ≤ p ∧ p ≤ 65535 := by simpa [mayA, and_assoc] using hm
  rw [hostUp4 (fun j => getD_bd (bytesA_bd h0 h1 hm) j), portUp2]
  simp [bytesA]
  omega
theorem up_inj {h p h' p' : Int} (h0 : 0 ≤ h) (h1 : h < 4294967296) (hm : mayA h p = true) (h2 : 0 ≤ h') (h3 : h' < 4294967296) (hn : mayA h' p' = true) : (bytesA h p = bytesA h' p') ↔ (h = h' ∧ p = p') := by
  constructor
  · intro e
    have a := up_of h0 h1 hm
    have b := up_of h2 h3 hn
    rw [e] at a
    exact ⟨a.1.symm.trans b.1, a.2.symm.trans b.2⟩
  · rintro ⟨rfl, rfl⟩; rfl
/-- a byte turned -/
def turned (z t : Int) : Int := bits .xor .u8 z t
theorem turned_bd {z t : Int} (hz : 0 ≤ z ∧ z ≤ 255) (ht : 0 ≤ t ∧ t ≤ 255) : 0 ≤ turned z t ∧ turned z t ≤ 255 := by
  unfold turned
  rw [u8_xor z t (by omega) (by omega) (by omega) (by omega)]
  have := Nat.xor_lt_two_pow (show z.toNat < 2 ^ 8 by omega) (show t.toNat < 2 ^ 8 by omega)
  omega
theorem turned_eq {z t : Int} (hz : 0 ≤ z ∧ z ≤ 255) (ht : 0 ≤ t ∧ t ≤ 255) : turned z t = z ↔ t = 0 := by
  unfold turned
  rw [u8_xor z t (by omega) (by omega) (by omega) (by omega)]
  constructor
  · intro h
    have h2 : z.toNat ^^^ t.toNat = z.toNat := by omega
    have h3 : z.toNat ^^^ (z.toNat ^^^ t.toNat) = z.toNat ^^^ z.toNat := by rw [h2]
    rw [← Nat.xor_assoc, Nat.xor_self, Nat.zero_xor] at h3
    omega
  · intro h
    subst h
    simp
    omega
def turnRow (zs : List Int) (m : Nat) (t : Int) : List Int := zs.set m (turned (zs.getD m 0) t)
theorem turnRow_bd {zs : List Int} {m : Nat} {t : Int} (hb : ∀ z ∈ zs, 0 ≤ z ∧ z ≤ 255) (ht : 0 ≤ t ∧ t ≤ 255) : ∀ z ∈ turnRow zs m t, 0 ≤ z ∧ z ≤ 255 := fun z hz => by
  rcases List.mem_or_eq_of_mem_set hz with h | rfl
  · exact hb z h
  · exact turned_bd (getD_bd hb m) ht
theorem turnRow_eq {zs : List Int} {m : Nat} {t : Int} (hm : m < zs.length) (hb : ∀ z ∈ zs, 0 ≤ z ∧ z ≤ 255) (ht : 0 ≤ t ∧ t ≤ 255) : turnRow zs m t = zs ↔ t = 0 := by
  unfold turnRow
  rw [← turned_eq (getD_bd hb m) ht]
  constructor
  · intro h
    have := congrArg (fun l => l.getD m 0) h
    simpa [List.getD, hm] using this
  · intro h
    rw [h]
    simp [List.getD, hm]
theorem from_turned (w : World) (g m : Nat) (zs : List Int) (t : Int) (hl : zs.length = 6) (hb : ∀ z ∈ zs, 0 ≤ z ∧ z ≤ 255) (ht : 0 ≤ t ∧ t ≤ 255) (hm : m < 6) (hg : w.heap[g]? = some (.cells (zs.map (Value.int .u8)).toArray 5 (0, 0))) :
    Calls Tryd.prog 11 #[.slice (some ⟨g, 0, none⟩) 6 6] (w.setCell ⟨g, m, none⟩ (.int .u8 (turned (zs.getD m 0) t))) fun e w' => e = .returned (gaveOr (hostUp (turnRow zs m t) 4) (portUp (turnRow zs m t) 2)) ∧ Below w.heap.size (w.setCell ⟨g, m, none⟩ (.int .u8 (turned (zs.getD m 0) t))) w' := by
  have hg2 : (w.setCell ⟨g, m, none⟩ (.int .u8 (turned (zs.getD m 0) t))).heap[g]? = some (.cells ((turnRow zs m t).map (Value.int .u8)).toArray 5 (0, 0)) := by
    have := Joins.block_setCell hg (i := m) (.int .u8 (turned (zs.getD m 0) t))
    rw [this]
    simp [turnRow, List.map_set]
  have hl2 : (turnRow zs m t).length = 6 := by simp [turnRow, hl]
  have hs : (w.setCell ⟨g, m, none⟩ (.int .u8 (turned (zs.getD m 0) t))).heap.size = w.heap.size := by simp [World.setCell]
  have hgl := (Array.getElem?_eq_some_iff.1 hg2).1
  refine (from_six g 0 6 (turnRow zs m t) _ (Nat.le_refl _) (by decide) (fun j => getD_bd (turnRow_bd hb ht) j) hgl (fun j hj => ?_)).mono fun e w' h => ⟨h.1, by rw [← hs]; exact h.2⟩
  rw [Nat.zero_add, (cells_of hg2 j).1]
  simp [List.getElem?_eq_getElem (show j < (turnRow zs m t).length by omega), List.getD]

def IsPair (w : World) (v : Value) (s : Int × Int) : Prop := v = .agg #[.int .u8 s.1, .int .u8 s.2] ∧ 0 ≤ s.1 ∧ s.1 ≤ 255 ∧ 0 ≤ s.2 ∧ s.2 ≤ 255
section
variable {H : Type} {enc : TypeId × Value → H} {W : World}
theorem okWide_arr {P : Program} {t e : TypeId} {n : Nat} {w : World} {r : Reach} {b : Nat} {v : Value} (ht : P.underlying t = some (.array n e)) (h : Value.okWide P w r b t v) : ∃ cs, v = .agg cs ∧ cs.size = P.cellsOf t := by
  simp only [Value.okWide, ht] at h
  obtain ⟨cs, h1, h2, _⟩ := h
  exact ⟨cs, h1, h2⟩
set_option maxRecDepth 100000 in
theorem open_pair {r : Reach} {b0 : Nat} {v : Value} {d : DataW H} {p : List MemPlace} (hv : Value.okWide Tryd.prog W r b0 46 v) (h : DataW.Trod enc Tryd.prog W 0 (fun _ => true) true 46 v d p) : ∃ s, IsPair W v s := by
  obtain ⟨cs, rfl, hsz⟩ := okWide_arr Tryd.underlying46 hv
  obtain ⟨c0, c1, rfl⟩ := Joins.array2 (hsz.trans (by kernel_rfl))
  obtain ⟨fuel, hf⟩ := h
  obtain ⟨xs, m, rfl, _, _, hx, hel⟩ := DataW.trod_array Tryd.underlying46 hf
  have c5 : Tryd.prog.cellsOf 5 = 1 := by kernel_rfl
  have e0 := hel 0 (by omega)
  have e1 := hel 1 (by omega)
  match xs, hx with
  | [x0, x1], _ =>
    rw [c5] at e0 e1
    simp only [Value.cells, Nat.zero_mul, List.drop_zero, List.take_succ_cons, List.take_zero, Nat.one_mul, List.drop_succ_cons, List.getElem?_cons_zero, List.getElem?_cons_succ] at e0 e1
    obtain ⟨a, q0, _, ha⟩ := DataW.trod_int Tryd.underlying5 e0
    obtain ⟨b, q1, _, hb⟩ := DataW.trod_int Tryd.underlying5 e1
    simp only [List.cons.injEq, and_true] at q0 q1
    subst q0; subst q1
    have ha' := wf_u8 ha
    have hb' := wf_u8 hb
    exact ⟨(a, b), rfl, ha'.1, ha'.2, hb'.1, hb'.2⟩
end
end Go.Proofs.YtkemkbaomhjnbaaDoor
