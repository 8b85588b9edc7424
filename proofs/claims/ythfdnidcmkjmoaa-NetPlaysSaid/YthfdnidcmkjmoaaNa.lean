/-
  The laws' awake. Conditions: none.
-/
import Derived.Test.YthfdnidcmkjmoaaNl
import Derived.Laws.IdiomStrings
import Derived.Lib.SlBytesConst
namespace Go.Proofs.Ythfdnidcmkjmoaa
open Go.RowKit
attribute [local go_sem] Oper.semAt_some
set_option linter.unusedVariables false

/-- bytes as a string -/
def str (zs : List Int) : ByteArray := ⟨(zs.map fun z => UInt8.ofNat z.toNat).toArray⟩
theorem conv_str {w : World} {A : Option Addr} {n c : Nat} {zs : List Int} (h : Bts w A n zs) : (convert 34 9 (.slice A n c)).run Try.prog w = .ok (.string (str zs)) w := by
  cases A with
  | none =>
    have hn : n = 0 := by
      rcases Nat.eq_zero_or_pos n with h0 | h0
      · exact h0
      · obtain ⟨b, off, e, _⟩ := h.2.2 h0; cases e
    subst hn
    have hz : zs = [] := List.eq_nil_of_length_eq_zero h.1
    subst hz
    rw [run_convert_bytes_string w 34 9 5 none 0 c Try.underlying34 Try.underlying5 Try.underlying9]
    simp [Conv.bytesToString, str]
    rfl
  | some ad =>
    have hl : (zs.map fun z => UInt8.ofNat z.toNat).length = n := by rw [List.length_map]; exact h.1
    have := run_convert_bytes_back w 34 9 5 ad c (zs.map fun z => UInt8.ofNat z.toNat) Try.underlying34 Try.underlying5 Try.underlying9 (fun j hj => by
      have hj' : j < zs.length := by simpa using hj
      have hc := h.news j (.int .u8 (zs.getD j 0)) (B_at zs j hj')
      rw [hc]
      have hb := h.bd zs[j] (List.getElem_mem hj')
      simp only [List.getElem_map, UInt8.toNat_ofNat', List.getD, List.getElem?_eq_getElem hj', Option.getD_some, Option.some.injEq, Value.int.injEq, true_and]
      omega)
    rw [hl] at this
    exact this
theorem lit2m (W : World) (x y : Int) (h : 0 ≤ x ∧ x ≤ 255) (h2 : 0 ≤ y ∧ y ≤ 255) (a b : Nat) : Bts (W.alloc (.cells #[.int .u8 x, .int .u8 y] 5 (a, b))) (some ⟨W.heap.size, 0, none⟩) 2 [x, y] := by
  refine ⟨rfl, by intro z hz; simp at hz; rcases hz with rfl | rfl <;> assumption, fun _ => ⟨W.heap.size, 0, rfl, by simp, fun j hj => ?_⟩⟩
  obtain rfl | rfl : j = 0 ∨ j = 1 := by omega
  · simp [World.cell?_alloc_mark]
  · simp [World.cell?_alloc_mark]
section
variable {w0 V V' : World} {nb : Nat} {last last' : Int} {M M' : List Dg} {os : List (Nat × Obj)}
/-- a held block of two cells, of six -/
theorem Pn.c2 {k : Nat} {u v : Value} {t : TypeId} (h : Pn w0 nb last M os V) (hp : (k, Obj.cells #[u, v] t (0, 0)) ∈ os) : V.cell? ⟨k, 0, none⟩ = some u ∧ V.cell? ⟨k, 1, none⟩ = some v ∧ k < V.heap.size := ⟨(h.cells hp 0).1, (h.cells hp 1).1, h.lt hp⟩
theorem Pn.c6 {k : Nat} {no : Int} {f t : A2} {v : Value} {ty : TypeId} (h : Pn w0 nb last M os V) (hp : (k, Obj.cells (sentC no f t v) ty (0, 0)) ∈ os) :
    (V.cell? ⟨k, 0, none⟩ = some (.int .i64 no) ∧ V.cell? ⟨k, 1, none⟩ = some (.int .u32 f.1) ∧ V.cell? ⟨k, 2, none⟩ = some (.int .i64 f.2) ∧ V.cell? ⟨k, 3, none⟩ = some (.int .u32 t.1) ∧ V.cell? ⟨k, 4, none⟩ = some (.int .i64 t.2) ∧ V.cell? ⟨k, 5, none⟩ = some v) ∧ k < V.heap.size :=
  ⟨⟨(h.cells hp 0).1, (h.cells hp 1).1, (h.cells hp 2).1, (h.cells hp 3).1, (h.cells hp 4).1, (h.cells hp 5).1⟩, h.lt hp⟩
/-- bytes whose block is held -/
theorem RowB.held {v : Value} {b : List Int} {W : World} (h : RowB V v b) (hk : ∀ g, v.ownBlock = some g → W.heap[g]? = V.heap[g]?) : RowB W v b := ⟨h.1, own_at h.2.1 hk, h.2.2⟩
end
def a11 : A2 := (1, 1)
def d1 : Dg := ⟨1, a11, a11, [104, 105]⟩
def d2 : Dg := ⟨2, a11, a11, [104, 105]⟩
theorem aw1 : sendN [] 0 a11 a11 [104, 105] = ((1, 0), [d1], 1) := by rfl
theorem aw2 : copyN [d1] 1 1 = ((2, 0), [d1, d2], 2) := by rfl
theorem aw3 : takeN [d1, d2] 1 = ((d1, 0), [d2]) := by rfl
theorem aw4 : takeN [d2] 1 = ((default, 5), [d2]) := by rfl
theorem aw5 : atN [d2] (-7) = 2 := by decide
theorem okd1 : OkD [d1] 1 := ⟨by decide, by intro d h; simp at h; subst h; decide, by decide, by decide⟩
theorem okd12 : OkD [d1, d2] 2 := ⟨by decide, by intro d h; simp at h; rcases h with rfl | rfl <;> decide, by decide, by decide⟩
theorem okd2 : OkD [d2] 2 := ⟨by decide, by intro d h; simp at h; subst h; decide, by decide, by decide⟩
theorem a11_is : isA a11 := ⟨⟨by decide, by decide⟩, by decide, by decide⟩
set_option maxRecDepth 100000 in
set_option maxHeartbeats 4000000 in
theorem awake_any (w : World) : Calls Try.prog 7 #[] w fun e w' => e = .returned (.bool true) ∧ Below w.heap.size w w' := by
  have kc := fun (w : World) (C : Array Value) (n c : Nat) => Lib.run_convert_bytes_const (P := Try.prog) w 34 5 C n c Try.underlying34 Try.underlying5
  go_enter Try.func7, Try.ntmps7
  go_wp2_with fail
  refine (new_p (w0 := w) [] (Below.refl _ _) (by simp)).mono ?_
  rintro e V1 ⟨rfl, hp1⟩
  have hp2 := hp1.box (k := V1.heap.size) #[.int .u32 1, .int .i64 1] 33 rfl
  obtain ⟨a0, a1, al⟩ := hp2.c2 (k := V1.heap.size) (u := .int .u32 1) (v := .int .i64 1) (t := 33) (by simp)
  have hb : Bts ((V1.alloc (.cells #[.int .u32 1, .int .i64 1] 33)).alloc (.cells #[.int .u8 104, .int .u8 105] 5 (2, 3))) (some ⟨V1.heap.size + 1, 0, none⟩) 2 [104, 105] := by
    have := lit2m (V1.alloc (.cells #[.int .u32 1, .int .i64 1] 33)) 104 105 (by omega) (by omega) 2 3
    rwa [World.size_alloc] at this
  have hC := send_p (hp2.alloc (.cells #[.int .u8 104, .int .u8 105] 5 (2, 3))) OkD.nil a11 a11 a11_is a11_is _ 2 2 [104, 105] hb (fun e => by cases e) (by omega)
  rw [aw1] at hC
  unfold twoV adr a11 at hC
  dsimp only at hC
  have kc1 := kc (V1.alloc (.cells #[.int .u32 1, .int .i64 1] 33)) #[.int .u8 104, .int .u8 105] 2 2
  rw [World.size_alloc] at kc1
  have kc2 : (#[Value.int .u8 104, Value.int .u8 105] : Array Value).size = 2 := rfl
  rw [kc2] at kc1
  have HC := Lib.hid hC
  clear hp1 hp2 hb hC kc kc2
  go_wp2_with fail
  refine HC.out.mono ?_
  rintro e V3 ⟨rfl, hp3⟩
  have hC := copy_p hp3 okd1 1
  rw [aw2] at hC
  unfold twoV at hC
  dsimp only at hC
  have HC := Lib.hid hC
  clear hp3 hC a0 a1 al
  go_wp2_with fail
  refine HC.out.mono ?_
  rintro e V4 ⟨rfl, hp4⟩
  have hC := take_p hp4 okd12 1
  rw [aw3] at hC
  unfold takeV sentC d1 a11 at hC
  dsimp only at hC
  have HC := Lib.hid hC
  clear hp4 hC
  go_wp2_with fail
  refine HC.out.mono ?_
  rintro e V5 ⟨v, rfl, hp5, hr5, hb5⟩
  obtain ⟨A, c, rfl, hlc, hcm, hbt, hnl⟩ := hr5.parts
  -- the bytes are held
  have hh : ∃ os : List (Nat × Obj), Pn w w.heap.size 2 [d2] os V5 ∧ ∀ W : World, (∀ p ∈ os, W.heap[p.1]? = some p.2) → Bts W A 2 [104, 105] := by
    rcases hr5.2.1.2 with ⟨e1, e2⟩ | ⟨g, cap, cur, e1, e2, e3, e4⟩
    · cases e2
    · refine ⟨_, (hb5 g (by rw [e1]; rfl)).2 _ e3, fun W hW => ?_⟩
      simp only [Value.slice.injEq] at e1
      obtain ⟨rfl, -, rfl⟩ := e1
      have hrow : W.ownsRow 0 5 1 (.slice (some ⟨g, 0, none⟩) 2 c) 2 (B [104, 105]) := ⟨rfl, .inr ⟨g, c, cur, rfl, e2, hW (g, .cells cur 5 (0, 0)) (by simp), e4⟩⟩
      obtain ⟨A', c', e5, -, -, h9⟩ := own_form hrow (by intro z hz; simp at hz; rcases hz with rfl | rfl <;> omega)
      cases e5
      exact h9
  obtain ⟨os, hp6, hBT⟩ := hh
  have hp7 := hp6.box (k := V5.heap.size) (sentC 1 (1, 1) (1, 1) (.slice A 2 c)) 43 rfl
  have hC := take_p hp7 okd2 1
  rw [aw4] at hC
  have hdf : takeV (default : Dg) = fun v c => .tuple #[.agg #[.int .i64 0, .int .u32 0, .int .i64 0, .int .u32 0, .int .i64 0, v], .int .i64 c] := rfl
  rw [hdf] at hC
  unfold sentC at hC
  dsimp only at hC
  have HC := Lib.hid hC; have HBT := Lib.hid hBT
  clear hC hp5 hp6 hp7 hr5 hb5 hbt hBT
  go_wp2_with fail
  refine HC.out.mono ?_
  rintro e V7 ⟨v2, rfl, hp8, hr8, -⟩
  obtain ⟨⟨s0, s1, s2, s3, s4, s5⟩, sl⟩ := hp8.c6 (k := V5.heap.size) (no := 1) (f := (1, 1)) (t := (1, 1)) (v := .slice A 2 c) (ty := 43) (by simp [sentC])
  obtain ⟨A2, c2, hv2, -⟩ := hr8.parts
  have hv3 : v2 = .slice A2 0 c2 := hv2
  subst hv3
  have hp9 := hp8.box (k := V7.heap.size) (sentC 0 (0, 0) (0, 0) (.slice A2 0 c2)) 43 rfl
  unfold sentC at hp9
  have hcs := conv_str (c := c) (HBT.out _ (fun p hp => hp9.held p (by simp [hp])))
  have hst : str [104, 105] = ⟨#[104, 105]⟩ := rfl
  rw [hst] at hcs
  have hC := at_p hp9 (-7) (by omega)
  rw [aw5] at hC
  have hC2 := count_p hp9
  have HC := Lib.hid hC; have HC2 := Lib.hid hC2; have HLOW := Lib.hid hp9.low
  clear hp8 hp9 hr8 hC hC2
  go_wp2_with fail
  refine HC2.out.mono ?_
  rintro e W ⟨rfl, rfl⟩
  go_wp2_with fail
  refine HC.out.mono ?_
  rintro e W ⟨rfl, rfl⟩
  go_wp2
  go_ret
  exact ⟨rfl, HLOW.out⟩
end Go.Proofs.Ythfdnidcmkjmoaa
