/-
  What DueFull's walk is told: its names, its table, what a slice and a string that came in are. Conditions: as each lemma states.
-/
import Derived.Test.YtahccfljgmleiaaNms
import Derived.Test.YtahccfljgmleiaaAwk
import Derived.OpenShut
namespace Go.Proofs.Ytahccfljgmleiaa
open Go.RowKit Go.Shelf
set_option linter.unusedVariables false

/-- what the walk is told of a slice of integers that came in: it is nil; or it leads to a row of 'cap' cells, the numbers 'zs' -/
def IsRow (k : IntKind) (w : World) (a : Option Addr) (len cap : Nat) (zs : List Int) : Prop :=
  (a = none ∧ len = 0 ∧ cap = 0 ∧ zs = []) ∨
  ∃ x, a = some x ∧ len ≤ cap ∧ cap ≤ maxLen ∧ zs.length = cap ∧ (∀ i, i < zs.length → w.cell? (x.add i) = some (.int k (zs.getD i 0))) ∧ ∀ n ∈ zs, (Lit.int k n).wf = true
theorem cell_below {w V : World} {n : Nat} {a : Addr} (h : Below n w V) (hlt : a.block < n) : V.cell? a = w.cell? a := by
  unfold World.cell?
  rw [h.block _ hlt]
/-- times that came in -/
structure U16s (w : World) (a : Option Addr) (len : Nat) (zs : List Int) : Prop where
  bd : ∀ i, 0 ≤ zs.getD i 0 ∧ zs.getD i 0 ≤ 65535
  cells : 0 < len → ∃ b off, a = some ⟨b, off, none⟩ ∧ b < w.heap.size ∧ ∀ i, i < len → w.cell? ⟨b, off + i, none⟩ = some (.int .u16 (zs.getD i 0))
theorem u16s_of_row {w : World} {a : Option Addr} {len cap : Nat} {zs : List Int} (h : IsRow .u16 w a len cap zs) : U16s w a len zs ∧ len ≤ cap ∧ cap ≤ maxLen := by
  rcases h with ⟨rfl, rfl, rfl, rfl⟩ | ⟨x, rfl, h1, h2, h3, h4, h5⟩
  · exact ⟨⟨by simp, fun h => by omega⟩, Nat.le_refl _, Nat.zero_le _⟩
  · refine ⟨⟨fun i => ?_, fun hn => ?_⟩, h1, h2⟩
    · by_cases hi : i < zs.length
      · have hm : zs.getD i 0 ∈ zs := by rw [List.getD, List.getElem?_eq_getElem hi]; exact List.getElem_mem hi
        have := bounds_u16 (h5 _ hm)
        omega
      · rw [List.getD, List.getElem?_eq_none (by omega)]; exact ⟨by decide, by decide⟩
    · obtain ⟨b, off, rfl, hc⟩ := ints_at h4 (by omega)
      exact ⟨b, off, rfl, lt_of_cell (hc 0 (by omega)), fun j hj => hc j (by omega)⟩
theorem str_of (s : ByteArray) (h : s.size ≤ maxLen) : ∃ x : Ky, s = str x := ⟨⟨s.data.toList, by rw [Array.length_toList]; exact h⟩, by unfold str; simp only [Array.toArray_toList]⟩

/-- the i-th time -/
def timeF (len : Nat) (zs : List Int) (i : Nat) : Int := if len = 0 then 0 else zs.getD (i % len) 0
/-- the i-th name -/
def nmF (i : Nat) : Ky := ky [110, UInt8.ofNat (97 + i / 26), UInt8.ofNat (97 + i % 26)] (by simp)
theorem nmF_inj {i j : Nat} (hi : i < 200) (hj : j < 200) (h : nmF i = nmF j) : i = j := by
  have h1 : (nmF i).1 = (nmF j).1 := by rw [h]
  simp only [nmF, ky, List.cons.injEq, and_true, true_and] at h1
  have h2 := congrArg UInt8.toNat h1.1
  have h3 := congrArg UInt8.toNat h1.2
  simp only [UInt8.toNat_ofNat'] at h2 h3
  omega
theorem conv_three (W : World) (q r : Nat) (hq : q ≤ 25) (hr : r ≤ 25) : (convert 46 9 (.slice (some ⟨W.heap.size, 0, none⟩) 3 3)).run Try.prog (W.alloc (.cells #[.int .u8 110, .int .u8 (97 + (q : Int)), .int .u8 (97 + (r : Int))] 5)) =
    .ok (.string (str (ky [110, UInt8.ofNat (97 + q), UInt8.ofNat (97 + r)] (by simp)))) (W.alloc (.cells #[.int .u8 110, .int .u8 (97 + (q : Int)), .int .u8 (97 + (r : Int))] 5)) := by
  have := run_convert_bytes_back (P := Try.prog) (W.alloc (.cells #[.int .u8 110, .int .u8 (97 + (q : Int)), .int .u8 (97 + (r : Int))] 5)) 46 9 5 ⟨W.heap.size, 0, none⟩ 3 [110, UInt8.ofNat (97 + q), UInt8.ofNat (97 + r)] Try.underlying46 Try.underlying5 Try.underlying9 (fun j hj => by
    have hb : (W.alloc (.cells #[.int .u8 110, .int .u8 (97 + (q : Int)), .int .u8 (97 + (r : Int))] 5)).heap[W.heap.size]? = some (.cells #[.int .u8 110, .int .u8 (97 + (q : Int)), .int .u8 (97 + (r : Int))] 5 (0, 0)) := (MapKept.heap_alloc W _).1
    simp only [List.length_cons, List.length_nil] at hj
    have h8 : ∀ n : Nat, n ≤ 25 → (((UInt8.ofNat (97 + n)).toNat : Nat) : Int) = 97 + (n : Int) := fun n hn => by simp only [UInt8.toNat_ofNat']; omega
    have hcell : ∀ j, (W.alloc (.cells #[.int .u8 110, .int .u8 (97 + (q : Int)), .int .u8 (97 + (r : Int))] 5)).cell? ⟨W.heap.size, j, none⟩ = #[Value.int .u8 110, .int .u8 (97 + (q : Int)), .int .u8 (97 + (r : Int))][j]? := fun j => by unfold World.cell?; rw [hb]; rfl
    match j, hj with
    | 0, _ => exact hcell 0
    | 1, _ => exact (hcell 1).trans (congrArg (fun z => some (Value.int .u8 z)) (h8 q hq).symm)
    | 2, _ => exact (hcell 2).trans (congrArg (fun z => some (Value.int .u8 z)) (h8 r hr).symm))
  exact this
/-- the table behind i of them -/
def tabF (xs : Nat → Int) : Nat → List En
  | 0 => []
  | i + 1 => setL (tabF xs i) (nmF i) (xs i)
structure Fl (xs : Nat → Int) (i : Nat) (L : List En) : Prop where
  tbl : Tbl L
  len : L.length = i
  mem : ∀ e ∈ L, (∃ j, j < i ∧ e.1 = nmF j) ∧ 0 ≤ e.2 ∧ e.2 ≤ 65535
theorem Fl.not {xs : Nat → Int} {i : Nat} {L : List En} (h : Fl xs i L) (hi : i < 200) : inL L (nmF i) = false := by
  cases hc : inL L (nmF i) with
  | false => rfl
  | true =>
    obtain ⟨t, ht⟩ := inL_iff.1 hc
    obtain ⟨⟨j, hj, e⟩, _⟩ := h.mem _ ht
    have := nmF_inj hi (by omega) e
    omega
theorem fl {xs : Nat → Int} (hx : ∀ i, 0 ≤ xs i ∧ xs i ≤ 65535) : ∀ i, i ≤ 200 → Fl xs i (tabF xs i)
  | 0, _ => ⟨Tbl.nil, rfl, by simp [tabF]⟩
  | i + 1, hi => by
    have h := fl hx i (by omega)
    have hn := h.not (by omega)
    have hb := hx i
    have hl := h.len
    have he : tabF xs (i + 1) = putL (tabF xs i) (nmF i) (xs i) := by
      show setL _ _ _ = _
      unfold setL
      rw [if_neg (by omega), if_neg (by omega)]
    rw [he]
    refine ⟨h.tbl.put hb.1 (by omega) (.inr (by omega)), by rw [putL_len, dropL_not hn, hl], fun e hm => ?_⟩
    rcases mem_putL.1 hm with rfl | ⟨h1, _⟩
    · exact ⟨⟨i, by omega, rfl⟩, hb⟩
    · obtain ⟨⟨j, hj, e2⟩, h3⟩ := h.mem _ h1
      exact ⟨⟨j, by omega, e2⟩, h3⟩
theorem set_zero {xs : Nat → Int} (hx : ∀ i, 0 ≤ xs i ∧ xs i ≤ 65535) {i : Nat} (hi : i < 200) : setCode (tabF xs i) (nmF i) (xs i) = 0 := by
  have h := fl hx i (by omega)
  have hb := hx i
  have hl := h.len
  unfold setCode
  rw [if_neg (by omega), if_neg (by omega)]
abbrev kAn : Ky := ky [97, 110, 111, 116, 104, 101, 114] (by decide)
/-- behind the last name's second time -/
structure Full (xs : Nat → Int) (M : List En) : Prop where
  code : setCode (tabF xs 200) kAn 5 = 10
  same : setL (tabF xs 200) kAn 5 = tabF xs 200
  code' : setCode (tabF xs 200) (nmF 199) 7 = 0
  set : setL (tabF xs 200) (nmF 199) 7 = M
  len : M.length = 200
  tbl : Tbl M
  times : ∀ e ∈ M, 0 ≤ e.2 ∧ e.2 ≤ 65535
theorem full {xs : Nat → Int} (hx : ∀ i, 0 ≤ xs i ∧ xs i ≤ 65535) : ∃ M, Full xs M := by
  have h := fl hx 200 (by omega)
  have hl := h.len
  have h9 := fl hx 199 (by omega)
  have hin : inL (tabF xs 200) (nmF 199) = true := by
    have he : tabF xs 200 = putL (tabF xs 199) (nmF 199) (xs 199) := by
      show setL (tabF xs 199) (nmF 199) (xs 199) = _
      have := hx 199
      have := h9.len
      unfold setL
      rw [if_neg (by omega), if_neg (by omega)]
    rw [he, inL_put]; simp
  have hno : inL (tabF xs 200) kAn = false := by
    cases hc : inL (tabF xs 200) kAn with
    | false => rfl
    | true =>
      obtain ⟨t, ht⟩ := inL_iff.1 hc
      obtain ⟨⟨j, _, e⟩, _⟩ := h.mem _ ht
      have e2 := congrArg (fun k : Ky => k.1.length) e
      simp [ky, nmF] at e2
  have hs : setL (tabF xs 200) (nmF 199) 7 = putL (tabF xs 200) (nmF 199) 7 := by
    unfold setL; rw [if_neg (by omega), if_neg (by simp [hin])]
  refine ⟨_, ?_, ?_, ?_, rfl, ?_, ?_, ?_⟩
  · unfold setCode; rw [if_neg (by omega), if_pos ⟨hno, by omega⟩]
  · unfold setL; rw [if_neg (by omega), if_pos ⟨hno, by omega⟩]
  · unfold setCode; rw [if_neg (by omega), if_neg (by simp [hin])]
  · rw [hs, putL_len, dropL_in h.tbl hin, hl]
  · rw [hs]; exact h.tbl.put (by omega) (by omega) (.inl hin)
  · rw [hs]; intro e hm
    rcases mem_putL.1 hm with rfl | ⟨h1, _⟩
    · exact ⟨by decide, by decide⟩
    · exact (h.mem _ h1).2
/-- the last time that was told, or 0 -/
def lastT (d : List En) : Int := (d.getLast?.map (·.2)).getD 0
theorem lastT_snoc (d : List En) (e : En) : lastT (d ++ [e]) = e.2 := by simp [lastT]
theorem lastT_le {all done rest : List En} {e : En} (hs : Tbl all) (h : all = done ++ e :: rest) : lastT done ≤ e.2 := by
  subst h
  unfold lastT
  cases hg : done.getLast? with
  | none => simpa using (hs.times e (by simp)).1
  | some f =>
    have hf : f ∈ done := List.mem_of_getLast? hg
    have := (List.pairwise_append.1 hs.sorted).2.2 f hf e (by simp)
    show f.2 ≤ e.2
    rcases this with h | ⟨h, _⟩ <;> omega
/-- all are told -/
theorem take_all {M : List En} {now : Int} (h : ∀ e ∈ M, e.2 ≤ now) : M.takeWhile (fun e => decide (e.2 ≤ now)) = M := by
  induction M with
  | nil => rfl
  | cons e M ih =>
    rw [List.takeWhile_cons_of_pos (by simpa using h e (by simp)), ih (fun f hf => h f (List.mem_cons_of_mem _ hf))]
/-- the cells of DueFull's loop: its answer's, how many have been told, and the last time -/
def Pfu (w0 : World) (r n g : Nat) (d : List En) (V : World) : Prop := Boxed V r 4 (.bool false) ∧ Boxed V n 3 (.int .i64 (d.length : Nat)) ∧ Boxed V g 3 (.int .i64 (lastT d)) ∧ Below w0.heap.size w0 V
theorem pfu_still {w w0 : World} {r n g bm : Nat} (h1 : r ≠ bm) (h2 : n ≠ bm) (h5 : g ≠ bm) (h3 : w0.heap.size ≤ bm) (h4 : w0.heap.size ≤ w.heap.size) : Still w bm (Pfu w0 r n g) :=
  ⟨fun d V V' B hB h hm => ⟨bx_moves h.1 hm h1, bx_moves h.2.1 hm h2, bx_moves h.2.2.1 hm h5, below_moves h.2.2.2 h.2.2.2.size hm h3 (by omega)⟩⟩
end Go.Proofs.Ytahccfljgmleiaa
