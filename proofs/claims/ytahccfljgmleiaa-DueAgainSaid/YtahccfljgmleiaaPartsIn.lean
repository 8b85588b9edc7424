/-
  What DueParts' walk is told: its names, its table, what is told in two parts; an array and a slice that came in. Conditions: as each lemma states.
-/
import Derived.Test.YtahccfljgmleiaaFullIn
namespace Go.Proofs.Ytahccfljgmleiaa
open Go.RowKit Go.Shelf Go.ChangeShapes
set_option linter.unusedVariables false

/-- two numbers that came in -/
def IsTwo (w : World) (v : Value) (s : Int × Int) : Prop := v = .agg #[.int .u16 s.1, .int .u16 s.2] ∧ 0 ≤ s.1 ∧ s.1 ≤ 65535 ∧ 0 ≤ s.2 ∧ s.2 ≤ 65535
/-- times that came in -/
def IsTms (w : World) (v : Value) (zs : List Int) : Prop := ∃ A n c, v = .slice A n c ∧ U16s w A n zs ∧ n ≤ c ∧ c ≤ maxLen
section
variable {H : Type} {enc : TypeId × Value → H} {W : World}
theorem okWide_arr {P : Program} {t e : TypeId} {n : Nat} {w : World} {r : Reach} {b : Nat} {v : Value} (ht : P.underlying t = some (.array n e)) (h : Value.okWide P w r b t v) : ∃ cs, v = .agg cs ∧ cs.size = P.cellsOf t := by
  simp only [Value.okWide, ht] at h
  obtain ⟨cs, h1, h2, _⟩ := h
  exact ⟨cs, h1, h2⟩
set_option maxRecDepth 100000 in
theorem open_two {r : Reach} {b0 : Nat} {v : Value} {d : DataW H} {p : List MemPlace} (hv : Value.okWide Try.prog W r b0 55 v) (h : DataW.Trod enc Try.prog W 0 (fun _ => true) true 55 v d p) : ∃ s, IsTwo W v s := by
  obtain ⟨cs, rfl, hsz⟩ := okWide_arr Try.underlying55 hv
  have hsz2 : cs.toList.length = 2 := by rw [Array.length_toList]; exact hsz.trans (by kernel_rfl)
  obtain ⟨c0, c1, rfl⟩ : ∃ c0 c1, cs = #[c0, c1] := by
    match h : cs.toList, hsz2 with
    | [c0, c1], _ => exact ⟨c0, c1, by rw [← Array.toArray_toList (xs := cs), h]⟩
  obtain ⟨fuel, hf⟩ := h
  obtain ⟨xs, m, rfl, _, _, hx, hel⟩ := DataW.trod_array Try.underlying55 hf
  have c5 : Try.prog.cellsOf 45 = 1 := by kernel_rfl
  have e0 := hel 0 (by omega)
  have e1 := hel 1 (by omega)
  match xs, hx with
  | [x0, x1], _ =>
    rw [c5] at e0 e1
    simp only [Value.cells, Nat.zero_mul, List.drop_zero, List.take_succ_cons, List.take_zero, Nat.one_mul, List.drop_succ_cons, List.getElem?_cons_zero, List.getElem?_cons_succ] at e0 e1
    obtain ⟨a, q0, _, ha⟩ := DataW.trod_int Try.underlying45 e0
    obtain ⟨b, q1, _, hb⟩ := DataW.trod_int Try.underlying45 e1
    simp only [List.cons.injEq, and_true] at q0 q1
    subst q0; subst q1
    have ha' := bounds_u16 ha
    have hb' := bounds_u16 hb
    exact ⟨(a, b), rfl, ha'.1, ha'.2, hb'.1, hb'.2⟩
theorem open_tms {r : Reach} {b0 : Nat} {v : Value} {d : DataW H} {p : List MemPlace} (hv : Value.okWide Try.prog W r b0 44 v) (h : DataW.Trod enc Try.prog W 0 (fun _ => true) true 44 v d p) : ∃ s, IsTms W v s := by
  obtain ⟨A, l, c, rfl⟩ := WideShapes.okWide_slice Try.underlying44 hv
  obtain ⟨fuel, hf⟩ := h
  have hr : ∃ zs, IsRow .u16 W A l c zs := by
    rcases open_ints Try.underlying44 Try.underlying45 (by kernel_rfl) hf with ⟨hcs, _⟩ | ⟨x, l, c, zs, hcs, _, hl, hm, hz, _, hcell, hwz⟩
    · simp [Value.cells] at hcs
      obtain ⟨rfl, rfl, rfl⟩ := hcs
      exact ⟨[], .inl ⟨rfl, rfl, rfl, rfl⟩⟩
    · simp [Value.cells] at hcs
      obtain ⟨rfl, rfl, rfl⟩ := hcs
      exact ⟨zs, .inr ⟨_, rfl, hl, hm, by simpa using hz, hcell, hwz⟩⟩
  obtain ⟨zs, hz⟩ := hr
  obtain ⟨h1, h2, h3⟩ := u16s_of_row hz
  exact ⟨zs, A, l, c, rfl, h1, h2, h3⟩
end

/-- the i-th name -/
def nmP (i : Nat) : Ky := ky [UInt8.ofNat (97 + i % 26), UInt8.ofNat (48 + i / 26)] (by simp)
/-- the table behind i of them -/
def tabP (zs : List Int) : Nat → List En
  | 0 => []
  | i + 1 => setL (tabP zs i) (nmP i) (zs.getD i 0)
structure Pt (i : Nat) (L : List En) : Prop where
  tbl : Tbl L
  len : L.length ≤ i
  mem : ∀ e ∈ L, e.1.1.length ≤ 2
theorem pt {zs : List Int} (hx : ∀ i, 0 ≤ zs.getD i 0 ∧ zs.getD i 0 ≤ 65535) : ∀ i, i ≤ 200 → Pt i (tabP zs i)
  | 0, _ => ⟨Tbl.nil, Nat.le_refl _, by simp [tabP]⟩
  | i + 1, hi => by
    have h := pt hx i (by omega)
    have hb := hx i
    have hl := h.len
    have he : tabP zs (i + 1) = putL (tabP zs i) (nmP i) (zs.getD i 0) := by
      show setL _ _ _ = _
      unfold setL
      rw [if_neg (by omega), if_neg (by omega)]
    rw [he]
    refine ⟨h.tbl.put hb.1 (by omega) (.inr (by omega)), by rw [putL_len]; have := dropL_len (tabP zs i) (nmP i); omega, fun e hm => ?_⟩
    rcases mem_putL.1 hm with rfl | ⟨h1, _⟩
    · show (nmP i).1.length ≤ 2
      simp [nmP, ky]
    · exact h.mem _ h1
theorem parts_set {zs : List Int} (hx : ∀ i, 0 ≤ zs.getD i 0 ∧ zs.getD i 0 ≤ 65535) (k : Nat) (hk : k < 200) (t : Int) (ht : zs.getD k 0 = t) (tb bm : Nat) (W : World) (h : Du W tb bm (tabP zs k)) :
    Calls Try.prog 11 #[.pointer (some ⟨tb, 0, none⟩), .string (str (nmP k)), .int .i64 t] W (Turned W tb bm (tabP zs (k + 1)) (.int .i64 0)) := by
  subst ht
  have := set_any tb bm _ (nmP k) (zs.getD k 0) W h
  have hp := pt hx k (by omega)
  have hl := hp.len
  have hb := hx k
  rwa [show setCode (tabP zs k) (nmP k) (zs.getD k 0) = 0 by unfold setCode; rw [if_neg (by omega), if_neg (by omega)]] at this
theorem conv_two (W : World) (q r : Nat) (hq : q ≤ 25) (hr : r ≤ 25) : (convert 46 9 (.slice (some ⟨W.heap.size, 0, none⟩) 2 2)).run Try.prog (W.alloc (.cells #[.int .u8 (97 + (r : Int)), .int .u8 (48 + (q : Int))] 5)) =
    .ok (.string (str (ky [UInt8.ofNat (97 + r), UInt8.ofNat (48 + q)] (by simp)))) (W.alloc (.cells #[.int .u8 (97 + (r : Int)), .int .u8 (48 + (q : Int))] 5)) := by
  have := run_convert_bytes_back (P := Try.prog) (W.alloc (.cells #[.int .u8 (97 + (r : Int)), .int .u8 (48 + (q : Int))] 5)) 46 9 5 ⟨W.heap.size, 0, none⟩ 2 [UInt8.ofNat (97 + r), UInt8.ofNat (48 + q)] Try.underlying46 Try.underlying5 Try.underlying9 (fun j hj => by
    have hb : (W.alloc (.cells #[.int .u8 (97 + (r : Int)), .int .u8 (48 + (q : Int))] 5)).heap[W.heap.size]? = some (.cells #[.int .u8 (97 + (r : Int)), .int .u8 (48 + (q : Int))] 5 (0, 0)) := (MapKept.heap_alloc W _).1
    simp only [List.length_cons, List.length_nil] at hj
    have h8 : ∀ c n : Nat, c ≤ 97 → n ≤ 25 → (((UInt8.ofNat (c + n)).toNat : Nat) : Int) = (c : Int) + (n : Int) := fun c n hc hn => by simp only [UInt8.toNat_ofNat']; omega
    have hcell : ∀ j, (W.alloc (.cells #[.int .u8 (97 + (r : Int)), .int .u8 (48 + (q : Int))] 5)).cell? ⟨W.heap.size, j, none⟩ = #[Value.int .u8 (97 + (r : Int)), .int .u8 (48 + (q : Int))][j]? := fun j => by unfold World.cell?; rw [hb]; rfl
    match j, hj with
    | 0, _ => exact (hcell 0).trans (congrArg (fun z => some (Value.int .u8 z)) (h8 97 r (by omega) hr).symm)
    | 1, _ => exact (hcell 1).trans (congrArg (fun z => some (Value.int .u8 z)) (h8 48 q (by omega) hq).symm))
  exact this
/-- told in two parts -/
theorem take_parts {M : List En} {one two : Int} (h : one ≤ two) {d1 r1 d2 r2 d3 r3 : List En} (e1 : M = d1 ++ r1) (t1 : d1 = M.takeWhile (fun e => decide (e.2 ≤ one))) (e2 : r1 = d2 ++ r2) (t2 : d2 = r1.takeWhile (fun e => decide (e.2 ≤ two))) (e3 : M = d3 ++ r3) (t3 : d3 = M.takeWhile (fun e => decide (e.2 ≤ two))) : d1 ++ d2 = d3 ∧ r2 = r3 := by
  have h1 : ∀ e ∈ d1, e.2 ≤ two := fun e he => by
    rw [t1] at he
    have := List.all_eq_true.1 (List.all_takeWhile (l := M) (p := fun e => decide (e.2 ≤ one))) e he
    have h3 : e.2 ≤ one := by simpa using this
    omega
  have h2 : d1 ++ d2 = d3 := by
    rw [t3, e1, List.takeWhile_append_of_pos (by intro e he; simpa using h1 e he), ← t2]
  refine ⟨h2, ?_⟩
  have : d3 ++ r2 = d3 ++ r3 := by rw [← h2, List.append_assoc, ← e2, ← e1, e3, h2]
  exact List.append_cancel_left this
/-- the cells of DueParts' loops, the other table, and the marks -/
structure Ppa (w0 : World) (gx gy tb' bm' : Nat) (L' : List En) (ms : List Nat) (X Y : ByteArray) (V : World) : Prop where
  x : Boxed V gx 9 (.string X)
  y : Boxed V gy 9 (.string Y)
  du : Du V tb' bm' L'
  below : Below w0.heap.size w0 V
  marks : ∀ m ∈ ms, V.heap[m]? = some (.deferred (some []))
theorem Ppa.moves {w0 V V' : World} {gx gy tb' bm' bm B : Nat} {L' : List En} {ms : List Nat} {X Y : ByteArray} (h : Ppa w0 gx gy tb' bm' L' ms X Y V) (hm : Moves B bm V V') (h1 : gx ≠ bm) (h2 : gy ≠ bm) (h3 : tb' ≠ bm) (h4 : bm' ≠ bm) (h5 : w0.heap.size ≤ bm) (h6 : w0.heap.size ≤ B) (h7 : tb' < B) (h8 : bm' < B) (h9 : ∀ m ∈ ms, m < B ∧ m ≠ bm) : Ppa w0 gx gy tb' bm' L' ms X Y V' :=
  ⟨bx_moves h.x hm h1, bx_moves h.y hm h2, h.du.kept (hm.heap h.du.lt.1 h3 h7) (hm.heap h.du.lt.2 h4 h8), below_moves h.below h.below.size hm h5 h6, fun m hmm => (hm.heap (Array.getElem?_eq_some_iff.1 (h.marks m hmm)).1 (h9 m hmm).2 (h9 m hmm).1).trans (h.marks m hmm)⟩
theorem ppa_still {w w0 : World} {gx gy tb' bm' bm : Nat} {L' : List En} {ms : List Nat} {X Y : List En → ByteArray} (h1 : gx ≠ bm) (h2 : gy ≠ bm) (h3 : tb' ≠ bm) (h4 : bm' ≠ bm) (h5 : w0.heap.size ≤ bm) (h6 : w0.heap.size ≤ w.heap.size) (h7 : tb' < w.heap.size) (h8 : bm' < w.heap.size) (h9 : ∀ m ∈ ms, m < w.heap.size ∧ m ≠ bm) :
    Still w bm (fun d => Ppa w0 gx gy tb' bm' L' ms (X d) (Y d)) :=
  ⟨fun d V V' B hB h hm => h.moves hm h1 h2 h3 h4 h5 (by omega) (by omega) (by omega) (fun m hmm => ⟨by have := (h9 m hmm).1; omega, (h9 m hmm).2⟩)⟩
theorem Ppa.after {w0 V V' : World} {gx gy tb' bm' : Nat} {L' : List En} {ms : List Nat} {X Y : ByteArray} (h : Ppa w0 gx gy tb' bm' L' ms X Y V) (hb : Below V.heap.size V V') : Ppa w0 gx gy tb' bm' L' ms X Y V' :=
  ⟨bx_after h.x hb h.x.lt, bx_after h.y hb h.y.lt, h.du.after hb, h.below.trans (hb.mono h.below.size), fun m hm => (hb.block m (Array.getElem?_eq_some_iff.1 (h.marks m hm)).1).trans (h.marks m hm)⟩
theorem Ppa.setX {w0 V : World} {gx gy tb' bm' : Nat} {L' : List En} {ms : List Nat} {X Y : ByteArray} (h : Ppa w0 gx gy tb' bm' L' ms X Y V) (Z : ByteArray) (h1 : gx ≠ gy) (h2 : gx ≠ tb') (h3 : gx ≠ bm') (h4 : w0.heap.size ≤ gx) (h5 : ∀ m ∈ ms, m ≠ gx) : Ppa w0 gx gy tb' bm' L' ms Z Y (V.setCell ⟨gx, 0, none⟩ (.string Z)) :=
  ⟨h.x.set _, h.y.other (fun e => h1 e.symm) _, h.du.set h2 h3, h.below.setCell (p := ⟨gx, 0, none⟩) h4 _, fun m hm => (heap_setCell_other _ ⟨gx, 0, none⟩ m _ (h5 m hm)).trans (h.marks m hm)⟩
theorem Ppa.setY {w0 V : World} {gx gy tb' bm' : Nat} {L' : List En} {ms : List Nat} {X Y : ByteArray} (h : Ppa w0 gx gy tb' bm' L' ms X Y V) (Z : ByteArray) (h1 : gx ≠ gy) (h2 : gy ≠ tb') (h3 : gy ≠ bm') (h4 : w0.heap.size ≤ gy) (h5 : ∀ m ∈ ms, m ≠ gy) : Ppa w0 gx gy tb' bm' L' ms X Z (V.setCell ⟨gy, 0, none⟩ (.string Z)) :=
  ⟨h.x.other h1 _, h.y.set _, h.du.set h2 h3, h.below.setCell (p := ⟨gy, 0, none⟩) h4 _, fun m hm => (heap_setCell_other _ ⟨gy, 0, none⟩ m _ (h5 m hm)).trans (h.marks m hm)⟩
theorem Ppa.mark {w0 V : World} {gx gy tb' bm' D : Nat} {L' : List En} {ms : List Nat} {X Y : ByteArray} (h : Ppa w0 gx gy tb' bm' L' ms X Y V) (hK : V.heap[D]? = some (.deferred (some []))) : Ppa w0 gx gy tb' bm' L' (D :: ms) X Y V :=
  ⟨h.x, h.y, h.du, h.below, fun m hm => by
    rcases List.mem_cons.1 hm with rfl | hm
    · exact hK
    · exact h.marks m hm⟩
theorem Ppa.swap {w0 V : World} {gx gy tb' bm' ta ma : Nat} {L L' : List En} {ms : List Nat} {X Y : ByteArray} (h : Ppa w0 gx gy tb' bm' L' ms X Y V) (hd : Du V ta ma L) : Ppa w0 gx gy ta ma L ms X Y V := ⟨h.x, h.y, hd, h.below, h.marks⟩
/-- behind what was told before, what has been told stands in x -/
def PA (w0 : World) (gx gy tb' bm' : Nat) (L' : List En) (ms : List Nat) (c d : List En) (V : World) : Prop := Ppa w0 gx gy tb' bm' L' ms (cat (c ++ d)) ByteArray.empty V
/-- .. in y -/
def PB (w0 : World) (gx gy tb' bm' : Nat) (L' : List En) (ms : List Nat) (X : ByteArray) (d : List En) (V : World) : Prop := Ppa w0 gx gy tb' bm' L' ms X (cat d) V
theorem pa_next {w0 V : World} {gx gy tb' bm' : Nat} {L' : List En} {ms : List Nat} {c d : List En} {e : En} {S : ByteArray} (h : PA w0 gx gy tb' bm' L' ms c d V) (hc : V.cell? ⟨gx, 0, none⟩ = some (.string S)) (h1 : gx ≠ gy) (h2 : gx ≠ tb') (h3 : gx ≠ bm') (h4 : w0.heap.size ≤ gx) (h5 : ∀ m ∈ ms, m ≠ gx) :
    PA w0 gx gy tb' bm' L' ms c (d ++ [e]) (V.setCell ⟨gx, 0, none⟩ (.string (S ++ str e.1))) := by
  have e1 := Ppa.x h |>.cell
  rw [hc] at e1
  have e2 : S = cat (c ++ d) := by simpa using e1
  subst e2
  show Ppa _ _ _ _ _ _ _ (cat (c ++ (d ++ [e]))) _ _
  rw [← List.append_assoc, cat_snoc]
  exact Ppa.setX h _ h1 h2 h3 h4 h5
theorem pb_next {w0 V : World} {gx gy tb' bm' : Nat} {L' : List En} {ms : List Nat} {X : ByteArray} {d : List En} {e : En} {S : ByteArray} (h : PB w0 gx gy tb' bm' L' ms X d V) (hc : V.cell? ⟨gy, 0, none⟩ = some (.string S)) (h1 : gx ≠ gy) (h2 : gy ≠ tb') (h3 : gy ≠ bm') (h4 : w0.heap.size ≤ gy) (h5 : ∀ m ∈ ms, m ≠ gy) :
    PB w0 gx gy tb' bm' L' ms X (d ++ [e]) (V.setCell ⟨gy, 0, none⟩ (.string (S ++ str e.1))) := by
  have e1 := Ppa.y h |>.cell
  rw [hc] at e1
  have e2 : S = cat d := by simpa using e1
  subst e2
  show Ppa _ _ _ _ _ _ _ _ (cat (d ++ [e])) _
  rw [cat_snoc]
  exact Ppa.setY h _ h1 h2 h3 h4 h5
/-- the iterator's cells -/
theorem it_cells (V : World) (t : Nat) (now : Int) :
    ((V.alloc (.cells #[.pointer (some ⟨t, 0, none⟩)] 25)).alloc (.cells #[.int .i64 now] 3)).cell? ⟨V.heap.size, 0, none⟩ = some (.pointer (some ⟨t, 0, none⟩)) ∧
    ((V.alloc (.cells #[.pointer (some ⟨t, 0, none⟩)] 25)).alloc (.cells #[.int .i64 now] 3)).cell? ⟨V.heap.size + 1, 0, none⟩ = some (.int .i64 now) ∧
    Below V.heap.size V ((V.alloc (.cells #[.pointer (some ⟨t, 0, none⟩)] 25)).alloc (.cells #[.int .i64 now] 3)) ∧ ((V.alloc (.cells #[.pointer (some ⟨t, 0, none⟩)] 25)).alloc (.cells #[.int .i64 now] 3)).heap.size = V.heap.size + 2 := by
  refine ⟨((Boxed.new V 25 _).alloc _).cell, ?_, ((Below.refl _ V).alloc (Nat.le_refl _) _).alloc (by simp) _, by simp⟩
  have := (Boxed.new (V.alloc (.cells #[.pointer (some ⟨t, 0, none⟩)] 25)) 3 (.int .i64 now)).cell
  rwa [World.size_alloc] at this
end Go.Proofs.Ytahccfljgmleiaa
