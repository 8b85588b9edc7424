/-
  The document's own In. Conditions: the box stands in memory.
  Appends of the document's bindings as steps of a region that draws its order. Conditions: as each lemma states.
-/
import Derived.Test.YtemlnkcokeckmaaMh21
namespace Go.Proofs.Ytemlnkcokeckmaa
open Go.RowKit
attribute [local go_sem] Oper.semAt_some
set_option linter.unusedVariables false
set_option linter.unusedSimpArgs false

/-- what a call of the document's own leaves -/
def RStep (w w' : World) (rb : Nat) (x : Bx) (v : Value) (L : List Rb) (now' : Int) (L' : List Rb) : Prop :=
  ∃ v', Ra w' rb x now' v' L' ∧ Keeps (fun k => k = rb ∨ v.ownBlock = some k) w w' ∧ ∀ g, RFoot rb v' L' g → RFoot rb v L g ∨ w.heap.size ≤ g
theorem RStep.same {w w' : World} {rb : Nat} {x : Bx} {now : Int} {v : Value} {L : List Rb} (h : Ra w rb x now v L) (hb : Below w.heap.size w w') : RStep w w' rb x v L now L :=
  ⟨v, h.below hb, .all hb, fun g hg => .inl hg⟩
theorem RStep.on {w w1 w' : World} {rb : Nat} {x : Bx} {now t : Int} {v v' : Value} {L : List Rb} (h : Ra w rb x now v L) {w0 : World} (hb0 : Below w.heap.size w w0) (h1 : Ra w1 rb x t v' (liveR L t)) (hv : ∀ g, v'.ownBlock = some g → w0.heap.size ≤ g) (hk : Keeps (fun k => k = rb) w0 w1) (hb : Below w1.heap.size w1 w') : RStep w w' rb x v L t (liveR L t) := by
  refine ⟨v', h1.below hb, ?_, fun g hg => ?_⟩
  · refine ((Keeps.all hb0).then (hk.mono (S' := fun k => k = rb ∨ v.ownBlock = some k) (fun k _ e => .inl e)) (fun i _ e => e)).trans (.all hb)
  · rcases hg with rfl | hg | ⟨d, hd, hg⟩
    · exact .inl (.inl rfl)
    · exact .inr (Nat.le_trans hb0.size (hv g hg))
    · exact .inl (.inr (.inr ⟨d, (List.mem_filter.1 hd).1, hg⟩))
/-- does the document's own let one in -/
def okA (m : Int) (f a : A2) : Bool := decide (a = f) || ((m == 1) && (a.1 == f.1))
def okB (m : Int) (f : A2) (b : Bn) : Bool := (b.asked || (m == 0)) || b.seen.any (okA m f)
def inP (x : Bx) (p : Int) (f : A2) (b : Bn) : Bool := (b.port == p) && okB x.filter f b
def refIn (x : Bx) (M : List Bn) (p : Int) (f : A2) : A2 × Int := match M.find? (inP x p f) with
  | some b => (b.inn, 0)
  | none => ((0, 0), 8)
theorem seen_at {w : World} {sv : Value} {l : List A2} (h : SeenAt w sv l) {k : Nat} {a : A2} (hk : l[k]? = some a) : ∃ b off c, sv = .slice (some ⟨b, off, none⟩) l.length c ∧ l.length ≤ c ∧ c ≤ maxLen ∧ b < w.heap.size ∧ w.cell? ⟨b, off + k * 2, none⟩ = some (.int .u32 a.1) ∧ w.cell? ⟨b, off + k * 2 + 1, none⟩ = some (.int .i64 a.2) := by
  obtain ⟨A, c, rfl, h1, h2, h3, h4⟩ := h
  have hkl := (List.getElem?_eq_some_iff.1 hk).1
  cases A with
  | none => have := (h3 rfl).1; omega
  | some ad =>
    obtain ⟨b, off, C, rfl, h5, h6⟩ := h4 ad rfl
    refine ⟨b, off, c, rfl, h1, h2, (Array.getElem?_eq_some_iff.1 h5).1, ?_, ?_⟩
    · rw [(cells_of h5 _).1]; exact h6 _ _ (cellsA_at hk).1
    · rw [(cells_of h5 _).1, Nat.add_assoc]; exact h6 _ _ (cellsA_at hk).2

theorem find_at {P : Bn → Bool} : ∀ {L : List Rb} {k : Nat} {d : Rb}, L[k]? = some d → P d.b = true → (∀ j e, j < k → L[j]? = some e → P e.b = false) → (L.map Rb.b).find? P = some d.b
  | [], k, d, h, _, _ => by simp at h
  | c :: L, 0, d, h, h1, _ => by
    simp only [List.getElem?_cons_zero, Option.some.injEq] at h
    subst h
    simp [h1]
  | c :: L, k + 1, d, h, h1, h2 => by
    have h3 := h2 0 c (by omega) rfl
    rw [List.map_cons, List.find?_cons, h3]
    exact find_at (L := L) (by simpa using h) h1 (fun j e hj he => h2 (j + 1) e (by omega) (by simpa using he))
theorem find_none {P : Bn → Bool} {L : List Rb} (h : ∀ e ∈ L, P e.b = false) : (L.map Rb.b).find? P = none := by
  rw [List.find?_eq_none]
  intro b hb
  obtain ⟨e, he, rfl⟩ := List.mem_map.1 hb
  simp [h e he]
/-- an address is stored in a block of its own -/
def put2 (W : World) (g : Nat) (a : A2) : World := (W.setCell ⟨g, 0, none⟩ (.int .u32 a.1)).setCell ⟨g, 1, none⟩ (.int .i64 a.2)
theorem put2_at {W : World} {g : Nat} {u v : Value} (h : W.heap[g]? = some (.cells #[u, v] 38 (0, 0))) (a : A2) : (put2 W g a).cell? ⟨g, 0, none⟩ = some (.int .u32 a.1) ∧ (put2 W g a).cell? ⟨g, 1, none⟩ = some (.int .i64 a.2) := by
  have h2 : (put2 W g a).heap[g]? = some (.cells #[.int .u32 a.1, .int .i64 a.2] 38 (0, 0)) := by
    unfold put2
    rw [set_top (set_top h 0 _) 1 _]
    simp
  exact ⟨(cells_of h2 0).1, (cells_of h2 1).1⟩
theorem put2_below {b : Nat} {w W : World} {g : Nat} (h : Below b w W) (hg : b ≤ g) (a : A2) : Below b w (put2 W g a) := (h.setCell (p := ⟨g, 0, none⟩) hg _).setCell (p := ⟨g, 1, none⟩) hg _
theorem put2_else {W : World} {g k : Nat} {a : A2} (h : k ≠ g) : (put2 W g a).heap[k]? = W.heap[k]? := by
  unfold put2
  rw [set_else h, set_else h]
/-- .. and the document's box stands as it was -/
theorem RStep.put2 {w w' : World} {rb : Nat} {x : Bx} {v : Value} {L : List Rb} {now' : Int} {L' : List Rb} (h : RStep w w' rb x v L now' L') (g : Nat) (a : A2) (hg : w.heap.size ≤ g) {C : Array Value} (hC : w'.heap[g]? = some (.cells C 38 (0, 0))) (hs : ∀ d ∈ L', blockOf d.sv ≠ some g) : RStep w (Ytemlnkcokeckmaa.put2 w' g a) rb x v L now' L' := by
  obtain ⟨v', h1, h2, h3⟩ := h
  have hb : Below w.heap.size w' (Ytemlnkcokeckmaa.put2 w' g a) := put2_below (Below.refl _ _) hg a
  refine ⟨v', h1.kept (fun k hk => put2_else (fun e => ?_)), ⟨hb.os.trans h2.os, hb.tape.trans h2.tape, hb.output.trans h2.output, Nat.le_trans h2.size hb.size, fun k hk hn => (hb.block k hk).trans (h2.block k hk hn)⟩, h3⟩
  subst e
  rcases hk with rfl | hk | ⟨d, hd, hk⟩
  · exact clash h1.top hC (by decide)
  · obtain ⟨C', hC'⟩ := own_obj h1.row hk
    exact clash hC' hC (by decide)
  · exact hs d hd hk

set_option maxRecDepth 100000 in
set_option maxHeartbeats 8000000 in
theorem rin_any {w : World} {rb : Nat} {x : Bx} {now : Int} {v : Value} {L : List Rb} (h : Ra w rb x now v L) (t p : Int) (f : A2) (hf : isA f) (hL : L.length ≤ 100) :
    Calls Try.prog 20 #[.pointer (some ⟨rb, 0, none⟩), .int .i64 t, .int .i64 p, adr f] w fun e w' =>
      (mayA f = true ∧ goes now t = true ∧ e = .returned (ansA (refIn x ((liveR L t).map Rb.b) p f).1 (refIn x ((liveR L t).map Rb.b) p f).2) ∧ RStep w w' rb x v L t (liveR L t)) ∨
      (¬ (mayA f = true ∧ goes now t = true) ∧ e = .returned (ansA (0, 0) 1) ∧ RStep w w' rb x v L now L) := by
  have HM := Lib.hid (fun W => may33 f W hf)
  have HRA := Lib.hid h
  have HSB : Hid (∀ d ∈ L, blockOf d.sv ≠ some (w.heap.size + 1)) := Lib.hid (fun d hd e => by have := ((h.nds d hd).lt e).1; omega)
  have HB : Hid (∀ C C' : Obj, Below w.heap.size w ((w.alloc C).alloc C')) := Lib.hid (fun C C' => ((Below.refl _ w).alloc (Nat.le_refl _) _).alloc (by simp) _)
  unfold adr at HM ⊢
  go_enter Try.func20, Try.ntmps20
  go_wp2_with fail
  refine (HM.out _).mono ?_
  rintro e w1 ⟨rfl, hb⟩
  have HB1 : Hid (Below w.heap.size w w1) := Lib.hid ((HB.out _ _).trans (hb.mono (by simp; omega)))
  have n1 : w1.heap[w.heap.size]? = some (.cells #[.int .u32 f.1, .int .i64 f.2] 38 (0, 0)) := by
    refine (hb.block _ (by simp; omega)).trans ?_
    have b3 : Below (w.heap.size + 1) (w.alloc (.cells #[.int .u32 f.1, .int .i64 f.2] 38)) ((w.alloc (.cells #[.int .u32 f.1, .int .i64 f.2] 38)).alloc (.cells #[.int .u32 0, .int .i64 0] 38)) := (Below.refl _ _).alloc (by simp) _
    exact (b3.block _ (by omega)).trans (World.alloc_heap_new w _)
  have n2 : w1.heap[w.heap.size + 1]? = some (.cells #[.int .u32 0, .int .i64 0] 38 (0, 0)) := by
    refine (hb.block _ (by simp)).trans ?_
    have := World.alloc_heap_new (w.alloc (.cells #[.int .u32 f.1, .int .i64 f.2] 38)) (.cells #[.int .u32 0, .int .i64 0] 38)
    rwa [World.size_alloc] at this
  have HN1 := Lib.hid n1
  have HN2 := Lib.hid n2
  clear hb n1 n2
  have HR1 := Lib.hid (HRA.out.below HB1.out)
  cases hmf : mayA f with
  | false =>
    have HMF := Lib.hid hmf
    clear hmf
    obtain ⟨y0, y1⟩ : w1.cell? ⟨w.heap.size + 1, 0, none⟩ = some (.int .u32 0) ∧ w1.cell? ⟨w.heap.size + 1, 1, none⟩ = some (.int .i64 0) := ⟨(cells_of HN2.out 0).1, (cells_of HN2.out 1).1⟩
    have f0 := (cells_of HN2.out 0).2
    have f1 := (cells_of HN2.out 1).2
    have hl1 : w.heap.size + 1 < w1.heap.size := (Array.getElem?_eq_some_iff.1 HN2.out).1
    go_wp2
    obtain ⟨w9, hw9⟩ : ∃ w9, put2 w1 (w.heap.size + 1) (0, 0) = w9 := ⟨_, rfl⟩
    obtain ⟨z0, z1⟩ := put2_at HN2.out (0, 0)
    have HFIN := RStep.put2 (RStep.same HRA.out HB1.out) (w.heap.size + 1) (0, 0) (by omega) HN2.out HSB.out
    rw [hw9] at z0 z1 HFIN
    unfold put2 at hw9
    dsimp only at hw9
    rw [hw9]
    exact ⟨rfl, ansA (0, 0) 1, by simp [results, Try.results20, go_sem, z0, z1, ansA, adr], .inr ⟨by simp [HMF.out], rfl, HFIN⟩⟩
  | true =>
    have HMF := Lib.hid hmf
    clear hmf
    cases hgo : goes now t with
    | false =>
      have HGO := Lib.hid hgo
      have HC := Lib.hid (on_no HR1.out t hgo)
      clear hgo
      go_wp2_with fail
      refine HC.out.mono ?_
      rintro e w2 ⟨rfl, rfl⟩
      obtain ⟨y0, y1⟩ : w1.cell? ⟨w.heap.size + 1, 0, none⟩ = some (.int .u32 0) ∧ w1.cell? ⟨w.heap.size + 1, 1, none⟩ = some (.int .i64 0) := ⟨(cells_of HN2.out 0).1, (cells_of HN2.out 1).1⟩
      have f0 := (cells_of HN2.out 0).2
      have f1 := (cells_of HN2.out 1).2
      have hl1 : w.heap.size + 1 < w1.heap.size := (Array.getElem?_eq_some_iff.1 HN2.out).1
      go_wp2
      obtain ⟨w9, hw9⟩ : ∃ w9, put2 w1 (w.heap.size + 1) (0, 0) = w9 := ⟨_, rfl⟩
      obtain ⟨z0, z1⟩ := put2_at HN2.out (0, 0)
      have HFIN := RStep.put2 (RStep.same HRA.out HB1.out) (w.heap.size + 1) (0, 0) (by omega) HN2.out HSB.out
      rw [hw9] at z0 z1 HFIN
      unfold put2 at hw9
      dsimp only at hw9
      rw [hw9]
      exact ⟨rfl, ansA (0, 0) 1, by simp [results, Try.results20, go_sem, z0, z1, ansA, adr], .inr ⟨by simp [HGO.out], rfl, HFIN⟩⟩
    | true =>
      have HGO := Lib.hid hgo
      have HC := Lib.hid (on_yes HR1.out t hgo hL)
      clear hgo
      go_wp2_with fail
      refine HC.out.mono ?_
      rintro e w2 ⟨rfl, v', hr2, hv', hk2⟩
      have hlt := HRA.out.lt
      have HN1' : Hid (w2.heap[w.heap.size]? = _) := Lib.hid ((hk2.block _ (by have := (Array.getElem?_eq_some_iff.1 HN1.out).1; omega) (by omega)).trans HN1.out)
      have HN2' : Hid (w2.heap[w.heap.size + 1]? = _) := Lib.hid ((hk2.block _ (by have := (Array.getElem?_eq_some_iff.1 HN2.out).1; omega) (by omega)).trans HN2.out)
      have HST : Hid (∀ w', Below w2.heap.size w2 w' → RStep w w' rb x v L t (liveR L t)) := Lib.hid (fun w' hb => RStep.on HRA.out HB1.out hr2 hv' hk2 hb)
      have HR2 := Lib.hid hr2
      have HSB2 : Hid (∀ d ∈ liveR L t, blockOf d.sv ≠ some (w.heap.size + 1)) := Lib.hid (fun d hd => HSB.out d (List.mem_filter.1 hd).1)
      clear hr2 hv' hk2 HN1 HN2 HC HM HB
      obtain ⟨LL, hLL⟩ : ∃ LL, liveR L t = LL := ⟨_, rfl⟩
      rw [hLL] at HST HR2 HSB2
      have HLL := Lib.hid hLL
      clear hLL
      obtain ⟨A, c, rfl, hlc, hcm, hnil, -⟩ := HR2.out.form
      unfold maxLen at hcm
      obtain ⟨n, hn⟩ : ∃ n, LL.length = n := ⟨_, rfl⟩
      have HN := Lib.hid hn
      rw [hn] at hlc hnil HR2
      clear hn
      go_wp2
      go_loopw [10] (fun i wr => ∃ k : Nat, k ≤ n ∧ i = .int .i64 (k : Int) ∧ Below w2.heap.size w2 wr ∧ ∀ j e, j < k → LL[j]? = some e → inP x p f e.b = false) (fun i _ => n - (intOf i).toNat)
      case atStart => exact ⟨0, by omega, rfl, Below.refl _ _, fun j e h => by omega⟩
      case round =>
        obtain ⟨k, hk, rfl, hbr, hno⟩ := hrel
        have HBR := Lib.hid hbr
        have HNO := Lib.hid hno
        have HRR := Lib.hid (HR2.out.below hbr)
        obtain ⟨⟨-, -, -, -, d4, -, -⟩, d7, -, -⟩ := HRR.out.cells
        have hlr := HRR.out.lt
        clear hbr hno
        by_cases hkn : k < n
        · obtain ⟨d, hd⟩ : ∃ d, LL[k]? = some d := ⟨_, List.getElem?_eq_getElem (by have := HN.out; omega)⟩
          obtain ⟨g, c', e1, _, _, hat, -, hgl⟩ := HRR.out.at hd
          cases e1
          have HD := Lib.hid hd
          have HSV := Lib.hid (HRR.out.nds d (List.mem_of_getElem? hd))
          have a0 : wr.cell? ⟨g, k * 8, none⟩ = some (.int .u32 d.b.inn.1) := hat 0 (by omega)
          have a1 : wr.cell? ⟨g, k * 8 + 1, none⟩ = some (.int .i64 d.b.inn.2) := hat 1 (by omega)
          have a2 : wr.cell? ⟨g, k * 8 + 2, none⟩ = some (.int .u32 d.b.to.1) := hat 2 (by omega)
          have a3 : wr.cell? ⟨g, k * 8 + 3, none⟩ = some (.int .i64 d.b.to.2) := hat 3 (by omega)
          have a4 : wr.cell? ⟨g, k * 8 + 4, none⟩ = some (.int .i64 d.b.port) := hat 4 (by omega)
          have a5 : wr.cell? ⟨g, k * 8 + 5, none⟩ = some (.int .i64 d.b.until_) := hat 5 (by omega)
          have a6 : wr.cell? ⟨g, k * 8 + 6, none⟩ = some (.bool d.b.asked) := hat 6 (by omega)
          have a7 : wr.cell? ⟨g, k * 8 + 7, none⟩ = some d.sv := hat 7 (by omega)
          obtain ⟨As, cs, es, hs1, hs2, -⟩ := HSV.out
          unfold maxLen at hs2
          rw [es] at a7
          have HES := Lib.hid es
          have HSTEP : Hid (inP x p f d.b = false → ∀ j e, j < k + 1 → LL[j]? = some e → inP x p f e.b = false) := Lib.hid (fun hf j e hj he => by
            rcases Nat.lt_or_ge j k with h' | h'
            · exact HNO.out j e h' he
            · obtain rfl : j = k := by omega
              rw [HD.out] at he
              cases he
              exact hf)
          have HBA : Hid (∀ o : Obj, Below w2.heap.size w2 (wr.alloc o)) := Lib.hid (fun o => HBR.out.alloc HBR.out.size o)
          clear hat hd es
          by_cases hp : d.b.port = p
          case neg =>
            have tp1 : (d.b.port != p) = true := by simpa using hp
            have HF : Hid (inP x p f d.b = false) := Lib.hid (by unfold inP; simp [hp])
            clear hp
            go_wp2
            go_roundw
            case rel => exact ⟨k + 1, by omega, by go_num, HBA.out _, HSTEP.out HF.out⟩
            case measure => simp [intOf]; omega
          case pos =>
            have tp1 : (d.b.port != p) = false := by simpa using hp
            have HSV3 : Hid (∀ o : Obj, SeenAt (wr.alloc o) d.sv d.b.seen) := Lib.hid (fun o => HSV.out.kept (fun k hk => ((Below.refl wr.heap.size wr).alloc (Nat.le_refl _) o).block k (HSV.out.lt hk).1))
            have HCL : Hid (∀ o : Obj, (wr.alloc o).cell? ⟨rb, 4, none⟩ = some (.int .i64 x.filter) ∧ ((wr.alloc o).cell? ⟨w.heap.size, 0, none⟩ = some (.int .u32 f.1) ∧ (wr.alloc o).cell? ⟨w.heap.size, 1, none⟩ = some (.int .i64 f.2)) ∧ (wr.alloc o).heap[w.heap.size + 1]? = some (.cells #[.int .u32 0, .int .i64 0] 38 (0, 0))) := Lib.hid (fun o => by
              have hb := HBA.out o
              have h1 : (wr.alloc o).heap[w.heap.size]? = _ := (hb.block _ (Array.getElem?_eq_some_iff.1 HN1'.out).1).trans HN1'.out
              exact ⟨(HRR.out.below ((Below.refl _ wr).alloc (Nat.le_refl _) o)).cells.1.2.2.2.2.1, ⟨(cells_of h1 0).1, (cells_of h1 1).1⟩, (hb.block _ (Array.getElem?_eq_some_iff.1 HN2'.out).1).trans HN2'.out⟩)
            have HPORT := Lib.hid hp
            clear hp
            cases hsd : d.b.asked with
            | false =>
              rw [hsd] at a6
              have HOKB : Hid (okB x.filter f d.b = ((x.filter == 0) || d.b.seen.any (okA x.filter f))) := Lib.hid (by unfold okB; rw [hsd]; simp)
              clear hsd
              obtain ⟨m, hm⟩ : ∃ m, d.b.seen.length = m := ⟨_, rfl⟩
              have HM2 := Lib.hid hm
              rw [hm] at a7 HES hs1
              clear hm
              have HX : Hid ((wr.alloc (.cells #[.int .u32 d.b.inn.1, .int .i64 d.b.inn.2, .int .u32 d.b.to.1, .int .i64 d.b.to.2, .int .i64 d.b.port, .int .i64 d.b.until_, .bool false, .slice As m cs] 104)).heap[wr.heap.size]? = some (.cells #[.int .u32 d.b.inn.1, .int .i64 d.b.inn.2, .int .u32 d.b.to.1, .int .i64 d.b.to.2, .int .i64 d.b.port, .int .i64 d.b.until_, .bool false, .slice As m cs] 104 (0, 0))) := Lib.hid (World.alloc_heap_new wr _)
              have HS3 := Lib.hid (HSV3.out (.cells #[.int .u32 d.b.inn.1, .int .i64 d.b.inn.2, .int .u32 d.b.to.1, .int .i64 d.b.to.2, .int .i64 d.b.port, .int .i64 d.b.until_, .bool false, .slice As m cs] 104))
              have HC3 := Lib.hid (HCL.out (.cells #[.int .u32 d.b.inn.1, .int .i64 d.b.inn.2, .int .u32 d.b.to.1, .int .i64 d.b.to.2, .int .i64 d.b.port, .int .i64 d.b.until_, .bool false, .slice As m cs] 104))
              have HB3 := Lib.hid (HBA.out (.cells #[.int .u32 d.b.inn.1, .int .i64 d.b.inn.2, .int .u32 d.b.to.1, .int .i64 d.b.to.2, .int .i64 d.b.port, .int .i64 d.b.until_, .bool false, .slice As m cs] 104))
              have hgx := wr.heap.size
              clear hgx HSV3 HCL HBA
              go_wp2
              generalize (wr.alloc (.cells #[.int .u32 d.b.inn.1, .int .i64 d.b.inn.2, .int .u32 d.b.to.1, .int .i64 d.b.to.2, .int .i64 d.b.port, .int .i64 d.b.until_, .bool false, .slice As m cs] 104)) = W3 at *
              obtain ⟨g4, ⟨g5, g6⟩, -⟩ := HC3.out
              obtain ⟨b0, b1, b7⟩ : W3.cell? ⟨wr.heap.size, 0, none⟩ = some (.int .u32 d.b.inn.1) ∧ W3.cell? ⟨wr.heap.size, 1, none⟩ = some (.int .i64 d.b.inn.2) ∧ W3.cell? ⟨wr.heap.size, 7, none⟩ = some (.slice As m cs) := ⟨(cells_of HX.out 0).1, (cells_of HX.out 1).1, (cells_of HX.out 7).1⟩
              have lx : wr.heap.size < W3.heap.size := (Array.getElem?_eq_some_iff.1 HX.out).1
              clear a0 a1 a2 a3 a4 a5 a6 a7 tp1
              go_loopw [13, 12] (fun i o wx => ∃ k2 q : Nat, k2 ≤ m ∧ i = .int .i64 (k2 : Int) ∧ o = .bool ((x.filter == 0) || (d.b.seen.take k2).any (okA x.filter f)) ∧ wx = W3.drewN q) (fun i _ _ => m - (intOf i).toNat)
              case atStart => exact ⟨0, 0, by omega, rfl, by simp, rfl⟩
              case round =>
                obtain ⟨k2, q, hk2', rfl, rfl, rfl⟩ := hrel
                by_cases hkm : k2 < m
                · obtain ⟨a, ha⟩ : ∃ a, d.b.seen[k2]? = some a := ⟨_, List.getElem?_eq_getElem (by have := HM2.out; omega)⟩
                  obtain ⟨bs, off, cs', es', _, _, hbs, s0, s1⟩ := seen_at HS3.out ha
                  have HT : Hid (((x.filter == 0) || (d.b.seen.take (k2 + 1)).any (okA x.filter f)) = (((x.filter == 0) || (d.b.seen.take k2).any (okA x.filter f)) || okA x.filter f a)) := Lib.hid (by
                    rw [List.take_add_one, ha, List.any_append]
                    simp [Bool.or_assoc])
                  rw [HES.out, HM2.out] at es'
                  cases es'
                  have hq := fun W => eq_adr a f W
                  have HOA : Hid (okA x.filter f a = (decide (a = f) || ((x.filter == 1) && (a.1 == f.1)))) := Lib.hid rfl
                  clear ha
                  generalize ((x.filter == 0) || (d.b.seen.take k2).any (okA x.filter f)) = bb at *
                  generalize okA x.filter f a = oa at *
                  cases hu : decide (a = f) with
                  | true =>
                    rw [hu] at hq HOA
                    clear hu
                    go_wp2
                    go_quiet (fail)
                    go_wp2
                    go_roundw
                    case rel => exact ⟨k2 + 1, _, by omega, by go_num, by rw [HT.out, HOA.out]; simp, rfl⟩
                    case measure => simp [intOf]; omega
                  | false =>
                    rw [hu] at hq HOA
                    clear hu
                    by_cases hf1 : x.filter = 1
                    · rw [hf1] at g4
                      have e1 : (x.filter == 1) = true := by simpa using hf1
                      rw [e1] at HOA
                      clear e1 hf1
                      by_cases hh : a.1 = f.1
                      · have t1 : (a.1 == f.1) = true := by simpa using hh
                        rw [t1] at HOA
                        clear hh
                        go_wp2
                        go_quiet (fail)
                        go_wp2
                        go_roundw
                        case rel => exact ⟨k2 + 1, _, by omega, by go_num, by rw [HT.out, HOA.out]; simp, rfl⟩
                        case measure => simp [intOf]; omega
                      · have t1 : (a.1 == f.1) = false := by simpa using hh
                        have t2 : decide (a.1 = f.1) = false := decide_eq_false hh
                        rw [t1] at HOA
                        clear hh
                        go_wp2
                        go_quiet (fail)
                        go_wp2
                        go_roundw
                        case rel => exact ⟨k2 + 1, _, by omega, by go_num, by rw [HT.out, HOA.out]; simp, rfl⟩
                        case measure => simp [intOf]; omega
                    · have t1 : (x.filter == 1) = false := by simpa using hf1
                      have t2 : decide (x.filter = 1) = false := decide_eq_false hf1
                      rw [t1] at HOA
                      clear hf1
                      go_wp2
                      go_quiet (fail)
                      go_wp2
                      go_roundw
                      case rel => exact ⟨k2 + 1, _, by omega, by go_num, by rw [HT.out, HOA.out]; simp, rfl⟩
                      case measure => simp [intOf]; omega
                · have e : d.b.seen.take k2 = d.b.seen := List.take_of_length_le (by have := HM2.out; omega)
                  rw [e]
                  clear e
                  have HBQ : Hid (Below w2.heap.size w2 (W3.drewN q)) := Lib.hid (below_drw HB3.out q)
                  rw [← HOKB.out]
                  cases hok : okB x.filter f d.b with
                  | false =>
                    have HF : Hid (inP x p f d.b = false) := Lib.hid (by unfold inP; rw [hok]; simp)
                    clear hok
                    go_wp2
                    go_roundw
                    case rel => exact ⟨k + 1, by omega, by go_num, HBQ.out, HSTEP.out HF.out⟩
                    case measure => simp [intOf]; omega
                  | true =>
                    have HF : Hid (refIn x (LL.map Rb.b) p f = (d.b.inn, 0)) := Lib.hid (by
                      unfold refIn
                      rw [find_at HD.out (by unfold inP; rw [hok, HPORT.out]; simp) HNO.out])
                    have HN3 : Hid ((W3.drewN q).heap[w.heap.size + 1]? = some (.cells #[.int .u32 0, .int .i64 0] 38 (0, 0))) := Lib.hid HC3.out.2.2
                    obtain ⟨y0, y1⟩ : W3.cell? ⟨w.heap.size + 1, 0, none⟩ = some (.int .u32 0) ∧ W3.cell? ⟨w.heap.size + 1, 1, none⟩ = some (.int .i64 0) := ⟨(cells_of HC3.out.2.2 0).1, (cells_of HC3.out.2.2 1).1⟩
                    have f0 := (cells_of HC3.out.2.2 0).2
                    have f1 := (cells_of HC3.out.2.2 1).2
                    have hl1 : w.heap.size + 1 < W3.heap.size := (Array.getElem?_eq_some_iff.1 HC3.out.2.2).1
                    clear hok
                    go_wp2
                    obtain ⟨w9, hw9⟩ : ∃ w9, put2 (W3.drewN q) (w.heap.size + 1) d.b.inn = w9 := ⟨_, rfl⟩
                    obtain ⟨z0, z1⟩ := put2_at HN3.out d.b.inn
                    have HFIN := RStep.put2 (HST.out _ HBQ.out) (w.heap.size + 1) d.b.inn (by omega) HN3.out HSB2.out
                    rw [hw9] at z0 z1 HFIN
                    unfold put2 at hw9
                    try rw [hw9]
                    exact ⟨rfl, ansA d.b.inn 0, by simp [results, Try.results20, go_sem, z0, z1, ansA, adr], .inl ⟨HMF.out, HGO.out, by rw [HLL.out, HF.out], by rw [HLL.out]; exact HFIN⟩⟩
            | true =>
              rw [hsd] at a6
              have HOKB : Hid (okB x.filter f d.b = (true || d.b.seen.any (okA x.filter f))) := Lib.hid (by unfold okB; rw [hsd]; simp)
              clear hsd
              obtain ⟨m, hm⟩ : ∃ m, d.b.seen.length = m := ⟨_, rfl⟩
              have HM2 := Lib.hid hm
              rw [hm] at a7 HES hs1
              clear hm
              have HX : Hid ((wr.alloc (.cells #[.int .u32 d.b.inn.1, .int .i64 d.b.inn.2, .int .u32 d.b.to.1, .int .i64 d.b.to.2, .int .i64 d.b.port, .int .i64 d.b.until_, .bool true, .slice As m cs] 104)).heap[wr.heap.size]? = some (.cells #[.int .u32 d.b.inn.1, .int .i64 d.b.inn.2, .int .u32 d.b.to.1, .int .i64 d.b.to.2, .int .i64 d.b.port, .int .i64 d.b.until_, .bool true, .slice As m cs] 104 (0, 0))) := Lib.hid (World.alloc_heap_new wr _)
              have HS3 := Lib.hid (HSV3.out (.cells #[.int .u32 d.b.inn.1, .int .i64 d.b.inn.2, .int .u32 d.b.to.1, .int .i64 d.b.to.2, .int .i64 d.b.port, .int .i64 d.b.until_, .bool true, .slice As m cs] 104))
              have HC3 := Lib.hid (HCL.out (.cells #[.int .u32 d.b.inn.1, .int .i64 d.b.inn.2, .int .u32 d.b.to.1, .int .i64 d.b.to.2, .int .i64 d.b.port, .int .i64 d.b.until_, .bool true, .slice As m cs] 104))
              have HB3 := Lib.hid (HBA.out (.cells #[.int .u32 d.b.inn.1, .int .i64 d.b.inn.2, .int .u32 d.b.to.1, .int .i64 d.b.to.2, .int .i64 d.b.port, .int .i64 d.b.until_, .bool true, .slice As m cs] 104))
              have hgx := wr.heap.size
              clear hgx HSV3 HCL HBA
              go_wp2
              generalize (wr.alloc (.cells #[.int .u32 d.b.inn.1, .int .i64 d.b.inn.2, .int .u32 d.b.to.1, .int .i64 d.b.to.2, .int .i64 d.b.port, .int .i64 d.b.until_, .bool true, .slice As m cs] 104)) = W3 at *
              obtain ⟨g4, ⟨g5, g6⟩, -⟩ := HC3.out
              obtain ⟨b0, b1, b7⟩ : W3.cell? ⟨wr.heap.size, 0, none⟩ = some (.int .u32 d.b.inn.1) ∧ W3.cell? ⟨wr.heap.size, 1, none⟩ = some (.int .i64 d.b.inn.2) ∧ W3.cell? ⟨wr.heap.size, 7, none⟩ = some (.slice As m cs) := ⟨(cells_of HX.out 0).1, (cells_of HX.out 1).1, (cells_of HX.out 7).1⟩
              have lx : wr.heap.size < W3.heap.size := (Array.getElem?_eq_some_iff.1 HX.out).1
              clear a0 a1 a2 a3 a4 a5 a6 a7 tp1
              go_loopw [13, 12] (fun i o wx => ∃ k2 q : Nat, k2 ≤ m ∧ i = .int .i64 (k2 : Int) ∧ o = .bool (true || (d.b.seen.take k2).any (okA x.filter f)) ∧ wx = W3.drewN q) (fun i _ _ => m - (intOf i).toNat)
              case atStart => exact ⟨0, 0, by omega, rfl, by simp, rfl⟩
              case round =>
                obtain ⟨k2, q, hk2', rfl, rfl, rfl⟩ := hrel
                by_cases hkm : k2 < m
                · obtain ⟨a, ha⟩ : ∃ a, d.b.seen[k2]? = some a := ⟨_, List.getElem?_eq_getElem (by have := HM2.out; omega)⟩
                  obtain ⟨bs, off, cs', es', _, _, hbs, s0, s1⟩ := seen_at HS3.out ha
                  have HT : Hid ((true || (d.b.seen.take (k2 + 1)).any (okA x.filter f)) = ((true || (d.b.seen.take k2).any (okA x.filter f)) || okA x.filter f a)) := Lib.hid (by
                    rw [List.take_add_one, ha, List.any_append]
                    simp [Bool.or_assoc])
                  rw [HES.out, HM2.out] at es'
                  cases es'
                  have hq := fun W => eq_adr a f W
                  have HOA : Hid (okA x.filter f a = (decide (a = f) || ((x.filter == 1) && (a.1 == f.1)))) := Lib.hid rfl
                  clear ha
                  generalize (true || (d.b.seen.take k2).any (okA x.filter f)) = bb at *
                  generalize okA x.filter f a = oa at *
                  cases hu : decide (a = f) with
                  | true =>
                    rw [hu] at hq HOA
                    clear hu
                    go_wp2
                    go_quiet (fail)
                    go_wp2
                    go_roundw
                    case rel => exact ⟨k2 + 1, _, by omega, by go_num, by rw [HT.out, HOA.out]; simp, rfl⟩
                    case measure => simp [intOf]; omega
                  | false =>
                    rw [hu] at hq HOA
                    clear hu
                    by_cases hf1 : x.filter = 1
                    · rw [hf1] at g4
                      have e1 : (x.filter == 1) = true := by simpa using hf1
                      rw [e1] at HOA
                      clear e1 hf1
                      by_cases hh : a.1 = f.1
                      · have t1 : (a.1 == f.1) = true := by simpa using hh
                        rw [t1] at HOA
                        clear hh
                        go_wp2
                        go_quiet (fail)
                        go_wp2
                        go_roundw
                        case rel => exact ⟨k2 + 1, _, by omega, by go_num, by rw [HT.out, HOA.out]; simp, rfl⟩
                        case measure => simp [intOf]; omega
                      · have t1 : (a.1 == f.1) = false := by simpa using hh
                        have t2 : decide (a.1 = f.1) = false := decide_eq_false hh
                        rw [t1] at HOA
                        clear hh
                        go_wp2
                        go_quiet (fail)
                        go_wp2
                        go_roundw
                        case rel => exact ⟨k2 + 1, _, by omega, by go_num, by rw [HT.out, HOA.out]; simp, rfl⟩
                        case measure => simp [intOf]; omega
                    · have t1 : (x.filter == 1) = false := by simpa using hf1
                      have t2 : decide (x.filter = 1) = false := decide_eq_false hf1
                      rw [t1] at HOA
                      clear hf1
                      go_wp2
                      go_quiet (fail)
                      go_wp2
                      go_roundw
                      case rel => exact ⟨k2 + 1, _, by omega, by go_num, by rw [HT.out, HOA.out]; simp, rfl⟩
                      case measure => simp [intOf]; omega
                · have e : d.b.seen.take k2 = d.b.seen := List.take_of_length_le (by have := HM2.out; omega)
                  rw [e]
                  clear e
                  have HBQ : Hid (Below w2.heap.size w2 (W3.drewN q)) := Lib.hid (below_drw HB3.out q)
                  rw [← HOKB.out]
                  cases hok : okB x.filter f d.b with
                  | false =>
                    have HF : Hid (inP x p f d.b = false) := Lib.hid (by unfold inP; rw [hok]; simp)
                    clear hok
                    go_wp2
                    go_roundw
                    case rel => exact ⟨k + 1, by omega, by go_num, HBQ.out, HSTEP.out HF.out⟩
                    case measure => simp [intOf]; omega
                  | true =>
                    have HF : Hid (refIn x (LL.map Rb.b) p f = (d.b.inn, 0)) := Lib.hid (by
                      unfold refIn
                      rw [find_at HD.out (by unfold inP; rw [hok, HPORT.out]; simp) HNO.out])
                    have HN3 : Hid ((W3.drewN q).heap[w.heap.size + 1]? = some (.cells #[.int .u32 0, .int .i64 0] 38 (0, 0))) := Lib.hid HC3.out.2.2
                    obtain ⟨y0, y1⟩ : W3.cell? ⟨w.heap.size + 1, 0, none⟩ = some (.int .u32 0) ∧ W3.cell? ⟨w.heap.size + 1, 1, none⟩ = some (.int .i64 0) := ⟨(cells_of HC3.out.2.2 0).1, (cells_of HC3.out.2.2 1).1⟩
                    have f0 := (cells_of HC3.out.2.2 0).2
                    have f1 := (cells_of HC3.out.2.2 1).2
                    have hl1 : w.heap.size + 1 < W3.heap.size := (Array.getElem?_eq_some_iff.1 HC3.out.2.2).1
                    clear hok
                    go_wp2
                    obtain ⟨w9, hw9⟩ : ∃ w9, put2 (W3.drewN q) (w.heap.size + 1) d.b.inn = w9 := ⟨_, rfl⟩
                    obtain ⟨z0, z1⟩ := put2_at HN3.out d.b.inn
                    have HFIN := RStep.put2 (HST.out _ HBQ.out) (w.heap.size + 1) d.b.inn (by omega) HN3.out HSB2.out
                    rw [hw9] at z0 z1 HFIN
                    unfold put2 at hw9
                    try rw [hw9]
                    exact ⟨rfl, ansA d.b.inn 0, by simp [results, Try.results20, go_sem, z0, z1, ansA, adr], .inl ⟨HMF.out, HGO.out, by rw [HLL.out, HF.out], by rw [HLL.out]; exact HFIN⟩⟩
        · have HNONE : Hid (refIn x (LL.map Rb.b) p f = ((0, 0), 8)) := Lib.hid (by
            unfold refIn
            rw [find_none (fun e he => by
              obtain ⟨j, hj, e2⟩ := List.getElem_of_mem he
              exact HNO.out j e (by have := HN.out; omega) (by rw [List.getElem?_eq_getElem hj, e2]))])
          have hB := HBR.out
          have HN3 : Hid (wr.heap[w.heap.size + 1]? = some (.cells #[.int .u32 0, .int .i64 0] 38 (0, 0))) := Lib.hid ((hB.block _ (Array.getElem?_eq_some_iff.1 HN2'.out).1).trans HN2'.out)
          obtain ⟨y0, y1⟩ : wr.cell? ⟨w.heap.size + 1, 0, none⟩ = some (.int .u32 0) ∧ wr.cell? ⟨w.heap.size + 1, 1, none⟩ = some (.int .i64 0) := ⟨(cells_of HN3.out 0).1, (cells_of HN3.out 1).1⟩
          have f0 := (cells_of HN3.out 0).2
          have f1 := (cells_of HN3.out 1).2
          have hl1 : w.heap.size + 1 < wr.heap.size := (Array.getElem?_eq_some_iff.1 HN3.out).1
          clear hB
          go_wp2
          obtain ⟨w9, hw9⟩ : ∃ w9, put2 wr (w.heap.size + 1) (0, 0) = w9 := ⟨_, rfl⟩
          obtain ⟨z0, z1⟩ := put2_at HN3.out (0, 0)
          have HFIN := RStep.put2 (HST.out _ HBR.out) (w.heap.size + 1) (0, 0) (by omega) HN3.out HSB2.out
          rw [hw9] at z0 z1 HFIN
          unfold put2 at hw9
          dsimp only at hw9
          rw [hw9]
          exact ⟨rfl, ansA (0, 0) 8, by simp [results, Try.results20, go_sem, z0, z1, ansA, adr], .inl ⟨HMF.out, HGO.out, by rw [HLL.out, HNONE.out], by rw [HLL.out]; exact HFIN⟩⟩
end Go.Proofs.Ytemlnkcokeckmaa
namespace Go.Proofs.Ytemlnkcokeckmaa
open Go.RowKit
attribute [local go_sem] Oper.semAt_some
set_option linter.unusedVariables false
set_option linter.unusedSimpArgs false

/-- a row at A (or none) reads as these bindings -/
def RowR (W : World) (A : Option Addr) (M : List Rb) (c : Nat) : Prop := (A = none ∧ M = [] ∧ c = 0) ∨ ∃ b off C, A = some ⟨b, off, none⟩ ∧ W.heap[b]? = some (.cells C 104 (0, 0)) ∧ ∀ j y, (cellsR M)[j]? = some y → C[off + j]? = some y
theorem cellsR_take (L : List Rb) (k j : Nat) (y : Value) (h : (cellsR (L.take k))[j]? = some y) : (cellsR L)[j]? = some y := by
  have e : cellsR L = cellsR (L.take k) ++ cellsR (L.drop k) := by rw [← cellsR_append, List.take_append_drop]
  rw [e, List.getElem?_append_left (List.getElem?_eq_some_iff.1 h).1]
  exact h
theorem RowR.kept {W W' : World} {A : Option Addr} {M : List Rb} {c : Nat} (h : RowR W A M c) (hk : ∀ a, A = some a → W'.heap[a.block]? = W.heap[a.block]?) : RowR W' A M c := by
  rcases h with h | ⟨b, off, C, rfl, h1, h2⟩
  · exact .inl h
  · exact .inr ⟨b, off, C, rfl, (hk _ rfl).trans h1, h2⟩
theorem RowR.lt {W : World} {a : Addr} {M : List Rb} {c : Nat} (h : RowR W (some a) M c) : a.block < W.heap.size := by
  rcases h with ⟨e, _⟩ | ⟨b, off, C, e, h1, _⟩
  · cases e
  · cases e; exact (Array.getElem?_eq_some_iff.1 h1).1
theorem RowR.below {W W' : World} {A : Option Addr} {M : List Rb} {c : Nat} (h : RowR W A M c) (hb : Below W.heap.size W W') : RowR W' A M c := h.kept (fun a e => by subst e; exact hb.block _ h.lt)
theorem RowR.news {W : World} {a : Addr} {c : Nat} {M : List Rb} (h : RowR W (some a) M c) : ∀ j u, (cellsR M)[j]? = some u → W.cell? (a.add j) = some u := by
  intro j u hj
  rcases h with ⟨e, _⟩ | ⟨b, off, C, e, h1, h2⟩
  · cases e
  · cases e
    rw [show (⟨b, off, none⟩ : Addr).add j = ⟨b, off + j, none⟩ by unfold Addr.add; split <;> simp_all, (cells_of h1 _).1]
    exact h2 j u hj
theorem RowR.take {W : World} {A : Option Addr} {c : Nat} {M : List Rb} (h : RowR W A M c) (k : Nat) : RowR W A (M.take k) c := by
  rcases h with ⟨h1, rfl, h3⟩ | ⟨b, off, C, rfl, h1, h2⟩
  · exact .inl ⟨h1, by simp, h3⟩
  · exact .inr ⟨b, off, C, rfl, h1, fun j y hj => h2 j y (cellsR_take M k j y hj)⟩
theorem RowR.drop {W : World} {b off c : Nat} {M : List Rb} (h : RowR W (some ⟨b, off, none⟩) M c) (k c' : Nat) : RowR W (some ⟨b, off + k * 8, none⟩) (M.drop k) c' := by
  rcases h with ⟨e, _⟩ | ⟨b', off', C, e, h1, h2⟩
  · cases e
  · cases e
    refine .inr ⟨_, _, C, rfl, h1, fun j y hj => ?_⟩
    rw [cellsR_drop] at hj
    rw [Nat.add_assoc]; exact h2 _ _ hj
theorem RowR.nil {W : World} {a : Addr} {M : List Rb} {c : Nat} (h : RowR W (some a) M c) (c' : Nat) : RowR W (some a) [] c' := by
  rcases h with ⟨e, _⟩ | ⟨b, off, C, e, h1, _⟩
  · cases e
  · cases e; exact .inr ⟨b, off, C, rfl, h1, fun j y hj => by simp [cellsR] at hj⟩
theorem Ra.rowR {w : World} {rb : Nat} {x : Bx} {now : Int} {v : Value} {L : List Rb} (h : Ra w rb x now v L) : ∃ A c, v = .slice A L.length c ∧ L.length ≤ c ∧ c ≤ maxLen ∧ (∀ a, A = some a → ∃ b, a = ⟨b, 0, none⟩) ∧ RowR w A L c := by
  rcases h.row.2 with ⟨h1, h2⟩ | ⟨g, cap, cur, h1, h2, h3, h4, h5, h6, h7⟩
  · exact ⟨none, 0, by rw [h1, h2], by omega, Nat.zero_le _, (fun a e => by cases e), .inl ⟨rfl, List.eq_nil_of_length_eq_zero h2, rfl⟩⟩
  · refine ⟨_, cap, h1, h4, h5, (fun a e => by cases e; exact ⟨g, rfl⟩), .inr ⟨g, 0, cur, rfl, h3, fun j y hj => ?_⟩⟩
    have hl := (List.getElem?_eq_some_iff.1 hj).1
    rw [cellsR_len] at hl
    rw [← h7, List.getElem?_take_of_lt hl] at hj
    rw [Nat.zero_add]; simpa using hj

/-- a row of the call's own, at g, with the bindings M -/
structure OwnR (N : Nat) (W : World) (g c : Nat) (M : List Rb) : Prop where
  own : W.ownsRow N 104 8 (.slice (some ⟨g, 0, none⟩) M.length c) M.length (cellsR M)
theorem OwnR.parts {N : Nat} {W : World} {g c : Nat} {M : List Rb} (h : OwnR N W g c M) : N ≤ g ∧ g < W.heap.size ∧ M.length ≤ c ∧ c ≤ maxLen := by
  rcases h.own.2 with ⟨e, _⟩ | ⟨g', cap, cur, e, h1, h2, h3, h4, h5, h6⟩
  · cases e
  · cases e
    exact ⟨h1, (Array.getElem?_eq_some_iff.1 h2).1, h3, h4⟩
theorem OwnR.lit {N : Nat} (W : World) (hN : N ≤ W.heap.size) : OwnR N (W.alloc (.cells #[] 104)) W.heap.size 0 [] :=
  ⟨World.ownsRow_lit W #[] 0 hN (Nat.zero_le _) rfl⟩
theorem OwnR.kept {N : Nat} {W W' : World} {g c : Nat} {M : List Rb} (h : OwnR N W g c M) (hg : W'.heap[g]? = W.heap[g]?) : OwnR N W' g c M := by
  refine ⟨h.own.1, ?_⟩
  rcases h.own.2 with e | ⟨g', cap, cur, e, h1, h2, h3⟩
  · exact .inl e
  · cases e
    exact .inr ⟨_, _, cur, rfl, h1, hg.trans h2, h3⟩
theorem OwnR.alloc {N : Nat} {W : World} {g c : Nat} {M : List Rb} (h : OwnR N W g c M) (o : Obj) : OwnR N (W.alloc o) g c M := h.kept (Below.heap_alloc W o g h.parts.2.1)
theorem cellsR_one {M : List Rb} (h : ∀ d ∈ M, d.sv.oneCell' = true) : ∀ u ∈ cellsR M, u.oneCell' = true := by
  intro u hu
  obtain ⟨d, hd, hu⟩ := List.mem_flatMap.1 hu
  simp only [rbCells, List.mem_cons, List.not_mem_nil, or_false] at hu
  rcases hu with rfl | rfl | rfl | rfl | rfl | rfl | rfl | rfl <;> first | rfl | exact h d hd

/-- 'append(l, m...)' of bindings onto a row of the call's own, as one step of a region that draws its order -/
theorem step_appR {W : World} {ops : Array Oper} {o : Oper} {a : Act} {K : Act → World → Prop} {Q : Exit → Act → World → Prop} {E : Prop} (hf : o.guard = none) (s x : Operand)
    (ho : o.op = .call { callee := .builtin .append, args := #[s, x], argTypes := #[34, 34] }) {N g c0 n : Nat} {M : List Rb} (hs : a.eval s = .slice (some ⟨g, 0, none⟩) n c0) (hO : OwnR N W g c0 M) (hn : M.length = n)
    {A : Option Addr} {m c : Nat} {M2 : List Rb} (hx : a.eval x = .slice A m c) (hR : RowR W A M2 c) (hm : M2.length = m) (h1c : ∀ d ∈ M2, d.sv.oneCell' = true) (hb : n + m ≤ 1000) (hN : N ≤ W.heap.size)
    (h : ∀ g' c' W', OwnR N W' g' c' (M ++ M2) → W.grownBy W' (some g) → (g' = g ∨ g' = W.heap.size) → K (a.put o.dst (.slice (some ⟨g', 0, none⟩) (n + m) c')) W') :
    if Region.wanted o (yielded ops a.tmps) = true then Oper.wp Try.prog o a W K Q else E := by
  subst hn; subst hm
  obtain ⟨i0, hi0, hz0, hz1, hz2⟩ := info_parts info78
  rw [if_pos (by simp [Region.wanted, hf])]
  cases A with
  | none =>
    rcases hR with ⟨_, rfl, rfl⟩ | ⟨b, off, C, e, _⟩
    · have hrun := run_append_owned_none (P := Try.prog) (w := W) N 34 o.type 104 i0 8 Try.underlying34 hi0 _ _ _ hO.own
      have hK := h g c0 W (by rw [List.append_nil]; exact hO) (World.grownBy.refl _ _) (.inl rfl)
      unfold Oper.wp
      simp [execOp, ho, resolve, invoke, builtin, hs, hx, hrun, Result.andThen]
      have hK2 : K (a.put o.dst (.slice (some ⟨g, 0, none⟩) M.length c0)) W := by simpa using hK
      exact hK2
    · cases e
  | some ad =>
    obtain ⟨v', W', hrun, r1, r2, r3, r4⟩ := run_append_own_at (P := Try.prog) (w := W) N 34 o.type 104 i0 _ 8 80 Try.underlying34 hi0 hz0 hz1 hz2 rfl (by decide) _ M.length (cellsR M) hO.own ad M2.length c (cellsR M2) (by rw [cellsR_len]) hR.news (cellsR_one h1c)
      (by unfold maxLen; omega) (by omega) hN
    obtain ⟨g', c', rfl⟩ : ∃ g' c', v' = .slice (some ⟨g', 0, none⟩) (M.length + M2.length) c' := by
      rcases r1.2 with ⟨e, _⟩ | ⟨g', cap, cur, e, _⟩
      · have := (r3.1 e).1; cases this
      · exact ⟨g', cap, e⟩
    have hK := h g' c' W' ⟨by rw [cellsR_append, List.length_append]; exact r1⟩ r2 (by
      rcases r4 with e | e
      · left; simpa [Value.ownBlock] using e
      · right; simpa [Value.ownBlock] using e)
    unfold Oper.wp
    simp [execOp, ho, resolve, invoke, builtin, hs, hx, hrun, Result.andThen]
    exact hK
theorem below_appR {w W W' : World} {N g : Nat} (h : Below N w W) (hg : W.grownBy W' (some g)) (hn : N ≤ g) (hs : N ≤ W.heap.size) : Below N w W' := h.trans ((Below.refl _ _).grown hg hs (fun r e => by cases e; exact hn))
/-- what an own row leaves, laid into the box: w the world at the call, w1 the one at which the box last stood, W the one behind the last append -/
theorem rrow_end {w w1 W : World} {rb : Nat} {x : Bx} {now now' : Int} {v v1 : Value} {L L1 M M' : List Rb} {g c n : Nat} (h : RStep w w1 rb x v L now' L1) (hN : ∀ d ∈ M, d ∈ L1 ∨ d.sv = .slice none 0 0 ∧ d.b.seen = []) (hb : Below w1.heap.size w1 W) (hO : OwnR w1.heap.size W g c M) (hn : M.length = n) (hM : M = M') :
    RStep w (W.setCell ⟨rb, 7, none⟩ (.slice (some ⟨g, 0, none⟩) n c)) rb x v L now' M' := by
  subst hn; subst hM
  obtain ⟨v', h1, h2, h3⟩ := h
  obtain ⟨p1, p2, p3, p4⟩ := hO.parts
  have hW := h1.below hb
  have hsv : ∀ d ∈ M, SeenAt W d.sv d.b.seen := fun d hd => by
    rcases hN d hd with h | ⟨h, h'⟩
    · exact hW.nds d h
    · rw [h, h']; exact SeenAt.nil _
  refine ⟨_, hW.setRow (Go.Joins.ownsRow_le hO.own (Nat.zero_le _)) hsv, ?_, fun k hk => ?_⟩
  · refine Keeps.set (S := fun k => k = rb ∨ v.ownBlock = some k) ?_ rb 7 _ (.inl rfl)
    exact h2.trans (.all hb)
  · rcases hk with rfl | hk | ⟨d, hd, hk⟩
    · exact .inl (.inl rfl)
    · right
      obtain rfl : g = k := by simpa [Value.ownBlock] using hk
      exact Nat.le_trans h2.size p1
    · rcases hN d hd with h | ⟨h, _⟩
      · exact h3 k (.inr (.inr ⟨d, h, hk⟩))
      · rw [h] at hk; cases hk
end Go.Proofs.Ytemlnkcokeckmaa
