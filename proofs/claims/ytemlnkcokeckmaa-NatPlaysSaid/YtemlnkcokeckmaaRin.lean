/-
  The document's own In. Conditions: the box stands in memory.
-/
import Derived.Test.YtemlnkcokeckmaaRfi
namespace Go.Proofs.Ytemlnkcokeckmaa
open Go.RowKit
attribute [local go_sem] Oper.semAt_some
set_option linter.unusedVariables false
set_option linter.unusedSimpArgs false

/-- what a call of the document's own leaves -/
def RStep (w w' : World) (rb : Nat) (x : Bx) (v : Value) (L : List Rb) (now' : Int) (L' : List Rb) : Prop :=
  ∃ v', Ra w' rb x now' v' L' ∧ Keeps (fun k => k = rb ∨ v.ownBlock = some k) w w' ∧ ∀ g, RFoot rb v' L' g → RFoot rb v L g ∨ w.heap.size ≤ g
theorem RStep.same {w w' : World} {rb : Nat} {x : Bx} {now : Int} {v : Value} {L : List Rb} (h : Ra w rb x now v L) (hb : Below w.heap.size w w') : RStep w w' rb x v L now L :=
  ⟨v, h.below hb, .all hb, fun g hg => .inl hg⟩
theorem RStep.on {w w1 w' : World} {rb : Nat} {x : Bx} {now t : Int} {v v' : Value} {L : List Rb} (h : Ra w rb x now v L) {w0 : World} (hb0 : Below w.heap.size w w0) (h1 : Ra w1 rb x t v' (liveR L t)) (hv : ∀ g, v'.ownBlock = some g → w0.heap.size ≤ g) (hk : Keeps (fun k => k = rb) w0 w1) (hb : Below w1.heap.size w1 w') : RStep w w' rb x v L t (liveR L t) := by
  refine ⟨v', h1.below hb, ?_, fun g hg => ?_⟩
  · refine ((Keeps.all hb0).then (hk.mono (S' := fun k => k = rb ∨ v.ownBlock = some k) (fun k _ e => .inl e)) (fun i _ e => e)).trans (.all hb)
  · rcases hg with rfl | hg | ⟨d, hd, hg⟩
    · exact .inl (.inl rfl)
    · exact .inr (Nat.le_trans hb0.size (hv g hg))
    · exact .inl (.inr (.inr ⟨d, (List.mem_filter.1 hd).1, hg⟩))
/-- does the document's own let one in -/
def okA (m : Int) (f a : A2) : Bool := decide (a = f) || ((m == 1) && (a.1 == f.1))
def okB (m : Int) (f : A2) (b : Bn) : Bool := (b.asked || (m == 0)) || b.seen.any (okA m f)
def inP (x : Bx) (p : Int) (f : A2) (b : Bn) : Bool := (b.port == p) && okB x.filter f b
def refIn (x : Bx) (M : List Bn) (p : Int) (f : A2) : A2 × Int := match M.find? (inP x p f) with
  | some b => (b.inn, 0)
  | none => ((0, 0), 8)
theorem seen_at {w : World} {sv : Value} {l : List A2} (h : SeenAt w sv l) {k : Nat} {a : A2} (hk : l[k]? = some a) : ∃ b off c, sv = .slice (some ⟨b, off, none⟩) l.length c ∧ l.length ≤ c ∧ c ≤ maxLen ∧ b < w.heap.size ∧ w.cell? ⟨b, off + k * 2, none⟩ = some (.int .u32 a.1) ∧ w.cell? ⟨b, off + k * 2 + 1, none⟩ = some (.int .i64 a.2) := by
  obtain ⟨A, c, rfl, h1, h2, h3, h4⟩ := h
  have hkl := (List.getElem?_eq_some_iff.1 hk).1
  cases A with
  | none => have := (h3 rfl).1; omega
  | some ad =>
    obtain ⟨b, off, C, rfl, h5, h6⟩ := h4 ad rfl
    refine ⟨b, off, c, rfl, h1, h2, (Array.getElem?_eq_some_iff.1 h5).1, ?_, ?_⟩
    · rw [(cells_of h5 _).1]; exact h6 _ _ (cellsA_at hk).1
    · rw [(cells_of h5 _).1, Nat.add_assoc]; exact h6 _ _ (cellsA_at hk).2

theorem find_at {P : Bn → Bool} : ∀ {L : List Rb} {k : Nat} {d : Rb}, L[k]? = some d → P d.b = true → (∀ j e, j < k → L[j]? = some e → P e.b = false) → (L.map Rb.b).find? P = some d.b
  | [], k, d, h, _, _ => by simp at h
  | c :: L, 0, d, h, h1, _ => by
    simp only [List.getElem?_cons_zero, Option.some.injEq] at h
    subst h
    simp [h1]
  | c :: L, k + 1, d, h, h1, h2 => by
    have h3 := h2 0 c (by omega) rfl
    rw [List.map_cons, List.find?_cons, h3]
    exact find_at (L := L) (by simpa using h) h1 (fun j e hj he => h2 (j + 1) e (by omega) (by simpa using he))
theorem find_none {P : Bn → Bool} {L : List Rb} (h : ∀ e ∈ L, P e.b = false) : (L.map Rb.b).find? P = none := by
  rw [List.find?_eq_none]
  intro b hb
  obtain ⟨e, he, rfl⟩ := List.mem_map.1 hb
  simp [h e he]
/-- an address is stored in a block of its own -/
def put2 (W : World) (g : Nat) (a : A2) : World := (W.setCell ⟨g, 0, none⟩ (.int .u32 a.1)).setCell ⟨g, 1, none⟩ (.int .i64 a.2)
theorem put2_at {W : World} {g : Nat} {u v : Value} (h : W.heap[g]? = some (.cells #[u, v] 38 (0, 0))) (a : A2) : (put2 W g a).cell? ⟨g, 0, none⟩ = some (.int .u32 a.1) ∧ (put2 W g a).cell? ⟨g, 1, none⟩ = some (.int .i64 a.2) := by
  have h2 : (put2 W g a).heap[g]? = some (.cells #[.int .u32 a.1, .int .i64 a.2] 38 (0, 0)) := by
    unfold put2
    rw [set_top (set_top h 0 _) 1 _]
    simp
  exact ⟨(cells_of h2 0).1, (cells_of h2 1).1⟩
theorem put2_below {b : Nat} {w W : World} {g : Nat} (h : Below b w W) (hg : b ≤ g) (a : A2) : Below b w (put2 W g a) := (h.setCell (p := ⟨g, 0, none⟩) hg _).setCell (p := ⟨g, 1, none⟩) hg _
theorem put2_else {W : World} {g k : Nat} {a : A2} (h : k ≠ g) : (put2 W g a).heap[k]? = W.heap[k]? := by
  unfold put2
  rw [set_else h, set_else h]
/-- .. and the document's box stands as it was -/
theorem RStep.put2 {w w' : World} {rb : Nat} {x : Bx} {v : Value} {L : List Rb} {now' : Int} {L' : List Rb} (h : RStep w w' rb x v L now' L') (g : Nat) (a : A2) (hg : w.heap.size ≤ g) {C : Array Value} (hC : w'.heap[g]? = some (.cells C 38 (0, 0))) (hs : ∀ d ∈ L', blockOf d.sv ≠ some g) : RStep w (Ytemlnkcokeckmaa.put2 w' g a) rb x v L now' L' := by
  obtain ⟨v', h1, h2, h3⟩ := h
  have hb : Below w.heap.size w' (Ytemlnkcokeckmaa.put2 w' g a) := put2_below (Below.refl _ _) hg a
  refine ⟨v', h1.kept (fun k hk => put2_else (fun e => ?_)), ⟨hb.os.trans h2.os, hb.tape.trans h2.tape, hb.output.trans h2.output, Nat.le_trans h2.size hb.size, fun k hk hn => (hb.block k hk).trans (h2.block k hk hn)⟩, h3⟩
  subst e
  rcases hk with rfl | hk | ⟨d, hd, hk⟩
  · exact clash h1.top hC (by decide)
  · obtain ⟨C', hC'⟩ := own_obj h1.row hk
    exact clash hC' hC (by decide)
  · exact hs d hd hk

set_option maxRecDepth 100000 in
set_option maxHeartbeats 8000000 in
theorem rin_any {w : World} {rb : Nat} {x : Bx} {now : Int} {v : Value} {L : List Rb} (h : Ra w rb x now v L) (t p : Int) (f : A2) (hf : isA f) (hL : L.length ≤ 100) :
    Calls Try.prog 20 #[.pointer (some ⟨rb, 0, none⟩), .int .i64 t, .int .i64 p, adr f] w fun e w' =>
      (mayA f = true ∧ goes now t = true ∧ e = .returned (ansA (refIn x ((liveR L t).map Rb.b) p f).1 (refIn x ((liveR L t).map Rb.b) p f).2) ∧ RStep w w' rb x v L t (liveR L t)) ∨
      (¬ (mayA f = true ∧ goes now t = true) ∧ e = .returned (ansA (0, 0) 1) ∧ RStep w w' rb x v L now L) := by
  have HM := Lib.hid (fun W => may33 f W hf)
  have HRA := Lib.hid h
  have HSB : Hid (∀ d ∈ L, blockOf d.sv ≠ some (w.heap.size + 1)) := Lib.hid (fun d hd e => by have := ((h.nds d hd).lt e).1; omega)
  have HB : Hid (∀ C C' : Obj, Below w.heap.size w ((w.alloc C).alloc C')) := Lib.hid (fun C C' => ((Below.refl _ w).alloc (Nat.le_refl _) _).alloc (by simp) _)
  unfold adr at HM ⊢
  go_enter Try.func20, Try.ntmps20
  go_wp2_with fail
  refine (HM.out _).mono ?_
  rintro e w1 ⟨rfl, hb⟩
  have HB1 : Hid (Below w.heap.size w w1) := Lib.hid ((HB.out _ _).trans (hb.mono (by simp; omega)))
  have n1 : w1.heap[w.heap.size]? = some (.cells #[.int .u32 f.1, .int .i64 f.2] 38 (0, 0)) := by
    refine (hb.block _ (by simp; omega)).trans ?_
    have b3 : Below (w.heap.size + 1) (w.alloc (.cells #[.int .u32 f.1, .int .i64 f.2] 38)) ((w.alloc (.cells #[.int .u32 f.1, .int .i64 f.2] 38)).alloc (.cells #[.int .u32 0, .int .i64 0] 38)) := (Below.refl _ _).alloc (by simp) _
    exact (b3.block _ (by omega)).trans (World.alloc_heap_new w _)
  have n2 : w1.heap[w.heap.size + 1]? = some (.cells #[.int .u32 0, .int .i64 0] 38 (0, 0)) := by
    refine (hb.block _ (by simp)).trans ?_
    have := World.alloc_heap_new (w.alloc (.cells #[.int .u32 f.1, .int .i64 f.2] 38)) (.cells #[.int .u32 0, .int .i64 0] 38)
    rwa [World.size_alloc] at this
  have HN1 := Lib.hid n1
  have HN2 := Lib.hid n2
  clear hb n1 n2
  have HR1 := Lib.hid (HRA.out.below HB1.out)
  cases hmf : mayA f with
  | false =>
    have HMF := Lib.hid hmf
    clear hmf
    obtain ⟨y0, y1⟩ : w1.cell? ⟨w.heap.size + 1, 0, none⟩ = some (.int .u32 0) ∧ w1.cell? ⟨w.heap.size + 1, 1, none⟩ = some (.int .i64 0) := ⟨(cells_of HN2.out 0).1, (cells_of HN2.out 1).1⟩
    have f0 := (cells_of HN2.out 0).2
    have f1 := (cells_of HN2.out 1).2
    have hl1 : w.heap.size + 1 < w1.heap.size := (Array.getElem?_eq_some_iff.1 HN2.out).1
    go_wp2
    obtain ⟨w9, hw9⟩ : ∃ w9, put2 w1 (w.heap.size + 1) (0, 0) = w9 := ⟨_, rfl⟩
    obtain ⟨z0, z1⟩ := put2_at HN2.out (0, 0)
    have HFIN := RStep.put2 (RStep.same HRA.out HB1.out) (w.heap.size + 1) (0, 0) (by omega) HN2.out HSB.out
    rw [hw9] at z0 z1 HFIN
    unfold put2 at hw9
    dsimp only at hw9
    rw [hw9]
    exact ⟨rfl, ansA (0, 0) 1, by simp [results, Try.results20, go_sem, z0, z1, ansA, adr], .inr ⟨by simp [HMF.out], rfl, HFIN⟩⟩
  | true =>
    have HMF := Lib.hid hmf
    clear hmf
    cases hgo : goes now t with
    | false =>
      have HGO := Lib.hid hgo
      have HC := Lib.hid (on_no HR1.out t hgo)
      clear hgo
      go_wp2_with fail
      refine HC.out.mono ?_
      rintro e w2 ⟨rfl, rfl⟩
      obtain ⟨y0, y1⟩ : w1.cell? ⟨w.heap.size + 1, 0, none⟩ = some (.int .u32 0) ∧ w1.cell? ⟨w.heap.size + 1, 1, none⟩ = some (.int .i64 0) := ⟨(cells_of HN2.out 0).1, (cells_of HN2.out 1).1⟩
      have f0 := (cells_of HN2.out 0).2
      have f1 := (cells_of HN2.out 1).2
      have hl1 : w.heap.size + 1 < w1.heap.size := (Array.getElem?_eq_some_iff.1 HN2.out).1
      go_wp2
      obtain ⟨w9, hw9⟩ : ∃ w9, put2 w1 (w.heap.size + 1) (0, 0) = w9 := ⟨_, rfl⟩
      obtain ⟨z0, z1⟩ := put2_at HN2.out (0, 0)
      have HFIN := RStep.put2 (RStep.same HRA.out HB1.out) (w.heap.size + 1) (0, 0) (by omega) HN2.out HSB.out
      rw [hw9] at z0 z1 HFIN
      unfold put2 at hw9
      dsimp only at hw9
      rw [hw9]
      exact ⟨rfl, ansA (0, 0) 1, by simp [results, Try.results20, go_sem, z0, z1, ansA, adr], .inr ⟨by simp [HGO.out], rfl, HFIN⟩⟩
    | true =>
      have HGO := Lib.hid hgo
      have HC := Lib.hid (on_yes HR1.out t hgo hL)
      clear hgo
      go_wp2_with fail
      refine HC.out.mono ?_
      rintro e w2 ⟨rfl, v', hr2, hv', hk2⟩
      have hlt := HRA.out.lt
      have HN1' : Hid (w2.heap[w.heap.size]? = _) := Lib.hid ((hk2.block _ (by have := (Array.getElem?_eq_some_iff.1 HN1.out).1; omega) (by omega)).trans HN1.out)
      have HN2' : Hid (w2.heap[w.heap.size + 1]? = _) := Lib.hid ((hk2.block _ (by have := (Array.getElem?_eq_some_iff.1 HN2.out).1; omega) (by omega)).trans HN2.out)
      have HST : Hid (∀ w', Below w2.heap.size w2 w' → RStep w w' rb x v L t (liveR L t)) := Lib.hid (fun w' hb => RStep.on HRA.out HB1.out hr2 hv' hk2 hb)
      have HR2 := Lib.hid hr2
      have HSB2 : Hid (∀ d ∈ liveR L t, blockOf d.sv ≠ some (w.heap.size + 1)) := Lib.hid (fun d hd => HSB.out d (List.mem_filter.1 hd).1)
      clear hr2 hv' hk2 HN1 HN2 HC HM HB
      obtain ⟨LL, hLL⟩ : ∃ LL, liveR L t = LL := ⟨_, rfl⟩
      rw [hLL] at HST HR2 HSB2
      have HLL := Lib.hid hLL
      clear hLL
      obtain ⟨A, c, rfl, hlc, hcm, hnil, -⟩ := HR2.out.form
      unfold maxLen at hcm
      obtain ⟨n, hn⟩ : ∃ n, LL.length = n := ⟨_, rfl⟩
      have HN := Lib.hid hn
      rw [hn] at hlc hnil HR2
      clear hn
      go_wp2
      go_loopw [10] (fun i wr => ∃ k : Nat, k ≤ n ∧ i = .int .i64 (k : Int) ∧ Below w2.heap.size w2 wr ∧ ∀ j e, j < k → LL[j]? = some e → inP x p f e.b = false) (fun i _ => n - (intOf i).toNat)
      case atStart => exact ⟨0, by omega, rfl, Below.refl _ _, fun j e h => by omega⟩
      case round =>
        obtain ⟨k, hk, rfl, hbr, hno⟩ := hrel
        have HBR := Lib.hid hbr
        have HNO := Lib.hid hno
        have HRR := Lib.hid (HR2.out.below hbr)
        obtain ⟨⟨-, -, -, -, d4, -, -⟩, d7, -, -⟩ := HRR.out.cells
        have hlr := HRR.out.lt
        clear hbr hno
        by_cases hkn : k < n
        · obtain ⟨d, hd⟩ : ∃ d, LL[k]? = some d := ⟨_, List.getElem?_eq_getElem (by have := HN.out; omega)⟩
          obtain ⟨g, c', e1, _, _, hat, -, hgl⟩ := HRR.out.at hd
          cases e1
          have HD := Lib.hid hd
          have HSV := Lib.hid (HRR.out.nds d (List.mem_of_getElem? hd))
          have a0 : wr.cell? ⟨g, k * 8, none⟩ = some (.int .u32 d.b.inn.1) := hat 0 (by omega)
          have a1 : wr.cell? ⟨g, k * 8 + 1, none⟩ = some (.int .i64 d.b.inn.2) := hat 1 (by omega)
          have a2 : wr.cell? ⟨g, k * 8 + 2, none⟩ = some (.int .u32 d.b.to.1) := hat 2 (by omega)
          have a3 : wr.cell? ⟨g, k * 8 + 3, none⟩ = some (.int .i64 d.b.to.2) := hat 3 (by omega)
          have a4 : wr.cell? ⟨g, k * 8 + 4, none⟩ = some (.int .i64 d.b.port) := hat 4 (by omega)
          have a5 : wr.cell? ⟨g, k * 8 + 5, none⟩ = some (.int .i64 d.b.until_) := hat 5 (by omega)
          have a6 : wr.cell? ⟨g, k * 8 + 6, none⟩ = some (.bool d.b.asked) := hat 6 (by omega)
          have a7 : wr.cell? ⟨g, k * 8 + 7, none⟩ = some d.sv := hat 7 (by omega)
          obtain ⟨As, cs, es, hs1, hs2, -⟩ := HSV.out
          unfold maxLen at hs2
          rw [es] at a7
          have HES := Lib.hid es
          have HSTEP : Hid (inP x p f d.b = false → ∀ j e, j < k + 1 → LL[j]? = some e → inP x p f e.b = false) := Lib.hid (fun hf j e hj he => by
            rcases Nat.lt_or_ge j k with h' | h'
            · exact HNO.out j e h' he
            · obtain rfl : j = k := by omega
              rw [HD.out] at he
              cases he
              exact hf)
          have HBA : Hid (∀ o : Obj, Below w2.heap.size w2 (wr.alloc o)) := Lib.hid (fun o => HBR.out.alloc HBR.out.size o)
          clear hat hd es
          by_cases hp : d.b.port = p
          case neg =>
            have tp1 : (d.b.port != p) = true := by simpa using hp
            have HF : Hid (inP x p f d.b = false) := Lib.hid (by unfold inP; simp [hp])
            clear hp
            go_wp2
            go_roundw
            case rel => exact ⟨k + 1, by omega, by go_num, HBA.out _, HSTEP.out HF.out⟩
            case measure => simp [intOf]; omega
          case pos =>
            have tp1 : (d.b.port != p) = false := by simpa using hp
            have HSV3 : Hid (∀ o : Obj, SeenAt (wr.alloc o) d.sv d.b.seen) := Lib.hid (fun o => HSV.out.kept (fun k hk => ((Below.refl wr.heap.size wr).alloc (Nat.le_refl _) o).block k (HSV.out.lt hk).1))
            have HCL : Hid (∀ o : Obj, (wr.alloc o).cell? ⟨rb, 4, none⟩ = some (.int .i64 x.filter) ∧ ((wr.alloc o).cell? ⟨w.heap.size, 0, none⟩ = some (.int .u32 f.1) ∧ (wr.alloc o).cell? ⟨w.heap.size, 1, none⟩ = some (.int .i64 f.2)) ∧ (wr.alloc o).heap[w.heap.size + 1]? = some (.cells #[.int .u32 0, .int .i64 0] 38 (0, 0))) := Lib.hid (fun o => by
              have hb := HBA.out o
              have h1 : (wr.alloc o).heap[w.heap.size]? = _ := (hb.block _ (Array.getElem?_eq_some_iff.1 HN1'.out).1).trans HN1'.out
              exact ⟨(HRR.out.below ((Below.refl _ wr).alloc (Nat.le_refl _) o)).cells.1.2.2.2.2.1, ⟨(cells_of h1 0).1, (cells_of h1 1).1⟩, (hb.block _ (Array.getElem?_eq_some_iff.1 HN2'.out).1).trans HN2'.out⟩)
            have HPORT := Lib.hid hp
            clear hp
            cases hsd : d.b.asked with
            | false =>
              rw [hsd] at a6
              have HOKB : Hid (okB x.filter f d.b = ((x.filter == 0) || d.b.seen.any (okA x.filter f))) := Lib.hid (by unfold okB; rw [hsd]; simp)
              clear hsd
              obtain ⟨m, hm⟩ : ∃ m, d.b.seen.length = m := ⟨_, rfl⟩
              have HM2 := Lib.hid hm
              rw [hm] at a7 HES hs1
              clear hm
              have HX : Hid ((wr.alloc (.cells #[.int .u32 d.b.inn.1, .int .i64 d.b.inn.2, .int .u32 d.b.to.1, .int .i64 d.b.to.2, .int .i64 d.b.port, .int .i64 d.b.until_, .bool false, .slice As m cs] 104)).heap[wr.heap.size]? = some (.cells #[.int .u32 d.b.inn.1, .int .i64 d.b.inn.2, .int .u32 d.b.to.1, .int .i64 d.b.to.2, .int .i64 d.b.port, .int .i64 d.b.until_, .bool false, .slice As m cs] 104 (0, 0))) := Lib.hid (World.alloc_heap_new wr _)
              have HS3 := Lib.hid (HSV3.out (.cells #[.int .u32 d.b.inn.1, .int .i64 d.b.inn.2, .int .u32 d.b.to.1, .int .i64 d.b.to.2, .int .i64 d.b.port, .int .i64 d.b.until_, .bool false, .slice As m cs] 104))
              have HC3 := Lib.hid (HCL.out (.cells #[.int .u32 d.b.inn.1, .int .i64 d.b.inn.2, .int .u32 d.b.to.1, .int .i64 d.b.to.2, .int .i64 d.b.port, .int .i64 d.b.until_, .bool false, .slice As m cs] 104))
              have HB3 := Lib.hid (HBA.out (.cells #[.int .u32 d.b.inn.1, .int .i64 d.b.inn.2, .int .u32 d.b.to.1, .int .i64 d.b.to.2, .int .i64 d.b.port, .int .i64 d.b.until_, .bool false, .slice As m cs] 104))
              have hgx := wr.heap.size
              clear hgx HSV3 HCL HBA
              go_wp2
              generalize (wr.alloc (.cells #[.int .u32 d.b.inn.1, .int .i64 d.b.inn.2, .int .u32 d.b.to.1, .int .i64 d.b.to.2, .int .i64 d.b.port, .int .i64 d.b.until_, .bool false, .slice As m cs] 104)) = W3 at *
              obtain ⟨g4, ⟨g5, g6⟩, -⟩ := HC3.out
              obtain ⟨b0, b1, b7⟩ : W3.cell? ⟨wr.heap.size, 0, none⟩ = some (.int .u32 d.b.inn.1) ∧ W3.cell? ⟨wr.heap.size, 1, none⟩ = some (.int .i64 d.b.inn.2) ∧ W3.cell? ⟨wr.heap.size, 7, none⟩ = some (.slice As m cs) := ⟨(cells_of HX.out 0).1, (cells_of HX.out 1).1, (cells_of HX.out 7).1⟩
              have lx : wr.heap.size < W3.heap.size := (Array.getElem?_eq_some_iff.1 HX.out).1
              clear a0 a1 a2 a3 a4 a5 a6 a7 tp1
              go_loopw [13, 12] (fun i o wx => ∃ k2 q : Nat, k2 ≤ m ∧ i = .int .i64 (k2 : Int) ∧ o = .bool ((x.filter == 0) || (d.b.seen.take k2).any (okA x.filter f)) ∧ wx = W3.drewN q) (fun i _ _ => m - (intOf i).toNat)
              case atStart => exact ⟨0, 0, by omega, rfl, by simp, rfl⟩
              case round =>
                obtain ⟨k2, q, hk2', rfl, rfl, rfl⟩ := hrel
                by_cases hkm : k2 < m
                · obtain ⟨a, ha⟩ : ∃ a, d.b.seen[k2]? = some a := ⟨_, List.getElem?_eq_getElem (by have := HM2.out; omega)⟩
                  obtain ⟨bs, off, cs', es', _, _, hbs, s0, s1⟩ := seen_at HS3.out ha
                  have HT : Hid (((x.filter == 0) || (d.b.seen.take (k2 + 1)).any (okA x.filter f)) = (((x.filter == 0) || (d.b.seen.take k2).any (okA x.filter f)) || okA x.filter f a)) := Lib.hid (by
                    rw [List.take_add_one, ha, List.any_append]
                    simp [Bool.or_assoc])
                  rw [HES.out, HM2.out] at es'
                  cases es'
                  have hq := fun W => eq_adr a f W
                  have HOA : Hid (okA x.filter f a = (decide (a = f) || ((x.filter == 1) && (a.1 == f.1)))) := Lib.hid rfl
                  clear ha
                  generalize ((x.filter == 0) || (d.b.seen.take k2).any (okA x.filter f)) = bb at *
                  generalize okA x.filter f a = oa at *
                  cases hu : decide (a = f) with
                  | true =>
                    rw [hu] at hq HOA
                    clear hu
                    go_wp2
                    go_quiet (fail)
                    go_wp2
                    go_roundw
                    case rel => exact ⟨k2 + 1, _, by omega, by go_num, by rw [HT.out, HOA.out]; simp, rfl⟩
                    case measure => simp [intOf]; omega
                  | false =>
                    rw [hu] at hq HOA
                    clear hu
                    by_cases hf1 : x.filter = 1
                    · rw [hf1] at g4
                      have e1 : (x.filter == 1) = true := by simpa using hf1
                      rw [e1] at HOA
                      clear e1 hf1
                      by_cases hh : a.1 = f.1
                      · have t1 : (a.1 == f.1) = true := by simpa using hh
                        rw [t1] at HOA
                        clear hh
                        go_wp2
                        go_quiet (fail)
                        go_wp2
                        go_roundw
                        case rel => exact ⟨k2 + 1, _, by omega, by go_num, by rw [HT.out, HOA.out]; simp, rfl⟩
                        case measure => simp [intOf]; omega
                      · have t1 : (a.1 == f.1) = false := by simpa using hh
                        have t2 : decide (a.1 = f.1) = false := decide_eq_false hh
                        rw [t1] at HOA
                        clear hh
                        go_wp2
                        go_quiet (fail)
                        go_wp2
                        go_roundw
                        case rel => exact ⟨k2 + 1, _, by omega, by go_num, by rw [HT.out, HOA.out]; simp, rfl⟩
                        case measure => simp [intOf]; omega
                    · have t1 : (x.filter == 1) = false := by simpa using hf1
                      have t2 : decide (x.filter = 1) = false := decide_eq_false hf1
                      rw [t1] at HOA
                      clear hf1
                      go_wp2
                      go_quiet (fail)
                      go_wp2
                      go_roundw
                      case rel => exact ⟨k2 + 1, _, by omega, by go_num, by rw [HT.out, HOA.out]; simp, rfl⟩
                      case measure => simp [intOf]; omega
                · have e : d.b.seen.take k2 = d.b.seen := List.take_of_length_le (by have := HM2.out; omega)
                  rw [e]
                  clear e
                  have HBQ : Hid (Below w2.heap.size w2 (W3.drewN q)) := Lib.hid (below_drw HB3.out q)
                  rw [← HOKB.out]
                  cases hok : okB x.filter f d.b with
                  | false =>
                    have HF : Hid (inP x p f d.b = false) := Lib.hid (by unfold inP; rw [hok]; simp)
                    clear hok
                    go_wp2
                    go_roundw
                    case rel => exact ⟨k + 1, by omega, by go_num, HBQ.out, HSTEP.out HF.out⟩
                    case measure => simp [intOf]; omega
                  | true =>
                    have HF : Hid (refIn x (LL.map Rb.b) p f = (d.b.inn, 0)) := Lib.hid (by
                      unfold refIn
                      rw [find_at HD.out (by unfold inP; rw [hok, HPORT.out]; simp) HNO.out])
                    have HN3 : Hid ((W3.drewN q).heap[w.heap.size + 1]? = some (.cells #[.int .u32 0, .int .i64 0] 38 (0, 0))) := Lib.hid HC3.out.2.2
                    obtain ⟨y0, y1⟩ : W3.cell? ⟨w.heap.size + 1, 0, none⟩ = some (.int .u32 0) ∧ W3.cell? ⟨w.heap.size + 1, 1, none⟩ = some (.int .i64 0) := ⟨(cells_of HC3.out.2.2 0).1, (cells_of HC3.out.2.2 1).1⟩
                    have f0 := (cells_of HC3.out.2.2 0).2
                    have f1 := (cells_of HC3.out.2.2 1).2
                    have hl1 : w.heap.size + 1 < W3.heap.size := (Array.getElem?_eq_some_iff.1 HC3.out.2.2).1
                    clear hok
                    go_wp2
                    obtain ⟨w9, hw9⟩ : ∃ w9, put2 (W3.drewN q) (w.heap.size + 1) d.b.inn = w9 := ⟨_, rfl⟩
                    obtain ⟨z0, z1⟩ := put2_at HN3.out d.b.inn
                    have HFIN := RStep.put2 (HST.out _ HBQ.out) (w.heap.size + 1) d.b.inn (by omega) HN3.out HSB2.out
                    rw [hw9] at z0 z1 HFIN
                    unfold put2 at hw9
                    try rw [hw9]
                    exact ⟨rfl, ansA d.b.inn 0, by simp [results, Try.results20, go_sem, z0, z1, ansA, adr], .inl ⟨HMF.out, HGO.out, by rw [HLL.out, HF.out], by rw [HLL.out]; exact HFIN⟩⟩
            | true =>
              rw [hsd] at a6
              have HOKB : Hid (okB x.filter f d.b = (true || d.b.seen.any (okA x.filter f))) := Lib.hid (by unfold okB; rw [hsd]; simp)
              clear hsd
              obtain ⟨m, hm⟩ : ∃ m, d.b.seen.length = m := ⟨_, rfl⟩
              have HM2 := Lib.hid hm
              rw [hm] at a7 HES hs1
              clear hm
              have HX : Hid ((wr.alloc (.cells #[.int .u32 d.b.inn.1, .int .i64 d.b.inn.2, .int .u32 d.b.to.1, .int .i64 d.b.to.2, .int .i64 d.b.port, .int .i64 d.b.until_, .bool true, .slice As m cs] 104)).heap[wr.heap.size]? = some (.cells #[.int .u32 d.b.inn.1, .int .i64 d.b.inn.2, .int .u32 d.b.to.1, .int .i64 d.b.to.2, .int .i64 d.b.port, .int .i64 d.b.until_, .bool true, .slice As m cs] 104 (0, 0))) := Lib.hid (World.alloc_heap_new wr _)
              have HS3 := Lib.hid (HSV3.out (.cells #[.int .u32 d.b.inn.1, .int .i64 d.b.inn.2, .int .u32 d.b.to.1, .int .i64 d.b.to.2, .int .i64 d.b.port, .int .i64 d.b.until_, .bool true, .slice As m cs] 104))
              have HC3 := Lib.hid (HCL.out (.cells #[.int .u32 d.b.inn.1, .int .i64 d.b.inn.2, .int .u32 d.b.to.1, .int .i64 d.b.to.2, .int .i64 d.b.port, .int .i64 d.b.until_, .bool true, .slice As m cs] 104))
              have HB3 := Lib.hid (HBA.out (.cells #[.int .u32 d.b.inn.1, .int .i64 d.b.inn.2, .int .u32 d.b.to.1, .int .i64 d.b.to.2, .int .i64 d.b.port, .int .i64 d.b.until_, .bool true, .slice As m cs] 104))
              have hgx := wr.heap.size
              clear hgx HSV3 HCL HBA
              go_wp2
              generalize (wr.alloc (.cells #[.int .u32 d.b.inn.1, .int .i64 d.b.inn.2, .int .u32 d.b.to.1, .int .i64 d.b.to.2, .int .i64 d.b.port, .int .i64 d.b.until_, .bool true, .slice As m cs] 104)) = W3 at *
              obtain ⟨g4, ⟨g5, g6⟩, -⟩ := HC3.out
              obtain ⟨b0, b1, b7⟩ : W3.cell? ⟨wr.heap.size, 0, none⟩ = some (.int .u32 d.b.inn.1) ∧ W3.cell? ⟨wr.heap.size, 1, none⟩ = some (.int .i64 d.b.inn.2) ∧ W3.cell? ⟨wr.heap.size, 7, none⟩ = some (.slice As m cs) := ⟨(cells_of HX.out 0).1, (cells_of HX.out 1).1, (cells_of HX.out 7).1⟩
              have lx : wr.heap.size < W3.heap.size := (Array.getElem?_eq_some_iff.1 HX.out).1
              clear a0 a1 a2 a3 a4 a5 a6 a7 tp1
              go_loopw [13, 12] (fun i o wx => ∃ k2 q : Nat, k2 ≤ m ∧ i = .int .i64 (k2 : Int) ∧ o = .bool (true || (d.b.seen.take k2).any (okA x.filter f)) ∧ wx = W3.drewN q) (fun i _ _ => m - (intOf i).toNat)
              case atStart => exact ⟨0, 0, by omega, rfl, by simp, rfl⟩
              case round =>
                obtain ⟨k2, q, hk2', rfl, rfl, rfl⟩ := hrel
                by_cases hkm : k2 < m
                · obtain ⟨a, ha⟩ : ∃ a, d.b.seen[k2]? = some a := ⟨_, List.getElem?_eq_getElem (by have := HM2.out; omega)⟩
                  obtain ⟨bs, off, cs', es', _, _, hbs, s0, s1⟩ := seen_at HS3.out ha
                  have HT : Hid ((true || (d.b.seen.take (k2 + 1)).any (okA x.filter f)) = ((true || (d.b.seen.take k2).any (okA x.filter f)) || okA x.filter f a)) := Lib.hid (by
                    rw [List.take_add_one, ha, List.any_append]
                    simp [Bool.or_assoc])
                  rw [HES.out, HM2.out] at es'
                  cases es'
                  have hq := fun W => eq_adr a f W
                  have HOA : Hid (okA x.filter f a = (decide (a = f) || ((x.filter == 1) && (a.1 == f.1)))) := Lib.hid rfl
                  clear ha
                  generalize (true || (d.b.seen.take k2).any (okA x.filter f)) = bb at *
                  generalize okA x.filter f a = oa at *
                  cases hu : decide (a = f) with
                  | true =>
                    rw [hu] at hq HOA
                    clear hu
                    go_wp2
                    go_quiet (fail)
                    go_wp2
                    go_roundw
                    case rel => exact ⟨k2 + 1, _, by omega, by go_num, by rw [HT.out, HOA.out]; simp, rfl⟩
                    case measure => simp [intOf]; omega
                  | false =>
                    rw [hu] at hq HOA
                    clear hu
                    by_cases hf1 : x.filter = 1
                    · rw [hf1] at g4
                      have e1 : (x.filter == 1) = true := by simpa using hf1
                      rw [e1] at HOA
                      clear e1 hf1
                      by_cases hh : a.1 = f.1
                      · have t1 : (a.1 == f.1) = true := by simpa using hh
                        rw [t1] at HOA
                        clear hh
                        go_wp2
                        go_quiet (fail)
                        go_wp2
                        go_roundw
                        case rel => exact ⟨k2 + 1, _, by omega, by go_num, by rw [HT.out, HOA.out]; simp, rfl⟩
                        case measure => simp [intOf]; omega
                      · have t1 : (a.1 == f.1) = false := by simpa using hh
                        have t2 : decide (a.1 = f.1) = false := decide_eq_false hh
                        rw [t1] at HOA
                        clear hh
                        go_wp2
                        go_quiet (fail)
                        go_wp2
                        go_roundw
                        case rel => exact ⟨k2 + 1, _, by omega, by go_num, by rw [HT.out, HOA.out]; simp, rfl⟩
                        case measure => simp [intOf]; omega
                    · have t1 : (x.filter == 1) = false := by simpa using hf1
                      have t2 : decide (x.filter = 1) = false := decide_eq_false hf1
                      rw [t1] at HOA
                      clear hf1
                      go_wp2
                      go_quiet (fail)
                      go_wp2
                      go_roundw
                      case rel => exact ⟨k2 + 1, _, by omega, by go_num, by rw [HT.out, HOA.out]; simp, rfl⟩
                      case measure => simp [intOf]; omega
                · have e : d.b.seen.take k2 = d.b.seen := List.take_of_length_le (by have := HM2.out; omega)
                  rw [e]
                  clear e
                  have HBQ : Hid (Below w2.heap.size w2 (W3.drewN q)) := Lib.hid (below_drw HB3.out q)
                  rw [← HOKB.out]
                  cases hok : okB x.filter f d.b with
                  | false =>
                    have HF : Hid (inP x p f d.b = false) := Lib.hid (by unfold inP; rw [hok]; simp)
                    clear hok
                    go_wp2
                    go_roundw
                    case rel => exact ⟨k + 1, by omega, by go_num, HBQ.out, HSTEP.out HF.out⟩
                    case measure => simp [intOf]; omega
                  | true =>
                    have HF : Hid (refIn x (LL.map Rb.b) p f = (d.b.inn, 0)) := Lib.hid (by
                      unfold refIn
                      rw [find_at HD.out (by unfold inP; rw [hok, HPORT.out]; simp) HNO.out])
                    have HN3 : Hid ((W3.drewN q).heap[w.heap.size + 1]? = some (.cells #[.int .u32 0, .int .i64 0] 38 (0, 0))) := Lib.hid HC3.out.2.2
                    obtain ⟨y0, y1⟩ : W3.cell? ⟨w.heap.size + 1, 0, none⟩ = some (.int .u32 0) ∧ W3.cell? ⟨w.heap.size + 1, 1, none⟩ = some (.int .i64 0) := ⟨(cells_of HC3.out.2.2 0).1, (cells_of HC3.out.2.2 1).1⟩
                    have f0 := (cells_of HC3.out.2.2 0).2
                    have f1 := (cells_of HC3.out.2.2 1).2
                    have hl1 : w.heap.size + 1 < W3.heap.size := (Array.getElem?_eq_some_iff.1 HC3.out.2.2).1
                    clear hok
                    go_wp2
                    obtain ⟨w9, hw9⟩ : ∃ w9, put2 (W3.drewN q) (w.heap.size + 1) d.b.inn = w9 := ⟨_, rfl⟩
                    obtain ⟨z0, z1⟩ := put2_at HN3.out d.b.inn
                    have HFIN := RStep.put2 (HST.out _ HBQ.out) (w.heap.size + 1) d.b.inn (by omega) HN3.out HSB2.out
                    rw [hw9] at z0 z1 HFIN
                    unfold put2 at hw9
                    try rw [hw9]
                    exact ⟨rfl, ansA d.b.inn 0, by simp [results, Try.results20, go_sem, z0, z1, ansA, adr], .inl ⟨HMF.out, HGO.out, by rw [HLL.out, HF.out], by rw [HLL.out]; exact HFIN⟩⟩
        · have HNONE : Hid (refIn x (LL.map Rb.b) p f = ((0, 0), 8)) := Lib.hid (by
            unfold refIn
            rw [find_none (fun e he => by
              obtain ⟨j, hj, e2⟩ := List.getElem_of_mem he
              exact HNO.out j e (by have := HN.out; omega) (by rw [List.getElem?_eq_getElem hj, e2]))])
          have hB := HBR.out
          have HN3 : Hid (wr.heap[w.heap.size + 1]? = some (.cells #[.int .u32 0, .int .i64 0] 38 (0, 0))) := Lib.hid ((hB.block _ (Array.getElem?_eq_some_iff.1 HN2'.out).1).trans HN2'.out)
          obtain ⟨y0, y1⟩ : wr.cell? ⟨w.heap.size + 1, 0, none⟩ = some (.int .u32 0) ∧ wr.cell? ⟨w.heap.size + 1, 1, none⟩ = some (.int .i64 0) := ⟨(cells_of HN3.out 0).1, (cells_of HN3.out 1).1⟩
          have f0 := (cells_of HN3.out 0).2
          have f1 := (cells_of HN3.out 1).2
          have hl1 : w.heap.size + 1 < wr.heap.size := (Array.getElem?_eq_some_iff.1 HN3.out).1
          clear hB
          go_wp2
          obtain ⟨w9, hw9⟩ : ∃ w9, put2 wr (w.heap.size + 1) (0, 0) = w9 := ⟨_, rfl⟩
          obtain ⟨z0, z1⟩ := put2_at HN3.out (0, 0)
          have HFIN := RStep.put2 (HST.out _ HBR.out) (w.heap.size + 1) (0, 0) (by omega) HN3.out HSB2.out
          rw [hw9] at z0 z1 HFIN
          unfold put2 at hw9
          dsimp only at hw9
          rw [hw9]
          exact ⟨rfl, ansA (0, 0) 8, by simp [results, Try.results20, go_sem, z0, z1, ansA, adr], .inl ⟨HMF.out, HGO.out, by rw [HLL.out, HNONE.out], by rw [HLL.out]; exact HFIN⟩⟩
end Go.Proofs.Ytemlnkcokeckmaa
