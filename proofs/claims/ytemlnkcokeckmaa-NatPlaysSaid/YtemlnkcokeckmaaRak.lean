/-
  The document's own Ask. Conditions: the box stands in memory, and may be.
-/
import Derived.Test.YtemlnkcokeckmaaRpu
import Derived.Test.YtemlnkcokeckmaaRst
namespace Go.Proofs.Ytemlnkcokeckmaa
open Go.RowKit
attribute [local go_sem] Oper.semAt_some
set_option linter.unusedVariables false
set_option linter.unusedSimpArgs false

/-- what the document's Ask answers and leaves; LL: those that are left at that time -/
def RaskAns (w : World) (rb : Nat) (x : Bx) (v : Value) (now : Int) (L LL : List Rb) (t : Int) (a : A2) (s u : Int) (e : Ending) (w' : World) : Prop :=
  (¬ (mayA a = true ∧ t < u ∧ u ≤ 1099511627776 ∧ goes now t = true) ∧ e = .returned (ansI 0 1) ∧ RStep w w' rb x v L now L) ∨
  ((mayA a = true ∧ t < u ∧ u ≤ 1099511627776 ∧ goes now t = true) ∧
    ((∃ (k : Nat) (d : Rb), LL[k]? = some d ∧ findP a true (0, 0) d.b = true ∧ (∀ (j : Nat) (e : Rb), j < k → LL[j]? = some e → findP a true (0, 0) e.b = false) ∧ e = .returned (ansI d.b.port 0) ∧ RStep w w' rb x v L t (LL.set k (endR d u))) ∨
     ((∀ d ∈ LL, findP a true (0, 0) d.b = false) ∧ (x.most ≤ (LL.length : Int) ∨ NoPort x (LL.map Rb.b) s) ∧ e = .returned (ansI 0 10) ∧ RStep w w' rb x v L t LL) ∨
     ((∀ d ∈ LL, findP a true (0, 0) d.b = false) ∧ ∃ (p : Int) (k : Nat), (LL.length : Int) < x.most ∧ PortR x (LL.map Rb.b) s p ∧ PlaceR LL p k ∧ e = .returned (ansI p 0) ∧ RStep w w' rb x v L t ((insR LL k (newR a (0, 0) true p)).set k (endR (newR a (0, 0) true p) u)))))
theorem insR_at {L : List Rb} {k : Nat} {d : Rb} (h : k ≤ L.length) : (insR L k d)[k]? = some d := by
  unfold insR
  rw [List.nil_append, List.append_assoc, List.getElem?_append_right (by rw [List.length_take]; omega), List.length_take, Nat.min_eq_left h, Nat.sub_self]
  simp

set_option maxRecDepth 100000 in
set_option maxHeartbeats 8000000 in
theorem rask_any {w : World} {rb : Nat} {x : Bx} {now : Int} {v : Value} {L : List Rb} (h : Ra w rb x now v L) (t : Int) (a : A2) (s u : Int) (ha : isA a) (hL : L.length ≤ 100) (h1 : 1 ≤ x.lo) (h2 : x.hi ≤ 65535) :
    Calls Try.prog 22 #[.pointer (some ⟨rb, 0, none⟩), .int .i64 t, adr a, .int .i64 s, .int .i64 u] w (RaskAns w rb x v now L (liveR L t) t a s u) := by
  have HM := Lib.hid (fun W => may33 a W ha)
  have HRA := Lib.hid h
  have HX1 := Lib.hid h1; have HX2 := Lib.hid h2
  have HB : Hid (∀ C : Obj, Below w.heap.size w (w.alloc C)) := Lib.hid (fun C => (Below.refl _ w).alloc (Nat.le_refl _) _)
  unfold adr at HM ⊢
  clear h h1 h2
  go_enter Try.func22, Try.ntmps22
  go_wp2_with fail
  refine (HM.out _).mono ?_
  rintro e w1 ⟨rfl, hb⟩
  have HB1 : Hid (Below w.heap.size w w1) := Lib.hid ((HB.out _).trans (hb.mono (by simp)))
  have n1 : w1.heap[w.heap.size]? = some (.cells #[.int .u32 a.1, .int .i64 a.2] 38 (0, 0)) := (hb.block _ (by simp)).trans (World.alloc_heap_new w _)
  have HN1 := Lib.hid n1
  clear hb n1 HM HB
  have HR1 := Lib.hid (HRA.out.below HB1.out)
  cases hmf : mayA a with
  | false =>
    have HMF := Lib.hid hmf
    clear hmf
    go_wp2
    go_ret2
    exact Or.inl ⟨by simp [HMF.out], rfl, RStep.same HRA.out HB1.out⟩
  | true =>
    have HMF := Lib.hid hmf
    clear hmf
    by_cases hu1 : t < u
    case neg =>
      have HU := Lib.hid hu1
      have t1 : decide (t < u) = false := decide_eq_false hu1
      have t2 : u ≤ t := by omega
      clear hu1
      go_wp2
      go_ret2
      exact Or.inl ⟨fun h => absurd h.2.1 (by have := HU.out; omega), rfl, RStep.same HRA.out HB1.out⟩
    case pos =>
    have HU1 := Lib.hid hu1
    have t1 : ¬ u ≤ t := by omega
    clear hu1
    by_cases hu2 : u ≤ 1099511627776
    case neg =>
      have HU := Lib.hid hu2
      have t2 : 1099511627776 < u := by omega
      clear hu2
      go_wp2
      go_ret2
      exact Or.inl ⟨fun h => absurd h.2.2.1 (by have := HU.out; omega), rfl, RStep.same HRA.out HB1.out⟩
    case pos =>
    have HU2 := Lib.hid hu2
    have t2 : ¬ 1099511627776 < u := by omega
    clear hu2
    cases hgo : goes now t with
    | false =>
      have HGO := Lib.hid hgo
      have HC := Lib.hid (on_no HR1.out t hgo)
      clear hgo
      go_wp2_with fail
      refine HC.out.mono ?_
      rintro e w2 ⟨rfl, rfl⟩
      go_wp2
      go_ret2
      exact Or.inl ⟨by simp [HGO.out], rfl, RStep.same HRA.out HB1.out⟩
    | true =>
      have HGO := Lib.hid hgo
      have HOK : Hid (mayA a = true ∧ t < u ∧ u ≤ 1099511627776 ∧ goes now t = true) := Lib.hid ⟨HMF.out, HU1.out, HU2.out, hgo⟩
      have HC := Lib.hid (on_yes HR1.out t hgo hL)
      clear hgo
      go_wp2_with fail
      refine HC.out.mono ?_
      rintro e w2 ⟨rfl, v', hr2, hv', hk2⟩
      have hlt := HRA.out.lt
      have n2 : w2.heap[w.heap.size]? = some (.cells #[.int .u32 a.1, .int .i64 a.2] 38 (0, 0)) := (hk2.block _ (Array.getElem?_eq_some_iff.1 HN1.out).1 (by omega)).trans HN1.out
      have HN2 := Lib.hid n2
      have HST : Hid (∀ w', Below w2.heap.size w2 w' → RStep w w' rb x v L t (liveR L t)) := Lib.hid (fun w' hb => RStep.on HRA.out HB1.out hr2 hv' hk2 hb)
      have HR2 := Lib.hid hr2
      have HLE : Hid ((liveR L t).length ≤ 100) := Lib.hid (Nat.le_trans (List.length_filter_le _ _) hL)
      clear hr2 hv' hk2 HC HR1 HN1 n2
      obtain ⟨LL, hLL⟩ : ∃ LL, liveR L t = LL := ⟨_, rfl⟩
      rw [hLL] at HST HR2 HLE
      have HLL := Lib.hid hLL
      clear hLL
      have HF := Lib.hid (find_any HR2.out a true (0, 0))
      have p0 : w2.cell? ⟨w.heap.size, 0, none⟩ = some (.int .u32 a.1) := (cells_of HN2.out 0).1
      have p1 : w2.cell? ⟨w.heap.size, 1, none⟩ = some (.int .i64 a.2) := (cells_of HN2.out 1).1
      have pl := (Array.getElem?_eq_some_iff.1 HN2.out).1
      unfold adr at HF
      go_wp2_with fail
      refine HF.out.mono ?_
      rintro e w3 ⟨⟨r, rfl, hfr⟩, hb3⟩
      have HR3 := Lib.hid (HR2.out.below hb3)
      have HST3 := Lib.hid (HST.out _ hb3)
      have HN3 : Hid (w3.heap[w.heap.size]? = some (.cells #[.int .u32 a.1, .int .i64 a.2] 38 (0, 0))) := Lib.hid ((hb3.block _ pl).trans HN2.out)
      clear HF p0 p1 pl hb3
      rcases hfr with ⟨k, d, hd, hp, hmin, rfl⟩ | ⟨hno, rfl⟩
      · have HD := Lib.hid hd
        have HP := Lib.hid hp
        have HMIN := Lib.hid hmin
        clear hd hp hmin
        obtain ⟨vv, hr4, hkp, hft⟩ := HST3.out
        have HK4 := Lib.hid hkp; have HF4 := Lib.hid hft; have HR4 := Lib.hid hr4
        clear hkp hft hr4
        obtain ⟨g, c, evv, hlc, hcm, hat, hfz, hgl⟩ := HR4.out.at HD.out
        have HKL := Lib.hid (List.getElem?_eq_some_iff.1 HD.out).1
        have HGV : Hid (vv.ownBlock = some g) := Lib.hid (by rw [evv]; rfl)
        have c7 := HR4.out.cells.2.1
        have hrb := HR4.out.lt
        subst evv
        unfold maxLen at hcm
        obtain ⟨n, hn⟩ : ∃ n, LL.length = n := ⟨_, rfl⟩
        have hkn : k < n := by rw [← hn]; exact HKL.out
        rw [hn] at c7 hlc HGV
        have y5 : w3.cell? ⟨g, k * 8 + 5, none⟩ = some (.int .i64 d.b.until_) := hat 5 (by omega)
        have f5 := hfz (k * 8 + 5)
        obtain ⟨W9, hW9⟩ : ∃ W9, w3.setCell ⟨g, k * 8 + 5, none⟩ (.int .i64 u) = W9 := ⟨_, rfl⟩
        have HR9 : Hid (Ra W9 rb x t (.slice (some ⟨g, 0, none⟩) n c) (LL.set k (endR d u))) := Lib.hid (by
          rw [← hW9, ← hn]
          refine HR4.out.setAt rfl _ _ (by rw [List.length_set]) (cellsR_end u HD.out) (fun e he => ?_)
          rcases List.mem_or_eq_of_mem_set he with h | rfl
          · exact HR4.out.nds e h
          · exact HR4.out.nds d (List.mem_of_getElem? HD.out))
        have HEN : Hid (RStep w W9 rb x v L t (LL.set k (endR d u))) := Lib.hid (by
          rw [← hW9]
          exact rstep_end HRA.out HR4.out HK4.out HF4.out rfl HD.out u)
        have d7 := HR9.out.cells.2.1
        have d4 : W9.cell? ⟨g, k * 8 + 4, none⟩ = some (.int .i64 d.b.port) := by
          obtain ⟨g', c', e', _, _, hat', _, _⟩ := HR9.out.at (k := k) (d := endR d u) (by rw [List.getElem?_set_self HKL.out])
          cases e'
          exact hat' 4 (by omega)
        have drb := HR9.out.lt
        have dgl : g < W9.heap.size := by rw [← hW9]; simpa using hgl
        clear hat hfz hn
        go_wp2
        go_ret2
        exact Or.inr ⟨HOK.out, Or.inl ⟨k, d, by rw [HLL.out]; exact HD.out, HP.out, by rw [HLL.out]; exact HMIN.out, rfl, by rw [HLL.out]; exact HEN.out⟩⟩
      · have HNO := Lib.hid hno
        have HPUT := Lib.hid (rput_any (now := now) HST3.out HR3.out a (0, 0) true s HLE.out HX1.out HX2.out)
        have p0 : w3.cell? ⟨w.heap.size, 0, none⟩ = some (.int .u32 a.1) := (cells_of HN3.out 0).1
        have p1 : w3.cell? ⟨w.heap.size, 1, none⟩ = some (.int .i64 a.2) := (cells_of HN3.out 1).1
        have pl := (Array.getElem?_eq_some_iff.1 HN3.out).1
        dsimp only at HPUT
        clear hno
        go_wp2_with fail
        refine HPUT.out.mono ?_
        rintro e w4 (⟨hfull, rfl, hb4⟩ | ⟨p, k, hm, hpo, hpl, rfl, hst4⟩)
        · have HEN := Lib.hid (HST3.out.more hb4)
          have HFU := Lib.hid hfull
          clear hfull hb4 p0 p1 pl
          go_wp2
          go_ret2
          exact Or.inr ⟨HOK.out, Or.inr (Or.inl ⟨by rw [HLL.out]; exact HNO.out, by rw [HLL.out]; exact HFU.out, rfl, by rw [HLL.out]; exact HEN.out⟩)⟩
        · have HM4 := Lib.hid hm; have HPO := Lib.hid hpo; have HPL := Lib.hid hpl
          obtain ⟨vv, hr4, hkp, hft⟩ := hst4
          have HK4 := Lib.hid hkp; have HF4 := Lib.hid hft; have HR4 := Lib.hid hr4
          have HD := Lib.hid (insR_at (d := newR a (0, 0) true p) hpl.1)
          clear hkp hft hr4 hm hpo hpl p0 p1 pl
          obtain ⟨d, hdd⟩ : ∃ d, d = newR a (0, 0) true p := ⟨_, rfl⟩
          have HDD := Lib.hid hdd
          have hdp : d.b.port = p := by rw [hdd]; rfl
          rw [← hdd] at HD HR4 HF4
          obtain ⟨LI, hLI⟩ : ∃ LI, insR LL k d = LI := ⟨_, rfl⟩
          rw [hLI] at HD HR4 HF4
          have HLI := Lib.hid hLI
          clear hLI hdd
          obtain ⟨g, c, evv, hlc, hcm, hat, hfz, hgl⟩ := HR4.out.at HD.out
          have HKL := Lib.hid (List.getElem?_eq_some_iff.1 HD.out).1
          have HGV : Hid (vv.ownBlock = some g) := Lib.hid (by rw [evv]; rfl)
          have c7 := HR4.out.cells.2.1
          have hrb := HR4.out.lt
          subst evv
          unfold maxLen at hcm
          obtain ⟨n, hn⟩ : ∃ n, LI.length = n := ⟨_, rfl⟩
          have hkn : k < n := by rw [← hn]; exact HKL.out
          rw [hn] at c7 hlc HGV
          have y5 : w4.cell? ⟨g, k * 8 + 5, none⟩ = some (.int .i64 d.b.until_) := hat 5 (by omega)
          have f5 := hfz (k * 8 + 5)
          obtain ⟨W9, hW9⟩ : ∃ W9, w4.setCell ⟨g, k * 8 + 5, none⟩ (.int .i64 u) = W9 := ⟨_, rfl⟩
          have HR9 : Hid (Ra W9 rb x t (.slice (some ⟨g, 0, none⟩) n c) (LI.set k (endR d u))) := Lib.hid (by
            rw [← hW9, ← hn]
            refine HR4.out.setAt rfl _ _ (by rw [List.length_set]) (cellsR_end u HD.out) (fun e he => ?_)
            rcases List.mem_or_eq_of_mem_set he with h | rfl
            · exact HR4.out.nds e h
            · exact HR4.out.nds d (List.mem_of_getElem? HD.out))
          have HEN : Hid (RStep w W9 rb x v L t (LI.set k (endR d u))) := Lib.hid (by
            rw [← hW9]
            exact rstep_end HRA.out HR4.out HK4.out HF4.out rfl HD.out u)
          have d7 := HR9.out.cells.2.1
          have d4 : W9.cell? ⟨g, k * 8 + 4, none⟩ = some (.int .i64 d.b.port) := by
            obtain ⟨g', c', e', _, _, hat', _, _⟩ := HR9.out.at (k := k) (d := endR d u) (by rw [List.getElem?_set_self HKL.out])
            cases e'
            exact hat' 4 (by omega)
          have drb := HR9.out.lt
          have dgl : g < W9.heap.size := by rw [← hW9]; simpa using hgl
          clear hat hfz hn
          go_wp2
          go_ret2
          exact Or.inr ⟨HOK.out, Or.inr (Or.inr ⟨by rw [HLL.out]; exact HNO.out, p, k, by rw [HLL.out]; exact HM4.out, by rw [HLL.out]; exact HPO.out, by rw [HLL.out]; exact HPL.out, by first | rfl | rw [hdp], by rw [HLL.out, ← HDD.out, HLI.out]; exact HEN.out⟩)⟩
end Go.Proofs.Ytemlnkcokeckmaa
