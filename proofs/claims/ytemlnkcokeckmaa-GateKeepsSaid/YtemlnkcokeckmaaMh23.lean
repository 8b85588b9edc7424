/-
  The document's own Same, of two rows of bindings. Conditions: both rows read as bindings. The document's own All. Conditions: the box stands in memory. The document's own May. Conditions: as the lemma states. The document's own Drop. Conditions: the box stands in memory.
-/
import Derived.Test.YtemlnkcokeckmaaMh22
namespace Go.Proofs.Ytemlnkcokeckmaa
open Go.RowKit
attribute [local go_sem] Oper.semAt_some
set_option linter.unusedVariables false
set_option linter.unusedSimpArgs false

/-- do two bindings read alike -/
def sameB (b c : Bn) : Bool := decide (b.inn.1 = c.inn.1) && (decide (b.inn.2 = c.inn.2) && (decide (b.to.1 = c.to.1) && (decide (b.to.2 = c.to.2) && (decide (b.port = c.port) && (decide (b.until_ = c.until_) && decide (b.asked = c.asked))))))
theorem noGuard54 : Try.prog.eqGuardType Try.prog.depth 54 = false := by kernel_rfl
set_option maxHeartbeats 1000000 in
theorem neq_bn (b c : Bn) (W : World) : (binOp .neq 54 (.agg #[.int .u32 b.inn.1, .int .i64 b.inn.2, .int .u32 b.to.1, .int .i64 b.to.2, .int .i64 b.port, .int .i64 b.until_, .bool b.asked]) (.agg #[.int .u32 c.inn.1, .int .i64 c.inn.2, .int .u32 c.to.1, .int .i64 c.to.2, .int .i64 c.port, .int .i64 c.until_, .bool c.asked])).run Try.prog W = .ok (.bool (!sameB b c)) W := by
  have hm := noGuard54
  unfold sameB
  by_cases h1 : b.inn.1 = c.inn.1
  case neg => simp only [h1]; go_simp
  by_cases h2 : b.inn.2 = c.inn.2
  case neg => simp only [h1, h2]; go_simp
  by_cases h3 : b.to.1 = c.to.1
  case neg => simp only [h1, h2, h3]; go_simp
  by_cases h4 : b.to.2 = c.to.2
  case neg => simp only [h1, h2, h3, h4]; go_simp
  by_cases h5 : b.port = c.port
  case neg => simp only [h1, h2, h3, h4, h5]; go_simp
  by_cases h6 : b.until_ = c.until_
  case neg => simp only [h1, h2, h3, h4, h5, h6]; go_simp
  by_cases h7 : b.asked = c.asked
  case neg => simp only [h1, h2, h3, h4, h5, h6, h7]; go_simp
  simp only [h1, h2, h3, h4, h5, h6, h7]; go_simp
theorem sameB_self (b : Bn) : sameB b b = true := by simp [sameB]

set_option maxRecDepth 100000 in
set_option maxHeartbeats 2000000 in
theorem rsame_any {w : World} {u v : Value} {l m : List Bn} (hu : IsBs w u l) (hv : IsBs w v m) (hn : l.length = m.length) (hs : ∀ (k : Nat) (b c : Bn), l[k]? = some b → m[k]? = some c → sameB b c = true) :
    Calls Try.prog 26 #[u, v] w fun e w' => e = .returned (.bool true) ∧ Below w.heap.size w w' := by
  obtain ⟨A, cu, rfl, hu1, hu2, hu3⟩ := hu
  obtain ⟨B, cv, rfl, hv1, hv2, hv3⟩ := hv
  unfold maxLen at hu2 hv2
  obtain ⟨n, hnn⟩ : ∃ n, l.length = n := ⟨_, rfl⟩
  have HN := Lib.hid hnn
  have HM := Lib.hid (hn.symm.trans hnn)
  rw [← hn] at hv1 hv3 ⊢
  rw [hnn] at hu1 hu3 hv1 hv3 ⊢
  have HU := Lib.hid hu3
  have HV := Lib.hid hv3
  have HS := Lib.hid hs
  have tn : ((n : Int) != (n : Int)) = false := by simp
  clear hu3 hv3 hs hn hnn
  go_enter Try.func26, Try.ntmps26
  go_wp2
  go_loopw [5] (fun i wr => ∃ k q : Nat, k ≤ n ∧ i = .int .i64 (k : Int) ∧ wr = w.drewN q) (fun i _ => n - (intOf i).toNat)
  case atStart => exact ⟨0, 0, by omega, rfl, rfl⟩
  case round =>
    obtain ⟨k, q, hk, rfl, rfl⟩ := hrel
    by_cases hkn : k < n
    · obtain ⟨b, hb⟩ : ∃ b, l[k]? = some b := ⟨_, List.getElem?_eq_getElem (by have := HN.out; omega)⟩
      obtain ⟨c, hc⟩ : ∃ c, m[k]? = some c := ⟨_, List.getElem?_eq_getElem (by have := HM.out; omega)⟩
      obtain ⟨g, rfl, ⟨C1, hg1⟩, hat⟩ := HU.out (by omega)
      obtain ⟨g', rfl, ⟨C2, hg2⟩, hbt⟩ := HV.out (by omega)
      have l1 := (Array.getElem?_eq_some_iff.1 hg1).1
      have l2 := (Array.getElem?_eq_some_iff.1 hg2).1
      have a0 : w.cell? ⟨g, k * 7, none⟩ = some (.int .u32 b.inn.1) := hat k b hb 0 (by omega)
      have a1 : w.cell? ⟨g, k * 7 + 1, none⟩ = some (.int .i64 b.inn.2) := hat k b hb 1 (by omega)
      have a2 : w.cell? ⟨g, k * 7 + 2, none⟩ = some (.int .u32 b.to.1) := hat k b hb 2 (by omega)
      have a3 : w.cell? ⟨g, k * 7 + 3, none⟩ = some (.int .i64 b.to.2) := hat k b hb 3 (by omega)
      have a4 : w.cell? ⟨g, k * 7 + 4, none⟩ = some (.int .i64 b.port) := hat k b hb 4 (by omega)
      have a5 : w.cell? ⟨g, k * 7 + 5, none⟩ = some (.int .i64 b.until_) := hat k b hb 5 (by omega)
      have a6 : w.cell? ⟨g, k * 7 + 6, none⟩ = some (.bool b.asked) := hat k b hb 6 (by omega)
      have b0 : w.cell? ⟨g', k * 7, none⟩ = some (.int .u32 c.inn.1) := hbt k c hc 0 (by omega)
      have b1 : w.cell? ⟨g', k * 7 + 1, none⟩ = some (.int .i64 c.inn.2) := hbt k c hc 1 (by omega)
      have b2 : w.cell? ⟨g', k * 7 + 2, none⟩ = some (.int .u32 c.to.1) := hbt k c hc 2 (by omega)
      have b3 : w.cell? ⟨g', k * 7 + 3, none⟩ = some (.int .i64 c.to.2) := hbt k c hc 3 (by omega)
      have b4 : w.cell? ⟨g', k * 7 + 4, none⟩ = some (.int .i64 c.port) := hbt k c hc 4 (by omega)
      have b5 : w.cell? ⟨g', k * 7 + 5, none⟩ = some (.int .i64 c.until_) := hbt k c hc 5 (by omega)
      have b6 : w.cell? ⟨g', k * 7 + 6, none⟩ = some (.bool c.asked) := hbt k c hc 6 (by omega)
      have hq := fun W => neq_bn b c W
      rw [HS.out k b c hb hc] at hq
      clear hat hbt hb hc hg1 hg2
      go_wp2
      go_quiet (fail)
      go_wp2
      go_roundw
      case rel => exact ⟨k + 1, _, by omega, by go_num, rfl⟩
      case measure => simp [intOf]; omega
    · go_wp2
      go_ret
      exact ⟨rfl, below_drw (Below.refl _ _) _⟩
end Go.Proofs.Ytemlnkcokeckmaa
namespace Go.Proofs.Ytemlnkcokeckmaa
open Go.RowKit
attribute [local go_sem] Oper.semAt_some
set_option linter.unusedVariables false
set_option linter.unusedSimpArgs false

/-- a row that holds bindings as they are told reads as them -/
theorem isBs_own {B : Nat} {w : World} {v : Value} {l : List Bn} (hr : w.ownsRow B 54 7 v l.length (cellsB l)) : IsBs w v l := by
  rcases hr.2 with ⟨rfl, h0⟩ | ⟨g, cap, cur, e, hb, hg, hn, hm, hsz, htake⟩
  · exact ⟨none, 0, by rw [h0], by omega, Nat.zero_le _, fun h => by omega⟩
  · refine ⟨some ⟨g, 0, none⟩, cap, e, hn, hm, fun _ => ⟨g, rfl, ⟨_, hg⟩, fun j d hj i hi => ?_⟩⟩
    have hj2 := (List.getElem?_eq_some_iff.1 hj).1
    rw [e] at hr
    rw [hr.cellAt (j * 7 + i) (by omega)]
    exact cellsB_at hj i hi

set_option maxRecDepth 100000 in
set_option maxHeartbeats 4000000 in
theorem rall_any {w : World} {rb : Nat} {x : Bx} {now : Int} {v : Value} {L : List Rb} (h : Ra w rb x now v L) (t : Int) (hL : L.length ≤ 100) :
    Calls Try.prog 28 #[.pointer (some ⟨rb, 0, none⟩), .int .i64 t] w fun e w' =>
      (goes now t = true ∧ (∃ u, e = .returned u ∧ IsBs w' u ((liveR L t).map Rb.b)) ∧ RStep w w' rb x v L t (liveR L t)) ∨
      (goes now t = false ∧ e = .returned (.slice none 0 0) ∧ RStep w w' rb x v L now L) := by
  have HRA := Lib.hid h
  cases hgo : goes now t with
  | false =>
    have HC := Lib.hid (on_no h t hgo)
    clear hgo h
    go_enter Try.func28, Try.ntmps28
    go_wp2_with fail
    refine HC.out.mono ?_
    rintro e w2 ⟨rfl, rfl⟩
    go_wp2
    go_ret
    exact .inr ⟨by trivial, rfl, RStep.same HRA.out (Below.refl _ _)⟩
  | true =>
    have HC := Lib.hid (on_yes h t hgo hL)
    clear hgo h
    go_enter Try.func28, Try.ntmps28
    go_wp2_with fail
    refine HC.out.mono ?_
    rintro e w2 ⟨rfl, v', hr2, hv', hk2⟩
    have HST : Hid (∀ w', Below w2.heap.size w2 w' → RStep w w' rb x v L t (liveR L t)) := Lib.hid (fun w' hb => RStep.on HRA.out (Below.refl _ _) hr2 hv' hk2 hb)
    have HR2 := Lib.hid hr2
    have HLE : Hid ((liveR L t).length ≤ 100) := Lib.hid (Nat.le_trans (List.length_filter_le _ _) hL)
    clear hr2 hv' hk2 HC
    obtain ⟨LL, hLL⟩ : ∃ LL, liveR L t = LL := ⟨_, rfl⟩
    rw [hLL] at HST HR2 HLE
    have HLL := Lib.hid hLL
    clear hLL
    obtain ⟨A, c, rfl, hlc, hcm, hnil, -⟩ := HR2.out.form
    unfold maxLen at hcm
    obtain ⟨n, hn⟩ : ∃ n, LL.length = n := ⟨_, rfl⟩
    have HN := Lib.hid hn
    rw [hn] at hlc hnil HR2
    have hn100 : n ≤ 100 := by rw [← hn]; exact HLE.out
    clear hn
    go_wp2
    go_loopw [6, 5] (fun i u wr => ∃ k : Nat, k ≤ n ∧ i = .int .i64 (k : Int) ∧ (∃ A n c, u = .slice A n c) ∧ wr.ownsRow w2.heap.size 54 7 u ((LL.take k).map Rb.b).length (cellsB ((LL.take k).map Rb.b)) ∧ Below w2.heap.size w2 wr) (fun i _ _ => n - (intOf i).toNat)
    case atStart => exact ⟨0, by omega, rfl, ⟨_, _, _, rfl⟩, World.ownsRow_nil _ _ _ _, Below.refl _ _⟩
    case round =>
      obtain ⟨k, hk, rfl, ⟨Au, nu, cu, rfl⟩, hown, hbel⟩ := hrel
      have HB := Lib.hid hbel
      have HO := Lib.hid hown
      have HRR := Lib.hid (HR2.out.below hbel)
      obtain ⟨-, d7, -, -⟩ := HRR.out.cells
      have hlr := HRR.out.lt
      clear hbel hown
      by_cases hkn : k < n
      · obtain ⟨d, hd⟩ : ∃ d, LL[k]? = some d := ⟨_, List.getElem?_eq_getElem (by have := HN.out; omega)⟩
        obtain ⟨g, c', e1, _, _, hat, -, hgl⟩ := HRR.out.at hd
        cases e1
        have a0 : wr.cell? ⟨g, k * 8, none⟩ = some (.int .u32 d.b.inn.1) := hat 0 (by omega)
        have a1 : wr.cell? ⟨g, k * 8 + 1, none⟩ = some (.int .i64 d.b.inn.2) := hat 1 (by omega)
        have a2 : wr.cell? ⟨g, k * 8 + 2, none⟩ = some (.int .u32 d.b.to.1) := hat 2 (by omega)
        have a3 : wr.cell? ⟨g, k * 8 + 3, none⟩ = some (.int .i64 d.b.to.2) := hat 3 (by omega)
        have a4 : wr.cell? ⟨g, k * 8 + 4, none⟩ = some (.int .i64 d.b.port) := hat 4 (by omega)
        have a5 : wr.cell? ⟨g, k * 8 + 5, none⟩ = some (.int .i64 d.b.until_) := hat 5 (by omega)
        have a6 : wr.cell? ⟨g, k * 8 + 6, none⟩ = some (.bool d.b.asked) := hat 6 (by omega)
        obtain ⟨v9, W9, t1, t2, t3, t4⟩ := row_end d.b HO.out (by rw [List.length_map, List.length_take]; omega) HB.out.size
        obtain ⟨A9, N9, C9, rfl⟩ := t2
        have T1 := Lib.hid t1
        have HRW9 : Hid (W9.ownsRow w2.heap.size 54 7 (.slice A9 N9 C9) ((LL.take (k + 1)).map Rb.b).length (cellsB ((LL.take (k + 1)).map Rb.b))) := Lib.hid (by
          rw [List.take_add_one, hd, List.map_append]; exact t3)
        have HB9 := Lib.hid (HB.out.trans t4)
        unfold encB Bn.cells at T1
        clear hat hd t1 t3 t4
        go_wp2_with (at_builtin; refine wpList_run rfl (.tmp 20) (.tmp 29) 48 rfl rfl rfl T1.out ?_)
        go_roundw
        case rel => exact ⟨k + 1, by omega, by go_num, ⟨_, _, _, rfl⟩, HRW9.out, HB9.out⟩
        case measure => simp [intOf]; omega
      · have e : LL.take k = LL := List.take_of_length_le (by have := HN.out; omega)
        rw [e] at HO
        clear e
        have HI := Lib.hid (isBs_own HO.out)
        go_wp2
        go_ret
        rw [HLL.out]
        exact .inl ⟨by trivial, ⟨_, rfl, HI.out⟩, HST.out _ HB.out⟩
end Go.Proofs.Ytemlnkcokeckmaa
namespace Go.Proofs.Ytemlnkcokeckmaa
open Go.RowKit
attribute [local go_sem] Oper.semAt_some
set_option linter.unusedVariables false
set_option linter.unusedSimpArgs false

/-- may a box be, as the document says it -/
def RMay (x : Bx) : Prop := x.host ≠ 0 ∧ 1 ≤ x.lo ∧ x.lo ≤ x.hi ∧ x.hi ≤ 65535 ∧ 0 ≤ x.map ∧ x.map ≤ 2 ∧ 0 ≤ x.filter ∧ x.filter ≤ 2 ∧ 1 ≤ x.life ∧ x.life ≤ 1099511627776 ∧ 1 ≤ x.most ∧ x.most ≤ 100
instance (x : Bx) : Decidable (RMay x) := by unfold RMay; infer_instance
theorem ret_no {p : Prop} [Decidable p] (h : ¬ p) : Ending.returned (.bool false) = .returned (.bool (decide p)) := by rw [decide_eq_false h]
theorem ret_yes {p : Prop} [Decidable p] (h : p) : Ending.returned (.bool true) = .returned (.bool (decide p)) := by rw [decide_eq_true h]

set_option maxRecDepth 100000 in
set_option maxHeartbeats 4000000 in
theorem rmay_any (x : Bx) (w : World) : Calls Try.prog 15 #[.agg (boxCells x)] w fun e w' => e = .returned (.bool (decide (RMay x))) ∧ Below w.heap.size w w' := by
  have HB : Hid (∀ C : Obj, Below w.heap.size w (w.alloc C)) := Lib.hid (fun C => (Below.refl _ w).alloc (Nat.le_refl _) _)
  obtain ⟨host, lo, hi, map, filter, life, most⟩ := x
  unfold boxCells
  dsimp only
  obtain ⟨R, hR⟩ : ∃ R, RMay ⟨host, lo, hi, map, filter, life, most⟩ = R := ⟨_, rfl⟩
  have HD : Hid (decide (RMay ⟨host, lo, hi, map, filter, life, most⟩) = decide (host ≠ 0 ∧ 1 ≤ lo ∧ lo ≤ hi ∧ hi ≤ 65535 ∧ 0 ≤ map ∧ map ≤ 2 ∧ 0 ≤ filter ∧ filter ≤ 2 ∧ 1 ≤ life ∧ life ≤ 1099511627776 ∧ 1 ≤ most ∧ most ≤ 100)) := Lib.hid (by unfold RMay; rfl)
  clear hR
  generalize decide (RMay ⟨host, lo, hi, map, filter, life, most⟩) = D at *
  go_enter Try.func15, Try.ntmps15
  by_cases k0 : host = 0
  · subst k0
    have HF : Hid (D = false) := Lib.hid (by rw [HD.out]; exact decide_eq_false (by omega))
    go_wp2
    go_ret
    exact ⟨ret_b HF.out.symm, HB.out _⟩
  have b0 : (host == 0) = false := by simpa using k0
  by_cases k1 : lo < 1
  · have HF : Hid (D = false) := Lib.hid (by rw [HD.out]; exact decide_eq_false (by omega))
    go_wp2
    go_ret
    exact ⟨ret_b HF.out.symm, HB.out _⟩
  by_cases k2 : hi < lo
  · have HF : Hid (D = false) := Lib.hid (by rw [HD.out]; exact decide_eq_false (by omega))
    go_wp2
    go_ret
    exact ⟨ret_b HF.out.symm, HB.out _⟩
  by_cases k3 : 65535 < hi
  · have HF : Hid (D = false) := Lib.hid (by rw [HD.out]; exact decide_eq_false (by omega))
    go_wp2
    go_ret
    exact ⟨ret_b HF.out.symm, HB.out _⟩
  by_cases k4 : map < 0
  · have HF : Hid (D = false) := Lib.hid (by rw [HD.out]; exact decide_eq_false (by omega))
    go_wp2
    go_ret
    exact ⟨ret_b HF.out.symm, HB.out _⟩
  by_cases k5 : 2 < map
  · have HF : Hid (D = false) := Lib.hid (by rw [HD.out]; exact decide_eq_false (by omega))
    go_wp2
    go_ret
    exact ⟨ret_b HF.out.symm, HB.out _⟩
  by_cases k6 : filter < 0
  · have HF : Hid (D = false) := Lib.hid (by rw [HD.out]; exact decide_eq_false (by omega))
    go_wp2
    go_ret
    exact ⟨ret_b HF.out.symm, HB.out _⟩
  by_cases k7 : 2 < filter
  · have HF : Hid (D = false) := Lib.hid (by rw [HD.out]; exact decide_eq_false (by omega))
    go_wp2
    go_ret
    exact ⟨ret_b HF.out.symm, HB.out _⟩
  by_cases k8 : 1 ≤ life
  case neg =>
    have HF : Hid (D = false) := Lib.hid (by rw [HD.out]; exact decide_eq_false (by omega))
    go_wp2
    go_ret
    exact ⟨ret_b HF.out.symm, HB.out _⟩
  by_cases k9 : life ≤ 1099511627776
  case neg =>
    have HF : Hid (D = false) := Lib.hid (by rw [HD.out]; exact decide_eq_false (by omega))
    go_wp2
    go_ret
    exact ⟨ret_b HF.out.symm, HB.out _⟩
  by_cases k10 : 1 ≤ most
  case neg =>
    have HF : Hid (D = false) := Lib.hid (by rw [HD.out]; exact decide_eq_false (by omega))
    go_wp2
    go_ret
    exact ⟨ret_b HF.out.symm, HB.out _⟩
  by_cases k11 : most ≤ 100
  case neg =>
    have HF : Hid (D = false) := Lib.hid (by rw [HD.out]; exact decide_eq_false (by omega))
    go_wp2
    go_ret
    exact ⟨ret_b HF.out.symm, HB.out _⟩
  have HF : Hid (D = true) := Lib.hid (by rw [HD.out]; exact decide_eq_true (by omega))
  go_wp2
  go_ret
  exact ⟨ret_b HF.out.symm, HB.out _⟩
end Go.Proofs.Ytemlnkcokeckmaa
namespace Go.Proofs.Ytemlnkcokeckmaa
open Go.RowKit
attribute [local go_sem] Oper.semAt_some
set_option linter.unusedVariables false
set_option linter.unusedSimpArgs false

/-- all but the one at place k -/
def cutR (L : List Rb) (k : Nat) : List Rb := L.take k ++ L.drop (k + 1)

set_option maxRecDepth 100000 in
set_option maxHeartbeats 8000000 in
theorem rdrop_any {w : World} {rb : Nat} {x : Bx} {now : Int} {v : Value} {L : List Rb} (h : Ra w rb x now v L) (t : Int) (a : A2) (hL : L.length ≤ 100) :
    Calls Try.prog 24 #[.pointer (some ⟨rb, 0, none⟩), .int .i64 t, adr a] w fun e w' =>
      (goes now t = false ∧ e = .returned (.bool false) ∧ RStep w w' rb x v L now L) ∨
      (goes now t = true ∧ (∀ d ∈ liveR L t, findP a true (0, 0) d.b = false) ∧ e = .returned (.bool false) ∧ RStep w w' rb x v L t (liveR L t)) ∨
      (goes now t = true ∧ ∃ (k : Nat) (d : Rb), (liveR L t)[k]? = some d ∧ findP a true (0, 0) d.b = true ∧ (∀ (j : Nat) (e : Rb), j < k → (liveR L t)[j]? = some e → findP a true (0, 0) e.b = false) ∧ e = .returned (.bool true) ∧ RStep w w' rb x v L t (cutR (liveR L t) k)) := by
  have HRA := Lib.hid h
  have hB : ∀ C : Obj, Below w.heap.size w (w.alloc C) := fun C => (Below.refl _ w).alloc (Nat.le_refl _) _
  have HB := Lib.hid hB
  have HR1 := Lib.hid (fun C => h.below (hB C))
  have HN1 : Hid ((w.alloc (.cells #[.int .u32 a.1, .int .i64 a.2] 38)).heap[w.heap.size]? = _) := Lib.hid (World.alloc_heap_new w _)
  clear h hB
  unfold adr
  cases hgo : goes now t with
  | false =>
    have HC := Lib.hid (fun C => on_no (HR1.out C) t hgo)
    clear hgo
    go_enter Try.func24, Try.ntmps24
    go_wp2_with fail
    refine (HC.out _).mono ?_
    rintro e w2 ⟨rfl, rfl⟩
    go_wp2
    go_ret
    exact .inl ⟨by trivial, rfl, RStep.same HRA.out (HB.out _)⟩
  | true =>
    have HC := Lib.hid (fun C => on_yes (HR1.out C) t hgo hL)
    clear hgo
    go_enter Try.func24, Try.ntmps24
    go_wp2_with fail
    refine (HC.out _).mono ?_
    rintro e w2 ⟨rfl, v', hr2, hv', hk2⟩
    have hlt := HRA.out.lt
    have n2 : w2.heap[w.heap.size]? = _ := (hk2.block _ (Array.getElem?_eq_some_iff.1 HN1.out).1 (by omega)).trans HN1.out
    have HST : Hid (∀ w', Below w2.heap.size w2 w' → RStep w w' rb x v L t (liveR L t)) := Lib.hid (fun w' hb => RStep.on HRA.out (HB.out _) hr2 hv' hk2 hb)
    have HR2 := Lib.hid hr2
    have HLE : Hid ((liveR L t).length ≤ 100) := Lib.hid (Nat.le_trans (List.length_filter_le _ _) hL)
    clear hr2 hv' hk2 HC HR1 HN1 HB
    obtain ⟨LL, hLL⟩ : ∃ LL, liveR L t = LL := ⟨_, rfl⟩
    rw [hLL] at HST HR2 HLE
    have HLL := Lib.hid hLL
    clear hLL
    have HF := Lib.hid (fun W (hb : Below w2.heap.size w2 W) => find_any (HR2.out.below hb) a true (0, 0))
    have p0 : w2.cell? ⟨w.heap.size, 0, none⟩ = some (.int .u32 a.1) := (cells_of n2 0).1
    have p1 : w2.cell? ⟨w.heap.size, 1, none⟩ = some (.int .i64 a.2) := (cells_of n2 1).1
    have pl := (Array.getElem?_eq_some_iff.1 n2).1
    clear n2
    unfold adr at HF
    go_wp2_with fail
    refine (HF.out _ (Below.refl _ _)).mono ?_
    rintro e w3 ⟨⟨r, rfl, hfr⟩, hb3⟩
    have HR3 := Lib.hid (HR2.out.below hb3)
    have HST3 := Lib.hid (HST.out _ hb3)
    clear HF p0 p1 pl hb3
    rcases hfr with ⟨k, d, hd, hp, hmin, rfl⟩ | ⟨hno, rfl⟩
    · have HD := Lib.hid hd
      have HP := Lib.hid hp
      have HMIN := Lib.hid hmin
      have hkl := (List.getElem?_eq_some_iff.1 hd).1
      have hle := HLE.out
      clear hd hp hmin
      obtain ⟨A, c, rfl, hlc, hcm, hoff, hrow⟩ := HR3.out.rowR
      have HSV1 : Hid (∀ d ∈ LL.take k, d.sv.oneCell' = true) := Lib.hid (fun d hd => sv_one (HR3.out.nds d (List.mem_of_mem_take hd)))
      have HSV2 : Hid (∀ d ∈ LL.drop (k + 1), d.sv.oneCell' = true) := Lib.hid (fun d hd => sv_one (HR3.out.nds d (List.mem_of_mem_drop hd)))
      have HEND : Hid (∀ (W : World) (g c n : Nat), Below w3.heap.size w3 W → OwnR w3.heap.size W g c ([] ++ LL.take k ++ LL.drop (k + 1)) → ([] ++ LL.take k ++ LL.drop (k + 1)).length = n → RStep w (W.setCell ⟨rb, 7, none⟩ (.slice (some ⟨g, 0, none⟩) n c)) rb x v L t (cutR LL k)) := Lib.hid (fun W g c n h1 h2 h3 => rrow_end (now := now) (v1 := v) HST3.out (fun d hd => by
        left
        rw [List.nil_append, List.mem_append] at hd
        exact hd.elim List.mem_of_mem_take List.mem_of_mem_drop) h1 h2 h3 (by unfold cutR; rw [List.nil_append]))
      have HC : Hid (∀ W, Below w3.heap.size w3 W → W.cell? ⟨rb, 7, none⟩ = some (.slice A LL.length c) ∧ W.frozen? ⟨rb, 7, none⟩ = false) := Lib.hid (fun W hW => by
        have h1 := (HR3.out.below hW).cells
        exact ⟨h1.2.1, h1.2.2.2 7⟩)
      have c0 := (HC.out _ (Below.refl _ _)).1
      have hrb := HR3.out.lt
      obtain ⟨b, rfl⟩ : ∃ b, A = some ⟨b, 0, none⟩ := by
        cases A with
        | none =>
          rcases hrow with ⟨_, e, _⟩ | ⟨b, off, C, e, _⟩
          · rw [e] at hkl; simp at hkl
          · cases e
        | some a =>
          obtain ⟨b, rfl⟩ := hoff a rfl
          exact ⟨b, rfl⟩
      have HR := Lib.hid hrow
      clear hrow hoff
      unfold maxLen at hcm
      obtain ⟨n, hn⟩ : ∃ n, n = LL.length := ⟨_, rfl⟩
      have HN := Lib.hid hn
      rw [← hn] at c0 hlc hkl hle
      have HC2 : Hid (∀ W, Below w3.heap.size w3 W → W.cell? ⟨rb, 7, none⟩ = some (.slice (some ⟨b, 0, none⟩) n c) ∧ W.frozen? ⟨rb, 7, none⟩ = false) := Lib.hid (fun W hW => by rw [hn]; exact HC.out W hW)
      clear hn HC
      have l1 : (k : Int) + 1 ≤ (n : Int) := by omega
      have l2 : IntKind.i64.wrap ((k : Int) + 1) = (k : Int) + 1 := by
        simp [IntKind.wrap, IntKind.signed, IntKind.bits] <;> omega
      have hB0 : Below w3.heap.size w3 ((w3.drewN 1).alloc (.cells #[] 104)) := (below_drw (Below.refl _ w3) 1).alloc (Nat.le_refl _) _
      have dA := (HC2.out _ hB0).1
      have HR1 : Hid (∀ W, Below w3.heap.size w3 W → RowR W (some ⟨b, 0, none⟩) (LL.take k) c) := Lib.hid (fun W hW => (HR.out.take k).below hW)
      have HL1 : Hid ((LL.take k).length = k) := Lib.hid (by rw [List.length_take]; have := HN.out; omega)
      have HL2 : Hid ((LL.drop (k + 1)).length = n - (k + 1)) := Lib.hid (by rw [List.length_drop, HN.out])
      have HB0 := Lib.hid hB0
      have HSH : Hid (∀ (W W' : World) (g : Nat), Below w3.heap.size w3 W → w3.heap.size ≤ g → W.grownBy W' (some g) → Below w3.heap.size w3 W') := Lib.hid (fun W W' g h1 h2 h3 => below_appR h1 h3 h2 h1.size)
      clear hB0
      have HL3 : Hid (([] ++ LL.take k ++ LL.drop (k + 1)).length = k + (n - (k + 1))) := Lib.hid (by rw [List.nil_append, List.length_append, HL1.out, HL2.out])
      have l3 : (k : Int) ≤ (c : Int) := by omega
      have l4 : k ≤ c := by omega
      have l5 : ¬ c = 0 := by omega
      have l6 : (0 : Int) ≤ (k : Int) := by omega
      have l8 : (0 : Int) ≤ (k : Int) + 1 := by omega
      have l7 : (n : Int) ≤ (c : Int) := by omega
      by_cases hck : c = k + 1
      · have hcz : c - (k + 1) = 0 := by omega
        have hnz : n - (k + 1) = 0 := by omega
        have hKN := Lib.hid (show n = k + 1 by omega)
        have hce : (c = k + 1) = True := eq_true hck
        clear hck
        have HR2' : Hid (∀ W, Below w3.heap.size w3 W → RowR W (some ⟨b, 0, none⟩) (LL.drop (k + 1)) 0) := Lib.hid (fun W hW => by rw [List.drop_of_length_le (by have := HN.out; have := hKN.out; omega)]; exact (HR.out.below hW).nil 0)
        have HL4 : Hid ((LL.drop (k + 1)).length = 0) := Lib.hid (by have := HL2.out; omega)
        have HL5 : Hid (([] ++ LL.take k ++ LL.drop (k + 1)).length = k) := Lib.hid (by have := HL3.out; omega)
        go_wp2
        go_region_law (first
          | (refine step_appR rfl (.tmp 19) (.tmp 25) rfl (N := w3.heap.size) (g := w3.heap.size) (c0 := 0) (n := 0) (M := []) rfl (OwnR.lit (w3.drewN 1) (Nat.le_refl _)) rfl (A := some ⟨b, 0, none⟩) (m := k) (c := c) (M2 := LL.take k) rfl (HR1.out _ HB0.out) HL1.out HSV1.out (by omega) HB0.out.size ?_; intro g1 c1 w4 hO2 hg2 hl2; have hb2 := HSH.out _ _ _ HB0.out (Nat.le_refl _) hg2; have c2 := (HC2.out _ hb2).1; have f2 := (HC2.out _ hb2).2; have HO2 := Lib.hid hO2; have HB2 := Lib.hid hb2; clear hO2 hb2 hg2 hl2)
          | (refine step_appR rfl (.tmp 26) (.tmp 33) rfl (N := w3.heap.size) (g := g1) (c0 := c1) (n := k) (M := [] ++ LL.take k) rfl HO2.out HL1.out (A := some ⟨b, 0, none⟩) (m := 0) (c := 0) (M2 := LL.drop (k + 1)) rfl (HR2'.out _ HB2.out) HL4.out HSV2.out (by omega) HB2.out.size ?_; intro g3 c3 w5 hO3 hg3 hl3; have hb3 := HSH.out _ _ _ HB2.out HO2.out.parts.1 hg3; have c4 := (HC2.out _ hb3).1; have f4 := (HC2.out _ hb3).2; have HO3 := Lib.hid hO3; have HB3 := Lib.hid hb3; clear hO3 hb3 hg3 hl3))
        all_goals
          have HEN := Lib.hid (HEND.out _ _ _ _ HB3.out HO3.out HL5.out)
          clear HO3 HB3 c4 f4
          go_wp2
          go_ret
          rw [HLL.out]
          exact .inr (.inr ⟨by trivial, k, d, HD.out, HP.out, HMIN.out, rfl, HEN.out⟩)
      · have hck2 : ¬ c - (k + 1) = 0 := by omega
        have HR2' : Hid (∀ W, Below w3.heap.size w3 W → RowR W (some ⟨b, 0 + (k + 1) * 8, none⟩) (LL.drop (k + 1)) (c - (k + 1))) := Lib.hid (fun W hW => (HR.out.below hW).drop (k + 1) (c - (k + 1)))
        rw [Nat.zero_add] at HR2'
        go_wp2
        go_region_law (first
          | (refine step_appR rfl (.tmp 19) (.tmp 25) rfl (N := w3.heap.size) (g := w3.heap.size) (c0 := 0) (n := 0) (M := []) rfl (OwnR.lit (w3.drewN 1) (Nat.le_refl _)) rfl (A := some ⟨b, 0, none⟩) (m := k) (c := c) (M2 := LL.take k) rfl (HR1.out _ HB0.out) HL1.out HSV1.out (by omega) HB0.out.size ?_; intro g1 c1 w4 hO2 hg2 hl2; have hb2 := HSH.out _ _ _ HB0.out (Nat.le_refl _) hg2; have c2 := (HC2.out _ hb2).1; have f2 := (HC2.out _ hb2).2; have HO2 := Lib.hid hO2; have HB2 := Lib.hid hb2; clear hO2 hb2 hg2 hl2)
          | (refine step_appR rfl (.tmp 26) (.tmp 33) rfl (N := w3.heap.size) (g := g1) (c0 := c1) (n := k) (M := [] ++ LL.take k) rfl HO2.out HL1.out (A := some ⟨b, (k + 1) * 8, none⟩) (m := n - (k + 1)) (c := c - (k + 1)) (M2 := LL.drop (k + 1)) rfl (HR2'.out _ HB2.out) HL2.out HSV2.out (by omega) HB2.out.size ?_; intro g3 c3 w5 hO3 hg3 hl3; have hb3 := HSH.out _ _ _ HB2.out HO2.out.parts.1 hg3; have c4 := (HC2.out _ hb3).1; have f4 := (HC2.out _ hb3).2; have HO3 := Lib.hid hO3; have HB3 := Lib.hid hb3; clear hO3 hb3 hg3 hl3))
        all_goals
          have HEN := Lib.hid (HEND.out _ _ _ _ HB3.out HO3.out HL3.out)
          clear HO3 HB3 c4 f4
          go_wp2
          go_ret
          rw [HLL.out]
          exact .inr (.inr ⟨by trivial, k, d, HD.out, HP.out, HMIN.out, rfl, HEN.out⟩)
    · have HNO := Lib.hid hno
      clear hno
      go_wp2
      go_ret
      rw [HLL.out]
      exact .inr (.inl ⟨by trivial, HNO.out, rfl, HST3.out⟩)
end Go.Proofs.Ytemlnkcokeckmaa
