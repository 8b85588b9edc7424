/-
  PcpApart: two requests are the same just if their leases and clients are; none of the elder protocol's datagrams is one of this, nor the other way round. Conditions: none.
-/
import Derived.Deep.QuietTactic
import Derived.Test.YtabokjhimpmiiaaEqs
import Derived.Test.YtabokjhimpmiiaaPawk
import Derived.Test.YtabokjhimpmiiaaRows
import Derived.WalkKit
import Derived.ProofKit
import Derived.OpenShut
import Derived.ShutString
import Derived.ChangeOld
import Derived.Below
namespace Go.Proofs.Ytabokjhimpmiiaa.pcpApart
open Go.ChangeShapes Go.WideShapes Go.ChangeAt Go.RowKit
open Go.ChangeMaps (open_string shut_string)
set_option linter.unusedVariables false

theorem own : ownKnob Try.prog.godebug = none := by kernel_rfl
theorem laidOut : laidOutB Try.prog = true := by kernel_rfl

attribute [local go_sem] Oper.semAt_some
theorem lay47 (W : World) (a b : Int) : (W.alloc (.cells #[.int .u32 a, .int .u32 b] 47)).cell? ⟨W.heap.size, 0, none⟩ = some (.int .u32 a) ∧ (W.alloc (.cells #[.int .u32 a, .int .u32 b] 47)).cell? ⟨W.heap.size, 1, none⟩ = some (.int .u32 b) := by
  have n4 : (W.alloc (.cells #[.int .u32 a, .int .u32 b] 47)).heap[W.heap.size]? = some (.cells #[.int .u32 a, .int .u32 b] 47 (0, 0)) := by
    show (W.heap.push _)[W.heap.size]? = _
    simp
  exact ⟨(cells_of n4 0).1, (cells_of n4 1).1⟩
/-- the three inputs' boxes -/
structure S3 (w W : World) (la lb : Le) (ca cb : Int) : Prop where
  low : Below w.heap.size w W
  a : LeAt W w.heap.size la
  b : LeAt W (w.heap.size + 1) lb
  h : W.cell? ⟨w.heap.size + 2, 0, none⟩ = some (.int .u32 ca) ∧ W.cell? ⟨w.heap.size + 2, 1, none⟩ = some (.int .u32 cb)
theorem S3.below {w W W' : World} {la lb : Le} {ca cb : Int} (h : S3 w W la lb ca cb) (hbl : Below W.heap.size W W') : S3 w W' la lb ca cb :=
  ⟨h.low.trans (hbl.mono h.low.size), h.a.below hbl h.a.lt, h.b.below hbl h.b.lt, (hbl.cell (p := ⟨w.heap.size + 2, 0, none⟩) (lt_of_cell h.h.1)).trans h.h.1, (hbl.cell (p := ⟨w.heap.size + 2, 1, none⟩) (lt_of_cell h.h.2)).trans h.h.2⟩
theorem S3.start (w : World) (la lb : Le) (ca cb : Int) : S3 w (((w.alloc (.cells (leA la) 25)).alloc (.cells (leA lb) 25)).alloc (.cells #[.int .u32 ca, .int .u32 cb] 47)) la lb ca cb := by
  have a1 : Below w.heap.size w (w.alloc (.cells (leA la) 25)) := (Below.refl _ w).alloc (Nat.le_refl _) _
  have b2 : Below (w.heap.size + 1) (w.alloc (.cells (leA la) 25)) ((w.alloc (.cells (leA la) 25)).alloc (.cells (leA lb) 25)) := (Below.refl _ _).alloc (by simp) _
  have b3 : Below (w.heap.size + 2) ((w.alloc (.cells (leA la) 25)).alloc (.cells (leA lb) 25)) (((w.alloc (.cells (leA la) 25)).alloc (.cells (leA lb) 25)).alloc (.cells #[.int .u32 ca, .int .u32 cb] 47)) := (Below.refl _ _).alloc (by simp) _
  have n2 := LeAt.new (w.alloc (.cells (leA la) 25)) lb
  rw [World.size_alloc] at n2
  have n3 := lay47 ((w.alloc (.cells (leA la) 25)).alloc (.cells (leA lb) 25)) ca cb
  have e : ((w.alloc (.cells (leA la) 25)).alloc (.cells (leA lb) 25)).heap.size = w.heap.size + 2 := by simp
  rw [e] at n3
  exact ⟨(a1.alloc (by simp) _).alloc (by simp; omega) _, ((LeAt.new w la).below b2 (by omega)).below b3 (by omega), n2.below b3 (by omega), n3⟩
theorem pback_eq {l l' : Le} {c c' : Int} (i : isL l) (i' : isL l') (hc : 0 ≤ c ∧ c < 4294967296) (hc' : 0 ≤ c' ∧ c' < 4294967296) (h1 : Pas l) (h2 : Pas l') (e : paskR l c = paskR l' c') : l = l' ∧ c = c' := by
  have a := pback_ask i hc h1
  have b := pback_ask i' hc' h2
  rw [e] at a
  exact ⟨a.1.symm.trans b.1, a.2.symm.trans b.2⟩
theorem plen_of {l : Le} {c : Int} (hl : 0 < (paskR l c).length) : Pas l := by
  by_cases hb : Pas l
  · exact hb
  · rw [paskR_no c hb] at hl; simp at hl
theorem ask_short (l : Le) (h : Bool) : (askR l h).length ≠ 60 := by
  unfold askR
  split
  · split <;> simp
  · simp
theorem ans_short (l : Le) (h : Bool) : (ansR l h).length ≠ 60 := by
  unfold ansR
  split
  · split <;> simp
  · simp
theorem not_ask {zs : List Int} (hz : zs.length = 60 ∨ zs = []) (l : Le) (h : Bool) : ¬ AskOf zs l h := by
  intro hk
  rcases hz with hz | rfl
  · obtain ⟨h1, h2⟩ := hk
    exact ask_short l h (by rw [← h2]; exact hz)
  · exact ask_empty hk
theorem not_ans {zs : List Int} (hz : zs.length = 60 ∨ zs = []) (l : Le) (h : Bool) : ¬ AnsOf zs l h := by
  intro hk
  rcases hz with hz | rfl
  · obtain ⟨h0, h1, h2⟩ := hk
    exact ans_short l h (by rw [← h2]; exact hz)
  · exact ans_empty hk
set_option maxRecDepth 100000 in
set_option maxHeartbeats 8000000 in
theorem walk (v0 : Value) (s0 : Le) (v1 : Value) (s1 : Le) (v2 : Value) (s2 : (Int × Int)) (w : World) (w0 : IsLe w v0 s0) (w1 : IsLe w v1 s1) (w2 : IsTwo w v2 s2) :
    Calls Try.prog 9 #[v0, v1, v2] w fun e w' => e = .returned (.bool true) ∧ Below w.heap.size w w' := by
  obtain ⟨rfl, hl⟩ := w0
  obtain ⟨rfl, hl'⟩ := w1
  obtain ⟨ca, cb⟩ := s2
  obtain ⟨rfl, hca, hcb⟩ := w2
  dsimp only at hca hcb ⊢
  have hm : isL ⟨0, s0.ins, s0.prt, s0.secs, 0, 0, 0, 0⟩ := ⟨by simp [W64], hl.ins, hl.prt, hl.secs, by simp, by simp [W64], by simp [W64], by simp⟩
  have hz2 : (paskR s0 ca).length = 60 ∨ paskR s0 ca = [] := by
    by_cases h : Pas s0
    · exact .inl (paskR_len ca h)
    · exact .inr (paskR_no ca h)
  have hz5 : (pansR s0).length = 60 ∨ pansR s0 = [] := by
    by_cases h : Pan s0
    · exact .inl (pansR_len h)
    · exact .inr (pansR_no h)
  have CX1 := Lib.hid (fun V W (hr : Row W V (askR ⟨0, s0.ins, s0.prt, s0.secs, 0, 0, 0, 0⟩ false)) => pread_ask hr)
  have CX2 := Lib.hid (fun V W (hr : Row W V (ansR ⟨0, s0.ins, s0.prt, s0.secs, 0, 0, 0, 0⟩ false)) => pread_ans hr)
  rw [paR_len (askR_bd _ _) (ask_short _ _)] at CX1
  rw [pbR_len (ansR_bd _ _) (ans_short _ _)] at CX2
  have CX3 := Lib.hid (fun V W (hr : Row W V (paskR s0 ca)) => read_ask_not hr (fun l h => not_ask hz2 l h))
  have CX4 := Lib.hid (fun V W (hr : Row W V (pansR s0)) => read_ans_not hr (fun l h => not_ans hz5 l h))
  have CA := Lib.hid (fun W => ptell_ask s0 ca W hl hca)
  have CB := Lib.hid (fun W => ptell_ask s1 cb W hl' hcb)
  have CC := Lib.hid (fun W => ptell_ans s0 W hl)
  have CD := Lib.hid (fun W => tell_ask ⟨0, s0.ins, s0.prt, s0.secs, 0, 0, 0, 0⟩ false W hm)
  have CE := Lib.hid (fun W => tell_ans ⟨0, s0.ins, s0.prt, s0.secs, 0, 0, 0, 0⟩ false W hm)
  have HS0 := Lib.hid (S3.start w s0 s1 ca cb)
  have HEQ : Hid (0 < (paskR s0 ca).length → 0 < (paskR s1 cb).length → (decide (paskR s0 ca = paskR s1 cb) = (decide (s0 = s1) && (ca == cb)))) := Lib.hid (fun h1 h2 => by
    rw [Bool.eq_iff_iff]
    simp only [decide_eq_true_eq, Bool.and_eq_true, beq_iff_eq]
    exact ⟨pback_eq hl hl' hca hcb (plen_of h1) (plen_of h2), fun ⟨e1, e2⟩ => by rw [e1, e2]⟩)
  clear hl hl' hm hz2 hz5
  unfold paT leV leA zeroL at CX1
  unfold pbT leV leA zeroL at CX2
  unfold noV leV leA zeroL at CX3 CX4
  unfold leV leA at CA CB CC CD CE ⊢
  unfold leA at HS0
  dsimp only at CX1 CX2 CX3 CX4 CD CE
  go_enter Try.func9, Try.ntmps9
  go_wp2_with fail
  refine (pawake_any _).mono ?_
  rintro e w1 ⟨rfl, hb⟩
  have HS1 := Lib.hid (HS0.out.below hb)
  obtain ⟨x0, x1, x2, x3, x4, x5, x6, x7⟩ := HS1.out.a.cells
  obtain ⟨y0, y1⟩ := HS1.out.h
  clear hb HS0
  go_wp2_with fail
  refine (CA.out _).mono ?_
  rintro e w2 ⟨V2, rfl, hr, hb⟩
  have HS2 := Lib.hid (HS1.out.below hb)
  have HR2 := Lib.hid hr
  clear hb hr x0 x1 x2 x3 x4 x5 x6 x7 y0 y1
  obtain ⟨x0, x1, x2, x3, x4, x5, x6, x7⟩ := HS2.out.b.cells
  obtain ⟨y0, y1⟩ := HS2.out.h
  go_wp2_with fail
  refine (CB.out _).mono ?_
  rintro e w3 ⟨V3, rfl, hr, hb⟩
  have HS3 := Lib.hid (HS2.out.below hb)
  have HA3 := Lib.hid (HR2.out.below hb)
  have HR3 := Lib.hid hr
  clear hb hr x0 x1 x2 x3 x4 x5 x6 x7 y0 y1 HS1 HS2 HR2
  obtain ⟨x0, x1, x2, x3, x4, x5, x6, x7⟩ := HS3.out.a.cells
  obtain ⟨z0, z1, z2, z3, z4, z5, z6, z7⟩ := HS3.out.b.cells
  obtain ⟨y0, y1⟩ := HS3.out.h
  obtain ⟨A2, c2, rfl, v1, v2, v3, _⟩ := HA3.out
  obtain ⟨A3, c3, rfl, u1, u2, u3, _⟩ := HR3.out
  have CQ : Hid (∀ n, Calls Try.prog 14 #[.slice A2 (paskR s0 ca).length c2, .slice A3 (paskR s1 cb).length c3] (w3.drewN n) fun e w' => e = .returned (.bool (decide (paskR s0 ca = paskR s1 cb))) ∧ ∃ q, w' = (w3.drewN n).drewN q) := Lib.hid (fun n => same_any A2 A3 _ _ c2 c3 _ _ (w3.drewN n) (by omega) v1 u1)
  clear v1 v2 v3 u1 u2 u3
  generalize hR2 : paskR s0 ca = r2 at *
  generalize hR3 : paskR s1 cb = r3 at *
  generalize hn2 : r2.length = n2 at *
  generalize hn3 : r3.length = n3 at *
  have HN := Lib.hid (show r2.length = n2 ∧ r3.length = n3 from ⟨hn2, hn3⟩)
  clear hR2 hR3 hn2 hn3
  have hq := fun W => eq_le s0 s1 W
  unfold leA at hq
  generalize decide (s0 = s1) = dd at *
  by_cases h2 : n2 = 0
  · subst h2
    go_wp2_with fail
    go_quiet (fail)
    have hqq := hq
    clear hq
    obtain ⟨wq, hwq⟩ : ∃ W, w3.drewN nq = W := ⟨_, rfl⟩
    rw [hwq]
    have HSd : Hid (S3 w wq s0 s1 ca cb) := Lib.hid (by rw [← hwq]; exact HS3.out.below (below_drewN' (Below.refl _ _) nq))
    have HAd : Hid (Row wq (.slice A2 0 c2) r2) := Lib.hid (by rw [← hwq]; exact HA3.out.drew nq)
    clear hwq x0 x1 x2 x3 x4 x5 x6 x7 y0 y1 z0 z1 z2 z3 z4 z5 z6 z7
    obtain ⟨x0, x1, x2, x3, x4, x5, x6, x7⟩ := HSd.out.a.cells
    obtain ⟨k1, k2⟩ := lay wq ⟨0, s0.ins, s0.prt, s0.secs, 0, 0, 0, 0⟩
    have HS4 := Lib.hid (HSd.out.below k1)
    have HA4 := Lib.hid (HAd.out.below k1)
    have HX4 := Lib.hid k2
    unfold leA at HS4 HA4 HX4
    dsimp only at HS4 HA4 HX4
    clear k1 k2
    go_wp2_with fail
    refine (CD.out _).mono ?_
    rintro e w5 ⟨V5, rfl, hr, hb⟩
    have HS5 := Lib.hid (HS4.out.below hb)
    have HA5 := Lib.hid (HA4.out.below hb)
    have HX5 : Hid (LeAt w5 wq.heap.size ⟨0, s0.ins, s0.prt, s0.secs, 0, 0, 0, 0⟩) := Lib.hid (LeAt.below HX4.out hb (LeAt.lt HX4.out))
    have HR5 := Lib.hid hr
    clear hb hr x0 x1 x2 x3 x4 x5 x6 x7
    generalize wq.heap.size = gx at *
    go_wp2_with fail
    refine (CX1.out _ _ HR5.out).mono ?_
    rintro e w6 ⟨rfl, hb⟩
    obtain ⟨k1, _⟩ := lay w6 zeroL
    have HS6 := Lib.hid ((HS5.out.below hb).below k1)
    have HA6 := Lib.hid ((HA5.out.below hb).below k1)
    have HX6 := Lib.hid ((HX5.out.below hb HX5.out.lt).below k1 (HX5.out.below hb HX5.out.lt).lt)
    unfold leA zeroL at HS6 HA6 HX6
    dsimp only at HS6 HA6 HX6
    clear hb k1
    obtain ⟨x0, x1, x2, x3, x4, x5, x6, x7⟩ := LeAt.cells HX6.out
    dsimp only at x0 x1 x2 x3 x4 x5 x6 x7
    go_wp2_with fail
    refine (CE.out _).mono ?_
    rintro e w7 ⟨V7, rfl, hr, hb⟩
    have HS7 := Lib.hid (HS6.out.below hb)
    have HA7 := Lib.hid (HA6.out.below hb)
    have HR7 := Lib.hid hr
    clear hb hr x0 x1 x2 x3 x4 x5 x6 x7
    go_wp2_with fail
    refine (CX2.out _ _ HR7.out).mono ?_
    rintro e w8 ⟨rfl, hb⟩
    obtain ⟨k1, _⟩ := lay w8 zeroL
    have HS8 := Lib.hid ((HS7.out.below hb).below k1)
    have HA8 := Lib.hid ((HA7.out.below hb).below k1)
    unfold leA zeroL at HS8 HA8
    dsimp only at HS8 HA8
    clear hb k1
    go_wp2_with fail
    refine (CX3.out _ _ HA8.out).mono ?_
    rintro e w9 ⟨rfl, hb⟩
    obtain ⟨k1, _⟩ := lay w9 zeroL
    have HS9 := Lib.hid ((HS8.out.below hb).below k1)
    unfold leA zeroL at HS9
    dsimp only at HS9
    clear hb k1
    obtain ⟨x0, x1, x2, x3, x4, x5, x6, x7⟩ := HS9.out.a.cells
    go_wp2_with fail
    refine (CC.out _).mono ?_
    rintro e w10 ⟨V10, rfl, hr, hb⟩
    have HS10 := Lib.hid (HS9.out.below hb)
    have HR10 := Lib.hid hr
    clear hb hr x0 x1 x2 x3 x4 x5 x6 x7
    go_wp2_with fail
    refine (CX4.out _ _ HR10.out).mono ?_
    rintro e w11 ⟨rfl, hb⟩
    have HF : Hid (Below w.heap.size w (w11.alloc (.cells (leA zeroL) 25))) := Lib.hid ((HS10.out.below hb).low.alloc (HS10.out.below hb).low.size _)
    unfold leA zeroL at HF
    dsimp only at HF
    clear hb
    go_wp2
    go_ret
    exact ⟨rfl, HF.out⟩
  · have t2 : decide (0 < n2) = true := by simp; omega
    by_cases h3 : n3 = 0
    · subst h3
      go_wp2_with fail
      go_quiet (fail)
      have hqq := hq
      clear hq
      obtain ⟨wq, hwq⟩ : ∃ W, w3.drewN nq = W := ⟨_, rfl⟩
      rw [hwq]
      have HSd : Hid (S3 w wq s0 s1 ca cb) := Lib.hid (by rw [← hwq]; exact HS3.out.below (below_drewN' (Below.refl _ _) nq))
      have HAd : Hid (Row wq (.slice A2 n2 c2) r2) := Lib.hid (by rw [← hwq]; exact HA3.out.drew nq)
      clear hwq x0 x1 x2 x3 x4 x5 x6 x7 y0 y1 z0 z1 z2 z3 z4 z5 z6 z7
      obtain ⟨x0, x1, x2, x3, x4, x5, x6, x7⟩ := HSd.out.a.cells
      obtain ⟨k1, k2⟩ := lay wq ⟨0, s0.ins, s0.prt, s0.secs, 0, 0, 0, 0⟩
      have HS4 := Lib.hid (HSd.out.below k1)
      have HA4 := Lib.hid (HAd.out.below k1)
      have HX4 := Lib.hid k2
      unfold leA at HS4 HA4 HX4
      dsimp only at HS4 HA4 HX4
      clear k1 k2
      go_wp2_with fail
      refine (CD.out _).mono ?_
      rintro e w5 ⟨V5, rfl, hr, hb⟩
      have HS5 := Lib.hid (HS4.out.below hb)
      have HA5 := Lib.hid (HA4.out.below hb)
      have HX5 : Hid (LeAt w5 wq.heap.size ⟨0, s0.ins, s0.prt, s0.secs, 0, 0, 0, 0⟩) := Lib.hid (LeAt.below HX4.out hb (LeAt.lt HX4.out))
      have HR5 := Lib.hid hr
      clear hb hr x0 x1 x2 x3 x4 x5 x6 x7
      generalize wq.heap.size = gx at *
      go_wp2_with fail
      refine (CX1.out _ _ HR5.out).mono ?_
      rintro e w6 ⟨rfl, hb⟩
      obtain ⟨k1, _⟩ := lay w6 zeroL
      have HS6 := Lib.hid ((HS5.out.below hb).below k1)
      have HA6 := Lib.hid ((HA5.out.below hb).below k1)
      have HX6 := Lib.hid ((HX5.out.below hb HX5.out.lt).below k1 (HX5.out.below hb HX5.out.lt).lt)
      unfold leA zeroL at HS6 HA6 HX6
      dsimp only at HS6 HA6 HX6
      clear hb k1
      obtain ⟨x0, x1, x2, x3, x4, x5, x6, x7⟩ := LeAt.cells HX6.out
      dsimp only at x0 x1 x2 x3 x4 x5 x6 x7
      go_wp2_with fail
      refine (CE.out _).mono ?_
      rintro e w7 ⟨V7, rfl, hr, hb⟩
      have HS7 := Lib.hid (HS6.out.below hb)
      have HA7 := Lib.hid (HA6.out.below hb)
      have HR7 := Lib.hid hr
      clear hb hr x0 x1 x2 x3 x4 x5 x6 x7
      go_wp2_with fail
      refine (CX2.out _ _ HR7.out).mono ?_
      rintro e w8 ⟨rfl, hb⟩
      obtain ⟨k1, _⟩ := lay w8 zeroL
      have HS8 := Lib.hid ((HS7.out.below hb).below k1)
      have HA8 := Lib.hid ((HA7.out.below hb).below k1)
      unfold leA zeroL at HS8 HA8
      dsimp only at HS8 HA8
      clear hb k1
      go_wp2_with fail
      refine (CX3.out _ _ HA8.out).mono ?_
      rintro e w9 ⟨rfl, hb⟩
      obtain ⟨k1, _⟩ := lay w9 zeroL
      have HS9 := Lib.hid ((HS8.out.below hb).below k1)
      unfold leA zeroL at HS9
      dsimp only at HS9
      clear hb k1
      obtain ⟨x0, x1, x2, x3, x4, x5, x6, x7⟩ := HS9.out.a.cells
      go_wp2_with fail
      refine (CC.out _).mono ?_
      rintro e w10 ⟨V10, rfl, hr, hb⟩
      have HS10 := Lib.hid (HS9.out.below hb)
      have HR10 := Lib.hid hr
      clear hb hr x0 x1 x2 x3 x4 x5 x6 x7
      go_wp2_with fail
      refine (CX4.out _ _ HR10.out).mono ?_
      rintro e w11 ⟨rfl, hb⟩
      have HF : Hid (Below w.heap.size w (w11.alloc (.cells (leA zeroL) 25))) := Lib.hid ((HS10.out.below hb).low.alloc (HS10.out.below hb).low.size _)
      unfold leA zeroL at HF
      dsimp only at HF
      clear hb
      go_wp2
      go_ret
      exact ⟨rfl, HF.out⟩
    · have t3 : decide (0 < n3) = true := by simp; omega
      have hE := HEQ.out (by omega) (by omega)
      rw [hE] at CQ
      clear hE
      cases dd with
      | false =>
        rw [Bool.false_and] at CQ
        go_wp2_with fail
        go_quiet ((go_at_call 14; refine Calls.quiet_of (CQ.out _)))
        have hqq := hq
        clear hq
        obtain ⟨wq, hwq⟩ : ∃ W, w3.drewN nq = W := ⟨_, rfl⟩
        rw [hwq]
        have HSd : Hid (S3 w wq s0 s1 ca cb) := Lib.hid (by rw [← hwq]; exact HS3.out.below (below_drewN' (Below.refl _ _) nq))
        have HAd : Hid (Row wq (.slice A2 n2 c2) r2) := Lib.hid (by rw [← hwq]; exact HA3.out.drew nq)
        clear hwq x0 x1 x2 x3 x4 x5 x6 x7 y0 y1 z0 z1 z2 z3 z4 z5 z6 z7
        obtain ⟨x0, x1, x2, x3, x4, x5, x6, x7⟩ := HSd.out.a.cells
        obtain ⟨k1, k2⟩ := lay wq ⟨0, s0.ins, s0.prt, s0.secs, 0, 0, 0, 0⟩
        have HS4 := Lib.hid (HSd.out.below k1)
        have HA4 := Lib.hid (HAd.out.below k1)
        have HX4 := Lib.hid k2
        unfold leA at HS4 HA4 HX4
        dsimp only at HS4 HA4 HX4
        clear k1 k2
        go_wp2_with fail
        refine (CD.out _).mono ?_
        rintro e w5 ⟨V5, rfl, hr, hb⟩
        have HS5 := Lib.hid (HS4.out.below hb)
        have HA5 := Lib.hid (HA4.out.below hb)
        have HX5 : Hid (LeAt w5 wq.heap.size ⟨0, s0.ins, s0.prt, s0.secs, 0, 0, 0, 0⟩) := Lib.hid (LeAt.below HX4.out hb (LeAt.lt HX4.out))
        have HR5 := Lib.hid hr
        clear hb hr x0 x1 x2 x3 x4 x5 x6 x7
        generalize wq.heap.size = gx at *
        go_wp2_with fail
        refine (CX1.out _ _ HR5.out).mono ?_
        rintro e w6 ⟨rfl, hb⟩
        obtain ⟨k1, _⟩ := lay w6 zeroL
        have HS6 := Lib.hid ((HS5.out.below hb).below k1)
        have HA6 := Lib.hid ((HA5.out.below hb).below k1)
        have HX6 := Lib.hid ((HX5.out.below hb HX5.out.lt).below k1 (HX5.out.below hb HX5.out.lt).lt)
        unfold leA zeroL at HS6 HA6 HX6
        dsimp only at HS6 HA6 HX6
        clear hb k1
        obtain ⟨x0, x1, x2, x3, x4, x5, x6, x7⟩ := LeAt.cells HX6.out
        dsimp only at x0 x1 x2 x3 x4 x5 x6 x7
        go_wp2_with fail
        refine (CE.out _).mono ?_
        rintro e w7 ⟨V7, rfl, hr, hb⟩
        have HS7 := Lib.hid (HS6.out.below hb)
        have HA7 := Lib.hid (HA6.out.below hb)
        have HR7 := Lib.hid hr
        clear hb hr x0 x1 x2 x3 x4 x5 x6 x7
        go_wp2_with fail
        refine (CX2.out _ _ HR7.out).mono ?_
        rintro e w8 ⟨rfl, hb⟩
        obtain ⟨k1, _⟩ := lay w8 zeroL
        have HS8 := Lib.hid ((HS7.out.below hb).below k1)
        have HA8 := Lib.hid ((HA7.out.below hb).below k1)
        unfold leA zeroL at HS8 HA8
        dsimp only at HS8 HA8
        clear hb k1
        go_wp2_with fail
        refine (CX3.out _ _ HA8.out).mono ?_
        rintro e w9 ⟨rfl, hb⟩
        obtain ⟨k1, _⟩ := lay w9 zeroL
        have HS9 := Lib.hid ((HS8.out.below hb).below k1)
        unfold leA zeroL at HS9
        dsimp only at HS9
        clear hb k1
        obtain ⟨x0, x1, x2, x3, x4, x5, x6, x7⟩ := HS9.out.a.cells
        go_wp2_with fail
        refine (CC.out _).mono ?_
        rintro e w10 ⟨V10, rfl, hr, hb⟩
        have HS10 := Lib.hid (HS9.out.below hb)
        have HR10 := Lib.hid hr
        clear hb hr x0 x1 x2 x3 x4 x5 x6 x7
        go_wp2_with fail
        refine (CX4.out _ _ HR10.out).mono ?_
        rintro e w11 ⟨rfl, hb⟩
        have HF : Hid (Below w.heap.size w (w11.alloc (.cells (leA zeroL) 25))) := Lib.hid ((HS10.out.below hb).low.alloc (HS10.out.below hb).low.size _)
        unfold leA zeroL at HF
        dsimp only at HF
        clear hb
        go_wp2
        go_ret
        exact ⟨rfl, HF.out⟩
      | true =>
        rw [Bool.true_and] at CQ
        go_wp2_with fail
        go_quiet ((go_at_call 14; refine Calls.quiet_of (CQ.out _)))
        have hqq := hq
        clear hq
        obtain ⟨wq, hwq⟩ : ∃ W, w3.drewN nq = W := ⟨_, rfl⟩
        rw [hwq]
        have HSd : Hid (S3 w wq s0 s1 ca cb) := Lib.hid (by rw [← hwq]; exact HS3.out.below (below_drewN' (Below.refl _ _) nq))
        have HAd : Hid (Row wq (.slice A2 n2 c2) r2) := Lib.hid (by rw [← hwq]; exact HA3.out.drew nq)
        clear hwq x0 x1 x2 x3 x4 x5 x6 x7 y0 y1 z0 z1 z2 z3 z4 z5 z6 z7
        obtain ⟨x0, x1, x2, x3, x4, x5, x6, x7⟩ := HSd.out.a.cells
        obtain ⟨k1, k2⟩ := lay wq ⟨0, s0.ins, s0.prt, s0.secs, 0, 0, 0, 0⟩
        have HS4 := Lib.hid (HSd.out.below k1)
        have HA4 := Lib.hid (HAd.out.below k1)
        have HX4 := Lib.hid k2
        unfold leA at HS4 HA4 HX4
        dsimp only at HS4 HA4 HX4
        clear k1 k2
        go_wp2_with fail
        refine (CD.out _).mono ?_
        rintro e w5 ⟨V5, rfl, hr, hb⟩
        have HS5 := Lib.hid (HS4.out.below hb)
        have HA5 := Lib.hid (HA4.out.below hb)
        have HX5 : Hid (LeAt w5 wq.heap.size ⟨0, s0.ins, s0.prt, s0.secs, 0, 0, 0, 0⟩) := Lib.hid (LeAt.below HX4.out hb (LeAt.lt HX4.out))
        have HR5 := Lib.hid hr
        clear hb hr x0 x1 x2 x3 x4 x5 x6 x7
        generalize wq.heap.size = gx at *
        go_wp2_with fail
        refine (CX1.out _ _ HR5.out).mono ?_
        rintro e w6 ⟨rfl, hb⟩
        obtain ⟨k1, _⟩ := lay w6 zeroL
        have HS6 := Lib.hid ((HS5.out.below hb).below k1)
        have HA6 := Lib.hid ((HA5.out.below hb).below k1)
        have HX6 := Lib.hid ((HX5.out.below hb HX5.out.lt).below k1 (HX5.out.below hb HX5.out.lt).lt)
        unfold leA zeroL at HS6 HA6 HX6
        dsimp only at HS6 HA6 HX6
        clear hb k1
        obtain ⟨x0, x1, x2, x3, x4, x5, x6, x7⟩ := LeAt.cells HX6.out
        dsimp only at x0 x1 x2 x3 x4 x5 x6 x7
        go_wp2_with fail
        refine (CE.out _).mono ?_
        rintro e w7 ⟨V7, rfl, hr, hb⟩
        have HS7 := Lib.hid (HS6.out.below hb)
        have HA7 := Lib.hid (HA6.out.below hb)
        have HR7 := Lib.hid hr
        clear hb hr x0 x1 x2 x3 x4 x5 x6 x7
        go_wp2_with fail
        refine (CX2.out _ _ HR7.out).mono ?_
        rintro e w8 ⟨rfl, hb⟩
        obtain ⟨k1, _⟩ := lay w8 zeroL
        have HS8 := Lib.hid ((HS7.out.below hb).below k1)
        have HA8 := Lib.hid ((HA7.out.below hb).below k1)
        unfold leA zeroL at HS8 HA8
        dsimp only at HS8 HA8
        clear hb k1
        go_wp2_with fail
        refine (CX3.out _ _ HA8.out).mono ?_
        rintro e w9 ⟨rfl, hb⟩
        obtain ⟨k1, _⟩ := lay w9 zeroL
        have HS9 := Lib.hid ((HS8.out.below hb).below k1)
        unfold leA zeroL at HS9
        dsimp only at HS9
        clear hb k1
        obtain ⟨x0, x1, x2, x3, x4, x5, x6, x7⟩ := HS9.out.a.cells
        go_wp2_with fail
        refine (CC.out _).mono ?_
        rintro e w10 ⟨V10, rfl, hr, hb⟩
        have HS10 := Lib.hid (HS9.out.below hb)
        have HR10 := Lib.hid hr
        clear hb hr x0 x1 x2 x3 x4 x5 x6 x7
        go_wp2_with fail
        refine (CX4.out _ _ HR10.out).mono ?_
        rintro e w11 ⟨rfl, hb⟩
        have HF : Hid (Below w.heap.size w (w11.alloc (.cells (leA zeroL) 25))) := Lib.hid ((HS10.out.below hb).low.alloc (HS10.out.below hb).low.size _)
        unfold leA zeroL at HF
        dsimp only at HF
        clear hb
        go_wp2
        go_ret
        exact ⟨rfl, HF.out⟩

/-! ### THE ROW's STEP: WRITTEN OUT: LEAVE IT -/
set_option maxRecDepth 100000 in
theorem lifted (os : Os) (started : os.Started) (H : Type) (enc : TypeId × Value → H) :
    ReturnsInHanded {} Try.checked os 9 .any (Rows.pcpApartSpec.pre6 enc Try.prog Try.f9 Rows.pcpApartRow.domain false) (Rows.pcpApartSpec.post enc Try.prog Try.f9 false true false false) := by
  refine returnsInHanded_of_change (C := Try.checked) own started (by kernel_rfl) Try.func9
    (ChangeSpec.witness6 (enc := enc) (C := Try.checked) false ⟨#[], #[.agg #[.int .i64 0, .int .i64 0, .int .i64 0, .int .i64 0, .int .u64 0, .int .i64 0, .int .i64 0, .int .u32 0], .agg #[.int .i64 0, .int .i64 0, .int .i64 0, .int .i64 0, .int .u64 0, .int .i64 0, .int .i64 0, .int .u32 0], .agg #[.int .u32 0, .int .u32 0]], []⟩ 8 (by kernel_rfl) (by kernel_rfl) (by kernel_rfl) (by kernel_rfl)) ?_
  intro W base args ds gs before hval0 hW hcnd _
  have hval : ∀ (j : Nat) t v, Try.f9.params[j]? = some t → args[j]? = some v → Value.okWide Try.prog W .any base t v := hval0
  have hW' := hW
  obtain ⟨p, q, hA0, hV, rfl, hfz, hnd⟩ := hW
  have hA : DataW.TrodAll enc Try.prog W 0 (fun _ => true) true Try.f9.params.toList args.toList ds p := hA0
  rw [Try.params9] at hA hval
  obtain ⟨v0, vs0, d0, ds0, p0, q0, hargs, rfl, rfl, h0, r0⟩ := trodAll_cons hA
  obtain ⟨v1, vs1, d1, ds1, p1, q1, rfl, rfl, rfl, h1, r1⟩ := trodAll_cons r0
  obtain ⟨v2, vs2, d2, ds2, p2, q2, rfl, rfl, rfl, h2, r2⟩ := trodAll_cons r1
  obtain ⟨rfl, rfl, rfl⟩ := trodAll_nil r2
  obtain rfl : args = #[v0, v1, v2] := by cases args; simp_all
  obtain ⟨rfl, rfl⟩ := trodVars_none hV
  have k0 := h0
  have lt0 : ∀ x ∈ p0, x.block < W.heap.size := by obtain ⟨m, hm⟩ := k0; exact DataW.trod_lt m _ _ _ hm
  obtain ⟨s0, w0⟩ := open_le (hval 0 25 v0 rfl rfl) h0
  have k1 := h1
  have lt1 : ∀ x ∈ p1, x.block < W.heap.size := by obtain ⟨m, hm⟩ := k1; exact DataW.trod_lt m _ _ _ hm
  obtain ⟨s1, w1⟩ := open_le (hval 1 25 v1 rfl rfl) h1
  have k2 := h2
  have lt2 : ∀ x ∈ p2, x.block < W.heap.size := by obtain ⟨m, hm⟩ := k2; exact DataW.trod_lt m _ _ _ hm
  obtain ⟨s2, w2⟩ := open_two (hval 2 47 v2 rfl rfl) h2
  clear hA0 hval0
  refine (walk v0 s0 v1 s1 v2 s2 W w0 w1 w2).mono fun e W' ⟨he, bel⟩ => ?_
  subst he
  exact ⟨_, rfl, _, _, _, [], _, [], hW', trodAll_mk1 (shut_bool Try.underlying4 _), (trodAll_cons_mk (Below.trod laidOut (by kernel_rfl) (of_decide_eq_true (by kernel_rfl)) k0 bel lt0) (trodAll_cons_mk (Below.trod laidOut (by kernel_rfl) (of_decide_eq_true (by kernel_rfl)) k1 bel lt1) (trodAll_cons_mk (Below.trod laidOut (by kernel_rfl) (of_decide_eq_true (by kernel_rfl)) k2 bel lt2) trodAll_mk0))), rfl, bel.frame _, fun h => by cases h⟩

theorem over : Rows.pcpApartRow.holds Try.pinned (OpenSpec.ofChange Rows.pcpApartSpec) :=
  OpenClaim.holds_of_wide 9 Try.f9 rfl rfl rfl rfl rfl rfl rfl ⟨rfl, rfl, rfl, rfl, rfl⟩ rfl rfl rfl rfl rfl (by kernel_rfl) Try.func9 (by kernel_rfl)
    (of_decide_eq_true (by kernel_rfl)) (by unfold Func.isWrapper; first | (rw [if_pos (by decide +kernel)]; kernel_rfl) | (rw [if_neg (by decide +kernel)]; exact ⟨rfl, rfl⟩))
    (fun os started H enc _ => lifted os started H enc)

/-- ████ THE STATEMENT ████ -/
theorem proved : Rows.PcpApartSaid := over
#print axioms proved
end Go.Proofs.Ytabokjhimpmiiaa.pcpApart
