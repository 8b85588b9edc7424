/-
  PmpCut: a request, or an answer, cut off, or with a byte behind, or with another version, is none of its kind. Conditions: none.
-/
import Derived.Test.YtabokjhimpmiiaaLw
import Derived.Test.YtabokjhimpmiiaaLin
import Derived.Test.YtabokjhimpmiiaaRows
import Derived.WalkKit
import Derived.ProofKit
import Derived.OpenShut
import Derived.ShutString
import Derived.ChangeOld
import Derived.Below
namespace Go.Proofs.Ytabokjhimpmiiaa.pmpCut
open Go.ChangeShapes Go.WideShapes Go.ChangeAt Go.RowKit
open Go.ChangeMaps (open_string shut_string)
set_option linter.unusedVariables false

theorem own : ownKnob Try.prog.godebug = none := by kernel_rfl
theorem laidOut : laidOutB Try.prog = true := by kernel_rfl

attribute [local go_sem] Oper.semAt_some
def Of (zs : List Int) : Prop := (∃ l h, AskOf zs l h) ∨ (∃ l h, AnsOf zs l h)
def Shp (zs : List Int) : Prop := zs.getD 0 0 = 0 ∧ ((zs.length = 2 ∧ zs.getD 1 0 = 0) ∨ (zs.length = 12 ∧ zs.getD 1 0 = 1) ∨ (zs.length = 12 ∧ zs.getD 1 0 = 128) ∨ (zs.length = 16 ∧ zs.getD 1 0 = 129))
theorem shp_of {zs : List Int} (h : Of zs) : Shp zs := by
  rcases h with ⟨l, h, hb, rfl⟩ | ⟨l, h, _, hb, rfl⟩
  · unfold askR
    rw [if_pos hb]
    cases h
    · rw [if_neg (by simp)]; exact ⟨rfl, .inr (.inl ⟨by simp, rfl⟩)⟩
    · rw [if_pos rfl]; exact ⟨rfl, .inl ⟨rfl, rfl⟩⟩
  · unfold ansR
    rw [if_pos hb]
    cases h
    · rw [if_neg (by simp)]; exact ⟨rfl, .inr (.inr (.inr ⟨by simp, rfl⟩))⟩
    · rw [if_pos rfl]; exact ⟨rfl, .inr (.inr (.inl ⟨by simp, rfl⟩))⟩
theorem of_take {zs : List Int} (h : Of zs) (r : Nat) (hr : r < zs.length) : ¬ Of (zs.take r) := by
  intro h2
  obtain ⟨_, a⟩ := shp_of h
  obtain ⟨_, b⟩ := shp_of h2
  have hl : (zs.take r).length = r := by simp; omega
  rw [hl] at b
  by_cases h1 : 1 < r
  · have e : (zs.take r).getD 1 0 = zs.getD 1 0 := by simp [List.getD, h1]
    rw [e] at b
    omega
  · omega
theorem of_app {zs : List Int} (h : Of zs) (z : Int) : ¬ Of (zs ++ [z]) := by
  intro h2
  obtain ⟨_, a⟩ := shp_of h
  obtain ⟨_, b⟩ := shp_of h2
  have hl : (zs ++ [z]).length = zs.length + 1 := by simp
  rw [hl] at b
  omega
theorem of_set {zs : List Int} (h : Of zs) (y : Int) (hy : y ≠ 0) : ¬ Of (zs.set 0 y) := by
  intro h2
  obtain ⟨_, a⟩ := shp_of h
  obtain ⟨b, _⟩ := shp_of h2
  have : (zs.set 0 y).getD 0 0 = y := by
    cases zs with
    | nil => simp at a
    | cons x xs => simp
  omega
theorem no13 {V : Value} {zs : List Int} (h : ¬ Of zs) (W : World) (hr : Row W V zs) : Calls Try.prog 17 #[V] W fun e w' => e = .returned noV ∧ Below W.heap.size W w' := read_ask_not hr (fun l k hz => h (.inl ⟨l, k, hz⟩))
theorem no14 {V : Value} {zs : List Int} (h : ¬ Of zs) (W : World) (hr : Row W V zs) : Calls Try.prog 18 #[V] W fun e w' => e = .returned noV ∧ Below W.heap.size W w' := read_ans_not hr (fun l k hz => h (.inr ⟨l, k, hz⟩))
theorem mem_set_bd {zs : List Int} {y : Int} (h : ∀ z ∈ zs, 0 ≤ z ∧ z ≤ 255) (hy : 0 ≤ y ∧ y ≤ 255) (k : Nat) : ∀ z ∈ zs.set k y, 0 ≤ z ∧ z ≤ 255 := by
  intro z hz
  rcases List.mem_or_eq_of_mem_set hz with h1 | rfl
  · exact h z h1
  · exact hy
/-- what stands in each round -/
structure Rnd (w W : World) (l : Le) (gb : Nat) (V2 V3 : Value) (z2 z3 : List Int) : Prop where
  st : St w W l
  r2 : Row W V2 z2
  r3 : Row W V3 z3
  c2 : W.cell? ⟨gb, 0, none⟩ = some V2
  c3 : W.cell? ⟨gb, 1, none⟩ = some V3
theorem Rnd.below {w W W' : World} {l : Le} {gb : Nat} {V2 V3 : Value} {z2 z3 : List Int} (h : Rnd w W l gb V2 V3 z2 z3) (hb : Below W.heap.size W W') : Rnd w W' l gb V2 V3 z2 z3 :=
  ⟨h.st.below hb, h.r2.below hb, h.r3.below hb, (hb.cell (p := ⟨gb, 0, none⟩) (lt_of_cell h.c2)).trans h.c2, (hb.cell (p := ⟨gb, 1, none⟩) (lt_of_cell h.c3)).trans h.c3⟩
theorem Rnd.at {w W : World} {l : Le} {gb : Nat} {V2 V3 : Value} {z2 z3 : List Int} (h : Rnd w W l gb V2 V3 z2 z3) (k : Nat) (hk : k < 2) : ∃ V zs, W.cell? ⟨gb, k, none⟩ = some V ∧ Row W V zs ∧ (zs = z2 ∨ zs = z3) := by
  match k, hk with
  | 0, _ => exact ⟨V2, z2, h.c2, h.r2, .inl rfl⟩
  | 1, _ => exact ⟨V3, z3, h.c3, h.r3, .inr rfl⟩

set_option maxRecDepth 100000 in
set_option maxHeartbeats 8000000 in
theorem walk (v0 : Value) (s0 : Le) (v1 : Value) (s1 : Bool) (a2 : Int) (w : World) (w0 : IsLe w v0 s0) (w1 : IsFlag w v1 s1) (w2 : (Lit.int .u8 a2).wf = true) :
    Calls Try.prog 6 #[v0, v1, .int .u8 a2] w fun e w' => e = .returned (.bool true) ∧ Below w.heap.size w w' := by
  obtain ⟨rfl, hl⟩ := w0
  unfold IsFlag at w1
  subst w1
  have hu := wf_u8 w2
  clear w2
  obtain ⟨U, rfl⟩ := Int.eq_ofNat_of_zero_le hu.1
  have hU : U ≤ 255 := by omega
  clear hu
  have HO2 : Hid ((askR s0 s1).length ≠ 0 → Of (askR s0 s1)) := Lib.hid (fun h => by
    cases hb : askB s0 s1 with
    | true => exact .inl ⟨_, _, hb, rfl⟩
    | false => rw [ask_no_len hb] at h; simp at h)
  have HO3 : Hid ((ansR s0 s1).length ≠ 0 → Of (ansR s0 s1)) := Lib.hid (fun h => by
    cases hb : ansB s0 s1 with
    | true => exact .inr ⟨_, _, hl, hb, rfl⟩
    | false => rw [ans_no_len hb] at h; simp at h)
  have CA := Lib.hid (fun W => tell_ask s0 s1 W hl)
  have CB := Lib.hid (fun W => tell_ans s0 s1 W hl)
  have HS0 := Lib.hid (St.start w s0)
  clear hl
  unfold leV leA at CA CB ⊢
  unfold leA at HS0
  generalize hz2 : askR s0 s1 = z2 at *
  generalize hz3 : ansR s0 s1 = z3 at *
  clear hz2 hz3
  go_enter Try.func6, Try.ntmps6
  go_wp2_with fail
  refine (awake_any _).mono ?_
  rintro e w1 ⟨rfl, hb⟩
  have HS1 := Lib.hid (HS0.out.below hb)
  obtain ⟨x0, x1, x2, x3, x4, x5, x6, x7⟩ := HS1.out.box.cells
  clear hb HS0
  go_wp2_with fail
  refine (CA.out _).mono ?_
  rintro e w2 ⟨V2, rfl, hr, hb⟩
  have HS2 := Lib.hid (HS1.out.below hb)
  have HR2 := Lib.hid hr
  clear hb hr x0 x1 x2 x3 x4 x5 x6 x7 HS1
  obtain ⟨x0, x1, x2, x3, x4, x5, x6, x7⟩ := HS2.out.box.cells
  go_wp2_with fail
  refine (CB.out _).mono ?_
  rintro e w3 ⟨V3, rfl, hr, hb⟩
  have HS3 := Lib.hid (HS2.out.below hb)
  have HA3 := Lib.hid (HR2.out.below hb)
  have HR3 := Lib.hid hr
  clear hb hr x0 x1 x2 x3 x4 x5 x6 x7 HS2 HR2
  obtain ⟨A2, c2, e2, _⟩ := HA3.out
  obtain ⟨A3, c3, e3, _⟩ := HR3.out
  have HRN : Hid (Rnd w (w3.alloc (.cells #[V2, V3] 27)) s0 w3.heap.size V2 V3 z2 z3) := Lib.hid (by
    have hb : Below w3.heap.size w3 (w3.alloc (.cells #[V2, V3] 27)) := (Below.refl _ _).alloc (Nat.le_refl _) _
    have n4 : (w3.alloc (.cells #[V2, V3] 27)).heap[w3.heap.size]? = some (.cells #[V2, V3] 27 (0, 0)) := by
      show (w3.heap.push _)[w3.heap.size]? = _
      simp
    exact ⟨HS3.out.below hb, HA3.out.below hb, HR3.out.below hb, (cells_of n4 0).1, (cells_of n4 1).1⟩)
  have CE := Lib.hid (fun W (h : Row W V2 z2) => h)
  subst e2
  subst e3
  have hlt3 : w3.heap.size < w3.heap.size + 1 := by omega
  clear HS3 HA3 HR3 CB CE
  go_wp2
  go_loopw [44] (fun i wr => ∃ k : Nat, k ≤ 2 ∧ i = .int .i64 (k : Int) ∧ Rnd w wr s0 w3.heap.size (.slice A2 z2.length c2) (.slice A3 z3.length c3) z2 z3) (fun i _ => 2 - (intOf i).toNat)
  case atStart => exact ⟨0, by omega, rfl, HRN.out⟩
  case round =>
    obtain ⟨k, hk, rfl, hrn⟩ := hrel
    have HR := Lib.hid hrn
    clear hrn HRN
    generalize w3.heap.size = gb at *
    by_cases hk2 : k < 2
    · obtain ⟨V, zs, hcell, hrow, hor⟩ := HR.out.at k hk2
      have HOF : Hid (zs.length ≠ 0 → Of zs) := Lib.hid (by rcases hor with rfl | rfl; exact HO2.out; exact HO3.out)
      obtain ⟨A, c, rfl, bt, cc, cm, cn⟩ := hrow
      have HW : Hid (Row wr (.slice A zs.length c) zs) := Lib.hid ⟨A, c, rfl, bt, cc, cm, cn⟩
      have HBT := Lib.hid bt
      have HCN := Lib.hid cn
      have HLZ := Lib.hid (rfl : zs.length = zs.length)
      unfold maxLen at cm
      clear hor bt cn HLZ
      obtain ⟨n, hn⟩ : ∃ n, zs.length = n := ⟨_, rfl⟩
      have HN := Lib.hid hn
      rw [hn] at hcell cc HBT HW HOF HCN
      clear hn
      by_cases hn0 : n = 0
      · subst hn0
        go_wp2
        go_roundw
        case rel => exact ⟨k + 1, by omega, by go_num, HR.out⟩
        case measure => simp [intOf]; omega
      · have tn : ((n : Int) == 0) = false := by simp; omega
        obtain ⟨ad, rfl⟩ := HBT.out.some_of (by omega)
        obtain ⟨r, hr⟩ : ∃ r, U % n = r := ⟨_, rfl⟩
        have hrn : r < n := by rw [← hr]; exact Nat.mod_lt _ (by omega)
        have m1 : (U : Int) % (n : Int) = (r : Int) := by rw [← hr]; exact (Int.natCast_emod U n).symm
        have m2 : Int.tmod (U : Int) (n : Int) = (r : Int) := by rw [Int.tmod_eq_emod_of_nonneg (by omega)]; exact m1
        have hrc : (r : Int) ≤ (c : Int) := by omega
        have hOf := HOF.out hn0
        have HNC := Lib.hid (of_take hOf r (by have := HN.out; omega))
        have HND := Lib.hid (of_app hOf (U : Int))
        have HNV := Lib.hid (of_set hOf (1 + (U : Int) % 200) (by omega))
        have HLE := Lib.hid (show n ≤ 100 by have := (shp_of hOf).2; have := HN.out; omega)
        clear hr hOf HOF
        have hpos : 0 < n := by omega
        go_wp2_with (first
          | (at_builtin; refine wpList_append_bts rfl (.tmp 58) (.tmp 59) rfl wr.heap.size _ 0 [] rfl (lit_own wr) (some ad) n c zs rfl (HBT.out.alloc _) HCN.out (by have := HLE.out; omega) (by simp) ?_; intro v5 w5 ho5 hg5; rw [List.nil_append, Nat.zero_add] at ho5; have HB5 := Lib.hid (own_grown_below (lit_own wr) ((Below.refl wr.heap.size wr).alloc (Nat.le_refl _) _) (Nat.le_refl _) hg5); clear hg5; have HO5 := Lib.hid ho5; clear ho5)
          | (at_builtin; refine wpList_append_bts rfl (.tmp 60) (.tmp 62) rfl wr.heap.size _ n zs rfl (HO5.out.alloc _) (some ⟨_, 0, none⟩) 1 1 [(U : Int)] rfl (lit1 _ _ (by omega)) (by intro hh; cases hh) (by have := HLE.out; omega) (by have := HB5.out.size; simp; omega) ?_; intro v6 w6 ho6 hg6; have HB6 := Lib.hid (own_grown_below (HO5.out.alloc _) (HB5.out.alloc HB5.out.size _) (Nat.le_refl _) hg6); have HO6 := Lib.hid ho6; clear hg6 ho6)
          | (at_builtin; refine wpList_append_bts rfl (.tmp 64) (.tmp 65) rfl w6.heap.size _ 0 [] rfl (lit_own w6) (some ad) n c zs rfl ((HBT.out.below HB6.out).alloc _) HCN.out (by have := HLE.out; omega) (by simp) ?_; intro v7 w7 ho7 hg7; rw [List.nil_append, Nat.zero_add] at ho7; have HB7 := Lib.hid (own_grown_below (lit_own w6) ((Below.refl w6.heap.size w6).alloc (Nat.le_refl _) _) (Nat.le_refl _) hg7); clear hg7; obtain ⟨g7, c7, rfl, hg7, hc7, hm7⟩ := own_some ho7 hpos; have hcell7 := ho7.cellAt 0 (by omega); have hfr7 := ho7.frozenAt 0; rw [B_at _ 0 (by have := HN.out; omega)] at hcell7; have HO7 := Lib.hid ho7; clear ho7))
        obtain ⟨w8, hw8⟩ : ∃ w8, w7.setCell ⟨g7, 0, none⟩ (.int .u8 (1 + (U : Int) % 200)) = w8 := ⟨_, rfl⟩
        have HB8 : Hid (Below w6.heap.size w6 w8) := Lib.hid (by rw [← hw8]; exact HB7.out.setCell (p := ⟨g7, 0, none⟩) hg7 _)
        have HBr : Hid (Below wr.heap.size wr w8) := Lib.hid (HB6.out.trans (HB8.out.mono HB6.out.size))
        have hy : 0 ≤ 1 + (U : Int) % 200 ∧ 1 + (U : Int) % 200 ≤ 255 := by omega
        have HV : Hid (Row w8 (.slice (some ⟨g7, 0, none⟩) n c7) (zs.set 0 (1 + (U : Int) % 200))) := Lib.hid (by
          have := stored_own HO7.out 0 (1 + (U : Int) % 200)
          rw [hw8] at this
          have hl : (zs.set 0 (1 + (U : Int) % 200)).length = n := by rw [List.length_set]; exact HN.out
          refine Row.own (b := w6.heap.size) ?_ (mem_set_bd HBT.out.bd hy 0)
          rw [hl]
          exact this)
        have HD : Hid (Row w8 v6 (zs ++ [(U : Int)])) := Lib.hid (by
          refine (Row.own (b := wr.heap.size) ?_ (mem_append_bd HBT.out.bd (by intro z hz; simp at hz; omega))).below HB8.out
          have := HO6.out
          have hl : (zs ++ [(U : Int)]).length = n + 1 := by rw [List.length_append, HN.out]; rfl
          rw [hl]
          exact this)
        have HC : Hid (Row w8 (.slice (some ad) r c) (zs.take r)) := Lib.hid (by
          have h1 := HBT.out.cut (r := r) (by omega)
          have hl := h1.len
          refine Row.below (w := wr) ⟨some ad, c, by rw [hl], by rw [hl]; exact h1, by omega, by unfold maxLen; omega, by intro hh; cases hh⟩ HBr.out)
        have HR8 := Lib.hid (HR.out.below HBr.out)
        rw [hw8]
        clear hw8 HB5 HB6 HB7 HB8 HO5 HO6 HO7 HBr hcell7 hfr7
        have A1 := Lib.hid (fun V W hr => no13 HNC.out (V := V) W hr)
        unfold noV leV leA zeroL at A1
        dsimp only at A1
        have A2 := Lib.hid (fun V W hr => no13 HND.out (V := V) W hr)
        unfold noV leV leA zeroL at A2
        dsimp only at A2
        have A3 := Lib.hid (fun V W hr => no13 HNV.out (V := V) W hr)
        unfold noV leV leA zeroL at A3
        dsimp only at A3
        have A4 := Lib.hid (fun V W hr => no14 HNC.out (V := V) W hr)
        unfold noV leV leA zeroL at A4
        dsimp only at A4
        have A5 := Lib.hid (fun V W hr => no14 HND.out (V := V) W hr)
        unfold noV leV leA zeroL at A5
        dsimp only at A5
        have A6 := Lib.hid (fun V W hr => no14 HNV.out (V := V) W hr)
        unfold noV leV leA zeroL at A6
        dsimp only at A6
        refine (A1.out _ _ HC.out).mono ?_
        rintro e y0 ⟨rfl, hb⟩
        obtain ⟨k1, _⟩ := lay y0 zeroL
        have HC0 := Lib.hid ((HC.out.below hb).below k1)
        have HD0 := Lib.hid ((HD.out.below hb).below k1)
        have HV0 := Lib.hid ((HV.out.below hb).below k1)
        have HR0_ := Lib.hid ((HR8.out.below hb).below k1)
        unfold leA zeroL at HC0 HD0 HV0 HR0_
        dsimp only at HC0 HD0 HV0 HR0_
        clear hb k1
        go_wp2_with fail
        refine (A2.out _ _ HD0.out).mono ?_
        rintro e y1 ⟨rfl, hb⟩
        obtain ⟨k1, _⟩ := lay y1 zeroL
        have HC1 := Lib.hid ((HC0.out.below hb).below k1)
        have HD1 := Lib.hid ((HD0.out.below hb).below k1)
        have HV1 := Lib.hid ((HV0.out.below hb).below k1)
        have HR1_ := Lib.hid ((HR0_.out.below hb).below k1)
        unfold leA zeroL at HC1 HD1 HV1 HR1_
        dsimp only at HC1 HD1 HV1 HR1_
        clear hb k1
        go_wp2_with fail
        refine (A3.out _ _ HV1.out).mono ?_
        rintro e y2 ⟨rfl, hb⟩
        obtain ⟨k1, _⟩ := lay y2 zeroL
        have HC2 := Lib.hid ((HC1.out.below hb).below k1)
        have HD2 := Lib.hid ((HD1.out.below hb).below k1)
        have HV2 := Lib.hid ((HV1.out.below hb).below k1)
        have HR2_ := Lib.hid ((HR1_.out.below hb).below k1)
        unfold leA zeroL at HC2 HD2 HV2 HR2_
        dsimp only at HC2 HD2 HV2 HR2_
        clear hb k1
        go_wp2_with fail
        refine (A4.out _ _ HC2.out).mono ?_
        rintro e y3 ⟨rfl, hb⟩
        obtain ⟨k1, _⟩ := lay y3 zeroL
        have HC3 := Lib.hid ((HC2.out.below hb).below k1)
        have HD3 := Lib.hid ((HD2.out.below hb).below k1)
        have HV3 := Lib.hid ((HV2.out.below hb).below k1)
        have HR3_ := Lib.hid ((HR2_.out.below hb).below k1)
        unfold leA zeroL at HC3 HD3 HV3 HR3_
        dsimp only at HC3 HD3 HV3 HR3_
        clear hb k1
        go_wp2_with fail
        refine (A5.out _ _ HD3.out).mono ?_
        rintro e y4 ⟨rfl, hb⟩
        obtain ⟨k1, _⟩ := lay y4 zeroL
        have HC4 := Lib.hid ((HC3.out.below hb).below k1)
        have HD4 := Lib.hid ((HD3.out.below hb).below k1)
        have HV4 := Lib.hid ((HV3.out.below hb).below k1)
        have HR4_ := Lib.hid ((HR3_.out.below hb).below k1)
        unfold leA zeroL at HC4 HD4 HV4 HR4_
        dsimp only at HC4 HD4 HV4 HR4_
        clear hb k1
        go_wp2_with fail
        refine (A6.out _ _ HV4.out).mono ?_
        rintro e y5 ⟨rfl, hb⟩
        obtain ⟨k1, _⟩ := lay y5 zeroL
        have HC5 := Lib.hid ((HC4.out.below hb).below k1)
        have HD5 := Lib.hid ((HD4.out.below hb).below k1)
        have HV5 := Lib.hid ((HV4.out.below hb).below k1)
        have HR5_ := Lib.hid ((HR4_.out.below hb).below k1)
        unfold leA zeroL at HC5 HD5 HV5 HR5_
        dsimp only at HC5 HD5 HV5 HR5_
        clear hb k1
        go_wp2
        go_roundw
        case rel => exact ⟨k + 1, by omega, by go_num, HR5_.out⟩
        case measure => simp [intOf]; omega
    · obtain rfl : k = 2 := by omega
      obtain ⟨x0, x1, x2, x3, x4, x5, x6, x7⟩ := HR.out.st.box.cells
      go_wp2_with fail
      refine (CA.out _).mono ?_
      rintro e w9 ⟨V9, rfl, hr, hb⟩
      have HR9 := Lib.hid (HR.out.below hb)
      have HC := Lib.hid (same_rows hr HR9.out.r2)
      rw [decide_eq_true rfl] at HC
      clear hb hr
      go_wp2_with fail
      refine HC.out.mono ?_
      rintro e w10 ⟨rfl, hb⟩
      have HF := Lib.hid (HR9.out.st.below hb).low
      clear hb
      go_wp2
      go_ret
      exact ⟨rfl, HF.out⟩

/-! ### THE ROW's STEP: WRITTEN OUT: LEAVE IT -/
set_option maxRecDepth 100000 in
theorem lifted (os : Os) (started : os.Started) (H : Type) (enc : TypeId × Value → H) :
    ReturnsInHanded {} Try.checked os 6 .any (Rows.pmpCutSpec.pre6 enc Try.prog Try.f6 Rows.pmpCutRow.domain false) (Rows.pmpCutSpec.post enc Try.prog Try.f6 false true false false) := by
  refine returnsInHanded_of_change (C := Try.checked) own started (by kernel_rfl) Try.func6
    (ChangeSpec.witness6 (enc := enc) (C := Try.checked) false ⟨#[], #[.agg #[.int .i64 0, .int .i64 0, .int .i64 0, .int .i64 0, .int .u64 0, .int .i64 0, .int .i64 0, .int .u32 0], .bool false, .int .u8 0], []⟩ 8 (by kernel_rfl) (by kernel_rfl) (by kernel_rfl) (by kernel_rfl)) ?_
  intro W base args ds gs before hval0 hW hcnd _
  have hval : ∀ (j : Nat) t v, Try.f6.params[j]? = some t → args[j]? = some v → Value.okWide Try.prog W .any base t v := hval0
  have hW' := hW
  obtain ⟨p, q, hA0, hV, rfl, hfz, hnd⟩ := hW
  have hA : DataW.TrodAll enc Try.prog W 0 (fun _ => true) true Try.f6.params.toList args.toList ds p := hA0
  rw [Try.params6] at hA hval
  obtain ⟨v0, vs0, d0, ds0, p0, q0, hargs, rfl, rfl, h0, r0⟩ := trodAll_cons hA
  obtain ⟨v1, vs1, d1, ds1, p1, q1, rfl, rfl, rfl, h1, r1⟩ := trodAll_cons r0
  obtain ⟨v2, vs2, d2, ds2, p2, q2, rfl, rfl, rfl, h2, r2⟩ := trodAll_cons r1
  obtain ⟨rfl, rfl, rfl⟩ := trodAll_nil r2
  obtain rfl : args = #[v0, v1, v2] := by cases args; simp_all
  obtain ⟨rfl, rfl⟩ := trodVars_none hV
  have k0 := h0
  have lt0 : ∀ x ∈ p0, x.block < W.heap.size := by obtain ⟨m, hm⟩ := k0; exact DataW.trod_lt m _ _ _ hm
  obtain ⟨s0, w0⟩ := open_le (hval 0 25 v0 rfl rfl) h0
  have k1 := h1
  have lt1 : ∀ x ∈ p1, x.block < W.heap.size := by obtain ⟨m, hm⟩ := k1; exact DataW.trod_lt m _ _ _ hm
  obtain ⟨s1, w1⟩ := open_flag (hval 1 4 v1 rfl rfl) h1
  obtain ⟨a2, rfl, rfl, rfl, w2⟩ := open_int Try.underlying5 (hval 2 5 v2 rfl rfl) h2
  clear hA0 hval0
  refine (walk v0 s0 v1 s1 a2 W w0 w1 w2).mono fun e W' ⟨he, bel⟩ => ?_
  subst he
  exact ⟨_, rfl, _, _, _, [], _, [], hW', trodAll_mk1 (shut_bool Try.underlying4 _), (trodAll_cons_mk (Below.trod laidOut (by kernel_rfl) (of_decide_eq_true (by kernel_rfl)) k0 bel lt0) (trodAll_cons_mk (Below.trod laidOut (by kernel_rfl) (of_decide_eq_true (by kernel_rfl)) k1 bel lt1) (trodAll_cons_mk (shut_int Try.underlying5 w2) trodAll_mk0))), rfl, bel.frame _, fun h => by cases h⟩

theorem over : Rows.pmpCutRow.holds Try.pinned (OpenSpec.ofChange Rows.pmpCutSpec) :=
  OpenClaim.holds_of_wide 6 Try.f6 rfl rfl rfl rfl rfl rfl rfl ⟨rfl, rfl, rfl, rfl, rfl⟩ rfl rfl rfl rfl rfl (by kernel_rfl) Try.func6 (by kernel_rfl)
    (of_decide_eq_true (by kernel_rfl)) (by unfold Func.isWrapper; first | (rw [if_pos (by decide +kernel)]; kernel_rfl) | (rw [if_neg (by decide +kernel)]; exact ⟨rfl, rfl⟩))
    (fun os started H enc _ => lifted os started H enc)

/-- ████ THE STATEMENT ████ -/
theorem proved : Rows.PmpCutSaid := over
#print axioms proved
end Go.Proofs.Ytabokjhimpmiiaa.pmpCut
