/-
  The contract of the document's own Parse. Conditions: the text has a thousand bytes at most.
-/
import Derived.Test.YtkemkbaomhjnbaaDoorSkip
namespace Go.Proofs.YtkemkbaomhjnbaaDoor
open Go.RowKit
set_option linter.unusedVariables false

theorem runD_bd : ∀ (l : List UInt8) (n k m j : Nat), runD l n k = some (m, j) → n ≤ 2147483647 → m ≤ 2147483647 ∧ k ≤ j ∧ j ≤ k + l.length
  | [], n, k, m, j, h, hn => by simp [runD] at h; obtain ⟨rfl, rfl⟩ := h; exact ⟨hn, Nat.le_refl _, by simp⟩
  | c :: r, n, k, m, j, h, hn => by
    rw [runD_cons] at h
    split at h
    · split at h
      · cases h
      · have := runD_bd r _ _ _ _ h (by omega)
        rw [List.length_cons]; omega
    · simp at h; obtain ⟨rfl, rfl⟩ := h; rw [List.length_cons]; omega
theorem takeL_bd (s : List UInt8) (a : Int) (h : a ≤ s.length) : 0 ≤ (takeL s a).1 ∧ (takeL s a).1 ≤ 2147483647 ∧ -1 ≤ (takeL s a).2 ∧ (takeL s a).2 ≤ s.length := by
  unfold takeL
  split
  · refine ⟨?_, ?_, ?_, ?_⟩ <;> simp <;> omega
  · cases hr : runD (s.drop a.toNat) 0 0 with
    | none => refine ⟨?_, ?_, ?_, ?_⟩ <;> simp <;> omega
    | some x =>
      obtain ⟨n, k⟩ := x
      have := runD_bd _ _ _ _ _ hr (by omega)
      simp at this
      simp only
      split
      · refine ⟨?_, ?_, ?_, ?_⟩ <;> simp <;> omega
      · refine ⟨?_, ?_, ?_, ?_⟩ <;> simp <;> omega
theorem skipL_bd (s : List UInt8) (a : Int) (word : List UInt8) (h : a ≤ s.length) : -1 ≤ skipL s a word ∧ skipL s a word ≤ s.length := by
  unfold skipL
  split
  · omega
  · rename_i hn
    have h1 : ¬ a < 0 := fun e => hn (.inl e)
    have h2 : (s.drop a.toNat).take word.length = word := by
      by_cases e : (s.drop a.toNat).take word.length = word
      · exact e
      · exact absurd (.inr e) hn
    have := congrArg List.length h2
    simp at this
    omega
/-- the host that is read of the first i numbers, and the place behind them -/
def hr (s : List UInt8) : Nat → Int × Int
  | 0 => (0, skipL s 0 [47, 105, 112, 52, 47])
  | i + 1 => (((hr s i).1 * 256 + (takeL s (if i = 0 then (hr s i).2 else skipL s (hr s i).2 [46])).1) % 4294967296, (takeL s (if i = 0 then (hr s i).2 else skipL s (hr s i).2 [46])).2)
theorem hr_bd (s : List UInt8) : ∀ i, 0 ≤ (hr s i).1 ∧ (hr s i).1 < 4294967296 ∧ -1 ≤ (hr s i).2 ∧ (hr s i).2 ≤ s.length
  | 0 => by
    have := skipL_bd s 0 [47, 105, 112, 52, 47] (by omega)
    simp only [hr]; omega
  | i + 1 => by
    have ih := hr_bd s i
    have h2 := skipL_bd s (hr s i).2 [46] ih.2.2.2
    have h1 := takeL_bd s (if i = 0 then (hr s i).2 else skipL s (hr s i).2 [46]) (by split <;> omega)
    simp only [hr]
    omega
/-- the place that is read -/
def refR (s : List UInt8) : Plc :=
  let t := takeL s (skipL s (hr s 4).2 [47, 117, 100, 112, 47])
  let m := skipL s t.2 [47, 112, 50, 112, 47]
  if 0 ≤ m then ⟨(hr s 4).1, t.1, (takeL s m).1, decide (0 ≤ skipL s (takeL s m).2 [47, 112, 50, 112, 45, 99, 105, 114, 99, 117, 105, 116])⟩ else ⟨(hr s 4).1, t.1, 0, false⟩
def ansR (s : List UInt8) : Value := if (refR s).text = s ∧ s ≠ [] then .tuple #[(refR s).val, .int .i64 0] else .tuple #[plc 0 0 0 false, .int .i64 3]
structure RP (w V : World) (h p i : Int) (v : Bool) : Prop where
  below : Below w.heap.size w V
  size : w.heap.size + 2 ≤ V.heap.size
  c0 : V.heap[w.heap.size]? = some (.cells #[.int .u32 0, .int .i64 0, .int .i64 0, .bool false] 37 (0, 0))
  c1 : V.heap[w.heap.size + 1]? = some (.cells #[.int .u32 h, .int .i64 p, .int .i64 i, .bool v] 37 (0, 0))
theorem rp_start (w : World) (W0 : World) (e : (w.alloc (.cells #[.int .u32 0, .int .i64 0, .int .i64 0, .bool false] 37)).alloc (.cells #[.int .u32 0, .int .i64 0, .int .i64 0, .bool false] 37) = W0) : RP w W0 0 0 0 false := by
  subst e
  refine ⟨((Below.refl _ w).alloc (Nat.le_refl _) _).alloc (by simp) _, by simp, ?_, ?_⟩
  · exact (Below.heap_alloc _ _ _ (by simp)).trans (MapKept.heap_alloc w _).1
  · have := (MapKept.heap_alloc (w.alloc (.cells #[.int .u32 0, .int .i64 0, .int .i64 0, .bool false] 37)) (.cells #[.int .u32 0, .int .i64 0, .int .i64 0, .bool false] 37)).1
    rw [World.size_alloc] at this
    exact this
section
variable {w V V' : World} {h p i : Int} {v : Bool}
theorem RP.later (a : RP w V h p i v) (b : Below V.heap.size V V') : RP w V' h p i v :=
  ⟨a.below.trans (b.mono a.below.size), Nat.le_trans a.size b.size, (b.block _ (by have := a.size; omega)).trans a.c0, (b.block _ (by have := a.size; omega)).trans a.c1⟩
theorem RP.setH (a : RP w V h p i v) (x : Int) : RP w (V.setCell ⟨w.heap.size + 1, 0, none⟩ (.int .u32 x)) x p i v :=
  ⟨a.below.setCell (by simp) _, by simp [World.setCell, a.size], (Below.heap_setCell _ _ _ _ (by simp)).trans a.c0, by simp [World.setCell, Array.getElem?_modify, a.c1]⟩
theorem RP.setP (a : RP w V h p i v) (x : Int) : RP w (V.setCell ⟨w.heap.size + 1, 1, none⟩ (.int .i64 x)) h x i v :=
  ⟨a.below.setCell (by simp) _, by simp [World.setCell, a.size], (Below.heap_setCell _ _ _ _ (by simp)).trans a.c0, by simp [World.setCell, Array.getElem?_modify, a.c1]⟩
theorem RP.setI (a : RP w V h p i v) (x : Int) : RP w (V.setCell ⟨w.heap.size + 1, 2, none⟩ (.int .i64 x)) h p x v :=
  ⟨a.below.setCell (by simp) _, by simp [World.setCell, a.size], (Below.heap_setCell _ _ _ _ (by simp)).trans a.c0, by simp [World.setCell, Array.getElem?_modify, a.c1]⟩
theorem RP.setV (a : RP w V h p i v) (x : Bool) : RP w (V.setCell ⟨w.heap.size + 1, 3, none⟩ (.bool x)) h p i x :=
  ⟨a.below.setCell (by simp) _, by simp [World.setCell, a.size], (Below.heap_setCell _ _ _ _ (by simp)).trans a.c0, by simp [World.setCell, Array.getElem?_modify, a.c1]⟩
theorem RP.store (a : RP w V h p i v) (x0 x1 x2 x3 : Value) :
    (∀ j, ((((V.setCell ⟨w.heap.size, 0, none⟩ x0).setCell ⟨w.heap.size, 1, none⟩ x1).setCell ⟨w.heap.size, 2, none⟩ x2).setCell ⟨w.heap.size, 3, none⟩ x3).cell? ⟨w.heap.size, j, none⟩ = #[x0, x1, x2, x3][j]?) ∧
    Below w.heap.size w ((((V.setCell ⟨w.heap.size, 0, none⟩ x0).setCell ⟨w.heap.size, 1, none⟩ x1).setCell ⟨w.heap.size, 2, none⟩ x2).setCell ⟨w.heap.size, 3, none⟩ x3) := by
  have h4 : ((((V.setCell ⟨w.heap.size, 0, none⟩ x0).setCell ⟨w.heap.size, 1, none⟩ x1).setCell ⟨w.heap.size, 2, none⟩ x2).setCell ⟨w.heap.size, 3, none⟩ x3).heap[w.heap.size]? = some (.cells #[x0, x1, x2, x3] 37 (0, 0)) := by
    simp [World.setCell, Array.getElem?_modify, a.c0]
  exact ⟨fun j => (cells_of h4 j).1, (((a.below.setCell (Nat.le_refl _) _).setCell (Nat.le_refl _) _).setCell (Nat.le_refl _) _).setCell (Nat.le_refl _) _⟩
end
theorem skip_at (s : List UInt8) (a x : Int) (word : List UInt8) (hs : s.length ≤ 1000) (h0 : -1 ≤ a) (h1 : a ≤ s.length) (hw : word.length ≤ 20) (hw0 : 0 < word.length) (hx : skipL s a word = x) (w : World) :
    Calls Tryd.prog 35 #[.string (st s), .int .i64 a, .string (st word)] w fun e w' => e = .returned (.int .i64 x) ∧ Below w.heap.size w w' := by
  subst hx; exact skip_any s a word w hs h0 h1 hw hw0
theorem take_at (s : List UInt8) (a n x : Int) (hs : s.length ≤ 1000) (h0 : -1 ≤ a) (h1 : a ≤ s.length) (hx : takeL s a = (n, x)) (w : World) :
    Calls Tryd.prog 36 #[.string (st s), .int .i64 a] w fun e w' => e = .returned (.tuple #[.int .i64 n, .int .i64 x]) ∧ Below w.heap.size w w' := by
  have := take_any s a w hs h0 h1
  rw [hx] at this
  exact this

theorem rtext_of (h p i : Int) (v : Bool) (X : List UInt8) (hX : (⟨h, p, i, v⟩ : Plc).text = X) (h0 : 0 ≤ h) (h1 : h < 4294967296) (w : World) : Calls Tryd.prog 20 #[.agg #[.int .u32 h, .int .i64 p, .int .i64 i, .bool v]] w fun e w' => e = .returned (.string (st X)) ∧ Below w.heap.size w w' := by
  subst hX; exact rtext_any ⟨h, p, i, v⟩ w h0 h1
set_option maxRecDepth 100000 in
set_option maxHeartbeats 4000000 in
theorem rparse_any (s : List UInt8) (w : World) (hs : s.length ≤ 1000) : Calls Tryd.prog 24 #[.string (st s)] w fun e w' => e = .returned (ansR s) ∧ Below w.heap.size w w' := by
  obtain ⟨T, hT⟩ : ∃ T, ansR s = T := ⟨_, rfl⟩
  rw [hT]
  have HT := Lib.hid hT; clear hT
  have C0 := Lib.hid (skip_at s 0 _ [47, 105, 112, 52, 47] hs (by omega) (by omega) (by decide) (by decide) rfl)
  have HS := Lib.hid hs
  obtain ⟨S, hS⟩ : ∃ S, st s = S := ⟨_, rfl⟩
  have HSS := Lib.hid hS
  rw [hS] at C0 ⊢
  clear hS
  go_enter Tryd.func24, Tryd.ntmps24
  go_wp2_with fail
  obtain ⟨W0, hW0⟩ : ∃ W0, (w.alloc (.cells #[.int .u32 0, .int .i64 0, .int .i64 0, .bool false] 37)).alloc (.cells #[.int .u32 0, .int .i64 0, .int .i64 0, .bool false] 37) = W0 := ⟨_, rfl⟩
  have hR := rp_start w W0 hW0
  rw [hW0]
  clear hW0
  refine (C0.out _).mono ?_
  rintro e w1 ⟨rfl, hb1⟩
  have HR1 := Lib.hid (hR.later hb1)
  clear hb1 hR
  go_wp2
  go_loopw [5, 6] (fun x y V => ∃ k : Nat, k ≤ 4 ∧ x = .int .i64 (hr s k).2 ∧ y = .int .i64 (k : Int) ∧ RP w V (hr s k).1 0 0 false) (fun _ y _ => 4 - (intOf y).toNat)
  case atStart => exact ⟨0, by omega, rfl, rfl, HR1.out⟩
  case round =>
    obtain ⟨k, hk, rfl, rfl, hR⟩ := hrel
    have HR2 := Lib.hid hR; clear hR
    have hb := hr_bd s k
    obtain ⟨H, hH⟩ : ∃ H, (hr s k).1 = H := ⟨_, rfl⟩
    obtain ⟨A, hA⟩ : ∃ A, (hr s k).2 = A := ⟨_, rfl⟩
    rw [hH] at HR2
    rw [hH, hA] at hb
    rw [hA]
    have d0 := (cells_of HR2.out.c1 0).1
    have f0 := (cells_of HR2.out.c1 0).2
    simp at d0
    by_cases hlt : k < 4
    · by_cases hk0 : k = 0
      · obtain ⟨⟨n, x⟩, hx⟩ : ∃ t, takeL s A = t := ⟨_, rfl⟩
        have hn := takeL_bd s A hb.2.2.2
        rw [hx] at hn
        have C1 := Lib.hid (take_at s A n x HS.out hb.2.2.1 hb.2.2.2 hx)
        have HN : Hid (hr s (k + 1) = ((H * 256 + n) % 4294967296, x)) := Lib.hid (by simp only [hr]; rw [if_pos hk0, hH, hA, hx])
        rw [HSS.out] at C1
        have u1 : n % 4294967296 = n := by have := hn.1; have := hn.2.1; simp only at *; omega
        clear hx hn hH hA
        subst hk0
        go_wp2_with fail
        refine (C1.out _).mono ?_
        rintro e w2 ⟨rfl, hb2⟩
        have HR3 := Lib.hid (HR2.out.later hb2)
        have d0 := (cells_of HR3.out.c1 0).1
        have f0 := (cells_of HR3.out.c1 0).2
        simp at d0
        clear hb2
        go_wp2
        go_roundw
        case rel => exact ⟨1, by omega, by rw [HN.out], rfl, by rw [HN.out]; exact HR3.out.setH _⟩
        case measure => simp [intOf]
      · obtain ⟨b, hbb⟩ : ∃ b, skipL s A [46] = b := ⟨_, rfl⟩
        have hb2 := skipL_bd s A [46] hb.2.2.2
        rw [hbb] at hb2
        obtain ⟨⟨n, x⟩, hx⟩ : ∃ t, takeL s b = t := ⟨_, rfl⟩
        have hn := takeL_bd s b hb2.2
        rw [hx] at hn
        have C1 := Lib.hid (take_at s b n x HS.out hb2.1 hb2.2 hx)
        have C2 := Lib.hid (skip_at s A b [46] HS.out hb.2.2.1 hb.2.2.2 (by decide) (by decide) hbb)
        have HN : Hid (hr s (k + 1) = ((H * 256 + n) % 4294967296, x)) := Lib.hid (by simp only [hr]; rw [if_neg hk0, hH, hA, hbb, hx])
        rw [HSS.out] at C1 C2
        have u1 : n % 4294967296 = n := by have := hn.1; have := hn.2.1; simp only at *; omega
        clear hx hn hH hA hbb hb2
        go_wp2_with fail
        refine (C2.out _).mono ?_
        rintro e w2 ⟨rfl, hb2⟩
        have HR3 := Lib.hid (HR2.out.later hb2)
        clear hb2
        go_wp2_with fail
        refine (C1.out _).mono ?_
        rintro e w3 ⟨rfl, hb3⟩
        have HR4 := Lib.hid (HR3.out.later hb3)
        clear d0 f0
        have d0 := (cells_of HR4.out.c1 0).1
        have f0 := (cells_of HR4.out.c1 0).2
        simp at d0
        clear hb3
        go_wp2
        go_roundw
        case rel => exact ⟨k + 1, by omega, by rw [HN.out], by go_num, by rw [HN.out]; exact HR4.out.setH _⟩
        case measure => simp [intOf]; omega
    · obtain rfl : k = 4 := by omega
      have HH0 := Lib.hid hb.1
      have HH1 := Lib.hid hb.2.1
      clear d0 f0 hlt
      obtain ⟨b, hbb⟩ : ∃ b, skipL s A [47, 117, 100, 112, 47] = b := ⟨_, rfl⟩
      have hb2 := skipL_bd s A [47, 117, 100, 112, 47] hb.2.2.2
      rw [hbb] at hb2
      obtain ⟨⟨P, x⟩, hx⟩ : ∃ t, takeL s b = t := ⟨_, rfl⟩
      have hn := takeL_bd s b hb2.2
      rw [hx] at hn
      simp only at hn
      obtain ⟨m, hm⟩ : ∃ m, skipL s x [47, 112, 50, 112, 47] = m := ⟨_, rfl⟩
      have hmb := skipL_bd s x [47, 112, 50, 112, 47] hn.2.2.2
      rw [hm] at hmb
      have C1 := Lib.hid (skip_at s A b [47, 117, 100, 112, 47] HS.out hb.2.2.1 hb.2.2.2 (by decide) (by decide) hbb)
      have C2 := Lib.hid (take_at s b P x HS.out hb2.1 hb2.2 hx)
      have C3 := Lib.hid (skip_at s x m [47, 112, 50, 112, 47] HS.out hn.2.2.1 hn.2.2.2 (by decide) (by decide) hm)
      rw [HSS.out] at C1 C2 C3
      go_wp2_with fail
      refine (C1.out _).mono ?_
      rintro e w2 ⟨rfl, hb3⟩
      have HR3 := Lib.hid (HR2.out.later hb3)
      clear hb3
      go_wp2_with fail
      refine (C2.out _).mono ?_
      rintro e w3 ⟨rfl, hb3⟩
      have HR4 := Lib.hid (HR3.out.later hb3)
      clear hb3
      have f1 := (cells_of HR4.out.c1 1).2
      have d1 := (cells_of HR4.out.c1 1).1
      simp at d1
      have HR5 := Lib.hid (HR4.out.setP P)
      go_wp2_with fail
      refine (C3.out _).mono ?_
      rintro e w4 ⟨rfl, hb3⟩
      have HR6 := Lib.hid (HR5.out.later hb3)
      clear hb3 f1 d1
      by_cases hm0 : 0 ≤ m
      · obtain ⟨⟨I, y⟩, hy⟩ : ∃ t, takeL s m = t := ⟨_, rfl⟩
        have hyb := takeL_bd s m hmb.2
        rw [hy] at hyb
        simp only at hyb
        obtain ⟨q, hq0⟩ : ∃ q, skipL s y [47, 112, 50, 112, 45, 99, 105, 114, 99, 117, 105, 116] = q := ⟨_, rfl⟩
        have C4 := Lib.hid (take_at s m I y HS.out hmb.1 hmb.2 hy)
        have C5 := Lib.hid (skip_at s y q [47, 112, 50, 112, 45, 99, 105, 114, 99, 117, 105, 116] HS.out hyb.2.2.1 hyb.2.2.2 (by decide) (by decide) hq0)
        rw [HSS.out] at C4 C5
        have hRE : refR s = ⟨H, P, I, decide (0 ≤ q)⟩ := by
          unfold refR
          simp only [hH, hA, hbb, hx, hm, hy, hq0]
          rw [if_pos hm0]
        clear hH hA hbb hx hm hy hq0 hb hb2 hn hmb hyb
        go_wp2_with fail
        refine (C4.out _).mono ?_
        rintro e w5 ⟨rfl, hb3⟩
        have HR7 := Lib.hid (HR6.out.later hb3)
        clear hb3
        have f2 := (cells_of HR7.out.c1 2).2
        have d2 := (cells_of HR7.out.c1 2).1
        simp at d2
        have HR8 := Lib.hid (HR7.out.setI I)
        go_wp2_with fail
        refine (C5.out _).mono ?_
        rintro e w6 ⟨rfl, hb3⟩
        have HR9 := Lib.hid (HR8.out.later hb3)
        clear hb3 f2 d2
        by_cases hq0 : 0 ≤ q
        · have HREF : Hid (refR s = ⟨H, P, I, true⟩) := Lib.hid (by rw [hRE, decide_eq_true hq0])
          clear hRE
          have HR10 := Lib.hid (HR9.out.setV true)
          have d0 := (cells_of HR9.out.c1 0).1
          have d1 := (cells_of HR9.out.c1 1).1
          have d2 := (cells_of HR9.out.c1 2).1
          have d3 := (cells_of HR9.out.c1 3).1
          have f0 := (cells_of HR9.out.c1 0).2
          have f1 := (cells_of HR9.out.c1 1).2
          have f2 := (cells_of HR9.out.c1 2).2
          have f3 := (cells_of HR9.out.c1 3).2
          simp at d0 d1 d2 d3
          obtain ⟨X, hX⟩ : ∃ X, (⟨H, P, I, true⟩ : Plc).text = X := ⟨_, rfl⟩
          have CT := Lib.hid (rtext_of H P I true X hX HH0.out HH1.out)
          have HXX : Hid ((refR s).text = X) := Lib.hid (by rw [HREF.out]; exact hX)
          clear hX
          by_cases hq : X = s
          · by_cases hn : s = []
            · have HTT : Hid (T = .tuple #[.agg #[.int .u32 0, .int .i64 0, .int .i64 0, .bool false], .int .i64 3]) := Lib.hid (by rw [← HT.out]; unfold ansR; rw [if_neg (fun h => h.2 hn)]; rfl)
              have e1 : ((st X).toList == S.toList) = true := by rw [← HSS.out, hq]; simp
              have e4 : (st X).toList = [] := by rw [hq, hn, ByteArray.toList_eq]; rfl
              have e2 : S.toList.isEmpty = true := by rw [← HSS.out, hn, ByteArray.toList_eq]; rfl
              have e3 : S.toList = [] := by rw [← HSS.out, hn, ByteArray.toList_eq]; rfl
              clear hq hn
              go_wp2_with fail
              refine (CT.out _).mono ?_
              rintro e w20 ⟨rfl, hb20⟩
              have HR20 := Lib.hid (HR10.out.later hb20)
              clear hb20
              clear d0 d1 d2 d3 f0 f1 f2 f3
              have d0 := (cells_of HR20.out.c1 0).1
              have d1 := (cells_of HR20.out.c1 1).1
              have d2 := (cells_of HR20.out.c1 2).1
              have d3 := (cells_of HR20.out.c1 3).1
              have f0 := (cells_of HR20.out.c1 0).2
              have f1 := (cells_of HR20.out.c1 1).2
              have f2 := (cells_of HR20.out.c1 2).2
              have f3 := (cells_of HR20.out.c1 3).2
              simp at d0 d1 d2 d3
              have g0 := (cells_of HR20.out.c0 0).2
              have g1 := (cells_of HR20.out.c0 1).2
              have g2 := (cells_of HR20.out.c0 2).2
              have g3 := (cells_of HR20.out.c0 3).2
              have y0 := (cells_of HR20.out.c0 0).1
              have y1 := (cells_of HR20.out.c0 1).1
              have y2 := (cells_of HR20.out.c0 2).1
              have y3 := (cells_of HR20.out.c0 3).1
              simp at y0 y1 y2 y3
              go_wp2
              have Z := HR20.out.store (.int .u32 0) (.int .i64 0) (.int .i64 0) (.bool false)
              have z0 := Z.1 0
              have z1 := Z.1 1
              have z2 := Z.1 2
              have z3 := Z.1 3
              simp at z0 z1 z2 z3
              exact ⟨rfl, .tuple #[.agg #[.int .u32 0, .int .i64 0, .int .i64 0, .bool false], .int .i64 3], by simp [results, Tryd.results24, go_sem, z0, z1, z2, z3], by rw [HTT.out], Z.2⟩
            · have HTT : Hid (T = .tuple #[.agg #[.int .u32 H, .int .i64 P, .int .i64 I, .bool true], .int .i64 0]) := Lib.hid (by rw [← HT.out]; unfold ansR; rw [if_pos ⟨by rw [HXX.out]; exact hq, hn⟩, HREF.out]; rfl)
              have e1 : ((st X).toList == S.toList) = true := by rw [← HSS.out, hq]; simp
              have e2 : S.toList.isEmpty = false := by rw [← HSS.out, ByteArray.toList_eq]; simpa [st] using hn
              have e3 : ¬ S.toList = [] := by rw [← HSS.out, ByteArray.toList_eq]; simpa [st] using hn
              clear hq hn
              go_wp2_with fail
              refine (CT.out _).mono ?_
              rintro e w20 ⟨rfl, hb20⟩
              have HR20 := Lib.hid (HR10.out.later hb20)
              clear hb20
              clear d0 d1 d2 d3 f0 f1 f2 f3
              have d0 := (cells_of HR20.out.c1 0).1
              have d1 := (cells_of HR20.out.c1 1).1
              have d2 := (cells_of HR20.out.c1 2).1
              have d3 := (cells_of HR20.out.c1 3).1
              have f0 := (cells_of HR20.out.c1 0).2
              have f1 := (cells_of HR20.out.c1 1).2
              have f2 := (cells_of HR20.out.c1 2).2
              have f3 := (cells_of HR20.out.c1 3).2
              simp at d0 d1 d2 d3
              have g0 := (cells_of HR20.out.c0 0).2
              have g1 := (cells_of HR20.out.c0 1).2
              have g2 := (cells_of HR20.out.c0 2).2
              have g3 := (cells_of HR20.out.c0 3).2
              have y0 := (cells_of HR20.out.c0 0).1
              have y1 := (cells_of HR20.out.c0 1).1
              have y2 := (cells_of HR20.out.c0 2).1
              have y3 := (cells_of HR20.out.c0 3).1
              simp at y0 y1 y2 y3
              go_wp2
              have Z := HR20.out.store (.int .u32 H) (.int .i64 P) (.int .i64 I) (.bool true)
              have z0 := Z.1 0
              have z1 := Z.1 1
              have z2 := Z.1 2
              have z3 := Z.1 3
              simp at z0 z1 z2 z3
              exact ⟨rfl, .tuple #[.agg #[.int .u32 H, .int .i64 P, .int .i64 I, .bool true], .int .i64 0], by simp [results, Tryd.results24, go_sem, z0, z1, z2, z3], by rw [HTT.out], Z.2⟩
          · have HTT : Hid (T = .tuple #[.agg #[.int .u32 0, .int .i64 0, .int .i64 0, .bool false], .int .i64 3]) := Lib.hid (by rw [← HT.out]; unfold ansR; rw [if_neg (fun h => hq (by rw [← HXX.out]; exact h.1))]; rfl)
            have e1 : ((st X).toList == S.toList) = false := by rw [← HSS.out, ByteArray.toList_eq, ByteArray.toList_eq, beq_eq_false_iff_ne]; simpa [st] using hq
            clear hq
            go_wp2_with fail
            refine (CT.out _).mono ?_
            rintro e w20 ⟨rfl, hb20⟩
            have HR20 := Lib.hid (HR10.out.later hb20)
            clear hb20
            clear d0 d1 d2 d3 f0 f1 f2 f3
            have d0 := (cells_of HR20.out.c1 0).1
            have d1 := (cells_of HR20.out.c1 1).1
            have d2 := (cells_of HR20.out.c1 2).1
            have d3 := (cells_of HR20.out.c1 3).1
            have f0 := (cells_of HR20.out.c1 0).2
            have f1 := (cells_of HR20.out.c1 1).2
            have f2 := (cells_of HR20.out.c1 2).2
            have f3 := (cells_of HR20.out.c1 3).2
            simp at d0 d1 d2 d3
            have g0 := (cells_of HR20.out.c0 0).2
            have g1 := (cells_of HR20.out.c0 1).2
            have g2 := (cells_of HR20.out.c0 2).2
            have g3 := (cells_of HR20.out.c0 3).2
            have y0 := (cells_of HR20.out.c0 0).1
            have y1 := (cells_of HR20.out.c0 1).1
            have y2 := (cells_of HR20.out.c0 2).1
            have y3 := (cells_of HR20.out.c0 3).1
            simp at y0 y1 y2 y3
            go_wp2
            have Z := HR20.out.store (.int .u32 0) (.int .i64 0) (.int .i64 0) (.bool false)
            have z0 := Z.1 0
            have z1 := Z.1 1
            have z2 := Z.1 2
            have z3 := Z.1 3
            simp at z0 z1 z2 z3
            exact ⟨rfl, .tuple #[.agg #[.int .u32 0, .int .i64 0, .int .i64 0, .bool false], .int .i64 3], by simp [results, Tryd.results24, go_sem, z0, z1, z2, z3], by rw [HTT.out], Z.2⟩
        · have HREF : Hid (refR s = ⟨H, P, I, false⟩) := Lib.hid (by rw [hRE, decide_eq_false hq0])
          clear hRE
          have d0 := (cells_of HR9.out.c1 0).1
          have d1 := (cells_of HR9.out.c1 1).1
          have d2 := (cells_of HR9.out.c1 2).1
          have d3 := (cells_of HR9.out.c1 3).1
          have f0 := (cells_of HR9.out.c1 0).2
          have f1 := (cells_of HR9.out.c1 1).2
          have f2 := (cells_of HR9.out.c1 2).2
          have f3 := (cells_of HR9.out.c1 3).2
          simp at d0 d1 d2 d3
          obtain ⟨X, hX⟩ : ∃ X, (⟨H, P, I, false⟩ : Plc).text = X := ⟨_, rfl⟩
          have CT := Lib.hid (rtext_of H P I false X hX HH0.out HH1.out)
          have HXX : Hid ((refR s).text = X) := Lib.hid (by rw [HREF.out]; exact hX)
          clear hX
          by_cases hq : X = s
          · by_cases hn : s = []
            · have HTT : Hid (T = .tuple #[.agg #[.int .u32 0, .int .i64 0, .int .i64 0, .bool false], .int .i64 3]) := Lib.hid (by rw [← HT.out]; unfold ansR; rw [if_neg (fun h => h.2 hn)]; rfl)
              have e1 : ((st X).toList == S.toList) = true := by rw [← HSS.out, hq]; simp
              have e4 : (st X).toList = [] := by rw [hq, hn, ByteArray.toList_eq]; rfl
              have e2 : S.toList.isEmpty = true := by rw [← HSS.out, hn, ByteArray.toList_eq]; rfl
              have e3 : S.toList = [] := by rw [← HSS.out, hn, ByteArray.toList_eq]; rfl
              clear hq hn
              go_wp2_with fail
              refine (CT.out _).mono ?_
              rintro e w20 ⟨rfl, hb20⟩
              have HR20 := Lib.hid (HR9.out.later hb20)
              clear hb20
              clear d0 d1 d2 d3 f0 f1 f2 f3
              have d0 := (cells_of HR20.out.c1 0).1
              have d1 := (cells_of HR20.out.c1 1).1
              have d2 := (cells_of HR20.out.c1 2).1
              have d3 := (cells_of HR20.out.c1 3).1
              have f0 := (cells_of HR20.out.c1 0).2
              have f1 := (cells_of HR20.out.c1 1).2
              have f2 := (cells_of HR20.out.c1 2).2
              have f3 := (cells_of HR20.out.c1 3).2
              simp at d0 d1 d2 d3
              have g0 := (cells_of HR20.out.c0 0).2
              have g1 := (cells_of HR20.out.c0 1).2
              have g2 := (cells_of HR20.out.c0 2).2
              have g3 := (cells_of HR20.out.c0 3).2
              have y0 := (cells_of HR20.out.c0 0).1
              have y1 := (cells_of HR20.out.c0 1).1
              have y2 := (cells_of HR20.out.c0 2).1
              have y3 := (cells_of HR20.out.c0 3).1
              simp at y0 y1 y2 y3
              go_wp2
              have Z := HR20.out.store (.int .u32 0) (.int .i64 0) (.int .i64 0) (.bool false)
              have z0 := Z.1 0
              have z1 := Z.1 1
              have z2 := Z.1 2
              have z3 := Z.1 3
              simp at z0 z1 z2 z3
              exact ⟨rfl, .tuple #[.agg #[.int .u32 0, .int .i64 0, .int .i64 0, .bool false], .int .i64 3], by simp [results, Tryd.results24, go_sem, z0, z1, z2, z3], by rw [HTT.out], Z.2⟩
            · have HTT : Hid (T = .tuple #[.agg #[.int .u32 H, .int .i64 P, .int .i64 I, .bool false], .int .i64 0]) := Lib.hid (by rw [← HT.out]; unfold ansR; rw [if_pos ⟨by rw [HXX.out]; exact hq, hn⟩, HREF.out]; rfl)
              have e1 : ((st X).toList == S.toList) = true := by rw [← HSS.out, hq]; simp
              have e2 : S.toList.isEmpty = false := by rw [← HSS.out, ByteArray.toList_eq]; simpa [st] using hn
              have e3 : ¬ S.toList = [] := by rw [← HSS.out, ByteArray.toList_eq]; simpa [st] using hn
              clear hq hn
              go_wp2_with fail
              refine (CT.out _).mono ?_
              rintro e w20 ⟨rfl, hb20⟩
              have HR20 := Lib.hid (HR9.out.later hb20)
              clear hb20
              clear d0 d1 d2 d3 f0 f1 f2 f3
              have d0 := (cells_of HR20.out.c1 0).1
              have d1 := (cells_of HR20.out.c1 1).1
              have d2 := (cells_of HR20.out.c1 2).1
              have d3 := (cells_of HR20.out.c1 3).1
              have f0 := (cells_of HR20.out.c1 0).2
              have f1 := (cells_of HR20.out.c1 1).2
              have f2 := (cells_of HR20.out.c1 2).2
              have f3 := (cells_of HR20.out.c1 3).2
              simp at d0 d1 d2 d3
              have g0 := (cells_of HR20.out.c0 0).2
              have g1 := (cells_of HR20.out.c0 1).2
              have g2 := (cells_of HR20.out.c0 2).2
              have g3 := (cells_of HR20.out.c0 3).2
              have y0 := (cells_of HR20.out.c0 0).1
              have y1 := (cells_of HR20.out.c0 1).1
              have y2 := (cells_of HR20.out.c0 2).1
              have y3 := (cells_of HR20.out.c0 3).1
              simp at y0 y1 y2 y3
              go_wp2
              have Z := HR20.out.store (.int .u32 H) (.int .i64 P) (.int .i64 I) (.bool false)
              have z0 := Z.1 0
              have z1 := Z.1 1
              have z2 := Z.1 2
              have z3 := Z.1 3
              simp at z0 z1 z2 z3
              exact ⟨rfl, .tuple #[.agg #[.int .u32 H, .int .i64 P, .int .i64 I, .bool false], .int .i64 0], by simp [results, Tryd.results24, go_sem, z0, z1, z2, z3], by rw [HTT.out], Z.2⟩
          · have HTT : Hid (T = .tuple #[.agg #[.int .u32 0, .int .i64 0, .int .i64 0, .bool false], .int .i64 3]) := Lib.hid (by rw [← HT.out]; unfold ansR; rw [if_neg (fun h => hq (by rw [← HXX.out]; exact h.1))]; rfl)
            have e1 : ((st X).toList == S.toList) = false := by rw [← HSS.out, ByteArray.toList_eq, ByteArray.toList_eq, beq_eq_false_iff_ne]; simpa [st] using hq
            clear hq
            go_wp2_with fail
            refine (CT.out _).mono ?_
            rintro e w20 ⟨rfl, hb20⟩
            have HR20 := Lib.hid (HR9.out.later hb20)
            clear hb20
            clear d0 d1 d2 d3 f0 f1 f2 f3
            have d0 := (cells_of HR20.out.c1 0).1
            have d1 := (cells_of HR20.out.c1 1).1
            have d2 := (cells_of HR20.out.c1 2).1
            have d3 := (cells_of HR20.out.c1 3).1
            have f0 := (cells_of HR20.out.c1 0).2
            have f1 := (cells_of HR20.out.c1 1).2
            have f2 := (cells_of HR20.out.c1 2).2
            have f3 := (cells_of HR20.out.c1 3).2
            simp at d0 d1 d2 d3
            have g0 := (cells_of HR20.out.c0 0).2
            have g1 := (cells_of HR20.out.c0 1).2
            have g2 := (cells_of HR20.out.c0 2).2
            have g3 := (cells_of HR20.out.c0 3).2
            have y0 := (cells_of HR20.out.c0 0).1
            have y1 := (cells_of HR20.out.c0 1).1
            have y2 := (cells_of HR20.out.c0 2).1
            have y3 := (cells_of HR20.out.c0 3).1
            simp at y0 y1 y2 y3
            go_wp2
            have Z := HR20.out.store (.int .u32 0) (.int .i64 0) (.int .i64 0) (.bool false)
            have z0 := Z.1 0
            have z1 := Z.1 1
            have z2 := Z.1 2
            have z3 := Z.1 3
            simp at z0 z1 z2 z3
            exact ⟨rfl, .tuple #[.agg #[.int .u32 0, .int .i64 0, .int .i64 0, .bool false], .int .i64 3], by simp [results, Tryd.results24, go_sem, z0, z1, z2, z3], by rw [HTT.out], Z.2⟩
      · have HREF : Hid (refR s = ⟨H, P, 0, false⟩) := Lib.hid (by
          unfold refR
          simp only [hH, hA, hbb, hx, hm]
          rw [if_neg hm0])
        clear hH hA hbb hx hm hb hb2 hn hmb
        have d0 := (cells_of HR6.out.c1 0).1
        have d1 := (cells_of HR6.out.c1 1).1
        have d2 := (cells_of HR6.out.c1 2).1
        have d3 := (cells_of HR6.out.c1 3).1
        have f0 := (cells_of HR6.out.c1 0).2
        have f1 := (cells_of HR6.out.c1 1).2
        have f2 := (cells_of HR6.out.c1 2).2
        have f3 := (cells_of HR6.out.c1 3).2
        simp at d0 d1 d2 d3
        obtain ⟨X, hX⟩ : ∃ X, (⟨H, P, 0, false⟩ : Plc).text = X := ⟨_, rfl⟩
        have CT := Lib.hid (rtext_of H P 0 false X hX HH0.out HH1.out)
        have HXX : Hid ((refR s).text = X) := Lib.hid (by rw [HREF.out]; exact hX)
        clear hX
        by_cases hq : X = s
        · by_cases hn : s = []
          · have HTT : Hid (T = .tuple #[.agg #[.int .u32 0, .int .i64 0, .int .i64 0, .bool false], .int .i64 3]) := Lib.hid (by rw [← HT.out]; unfold ansR; rw [if_neg (fun h => h.2 hn)]; rfl)
            have e1 : ((st X).toList == S.toList) = true := by rw [← HSS.out, hq]; simp
            have e4 : (st X).toList = [] := by rw [hq, hn, ByteArray.toList_eq]; rfl
            have e2 : S.toList.isEmpty = true := by rw [← HSS.out, hn, ByteArray.toList_eq]; rfl
            have e3 : S.toList = [] := by rw [← HSS.out, hn, ByteArray.toList_eq]; rfl
            clear hq hn
            go_wp2_with fail
            refine (CT.out _).mono ?_
            rintro e w20 ⟨rfl, hb20⟩
            have HR20 := Lib.hid (HR6.out.later hb20)
            clear hb20
            clear d0 d1 d2 d3 f0 f1 f2 f3
            have d0 := (cells_of HR20.out.c1 0).1
            have d1 := (cells_of HR20.out.c1 1).1
            have d2 := (cells_of HR20.out.c1 2).1
            have d3 := (cells_of HR20.out.c1 3).1
            have f0 := (cells_of HR20.out.c1 0).2
            have f1 := (cells_of HR20.out.c1 1).2
            have f2 := (cells_of HR20.out.c1 2).2
            have f3 := (cells_of HR20.out.c1 3).2
            simp at d0 d1 d2 d3
            have g0 := (cells_of HR20.out.c0 0).2
            have g1 := (cells_of HR20.out.c0 1).2
            have g2 := (cells_of HR20.out.c0 2).2
            have g3 := (cells_of HR20.out.c0 3).2
            have y0 := (cells_of HR20.out.c0 0).1
            have y1 := (cells_of HR20.out.c0 1).1
            have y2 := (cells_of HR20.out.c0 2).1
            have y3 := (cells_of HR20.out.c0 3).1
            simp at y0 y1 y2 y3
            go_wp2
            have Z := HR20.out.store (.int .u32 0) (.int .i64 0) (.int .i64 0) (.bool false)
            have z0 := Z.1 0
            have z1 := Z.1 1
            have z2 := Z.1 2
            have z3 := Z.1 3
            simp at z0 z1 z2 z3
            exact ⟨rfl, .tuple #[.agg #[.int .u32 0, .int .i64 0, .int .i64 0, .bool false], .int .i64 3], by simp [results, Tryd.results24, go_sem, z0, z1, z2, z3], by rw [HTT.out], Z.2⟩
          · have HTT : Hid (T = .tuple #[.agg #[.int .u32 H, .int .i64 P, .int .i64 0, .bool false], .int .i64 0]) := Lib.hid (by rw [← HT.out]; unfold ansR; rw [if_pos ⟨by rw [HXX.out]; exact hq, hn⟩, HREF.out]; rfl)
            have e1 : ((st X).toList == S.toList) = true := by rw [← HSS.out, hq]; simp
            have e2 : S.toList.isEmpty = false := by rw [← HSS.out, ByteArray.toList_eq]; simpa [st] using hn
            have e3 : ¬ S.toList = [] := by rw [← HSS.out, ByteArray.toList_eq]; simpa [st] using hn
            clear hq hn
            go_wp2_with fail
            refine (CT.out _).mono ?_
            rintro e w20 ⟨rfl, hb20⟩
            have HR20 := Lib.hid (HR6.out.later hb20)
            clear hb20
            clear d0 d1 d2 d3 f0 f1 f2 f3
            have d0 := (cells_of HR20.out.c1 0).1
            have d1 := (cells_of HR20.out.c1 1).1
            have d2 := (cells_of HR20.out.c1 2).1
            have d3 := (cells_of HR20.out.c1 3).1
            have f0 := (cells_of HR20.out.c1 0).2
            have f1 := (cells_of HR20.out.c1 1).2
            have f2 := (cells_of HR20.out.c1 2).2
            have f3 := (cells_of HR20.out.c1 3).2
            simp at d0 d1 d2 d3
            have g0 := (cells_of HR20.out.c0 0).2
            have g1 := (cells_of HR20.out.c0 1).2
            have g2 := (cells_of HR20.out.c0 2).2
            have g3 := (cells_of HR20.out.c0 3).2
            have y0 := (cells_of HR20.out.c0 0).1
            have y1 := (cells_of HR20.out.c0 1).1
            have y2 := (cells_of HR20.out.c0 2).1
            have y3 := (cells_of HR20.out.c0 3).1
            simp at y0 y1 y2 y3
            go_wp2
            have Z := HR20.out.store (.int .u32 H) (.int .i64 P) (.int .i64 0) (.bool false)
            have z0 := Z.1 0
            have z1 := Z.1 1
            have z2 := Z.1 2
            have z3 := Z.1 3
            simp at z0 z1 z2 z3
            exact ⟨rfl, .tuple #[.agg #[.int .u32 H, .int .i64 P, .int .i64 0, .bool false], .int .i64 0], by simp [results, Tryd.results24, go_sem, z0, z1, z2, z3], by rw [HTT.out], Z.2⟩
        · have HTT : Hid (T = .tuple #[.agg #[.int .u32 0, .int .i64 0, .int .i64 0, .bool false], .int .i64 3]) := Lib.hid (by rw [← HT.out]; unfold ansR; rw [if_neg (fun h => hq (by rw [← HXX.out]; exact h.1))]; rfl)
          have e1 : ((st X).toList == S.toList) = false := by rw [← HSS.out, ByteArray.toList_eq, ByteArray.toList_eq, beq_eq_false_iff_ne]; simpa [st] using hq
          clear hq
          go_wp2_with fail
          refine (CT.out _).mono ?_
          rintro e w20 ⟨rfl, hb20⟩
          have HR20 := Lib.hid (HR6.out.later hb20)
          clear hb20
          clear d0 d1 d2 d3 f0 f1 f2 f3
          have d0 := (cells_of HR20.out.c1 0).1
          have d1 := (cells_of HR20.out.c1 1).1
          have d2 := (cells_of HR20.out.c1 2).1
          have d3 := (cells_of HR20.out.c1 3).1
          have f0 := (cells_of HR20.out.c1 0).2
          have f1 := (cells_of HR20.out.c1 1).2
          have f2 := (cells_of HR20.out.c1 2).2
          have f3 := (cells_of HR20.out.c1 3).2
          simp at d0 d1 d2 d3
          have g0 := (cells_of HR20.out.c0 0).2
          have g1 := (cells_of HR20.out.c0 1).2
          have g2 := (cells_of HR20.out.c0 2).2
          have g3 := (cells_of HR20.out.c0 3).2
          have y0 := (cells_of HR20.out.c0 0).1
          have y1 := (cells_of HR20.out.c0 1).1
          have y2 := (cells_of HR20.out.c0 2).1
          have y3 := (cells_of HR20.out.c0 3).1
          simp at y0 y1 y2 y3
          go_wp2
          have Z := HR20.out.store (.int .u32 0) (.int .i64 0) (.int .i64 0) (.bool false)
          have z0 := Z.1 0
          have z1 := Z.1 1
          have z2 := Z.1 2
          have z3 := Z.1 3
          simp at z0 z1 z2 z3
          exact ⟨rfl, .tuple #[.agg #[.int .u32 0, .int .i64 0, .int .i64 0, .bool false], .int .i64 3], by simp [results, Tryd.results24, go_sem, z0, z1, z2, z3], by rw [HTT.out], Z.2⟩
end Go.Proofs.YtkemkbaomhjnbaaDoor
