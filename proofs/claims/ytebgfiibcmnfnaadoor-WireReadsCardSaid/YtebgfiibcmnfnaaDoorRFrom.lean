/-
  The contract of the document's own FromBytes: the walk. Conditions: at most 1,000,000 bytes.
-/
import Derived.Test.YtebgfiibcmnfnaaDoorRRead
namespace Go.Proofs.YtebgfiibcmnfnaaDoor
open Go.RowKit
set_option linter.unusedVariables false

/-- what stands when k numbers have been read -/
structure Ln (zs : List Int) (k a : Nat) (vs : List Nat) : Prop where
  le : a ≤ zs.length
  len : vs.length = k
  bd : ∀ x ∈ vs, x < 9223372036854775808
  rd : Wi.readNums (nrest zs) k = some (vs, zs.drop a)
theorem Ln.next {zs : List Int} {k a : Nat} {vs : List Nat} (h : Ln zs k a vs) (hc : Uv.code (zs.drop a) = 0) {x : Nat} (hx : Uv.val (zs.drop a) = (x : Int)) : Ln zs (k + 1) (a + Uv.size (zs.drop a)) (vs ++ [x]) := by
  obtain ⟨h1, h2⟩ := rd_num_yes h.le h.rd hc
  have hb := Uv.val_bd (zs.drop a)
  rw [hx, Int.toNat_natCast] at h1
  refine ⟨h2, by simp [h.len], fun y hy => ?_, h1⟩
  rcases List.mem_append.1 hy with hy | hy
  · exact h.bd y hy
  · simp at hy; omega
theorem fcode_nil : Fr.code [] ≠ 0 := by decide +kernel
/-- a message that was refused -/
theorem refused {w V W : World} {zs : List Int} (hV : MBox V w.heap.size 0 (.slice none 0 0) (.slice none 0 0) (.slice none 0 0)) (hB : Below w.heap.size w V) (hn : Wi.read zs = none)
    (hW : W = (((V.setCell ⟨w.heap.size, 0, none⟩ (.int .i64 0)).setCell ⟨w.heap.size, 1, none⟩ (.slice none 0 0)).setCell ⟨w.heap.size, 2, none⟩ (.slice none 0 0)).setCell ⟨w.heap.size, 3, none⟩ (.slice none 0 0)) :
    Mx W w.heap.size 0 (.slice none 0 0) (.slice none 0 0) (.slice none 0 0) ∧ ReadAns w zs (.returned (.tuple #[.agg #[.int .i64 0, .slice none 0 0, .slice none 0 0, .slice none 0 0], .int .i64 3])) W := by
  subst hW
  obtain ⟨p1, p2⟩ := put4 (x1 := .slice none 0 0) (x2 := .slice none 0 0) (x3 := .slice none 0 0) (k' := 0) hV rfl
  exact ⟨(MBox.mx p1).1, noMsg, _, _, _, msgV_no _, hB.grown p2 hB.size (fun r e => by cases e; exact Nat.le_refl _), .inr ⟨rfl, hn, rfl⟩⟩

theorem rb_start (w : World) (q : Int) : Rb w ((w.alloc zbox).alloc (.cells #[.int .i64 q, .slice none 0 0, .slice none 0 0, .slice none 0 0] 26)) (w.heap.size + 1) w.heap.size q 0 (.slice none 0 0) [] 0 (.slice none 0 0) [] := by
  have h := heap_new (w.alloc zbox) (.cells #[.int .i64 q, .slice none 0 0, .slice none 0 0, .slice none 0 0] 26)
  rw [World.size_alloc] at h
  exact ⟨h, (Below.heap_alloc _ _ _ (by simp)).trans (heap_new _ _), ⟨rfl, .inl ⟨rfl, rfl⟩⟩, ⟨rfl, .inl ⟨rfl, rfl⟩⟩, ((Below.refl _ _).alloc (Nat.le_refl _) _).alloc (by simp) _⟩

/-- the body has been put into the message's box -/
theorem rb_body {w W : World} {M G k j B3 : Nat} {kd : Int} {v1 v2 x3 : Value} {vs : List Nat} {al : List (Int × Int)} {row : List Int} (h : Rb w W M G kd k v1 vs j v2 al) (hGM : G < M) (hw : w.heap.size ≤ G) (hB3 : M < B3) (ho : W.ownsRow B3 5 1 x3 row.length (B row)) (hrb : ∀ z ∈ row, 0 ≤ z ∧ z ≤ 255)
    (e1 : vs.length = k) (e2 : ∀ x ∈ vs, x < 9223372036854775808) (e3 : al.length = j) (e4 : ∀ a ∈ al, 0 ≤ a.1 ∧ a.1 < 4294967296) (hkd : -9223372036854775808 ≤ kd ∧ kd ≤ 9223372036854775807) :
    MBox (W.setCell ⟨M, 3, none⟩ x3) M kd v1 v2 x3 ∧ MBox (W.setCell ⟨M, 3, none⟩ x3) G 0 (.slice none 0 0) (.slice none 0 0) (.slice none 0 0) ∧ MsgV (W.setCell ⟨M, 3, none⟩ x3) v1 v2 x3 ⟨kd, vs, al, row⟩ ∧ Below w.heap.size w (W.setCell ⟨M, 3, none⟩ x3) ∧ ∀ g, (v1.ownBlock = some g ∨ v2.ownBlock = some g ∨ x3.ownBlock = some g) → M + 1 ≤ g ∧ g < (W.setCell ⟨M, 3, none⟩ x3).heap.size := by
  have hm := h.mb
  have hsz : (W.setCell ⟨M, 3, none⟩ x3).heap.size = W.heap.size := by simp [World.setCell]
  refine ⟨?_, (Below.heap_setCell _ _ _ _ (by show G ≠ M; omega)).trans h.gb, ⟨own_ns (ownsRow_setCell_below h.r1 (by show M < M + 1; omega) _) e1 (fun x hx => by have := e2 x hx; omega), own_as (ownsRow_setCell_below h.r2 (by show M < M + 1; omega) _) e3 e4, own_tx (ownsRow_setCell_below ho (by show M < B3; omega) _) hrb, hkd⟩, h.bel.setCell (by show w.heap.size ≤ M; omega) _, ?_⟩
  · unfold MBox at hm ⊢
    rw [heap_mod hm (by simp)]; rfl
  · rintro g (hh | hh | hh)
    · have := h.r1.lt g hh; omega
    · have := h.r2.lt g hh; omega
    · have := ho.lt g hh; omega
/-- .. and has been answered -/
theorem rb_fin {w V W : World} {zs : List Int} {kd : Int} {v1 v2 x3 : Value} {vs : List Nat} {al : List (Int × Int)} {row : List Int} (hV : MBox V w.heap.size 0 (.slice none 0 0) (.slice none 0 0) (.slice none 0 0)) (hB : Below w.heap.size w V) (hm : MsgV V v1 v2 x3 ⟨kd, vs, al, row⟩) (hx : ∀ g, (v1.ownBlock = some g ∨ v2.ownBlock = some g ∨ x3.ownBlock = some g) → w.heap.size < g ∧ g < V.heap.size) (hn : Wi.read zs = some ⟨kd, vs, al, row⟩)
    (hW : W = (((V.setCell ⟨w.heap.size, 0, none⟩ (.int .i64 kd)).setCell ⟨w.heap.size, 1, none⟩ v1).setCell ⟨w.heap.size, 2, none⟩ v2).setCell ⟨w.heap.size, 3, none⟩ x3) :
    Mx W w.heap.size kd v1 v2 x3 ∧ ReadAns w zs (.returned (.tuple #[.agg #[.int .i64 kd, v1, v2, x3], .int .i64 0])) W := by
  subst hW
  obtain ⟨p1, p2⟩ := put4 (x1 := v1) (x2 := v2) (x3 := x3) (k' := kd) hV rfl
  exact ⟨(MBox.mx p1).1, _, _, _, _, hm.at p2.size (fun g hg => by have := hx g hg; exact p2.block g this.2 (fun e => by simp at e; omega)), hB.grown p2 hB.size (fun r e => by cases e; exact Nat.le_refl _), .inl ⟨rfl, hn⟩⟩

set_option maxRecDepth 100000 in
set_option maxHeartbeats 8000000 in
theorem rread_any (A : Option Addr) (n c : Nat) (zs : List Int) (w : World) (hb : Bts w A n zs) (h1 : n ≤ c) (h2 : c ≤ maxLen) (hz : zs.length ≤ 1000000) :
    Calls Tryd.prog 20 #[.slice A n c] w (ReadAns w zs) := by
  have hB0 : Below w.heap.size w (w.alloc zbox) := (Below.refl _ _).alloc (Nat.le_refl _) _
  have CG0 := Lib.hid (rget_parts A n c zs (w.alloc zbox) h1 h2 (hb.below hB0))
  have HB := Lib.hid hb
  have hl := hb.len
  have hvb := Uv.val_bd zs
  obtain ⟨q, hq⟩ : ∃ q : Nat, Uv.val zs = (q : Int) := ⟨(Uv.val zs).toNat, by omega⟩
  have hqb : q < 9223372036854775808 := by omega
  have HBD := Lib.hid hb.bd
  have hG0 : MBox (w.alloc zbox) w.heap.size 0 (.slice none 0 0) (.slice none 0 0) (.slice none 0 0) := heap_new _ _
  have HG0 := Lib.hid hG0
  have HB0 := Lib.hid hB0
  have HM := Lib.hid h2
  rw [hq] at CG0
  have HQ := Lib.hid hq
  unfold zbox at *
  clear hb hB0 hvb hG0 hq
  by_cases hcd : Uv.code zs = 0
  · by_cases hk : 1 ≤ q ∧ q ≤ 18
    · have t1 : decide ((q : Int) < 1) = false := by simp; omega
      have t2 : decide ((18 : Int) < (q : Int)) = false := by simp; omega
      have HCD := Lib.hid hcd
      rw [hcd] at CG0
      have hNB := Wi.numsOf_in (k := (q : Int)) (by omega) (by omega)
      obtain ⟨K, hK⟩ : ∃ K : Nat, Wi.numsOf (q : Int) = (K : Int) := ⟨(Wi.numsOf (q : Int)).toNat, by omega⟩
      have hK6 : K ≤ 6 := by omega
      have HK0 : Hid ((Wi.numsOf (Uv.val zs)).toNat = K) := Lib.hid (by rw [HQ.out, hK]; simp)
      have CN : Hid (∀ W, Calls Tryd.prog 17 #[.int .i64 (q : Int)] W fun e w' => e = .returned (.int .i64 (K : Int)) ∧ W = w') := Lib.hid (fun W => by rw [← hK]; exact (rnums_any _ W).mono (fun e w' h => ⟨h.1, h.2.symm⟩))
      have hn0 : 0 < n := by
        rcases Nat.eq_zero_or_pos n with h | h
        · have : zs = [] := List.eq_nil_of_length_eq_zero (by omega)
          rw [this] at hcd
          exact absurd hcd code_nil
        · exact h
      obtain ⟨b, off, rfl, hbl, hcl⟩ := HB.out.2.2 hn0
      obtain ⟨hs1, hs2⟩ := nrest_size hcd
      have HL0 : Hid (Ln zs 0 (Uv.size zs) []) := Lib.hid ⟨hs2, rfl, by simp, by rw [hs1]; rfl⟩
      obtain ⟨a0, ha0⟩ : ∃ a, Uv.size zs = a := ⟨_, rfl⟩
      rw [ha0] at HL0 CG0
      have HCL := Lib.hid hcl
      clear hcd hNB hK hs1 hs2 ha0 hcl
      go_enter Tryd.func20, Tryd.ntmps20
      go_wp2_with (go_at_call 31; refine CG0.out.mono ?_; rintro e w' ⟨rfl, rfl⟩)
      have hR0 := rb_start w (q : Int)
      unfold zbox at hR0
      have HR0 := Lib.hid hR0
      clear hR0 CG0 HG0 HB0
      have hmx : c ≤ 140737488355328 + 140737488355328 * 65536 := by have := HM.out; unfold maxLen at this; omega
      go_loopw [5, 8] (fun p i wr => ∃ (k a : Nat) (vs : List Nat) (v1 : Value), i = .int .i64 (k : Int) ∧ p = .int .i64 (a : Int) ∧ k ≤ K ∧ Ln zs k a vs ∧ Rb w wr (w.heap.size + 1) w.heap.size (q : Int) k v1 vs 0 (.slice none 0 0) []) (fun _ i _ => K - (intOf i).toNat)
      case atStart => exact ⟨0, a0, [], _, rfl, rfl, Nat.zero_le _, HL0.out, HR0.out⟩
      case round =>
        clear HR0 HL0
        obtain ⟨k, a, vs, v1, rfl, rfl, hkK, hL, hR⟩ := hrel
        have HL := Lib.hid hL; have HR := Lib.hid hR
        have hal := hL.le
        obtain ⟨⟨m0, m1, m2, m3⟩, hML, mf⟩ := MBox.mx hR.mb
        have hrb := hR.bel
        have HBW := Lib.hid (HB.out.below hrb)
        clear hL hR hrb
        by_cases hlt : k < K
        · by_cases hcd : Uv.code (zs.drop a) = 0
          · have han : a < n := by
              rcases Nat.lt_or_ge a n with h | h
              · exact h
              · rw [List.drop_eq_nil_of_le (by omega)] at hcd
                exact absurd hcd code_nil
            have hvb := Uv.val_bd (zs.drop a)
            obtain ⟨x, hx⟩ : ∃ x : Nat, Uv.val (zs.drop a) = (x : Int) := ⟨(Uv.val (zs.drop a)).toNat, by omega⟩
            have HLN := Lib.hid (HL.out.next hcd hx)
            have hle2 := HLN.out.le
            have hbf := HBW.out.from (k := a) (c := c) (by omega) h1
            rw [if_neg (by omega)] at hbf
            have CG := Lib.hid (rget_parts (some ⟨b, off + a, none⟩) (n - a) (c - a) (zs.drop a) wr (by omega) (by have := HM.out; omega) (by simpa [add_spot] using hbf))
            rw [hcd, hx] at CG
            generalize Uv.size (zs.drop a) = sz at *
            have hk6 : k ≤ 1000000 := by omega
            have HOW : Hid (∀ o, (wr.alloc o).ownsRow (w.heap.size + 1 + 1) 39 1 v1 k (U vs)) := Lib.hid (fun o => HR.out.r1.alloc o)
            have HNX : Hid (∀ o w4 v', (wr.alloc o).grownBy w4 v1.ownBlock → w4.ownsRow (w.heap.size + 1 + 1) 39 1 v' (k + 1) (U vs ++ [.int .u64 (x : Int)]) → _) := Lib.hid (fun o w4 v' hg ho => HR.out.num (Nat.lt_succ_self _) (Nat.le_refl _) hg ho)
            clear hvb hbf hx hcd
            go_wp2_with (first
              | (go_at_call 17; refine (CN.out _).mono ?_; rintro e w' ⟨rfl, rfl⟩)
              | (go_at_call 31; refine CG.out.mono ?_; rintro e w' ⟨rfl, rfl⟩)
              | (at_builtin; refine list_num rfl (.tmp 58) (.tmp 60) rfl (base := w.heap.size + 1 + 1) (y := x) (g := wr.heap.size) rfl (HOW.out _) rfl (by go_simp) hk6 (by simp; omega) ?_; intro v2 w4 ho4 hg4; obtain ⟨A4, c4, rfl⟩ := own_slice ho4; obtain ⟨d1, d2, d3, HN4⟩ := HNX.out _ _ _ hg4 ho4; clear ho4 hg4))
            go_roundw
            case rel => exact ⟨k + 1, a + sz, _, _, by go_num, by go_num, by omega, HLN.out, HN4.out⟩
            case measure => simp [intOf]; omega
          · have HNO := Lib.hid (rd_num HK0.out hlt HL.out.rd hcd)
            have t3 : (Uv.code (zs.drop a) != 0) = true := by rw [bne_iff_ne]; exact hcd
            obtain ⟨⟨g0, g1, g2, g3⟩, hGL, gf⟩ := MBox.mx HR.out.gb
            have gf0 := gf 0; have gf1 := gf 1; have gf2 := gf 2; have gf3 := gf 3
            have hbf := HBW.out.from (k := a) (c := c) (by omega) h1
            clear hcd
            by_cases hca : c = a
            · have hca2 : c - a = 0 := by omega
              have hna : n - a = 0 := by omega
              rw [if_pos hca, hna] at hbf
              have CG := Lib.hid (rget_parts _ 0 0 (zs.drop a) wr (Nat.le_refl _) (Nat.zero_le _) hbf)
              generalize Uv.code (zs.drop a) = cd at *
              go_wp2_with (first
                | (go_at_call 17; refine (CN.out _).mono ?_; rintro e w' ⟨rfl, rfl⟩)
                | (go_at_call 31; refine CG.out.mono ?_; rintro e w' ⟨rfl, rfl⟩))
              obtain ⟨⟨k0, k1, k2, k3⟩, hans⟩ := refused HR.out.gb HR.out.bel HNO.out rfl
              exact ⟨rfl, .tuple #[.agg #[.int .i64 0, .slice none 0 0, .slice none 0 0, .slice none 0 0], .int .i64 3], by simp [results, Tryd.f20, go_sem, k0, k1, k2, k3], hans⟩
            · rw [if_neg hca] at hbf
              have CG := Lib.hid (rget_parts (some ⟨b, off + a, none⟩) (n - a) (c - a) (zs.drop a) wr (by omega) (by have := HM.out; omega) (by simpa [add_spot] using hbf))
              generalize Uv.code (zs.drop a) = cd at *
              go_wp2_with (first
                | (go_at_call 17; refine (CN.out _).mono ?_; rintro e w' ⟨rfl, rfl⟩)
                | (go_at_call 31; refine CG.out.mono ?_; rintro e w' ⟨rfl, rfl⟩))
              obtain ⟨⟨k0, k1, k2, k3⟩, hans⟩ := refused HR.out.gb HR.out.bel HNO.out rfl
              exact ⟨rfl, .tuple #[.agg #[.int .i64 0, .slice none 0 0, .slice none 0 0, .slice none 0 0], .int .i64 3], by simp [results, Tryd.f20, go_sem, k0, k1, k2, k3], hans⟩
        · obtain rfl : k = K := by omega
          by_cases hmn : n ≤ a
          · have t3 : decide ((n : Int) ≤ (a : Int)) = true := by simp; omega
            have HNO := Lib.hid (rd_many HBD.out HK0.out HL.out.rd (.inl (by omega)))
            obtain ⟨⟨g0, g1, g2, g3⟩, hGL, gf⟩ := MBox.mx HR.out.gb
            have gf0 := gf 0; have gf1 := gf 1; have gf2 := gf 2; have gf3 := gf 3
            go_wp2_with (go_at_call 17; refine (CN.out _).mono ?_; rintro e w' ⟨rfl, rfl⟩)
            obtain ⟨⟨k0, k1, k2, k3⟩, hans⟩ := refused HR.out.gb HR.out.bel HNO.out rfl
            exact ⟨rfl, .tuple #[.agg #[.int .i64 0, .slice none 0 0, .slice none 0 0, .slice none 0 0], .int .i64 3], by simp [results, Tryd.f20, go_sem, k0, k1, k2, k3], hans⟩
          · have t3 : decide ((n : Int) ≤ (a : Int)) = false := by simp; omega
            have hcell := (HR.out.bel.cell (p := ⟨b, off + a, none⟩) (lt_of_cell (HCL.out a (by omega)))).trans (HCL.out a (by omega))
            by_cases h8 : 8 < zs.getD a 0
            · have HNO := Lib.hid (rd_many HBD.out HK0.out HL.out.rd (.inr h8))
              obtain ⟨⟨g0, g1, g2, g3⟩, hGL, gf⟩ := MBox.mx HR.out.gb
              have gf0 := gf 0; have gf1 := gf 1; have gf2 := gf 2; have gf3 := gf 3
              generalize zs.getD a 0 = z at *
              have t4 : decide ((8 : Int) < z) = true := by simp; omega
              go_wp2_with (go_at_call 17; refine (CN.out _).mono ?_; rintro e w' ⟨rfl, rfl⟩)
              obtain ⟨⟨k0, k1, k2, k3⟩, hans⟩ := refused HR.out.gb HR.out.bel HNO.out rfl
              exact ⟨rfl, .tuple #[.agg #[.int .i64 0, .slice none 0 0, .slice none 0 0, .slice none 0 0], .int .i64 3], by simp [results, Tryd.f20, go_sem, k0, k1, k2, k3], hans⟩
            · have hz0 := getD_bd HBD.out a
              obtain ⟨y1, y2, y3⟩ := rd_many_yes HBD.out (by omega) (by omega : zs.getD a 0 ≤ 8)
              obtain ⟨V, hV⟩ : ∃ V : Nat, zs.getD a 0 = (V : Int) := ⟨(zs.getD a 0).toNat, by omega⟩
              rw [hV] at hcell h8 y2
              have t4 : decide ((8 : Int) < (V : Int)) = false := by simp; omega
              have HY1 := Lib.hid y1; have HY2 := Lib.hid y2; have HY3 := Lib.hid y3
              clear y1 y2 y3 hz0 hV
              go_wp2_with (go_at_call 17; refine (CN.out _).mono ?_; rintro e w' ⟨rfl, rfl⟩)
              clear m0 m1 m2 m3 hML mf hcell t3 t4
              have HRD := Lib.hid HL.out.rd
              have HA0 : Hid (AdOk zs (a + 1) 0 (a + 1) []) := Lib.hid (.inl rfl)
              go_loopw [5, 13] (fun p i wr => ∃ (j a1 : Nat) (al : List (Int × Int)) (v2 : Value), i = .int .i64 (j : Int) ∧ p = .int .i64 (a1 : Int) ∧ j ≤ V ∧ a1 ≤ zs.length ∧ AdOk zs (a + 1) j a1 al ∧ al.length = j ∧ (∀ x ∈ al, 0 ≤ x.1 ∧ x.1 < 4294967296) ∧ Rb w wr (w.heap.size + 1) w.heap.size (q : Int) k v1 vs j v2 al) (fun _ i _ => V - (intOf i).toNat)
              case atStart => exact ⟨0, a + 1, [], _, rfl, by simp, Nat.zero_le _, by omega, HA0.out, rfl, by simp, HR.out⟩
              case round =>
                clear HR HA0 HBW
                obtain ⟨j, a1, al, v2, rfl, rfl, hjV, hal1, hA, hlj, hbd, hR⟩ := hrel
                have HA := Lib.hid hA; have HR2 := Lib.hid hR; have HLJ := Lib.hid hlj; have HAB := Lib.hid hbd
                obtain ⟨⟨m0, m1, m2, m3⟩, hML, mf⟩ := MBox.mx hR.mb
                have mf2 := mf 2; have mf3 := mf 3
                have HBW := Lib.hid (HB.out.below hR.bel)
                clear hA hR hlj hbd mf
                by_cases hlt : j < V
                · by_cases h6 : a1 + 6 ≤ n
                  · have t3 : decide ((n : Int) < (a1 : Int) + 6) = false := by simp; omega
                    have hbf := HBW.out.from (k := a1) (c := c) (by omega) h1
                    rw [if_neg (by omega)] at hbf
                    have CF := Lib.hid (rfrom_at b (off + a1) (n - a1) (c - a1) (zs.drop a1) wr (by simpa [add_spot] using hbf) (by omega) (by omega) (by have := HM.out; omega))
                    have hab := ahost_bd (zs := zs.drop a1) (fun z hz => HBD.out z (List.mem_of_mem_drop hz))
                    have HAN := Lib.hid (adOk_step HK0.out HRD.out HY2.out HY3.out hlt HA.out)
                    have HBD2 : Hid (∀ x ∈ al ++ [(ahost (zs.drop a1), aport (zs.drop a1))], 0 ≤ x.1 ∧ x.1 < 4294967296) := Lib.hid (by
                      intro x hx
                      rcases List.mem_append.1 hx with hx | hx
                      · exact HAB.out x hx
                      · simp at hx; subst hx; exact hab)
                    generalize ahost (zs.drop a1) = hh at *
                    generalize aport (zs.drop a1) = pp at *
                    generalize acode (zs.drop a1) = cd at *
                    have hj6 : j ≤ 1000000 := by have : V ≤ 8 := by omega
                                                 omega
                    clear hbf m0 m1 m2 m3
                    go_wp2_with fail
                    refine CF.out.mono ?_
                    rintro e w5 ⟨rfl, hb5⟩
                    have hR5 := HR2.out.call (hb5.trans ((Below.refl w5.heap.size w5).alloc (Nat.le_refl _) (.cells #[.int .u32 hh, .int .i64 pp] 45) |>.mono hb5.size))
                    obtain ⟨⟨m0, m1, m2, m3⟩, hML5, mf⟩ := MBox.mx (HR2.out.call hb5).mb
                    have mf2 := mf 2
                    have HOW : Hid (∀ o, ((w5.alloc (.cells #[.int .u32 hh, .int .i64 pp] 45)).alloc o).ownsRow (w.heap.size + 1 + 1) 45 2 v2 j (A2 al)) := Lib.hid (fun o => hR5.r2.alloc o)
                    have HNX : Hid (∀ o w4 v', ((w5.alloc (.cells #[.int .u32 hh, .int .i64 pp] 45)).alloc o).grownBy w4 v2.ownBlock → w4.ownsRow (w.heap.size + 1 + 1) 45 2 v' (j + 1) (A2 al ++ [.int .u32 hh, .int .i64 pp]) → _) := Lib.hid (fun o w4 v' hg ho => hR5.adr (Nat.lt_succ_self _) (Nat.le_refl _) hg ho)
                    have HWS : Hid (∀ o o', ((w5.alloc o).alloc o').heap[w5.heap.size + 1]? = some o') := Lib.hid (fun o o' => by have := heap_new (w5.alloc o) o'; rwa [World.size_alloc] at this)
                    clear hR5 hb5 mf
                    go_wp2_with (at_builtin; refine list_adr rfl (.tmp 106) (.tmp 108) rfl (base := w.heap.size + 1 + 1) (h := hh) (p := pp) (g := w5.heap.size + 1) rfl (HOW.out _) rfl (HWS.out _ _) hj6 (by simp; omega) ?_; intro v' w4 ho4 hg4; obtain ⟨A4, c4, rfl⟩ := own_slice ho4; obtain ⟨d1, d2, d3, HN4⟩ := HNX.out _ _ _ hg4 ho4; clear ho4 hg4)
                    go_roundw
                    case rel => exact ⟨j + 1, a1 + 6, _, _, by go_num, by go_num, by omega, by omega, HAN.out, by simp [HLJ.out], HBD2.out, HN4.out⟩
                    case measure => simp [intOf]; omega
                  · have t3 : decide ((n : Int) < (a1 : Int) + 6) = true := by simp; omega
                    have HNO := Lib.hid (adOk_short HK0.out HRD.out HY2.out HY3.out hlt HA.out (by omega))
                    obtain ⟨⟨g0, g1, g2, g3⟩, hGL, gf⟩ := MBox.mx HR2.out.gb
                    have gf0 := gf 0; have gf1 := gf 1; have gf2 := gf 2; have gf3 := gf 3
                    go_wp2_with fail
                    obtain ⟨⟨k0, k1, k2, k3⟩, hans⟩ := refused HR2.out.gb HR2.out.bel HNO.out rfl
                    exact ⟨rfl, .tuple #[.agg #[.int .i64 0, .slice none 0 0, .slice none 0 0, .slice none 0 0], .int .i64 3], by simp [results, Tryd.f20, go_sem, k0, k1, k2, k3], hans⟩
                · obtain rfl : j = V := by omega
                  have HRB : Hid (∀ z ∈ Fr.row (zs.drop a1), 0 ≤ z ∧ z ≤ 255) := Lib.hid (Fr.row_bd (fun z hz => HBD.out z (List.mem_of_mem_drop hz)))
                  have hbf := HBW.out.from (k := a1) (c := c) (by omega) h1
                  have HEND : Hid (Fr.code (zs.drop a1) = 0 → Wi.Wf ⟨(q : Int), vs, al, Fr.row (zs.drop a1)⟩ → Wi.read zs = if outB ⟨(q : Int), vs, al, Fr.row (zs.drop a1)⟩ = zs then some ⟨(q : Int), vs, al, Fr.row (zs.drop a1)⟩ else none) := Lib.hid (fun hc hw => by
                    have := rd_end HBD.out HCD.out HK0.out HRD.out HY1.out HY2.out HY3.out HA.out hc (by rw [HQ.out]; exact hw)
                    rw [HQ.out] at this
                    exact this)
                  by_cases hfc : Fr.code (zs.drop a1) = 0
                  · have han : a1 < n := by
                      rcases Nat.lt_or_ge a1 n with h | h
                      · exact h
                      · rw [List.drop_eq_nil_of_le (by omega)] at hfc
                        exact absurd hfc fcode_nil
                    rw [if_neg (by omega)] at hbf
                    have CF := Lib.hid (ref_fget_any (some ⟨b, off + a1, none⟩) (n - a1) (c - a1) (zs.drop a1) wr (by simpa [add_spot] using hbf) (by omega) (by have := HM.out; omega))
                    unfold ftup at CF
                    have HE2 := Lib.hid (HEND.out hfc)
                    rw [hfc] at CF
                    generalize Fr.size (zs.drop a1) = sz at *
                    clear hbf hfc
                    go_wp2_with fail
                    refine CF.out.mono ?_
                    rintro e w5 ⟨x3, rfl, ho5, hb5⟩
                    obtain ⟨A3, c3, rfl⟩ := own_slice ho5
                    have hR5 := HR2.out.call hb5
                    obtain ⟨q1, q2, q3, q4, q5⟩ := rb_body hR5 (Nat.lt_succ_self _) (Nat.le_refl _) hML ho5 HRB.out HL.out.len HL.out.bd HLJ.out HAB.out (by omega)
                    obtain ⟨⟨m0, m1, m2, m3⟩, hML5, mf⟩ := MBox.mx hR5.mb
                    have mf3 := mf 3
                    obtain ⟨⟨g0, g1, g2, g3⟩, hGL, gf⟩ := MBox.mx hR5.gb
                    have gf0 := gf 0; have gf1 := gf 1; have gf2 := gf 2; have gf3 := gf 3
                    have Q2 := Lib.hid q2; have Q4 := Lib.hid q4
                    clear hb5 hR5 mf gf ho5 q2 q4
                    have HQ3 := Lib.hid q3
                    have HQ5 := Lib.hid q5
                    have HRE := HE2.out q3.wf
                    have CR := Lib.hid (any_rbytes _ _ _ _ _ q3)
                    obtain ⟨⟨u0, u1, u2, u3⟩, uL, _⟩ := MBox.mx q1
                    have HBT := Lib.hid (HB.out.below Q4.out)
                    have Q1 := Lib.hid q1
                    clear q1 q3 q5
                    have hobm : (outB ⟨(q : Int), vs, al, Fr.row (zs.drop a1)⟩).length ≤ maxLen := Nat.le_trans (outB_len _) (by decide)
                    generalize outB ⟨(q : Int), vs, al, Fr.row (zs.drop a1)⟩ = ob at *
                    generalize Fr.row (zs.drop a1) = row at *
                    go_wp2_with fail
                    refine CR.out.mono ?_
                    rintro e w6 ⟨A6, c6, rfl, hbt6, hb6⟩
                    have HS := Lib.hid (same_any A6 (some ⟨b, off, none⟩) _ n c6 c ob zs w6 hobm hbt6 (HBT.out.below hb6))
                    have HB6 := Lib.hid hb6
                    clear hb6 hbt6
                    have R1 : MBox w6 (w.heap.size + 1) (q : Int) v1 v2 (.slice A3 row.length c3) := (HB6.out.block _ uL).trans Q1.out
                    have R2 : MBox w6 w.heap.size 0 (.slice none 0 0) (.slice none 0 0) (.slice none 0 0) := (HB6.out.block _ (by omega)).trans Q2.out
                    have R3 := Lib.hid (HQ3.out.below HB6.out)
                    have R4 : Hid (Below w.heap.size w w6) := Lib.hid (Q4.out.trans (HB6.out.mono Q4.out.size))
                    have R5 : Hid (∀ g, (v1.ownBlock = some g ∨ v2.ownBlock = some g ∨ (Value.slice A3 row.length c3).ownBlock = some g) → w.heap.size < g ∧ g < w6.heap.size) := Lib.hid (fun g hg => by have := HQ5.out g hg; have := HB6.out.size; omega)
                    have HR2' := Lib.hid R2
                    clear u0 u1 u2 u3 uL m0 m1 m2 m3 hML5 g0 g1 g2 g3 hGL gf0 gf1 gf2 gf3 mf3
                    obtain ⟨⟨m0, m1, m2, m3⟩, hML5, _⟩ := MBox.mx R1
                    obtain ⟨⟨g0, g1, g2, g3⟩, hGL, gf⟩ := MBox.mx R2
                    have gf0 := gf 0; have gf1 := gf 1; have gf2 := gf 2; have gf3 := gf 3
                    obtain ⟨B1, b1, e1'⟩ := own_slice (HR2.out.r1)
                    obtain ⟨B2, b2, e2'⟩ := own_slice (HR2.out.r2)
                    clear R1 R2 gf
                    by_cases he : ob = zs
                    · rw [if_pos he] at HRE
                      rw [show decide (ob = zs) = true by simp [he]] at HS
                      have HRE2 := Lib.hid HRE
                      clear HRE he
                      subst e1' e2'
                      go_wp2_with (go_at_call 14; refine HS.out.mono ?_; rintro e w7 ⟨rfl, qq, rfl⟩)
                      obtain ⟨⟨k0, k1, k2, k3⟩, hans⟩ := rb_fin (V := w6.drewN qq) HR2'.out (below_drewN' R4.out qq) (R3.out.below (below_drewN' (Below.refl _ _) qq)) R5.out HRE2.out rfl
                      exact ⟨rfl, .tuple #[.agg #[.int .i64 (q : Int), .slice B1 k b1, .slice B2 j b2, .slice A3 row.length c3], .int .i64 0], by simp [results, Tryd.f20, go_sem, k0, k1, k2, k3], hans⟩
                    · rw [if_neg he] at HRE
                      rw [show decide (ob = zs) = false by simp [he]] at HS
                      have HRE2 := Lib.hid HRE
                      clear HRE he
                      go_wp2_with (go_at_call 14; refine HS.out.mono ?_; rintro e w7 ⟨rfl, qq, rfl⟩)
                      obtain ⟨⟨k0, k1, k2, k3⟩, hans⟩ := refused (V := w6.drewN qq) HR2'.out (below_drewN' R4.out qq) HRE2.out rfl
                      exact ⟨rfl, .tuple #[.agg #[.int .i64 0, .slice none 0 0, .slice none 0 0, .slice none 0 0], .int .i64 3], by simp [results, Tryd.f20, go_sem, k0, k1, k2, k3], hans⟩
                  · have HNO := Lib.hid (rd_frame HK0.out HRD.out HY2.out HY3.out HA.out hfc)
                    have t5 : (Fr.code (zs.drop a1) != 0) = true := by rw [bne_iff_ne]; exact hfc
                    by_cases hca : c = a1
                    · have hca2 : c - a1 = 0 := by omega
                      have hna : n - a1 = 0 := by omega
                      rw [if_pos hca, hna] at hbf
                      have CF := Lib.hid (ref_fget_any _ 0 0 (zs.drop a1) wr hbf (Nat.le_refl _) (Nat.zero_le _))
                      unfold ftup at CF
                      generalize Fr.size (zs.drop a1) = sz at *
                      generalize Fr.code (zs.drop a1) = fc at *
                      clear hbf hfc
                      go_wp2_with fail
                      refine CF.out.mono ?_
                      rintro e w5 ⟨x3, rfl, ho5, hb5⟩
                      obtain ⟨A3, c3, rfl⟩ := own_slice ho5
                      have hR5 := HR2.out.call hb5
                      obtain ⟨q1, q2, q3, q4, q5⟩ := rb_body hR5 (Nat.lt_succ_self _) (Nat.le_refl _) hML ho5 HRB.out HL.out.len HL.out.bd HLJ.out HAB.out (by omega)
                      obtain ⟨⟨m0, m1, m2, m3⟩, hML5, mf⟩ := MBox.mx hR5.mb
                      have mf3 := mf 3
                      obtain ⟨⟨g0, g1, g2, g3⟩, hGL, gf⟩ := MBox.mx hR5.gb
                      have gf0 := gf 0; have gf1 := gf 1; have gf2 := gf 2; have gf3 := gf 3
                      have Q2 := Lib.hid q2; have Q4 := Lib.hid q4
                      clear hb5 hR5 mf gf ho5 q2 q4
                      go_wp2_with fail
                      obtain ⟨⟨k0, k1, k2, k3⟩, hans⟩ := refused Q2.out Q4.out HNO.out rfl
                      exact ⟨rfl, .tuple #[.agg #[.int .i64 0, .slice none 0 0, .slice none 0 0, .slice none 0 0], .int .i64 3], by simp [results, Tryd.f20, go_sem, k0, k1, k2, k3], hans⟩
                    · rw [if_neg hca] at hbf
                      have CF := Lib.hid (ref_fget_any (some ⟨b, off + a1, none⟩) (n - a1) (c - a1) (zs.drop a1) wr (by simpa [add_spot] using hbf) (by omega) (by have := HM.out; omega))
                      unfold ftup at CF
                      generalize Fr.size (zs.drop a1) = sz at *
                      generalize Fr.code (zs.drop a1) = fc at *
                      clear hbf hfc
                      go_wp2_with fail
                      refine CF.out.mono ?_
                      rintro e w5 ⟨x3, rfl, ho5, hb5⟩
                      obtain ⟨A3, c3, rfl⟩ := own_slice ho5
                      have hR5 := HR2.out.call hb5
                      obtain ⟨q1, q2, q3, q4, q5⟩ := rb_body hR5 (Nat.lt_succ_self _) (Nat.le_refl _) hML ho5 HRB.out HL.out.len HL.out.bd HLJ.out HAB.out (by omega)
                      obtain ⟨⟨m0, m1, m2, m3⟩, hML5, mf⟩ := MBox.mx hR5.mb
                      have mf3 := mf 3
                      obtain ⟨⟨g0, g1, g2, g3⟩, hGL, gf⟩ := MBox.mx hR5.gb
                      have gf0 := gf 0; have gf1 := gf 1; have gf2 := gf 2; have gf3 := gf 3
                      have Q2 := Lib.hid q2; have Q4 := Lib.hid q4
                      clear hb5 hR5 mf gf ho5 q2 q4
                      go_wp2_with fail
                      obtain ⟨⟨k0, k1, k2, k3⟩, hans⟩ := refused Q2.out Q4.out HNO.out rfl
                      exact ⟨rfl, .tuple #[.agg #[.int .i64 0, .slice none 0 0, .slice none 0 0, .slice none 0 0], .int .i64 3], by simp [results, Tryd.f20, go_sem, k0, k1, k2, k3], hans⟩
    · have t1 : decide ((q : Int) < 1) = true ∨ (decide ((q : Int) < 1) = false ∧ decide ((18 : Int) < (q : Int)) = true) := by
        by_cases h : q < 1
        · exact .inl (by simp; omega)
        · exact .inr ⟨by simp; omega, by simp; omega⟩
      have HNO := Lib.hid (rd_kind (zs := zs) (.inr (by rw [HQ.out]; omega)))
      rw [hcd] at CG0
      clear hcd hk
      rcases t1 with t1 | ⟨t1, t2⟩
      all_goals
        go_enter Tryd.func20, Tryd.ntmps20
        go_wp2_with (go_at_call 31; refine CG0.out.mono ?_; rintro e w' ⟨rfl, rfl⟩)
        exact ⟨rfl, .tuple #[.agg #[.int .i64 0, .slice none 0 0, .slice none 0 0, .slice none 0 0], .int .i64 3], by simp [results, Tryd.f20, go_sem], noMsg, _, _, _, msgV_no _, HB0.out, .inr ⟨rfl, HNO.out, rfl⟩⟩
  · have t1 : (Uv.code zs != 0) = true := by rw [bne_iff_ne]; exact hcd
    have HNO := Lib.hid (rd_kind (zs := zs) (.inl hcd))
    generalize Uv.code zs = cd at *
    clear hcd
    go_enter Tryd.func20, Tryd.ntmps20
    go_wp2_with (go_at_call 31; refine CG0.out.mono ?_; rintro e w' ⟨rfl, rfl⟩)
    exact ⟨rfl, .tuple #[.agg #[.int .i64 0, .slice none 0 0, .slice none 0 0, .slice none 0 0], .int .i64 3], by simp [results, Tryd.f20, go_sem], noMsg, _, _, _, msgV_no _, HB0.out, .inr ⟨rfl, HNO.out, rfl⟩⟩
end Go.Proofs.YtebgfiibcmnfnaaDoor
