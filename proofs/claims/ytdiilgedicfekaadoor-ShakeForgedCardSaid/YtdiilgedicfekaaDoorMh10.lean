/-
  The contract of the document's own FromBytes: the walk. Conditions: at most 1,000,000 bytes.
  Bytes that came in. Conditions: as each states.
  Handshakes as plain words; what stands while shake's laws go: a notary, and it may be the document's own beside it, and objects that are held. Conditions: as each lemma states.
-/
import Derived.Test.YtdiilgedicfekaaDoorMh9
import Derived.Test.YtdiilgedicfekaaDoorMh4
import Derived.ArgAppend
namespace Go.Proofs.YtdiilgedicfekaaDoor
open Go.RowKit
set_option linter.unusedVariables false
set_option maxRecDepth 100000

/-- what stands when k numbers have been read -/
structure Ln (zs : List Int) (k a : Nat) (vs : List Nat) : Prop where
  le : a ≤ zs.length
  len : vs.length = k
  bd : ∀ x ∈ vs, x < 9223372036854775808
  rd : Wi.readNums (nrest zs) k = some (vs, zs.drop a)
theorem Ln.next {zs : List Int} {k a : Nat} {vs : List Nat} (h : Ln zs k a vs) (hc : Uv.code (zs.drop a) = 0) {x : Nat} (hx : Uv.val (zs.drop a) = (x : Int)) : Ln zs (k + 1) (a + Uv.size (zs.drop a)) (vs ++ [x]) := by
  obtain ⟨h1, h2⟩ := rd_num_yes h.le h.rd hc
  have hb := Uv.val_bd (zs.drop a)
  rw [hx, Int.toNat_natCast] at h1
  refine ⟨h2, by simp [h.len], fun y hy => ?_, h1⟩
  rcases List.mem_append.1 hy with hy | hy
  · exact h.bd y hy
  · simp at hy; omega
theorem fcode_nil : Fr.code [] ≠ 0 := by decide +kernel
/-- a message that was refused -/
theorem refused {w V W : World} {zs : List Int} (hV : MBox V w.heap.size 0 (.slice none 0 0) (.slice none 0 0) (.slice none 0 0)) (hB : Below w.heap.size w V) (hn : Wi.read zs = none)
    (hW : W = (((V.setCell ⟨w.heap.size, 0, none⟩ (.int .i64 0)).setCell ⟨w.heap.size, 1, none⟩ (.slice none 0 0)).setCell ⟨w.heap.size, 2, none⟩ (.slice none 0 0)).setCell ⟨w.heap.size, 3, none⟩ (.slice none 0 0)) :
    Mx W w.heap.size 0 (.slice none 0 0) (.slice none 0 0) (.slice none 0 0) ∧ ReadAns w zs (.returned (.tuple #[.agg #[.int .i64 0, .slice none 0 0, .slice none 0 0, .slice none 0 0], .int .i64 3])) W := by
  subst hW
  obtain ⟨p1, p2⟩ := put4 (x1 := .slice none 0 0) (x2 := .slice none 0 0) (x3 := .slice none 0 0) (k' := 0) hV rfl
  exact ⟨(MBox.mx p1).1, noMsg, _, _, _, msgV_no _, hB.grown p2 hB.size (fun r e => by cases e; exact Nat.le_refl _), .inr ⟨rfl, hn, rfl⟩⟩

theorem rb_start (w : World) (q : Int) : Rb w ((w.alloc zbox).alloc (.cells #[.int .i64 q, .slice none 0 0, .slice none 0 0, .slice none 0 0] 46)) (w.heap.size + 1) w.heap.size q 0 (.slice none 0 0) [] 0 (.slice none 0 0) [] := by
  have h := heap_new (w.alloc zbox) (.cells #[.int .i64 q, .slice none 0 0, .slice none 0 0, .slice none 0 0] 46)
  rw [World.size_alloc] at h
  exact ⟨h, (Below.heap_alloc _ _ _ (by simp)).trans (heap_new _ _), ⟨rfl, .inl ⟨rfl, rfl⟩⟩, ⟨rfl, .inl ⟨rfl, rfl⟩⟩, ((Below.refl _ _).alloc (Nat.le_refl _) _).alloc (by simp) _⟩

/-- the body has been put into the message's box -/
theorem rb_body {w W : World} {M G k j B3 : Nat} {kd : Int} {v1 v2 x3 : Value} {vs : List Nat} {al : List (Int × Int)} {row : List Int} (h : Rb w W M G kd k v1 vs j v2 al) (hGM : G < M) (hw : w.heap.size ≤ G) (hB3 : M < B3) (ho : W.ownsRow B3 5 1 x3 row.length (B row)) (hrb : ∀ z ∈ row, 0 ≤ z ∧ z ≤ 255)
    (e1 : vs.length = k) (e2 : ∀ x ∈ vs, x < 9223372036854775808) (e3 : al.length = j) (e4 : ∀ a ∈ al, 0 ≤ a.1 ∧ a.1 < 4294967296) (hkd : -9223372036854775808 ≤ kd ∧ kd ≤ 9223372036854775807) :
    MBox (W.setCell ⟨M, 3, none⟩ x3) M kd v1 v2 x3 ∧ MBox (W.setCell ⟨M, 3, none⟩ x3) G 0 (.slice none 0 0) (.slice none 0 0) (.slice none 0 0) ∧ MsgV (W.setCell ⟨M, 3, none⟩ x3) v1 v2 x3 ⟨kd, vs, al, row⟩ ∧ Below w.heap.size w (W.setCell ⟨M, 3, none⟩ x3) ∧ ∀ g, (v1.ownBlock = some g ∨ v2.ownBlock = some g ∨ x3.ownBlock = some g) → M + 1 ≤ g ∧ g < (W.setCell ⟨M, 3, none⟩ x3).heap.size := by
  have hm := h.mb
  have hsz : (W.setCell ⟨M, 3, none⟩ x3).heap.size = W.heap.size := by simp [World.setCell]
  refine ⟨?_, (Below.heap_setCell _ _ _ _ (by show G ≠ M; omega)).trans h.gb, ⟨own_ns (ownsRow_setCell_below h.r1 (by show M < M + 1; omega) _) e1 (fun x hx => by have := e2 x hx; omega), own_as (ownsRow_setCell_below h.r2 (by show M < M + 1; omega) _) e3 e4, own_tx (ownsRow_setCell_below ho (by show M < B3; omega) _) hrb, hkd⟩, h.bel.setCell (by show w.heap.size ≤ M; omega) _, ?_⟩
  · unfold MBox at hm ⊢
    rw [heap_mod hm (by simp)]; rfl
  · rintro g (hh | hh | hh)
    · have := h.r1.lt g hh; omega
    · have := h.r2.lt g hh; omega
    · have := ho.lt g hh; omega
/-- .. and has been answered -/
theorem rb_fin {w V W : World} {zs : List Int} {kd : Int} {v1 v2 x3 : Value} {vs : List Nat} {al : List (Int × Int)} {row : List Int} (hV : MBox V w.heap.size 0 (.slice none 0 0) (.slice none 0 0) (.slice none 0 0)) (hB : Below w.heap.size w V) (hm : MsgV V v1 v2 x3 ⟨kd, vs, al, row⟩) (hx : ∀ g, (v1.ownBlock = some g ∨ v2.ownBlock = some g ∨ x3.ownBlock = some g) → w.heap.size < g ∧ g < V.heap.size) (hn : Wi.read zs = some ⟨kd, vs, al, row⟩)
    (hW : W = (((V.setCell ⟨w.heap.size, 0, none⟩ (.int .i64 kd)).setCell ⟨w.heap.size, 1, none⟩ v1).setCell ⟨w.heap.size, 2, none⟩ v2).setCell ⟨w.heap.size, 3, none⟩ x3) :
    Mx W w.heap.size kd v1 v2 x3 ∧ ReadAns w zs (.returned (.tuple #[.agg #[.int .i64 kd, v1, v2, x3], .int .i64 0])) W := by
  subst hW
  obtain ⟨p1, p2⟩ := put4 (x1 := v1) (x2 := v2) (x3 := x3) (k' := kd) hV rfl
  exact ⟨(MBox.mx p1).1, _, _, _, _, hm.at p2.size (fun g hg => by have := hx g hg; exact p2.block g this.2 (fun e => by simp at e; omega)), hB.grown p2 hB.size (fun r e => by cases e; exact Nat.le_refl _), .inl ⟨rfl, hn⟩⟩

set_option maxRecDepth 100000 in
set_option maxHeartbeats 8000000 in
theorem rread_any (A : Option Addr) (n c : Nat) (zs : List Int) (w : World) (hb : Bts w A n zs) (h1 : n ≤ c) (h2 : c ≤ maxLen) (hz : zs.length ≤ 1000000) :
    Calls Tryd.prog 34 #[.slice A n c] w (ReadAns w zs) := by
  have hB0 : Below w.heap.size w (w.alloc zbox) := (Below.refl _ _).alloc (Nat.le_refl _) _
  have CG0 := Lib.hid (rget_parts A n c zs (w.alloc zbox) h1 h2 (hb.below hB0))
  have HB := Lib.hid hb
  have hl := hb.len
  have hvb := Uv.val_bd zs
  obtain ⟨q, hq⟩ : ∃ q : Nat, Uv.val zs = (q : Int) := ⟨(Uv.val zs).toNat, by omega⟩
  have hqb : q < 9223372036854775808 := by omega
  have HBD := Lib.hid hb.bd
  have hG0 : MBox (w.alloc zbox) w.heap.size 0 (.slice none 0 0) (.slice none 0 0) (.slice none 0 0) := heap_new _ _
  have HG0 := Lib.hid hG0
  have HB0 := Lib.hid hB0
  have HM := Lib.hid h2
  rw [hq] at CG0
  have HQ := Lib.hid hq
  unfold zbox at *
  clear hb hB0 hvb hG0 hq
  by_cases hcd : Uv.code zs = 0
  · by_cases hk : 1 ≤ q ∧ q ≤ 18
    · have t1 : decide ((q : Int) < 1) = false := by simp; omega
      have t2 : decide ((18 : Int) < (q : Int)) = false := by simp; omega
      have HCD := Lib.hid hcd
      rw [hcd] at CG0
      have hNB := Wi.numsOf_in (k := (q : Int)) (by omega) (by omega)
      obtain ⟨K, hK⟩ : ∃ K : Nat, Wi.numsOf (q : Int) = (K : Int) := ⟨(Wi.numsOf (q : Int)).toNat, by omega⟩
      have hK6 : K ≤ 6 := by omega
      have HK0 : Hid ((Wi.numsOf (Uv.val zs)).toNat = K) := Lib.hid (by rw [HQ.out, hK]; simp)
      have CN : Hid (∀ W, Calls Tryd.prog 53 #[.int .i64 (q : Int)] W fun e w' => e = .returned (.int .i64 (K : Int)) ∧ W = w') := Lib.hid (fun W => by rw [← hK]; exact (rnums_any _ W).mono (fun e w' h => ⟨h.1, h.2.symm⟩))
      have hn0 : 0 < n := by
        rcases Nat.eq_zero_or_pos n with h | h
        · have : zs = [] := List.eq_nil_of_length_eq_zero (by omega)
          rw [this] at hcd
          exact absurd hcd code_nil
        · exact h
      obtain ⟨b, off, rfl, hbl, hcl⟩ := HB.out.2.2 hn0
      obtain ⟨hs1, hs2⟩ := nrest_size hcd
      have HL0 : Hid (Ln zs 0 (Uv.size zs) []) := Lib.hid ⟨hs2, rfl, by simp, by rw [hs1]; rfl⟩
      obtain ⟨a0, ha0⟩ : ∃ a, Uv.size zs = a := ⟨_, rfl⟩
      rw [ha0] at HL0 CG0
      have HCL := Lib.hid hcl
      clear hcd hNB hK hs1 hs2 ha0 hcl
      go_enter Tryd.func34, Tryd.ntmps34
      go_wp2_with (go_at_call 52; refine CG0.out.mono ?_; rintro e w' ⟨rfl, rfl⟩)
      have hR0 := rb_start w (q : Int)
      unfold zbox at hR0
      have HR0 := Lib.hid hR0
      clear hR0 CG0 HG0 HB0
      have hmx : c ≤ 140737488355328 + 140737488355328 * 65536 := by have := HM.out; unfold maxLen at this; omega
      go_loopw [5, 8] (fun p i wr => ∃ (k a : Nat) (vs : List Nat) (v1 : Value), i = .int .i64 (k : Int) ∧ p = .int .i64 (a : Int) ∧ k ≤ K ∧ Ln zs k a vs ∧ Rb w wr (w.heap.size + 1) w.heap.size (q : Int) k v1 vs 0 (.slice none 0 0) []) (fun _ i _ => K - (intOf i).toNat)
      case atStart => exact ⟨0, a0, [], _, rfl, rfl, Nat.zero_le _, HL0.out, HR0.out⟩
      case round =>
        clear HR0 HL0
        obtain ⟨k, a, vs, v1, rfl, rfl, hkK, hL, hR⟩ := hrel
        have HL := Lib.hid hL; have HR := Lib.hid hR
        have hal := hL.le
        obtain ⟨⟨m0, m1, m2, m3⟩, hML, mf⟩ := MBox.mx hR.mb
        have hrb := hR.bel
        have HBW := Lib.hid (HB.out.below hrb)
        clear hL hR hrb
        by_cases hlt : k < K
        · by_cases hcd : Uv.code (zs.drop a) = 0
          · have han : a < n := by
              rcases Nat.lt_or_ge a n with h | h
              · exact h
              · rw [List.drop_eq_nil_of_le (by omega)] at hcd
                exact absurd hcd code_nil
            have hvb := Uv.val_bd (zs.drop a)
            obtain ⟨x, hx⟩ : ∃ x : Nat, Uv.val (zs.drop a) = (x : Int) := ⟨(Uv.val (zs.drop a)).toNat, by omega⟩
            have HLN := Lib.hid (HL.out.next hcd hx)
            have hle2 := HLN.out.le
            have hbf := HBW.out.from (k := a) (c := c) (by omega) h1
            rw [if_neg (by omega)] at hbf
            have CG := Lib.hid (rget_parts (some ⟨b, off + a, none⟩) (n - a) (c - a) (zs.drop a) wr (by omega) (by have := HM.out; omega) (by simpa [add_spot] using hbf))
            rw [hcd, hx] at CG
            generalize Uv.size (zs.drop a) = sz at *
            have hk6 : k ≤ 1000000 := by omega
            have HOW : Hid (∀ o, (wr.alloc o).ownsRow (w.heap.size + 1 + 1) 22 1 v1 k (U vs)) := Lib.hid (fun o => HR.out.r1.alloc o)
            have HNX : Hid (∀ o w4 v', (wr.alloc o).grownBy w4 v1.ownBlock → w4.ownsRow (w.heap.size + 1 + 1) 22 1 v' (k + 1) (U vs ++ [.int .u64 (x : Int)]) → _) := Lib.hid (fun o w4 v' hg ho => HR.out.num (Nat.lt_succ_self _) (Nat.le_refl _) hg ho)
            clear hvb hbf hx hcd
            go_wp2_with (first
              | (go_at_call 53; refine (CN.out _).mono ?_; rintro e w' ⟨rfl, rfl⟩)
              | (go_at_call 52; refine CG.out.mono ?_; rintro e w' ⟨rfl, rfl⟩)
              | (at_builtin; refine list_num rfl (.tmp 58) (.tmp 60) rfl (base := w.heap.size + 1 + 1) (y := x) (g := wr.heap.size) rfl (HOW.out _) rfl (by go_simp) hk6 (by simp; omega) ?_; intro v2 w4 ho4 hg4; obtain ⟨A4, c4, rfl⟩ := own_slice ho4; obtain ⟨d1, d2, d3, HN4⟩ := HNX.out _ _ _ hg4 ho4; clear ho4 hg4))
            go_roundw
            case rel => exact ⟨k + 1, a + sz, _, _, by go_num, by go_num, by omega, HLN.out, HN4.out⟩
            case measure => simp [intOf]; omega
          · have HNO := Lib.hid (rd_num HK0.out hlt HL.out.rd hcd)
            have t3 : (Uv.code (zs.drop a) != 0) = true := by rw [bne_iff_ne]; exact hcd
            obtain ⟨⟨g0, g1, g2, g3⟩, hGL, gf⟩ := MBox.mx HR.out.gb
            have gf0 := gf 0; have gf1 := gf 1; have gf2 := gf 2; have gf3 := gf 3
            have hbf := HBW.out.from (k := a) (c := c) (by omega) h1
            clear hcd
            by_cases hca : c = a
            · have hca2 : c - a = 0 := by omega
              have hna : n - a = 0 := by omega
              rw [if_pos hca, hna] at hbf
              have CG := Lib.hid (rget_parts _ 0 0 (zs.drop a) wr (Nat.le_refl _) (Nat.zero_le _) hbf)
              generalize Uv.code (zs.drop a) = cd at *
              go_wp2_with (first
                | (go_at_call 53; refine (CN.out _).mono ?_; rintro e w' ⟨rfl, rfl⟩)
                | (go_at_call 52; refine CG.out.mono ?_; rintro e w' ⟨rfl, rfl⟩))
              obtain ⟨⟨k0, k1, k2, k3⟩, hans⟩ := refused HR.out.gb HR.out.bel HNO.out rfl
              exact ⟨rfl, .tuple #[.agg #[.int .i64 0, .slice none 0 0, .slice none 0 0, .slice none 0 0], .int .i64 3], by simp [results, Tryd.f34, go_sem, k0, k1, k2, k3], hans⟩
            · rw [if_neg hca] at hbf
              have CG := Lib.hid (rget_parts (some ⟨b, off + a, none⟩) (n - a) (c - a) (zs.drop a) wr (by omega) (by have := HM.out; omega) (by simpa [add_spot] using hbf))
              generalize Uv.code (zs.drop a) = cd at *
              go_wp2_with (first
                | (go_at_call 53; refine (CN.out _).mono ?_; rintro e w' ⟨rfl, rfl⟩)
                | (go_at_call 52; refine CG.out.mono ?_; rintro e w' ⟨rfl, rfl⟩))
              obtain ⟨⟨k0, k1, k2, k3⟩, hans⟩ := refused HR.out.gb HR.out.bel HNO.out rfl
              exact ⟨rfl, .tuple #[.agg #[.int .i64 0, .slice none 0 0, .slice none 0 0, .slice none 0 0], .int .i64 3], by simp [results, Tryd.f34, go_sem, k0, k1, k2, k3], hans⟩
        · obtain rfl : k = K := by omega
          by_cases hmn : n ≤ a
          · have t3 : decide ((n : Int) ≤ (a : Int)) = true := by simp; omega
            have HNO := Lib.hid (rd_many HBD.out HK0.out HL.out.rd (.inl (by omega)))
            obtain ⟨⟨g0, g1, g2, g3⟩, hGL, gf⟩ := MBox.mx HR.out.gb
            have gf0 := gf 0; have gf1 := gf 1; have gf2 := gf 2; have gf3 := gf 3
            go_wp2_with (go_at_call 53; refine (CN.out _).mono ?_; rintro e w' ⟨rfl, rfl⟩)
            obtain ⟨⟨k0, k1, k2, k3⟩, hans⟩ := refused HR.out.gb HR.out.bel HNO.out rfl
            exact ⟨rfl, .tuple #[.agg #[.int .i64 0, .slice none 0 0, .slice none 0 0, .slice none 0 0], .int .i64 3], by simp [results, Tryd.f34, go_sem, k0, k1, k2, k3], hans⟩
          · have t3 : decide ((n : Int) ≤ (a : Int)) = false := by simp; omega
            have hcell := (HR.out.bel.cell (p := ⟨b, off + a, none⟩) (lt_of_cell (HCL.out a (by omega)))).trans (HCL.out a (by omega))
            by_cases h8 : 8 < zs.getD a 0
            · have HNO := Lib.hid (rd_many HBD.out HK0.out HL.out.rd (.inr h8))
              obtain ⟨⟨g0, g1, g2, g3⟩, hGL, gf⟩ := MBox.mx HR.out.gb
              have gf0 := gf 0; have gf1 := gf 1; have gf2 := gf 2; have gf3 := gf 3
              generalize zs.getD a 0 = z at *
              have t4 : decide ((8 : Int) < z) = true := by simp; omega
              go_wp2_with (go_at_call 53; refine (CN.out _).mono ?_; rintro e w' ⟨rfl, rfl⟩)
              obtain ⟨⟨k0, k1, k2, k3⟩, hans⟩ := refused HR.out.gb HR.out.bel HNO.out rfl
              exact ⟨rfl, .tuple #[.agg #[.int .i64 0, .slice none 0 0, .slice none 0 0, .slice none 0 0], .int .i64 3], by simp [results, Tryd.f34, go_sem, k0, k1, k2, k3], hans⟩
            · have hz0 := getD_bd HBD.out a
              obtain ⟨y1, y2, y3⟩ := rd_many_yes HBD.out (by omega) (by omega : zs.getD a 0 ≤ 8)
              obtain ⟨V, hV⟩ : ∃ V : Nat, zs.getD a 0 = (V : Int) := ⟨(zs.getD a 0).toNat, by omega⟩
              rw [hV] at hcell h8 y2
              have t4 : decide ((8 : Int) < (V : Int)) = false := by simp; omega
              have HY1 := Lib.hid y1; have HY2 := Lib.hid y2; have HY3 := Lib.hid y3
              clear y1 y2 y3 hz0 hV
              go_wp2_with (go_at_call 53; refine (CN.out _).mono ?_; rintro e w' ⟨rfl, rfl⟩)
              clear m0 m1 m2 m3 hML mf hcell t3 t4
              have HRD := Lib.hid HL.out.rd
              have HA0 : Hid (AdOk zs (a + 1) 0 (a + 1) []) := Lib.hid (.inl rfl)
              go_loopw [5, 13] (fun p i wr => ∃ (j a1 : Nat) (al : List (Int × Int)) (v2 : Value), i = .int .i64 (j : Int) ∧ p = .int .i64 (a1 : Int) ∧ j ≤ V ∧ a1 ≤ zs.length ∧ AdOk zs (a + 1) j a1 al ∧ al.length = j ∧ (∀ x ∈ al, 0 ≤ x.1 ∧ x.1 < 4294967296) ∧ Rb w wr (w.heap.size + 1) w.heap.size (q : Int) k v1 vs j v2 al) (fun _ i _ => V - (intOf i).toNat)
              case atStart => exact ⟨0, a + 1, [], _, rfl, by simp, Nat.zero_le _, by omega, HA0.out, rfl, by simp, HR.out⟩
              case round =>
                clear HR HA0 HBW
                obtain ⟨j, a1, al, v2, rfl, rfl, hjV, hal1, hA, hlj, hbd, hR⟩ := hrel
                have HA := Lib.hid hA; have HR2 := Lib.hid hR; have HLJ := Lib.hid hlj; have HAB := Lib.hid hbd
                obtain ⟨⟨m0, m1, m2, m3⟩, hML, mf⟩ := MBox.mx hR.mb
                have mf2 := mf 2; have mf3 := mf 3
                have HBW := Lib.hid (HB.out.below hR.bel)
                clear hA hR hlj hbd mf
                by_cases hlt : j < V
                · by_cases h6 : a1 + 6 ≤ n
                  · have t3 : decide ((n : Int) < (a1 : Int) + 6) = false := by simp; omega
                    have hbf := HBW.out.from (k := a1) (c := c) (by omega) h1
                    rw [if_neg (by omega)] at hbf
                    have CF := Lib.hid (rfrom_at b (off + a1) (n - a1) (c - a1) (zs.drop a1) wr (by simpa [add_spot] using hbf) (by omega) (by omega) (by have := HM.out; omega))
                    have hab := ahost_bd (zs := zs.drop a1) (fun z hz => HBD.out z (List.mem_of_mem_drop hz))
                    have HAN := Lib.hid (adOk_step HK0.out HRD.out HY2.out HY3.out hlt HA.out)
                    have HBD2 : Hid (∀ x ∈ al ++ [(ahost (zs.drop a1), aport (zs.drop a1))], 0 ≤ x.1 ∧ x.1 < 4294967296) := Lib.hid (by
                      intro x hx
                      rcases List.mem_append.1 hx with hx | hx
                      · exact HAB.out x hx
                      · simp at hx; subst hx; exact hab)
                    generalize ahost (zs.drop a1) = hh at *
                    generalize aport (zs.drop a1) = pp at *
                    generalize acode (zs.drop a1) = cd at *
                    have hj6 : j ≤ 1000000 := by have : V ≤ 8 := by omega
                                                 omega
                    clear hbf m0 m1 m2 m3
                    go_wp2_with fail
                    refine CF.out.mono ?_
                    rintro e w5 ⟨rfl, hb5⟩
                    have hR5 := HR2.out.call (hb5.trans ((Below.refl w5.heap.size w5).alloc (Nat.le_refl _) (.cells #[.int .u32 hh, .int .i64 pp] 87) |>.mono hb5.size))
                    obtain ⟨⟨m0, m1, m2, m3⟩, hML5, mf⟩ := MBox.mx (HR2.out.call hb5).mb
                    have mf2 := mf 2
                    have HOW : Hid (∀ o, ((w5.alloc (.cells #[.int .u32 hh, .int .i64 pp] 87)).alloc o).ownsRow (w.heap.size + 1 + 1) 87 2 v2 j (A2 al)) := Lib.hid (fun o => hR5.r2.alloc o)
                    have HNX : Hid (∀ o w4 v', ((w5.alloc (.cells #[.int .u32 hh, .int .i64 pp] 87)).alloc o).grownBy w4 v2.ownBlock → w4.ownsRow (w.heap.size + 1 + 1) 87 2 v' (j + 1) (A2 al ++ [.int .u32 hh, .int .i64 pp]) → _) := Lib.hid (fun o w4 v' hg ho => hR5.adr (Nat.lt_succ_self _) (Nat.le_refl _) hg ho)
                    have HWS : Hid (∀ o o', ((w5.alloc o).alloc o').heap[w5.heap.size + 1]? = some o') := Lib.hid (fun o o' => by have := heap_new (w5.alloc o) o'; rwa [World.size_alloc] at this)
                    clear hR5 hb5 mf
                    go_wp2_with (at_builtin; refine list_adr rfl (.tmp 106) (.tmp 108) rfl (base := w.heap.size + 1 + 1) (h := hh) (p := pp) (g := w5.heap.size + 1) rfl (HOW.out _) rfl (HWS.out _ _) hj6 (by simp; omega) ?_; intro v' w4 ho4 hg4; obtain ⟨A4, c4, rfl⟩ := own_slice ho4; obtain ⟨d1, d2, d3, HN4⟩ := HNX.out _ _ _ hg4 ho4; clear ho4 hg4)
                    go_roundw
                    case rel => exact ⟨j + 1, a1 + 6, _, _, by go_num, by go_num, by omega, by omega, HAN.out, by simp [HLJ.out], HBD2.out, HN4.out⟩
                    case measure => simp [intOf]; omega
                  · have t3 : decide ((n : Int) < (a1 : Int) + 6) = true := by simp; omega
                    have HNO := Lib.hid (adOk_short HK0.out HRD.out HY2.out HY3.out hlt HA.out (by omega))
                    obtain ⟨⟨g0, g1, g2, g3⟩, hGL, gf⟩ := MBox.mx HR2.out.gb
                    have gf0 := gf 0; have gf1 := gf 1; have gf2 := gf 2; have gf3 := gf 3
                    go_wp2_with fail
                    obtain ⟨⟨k0, k1, k2, k3⟩, hans⟩ := refused HR2.out.gb HR2.out.bel HNO.out rfl
                    exact ⟨rfl, .tuple #[.agg #[.int .i64 0, .slice none 0 0, .slice none 0 0, .slice none 0 0], .int .i64 3], by simp [results, Tryd.f34, go_sem, k0, k1, k2, k3], hans⟩
                · obtain rfl : j = V := by omega
                  have HRB : Hid (∀ z ∈ Fr.row (zs.drop a1), 0 ≤ z ∧ z ≤ 255) := Lib.hid (Fr.row_bd (fun z hz => HBD.out z (List.mem_of_mem_drop hz)))
                  have hbf := HBW.out.from (k := a1) (c := c) (by omega) h1
                  have HEND : Hid (Fr.code (zs.drop a1) = 0 → Wi.Wf ⟨(q : Int), vs, al, Fr.row (zs.drop a1)⟩ → Wi.read zs = if outB ⟨(q : Int), vs, al, Fr.row (zs.drop a1)⟩ = zs then some ⟨(q : Int), vs, al, Fr.row (zs.drop a1)⟩ else none) := Lib.hid (fun hc hw => by
                    have := rd_end HBD.out HCD.out HK0.out HRD.out HY1.out HY2.out HY3.out HA.out hc (by rw [HQ.out]; exact hw)
                    rw [HQ.out] at this
                    exact this)
                  by_cases hfc : Fr.code (zs.drop a1) = 0
                  · have han : a1 < n := by
                      rcases Nat.lt_or_ge a1 n with h | h
                      · exact h
                      · rw [List.drop_eq_nil_of_le (by omega)] at hfc
                        exact absurd hfc fcode_nil
                    rw [if_neg (by omega)] at hbf
                    have CF := Lib.hid (ref_fget_any (some ⟨b, off + a1, none⟩) (n - a1) (c - a1) (zs.drop a1) wr (by simpa [add_spot] using hbf) (by omega) (by have := HM.out; omega))
                    unfold ftup at CF
                    have HE2 := Lib.hid (HEND.out hfc)
                    rw [hfc] at CF
                    generalize Fr.size (zs.drop a1) = sz at *
                    clear hbf hfc
                    go_wp2_with fail
                    refine CF.out.mono ?_
                    rintro e w5 ⟨x3, rfl, ho5, hb5⟩
                    obtain ⟨A3, c3, rfl⟩ := own_slice ho5
                    have hR5 := HR2.out.call hb5
                    obtain ⟨q1, q2, q3, q4, q5⟩ := rb_body hR5 (Nat.lt_succ_self _) (Nat.le_refl _) hML ho5 HRB.out HL.out.len HL.out.bd HLJ.out HAB.out (by omega)
                    obtain ⟨⟨m0, m1, m2, m3⟩, hML5, mf⟩ := MBox.mx hR5.mb
                    have mf3 := mf 3
                    obtain ⟨⟨g0, g1, g2, g3⟩, hGL, gf⟩ := MBox.mx hR5.gb
                    have gf0 := gf 0; have gf1 := gf 1; have gf2 := gf 2; have gf3 := gf 3
                    have Q2 := Lib.hid q2; have Q4 := Lib.hid q4
                    clear hb5 hR5 mf gf ho5 q2 q4
                    have HQ3 := Lib.hid q3
                    have HQ5 := Lib.hid q5
                    have HRE := HE2.out q3.wf
                    have CR := Lib.hid (any_rbytes _ _ _ _ _ q3)
                    obtain ⟨⟨u0, u1, u2, u3⟩, uL, _⟩ := MBox.mx q1
                    have HBT := Lib.hid (HB.out.below Q4.out)
                    have Q1 := Lib.hid q1
                    clear q1 q3 q5
                    have hobm : (outB ⟨(q : Int), vs, al, Fr.row (zs.drop a1)⟩).length ≤ maxLen := Nat.le_trans (outB_len _) (by decide)
                    generalize outB ⟨(q : Int), vs, al, Fr.row (zs.drop a1)⟩ = ob at *
                    generalize Fr.row (zs.drop a1) = row at *
                    go_wp2_with fail
                    refine CR.out.mono ?_
                    rintro e w6 ⟨A6, c6, rfl, hbt6, hb6⟩
                    have HS := Lib.hid (same_any A6 (some ⟨b, off, none⟩) _ n c6 c ob zs w6 hobm hbt6 (HBT.out.below hb6))
                    have HB6 := Lib.hid hb6
                    clear hb6 hbt6
                    have R1 : MBox w6 (w.heap.size + 1) (q : Int) v1 v2 (.slice A3 row.length c3) := (HB6.out.block _ uL).trans Q1.out
                    have R2 : MBox w6 w.heap.size 0 (.slice none 0 0) (.slice none 0 0) (.slice none 0 0) := (HB6.out.block _ (by omega)).trans Q2.out
                    have R3 := Lib.hid (HQ3.out.below HB6.out)
                    have R4 : Hid (Below w.heap.size w w6) := Lib.hid (Q4.out.trans (HB6.out.mono Q4.out.size))
                    have R5 : Hid (∀ g, (v1.ownBlock = some g ∨ v2.ownBlock = some g ∨ (Value.slice A3 row.length c3).ownBlock = some g) → w.heap.size < g ∧ g < w6.heap.size) := Lib.hid (fun g hg => by have := HQ5.out g hg; have := HB6.out.size; omega)
                    have HR2' := Lib.hid R2
                    clear u0 u1 u2 u3 uL m0 m1 m2 m3 hML5 g0 g1 g2 g3 hGL gf0 gf1 gf2 gf3 mf3
                    obtain ⟨⟨m0, m1, m2, m3⟩, hML5, _⟩ := MBox.mx R1
                    obtain ⟨⟨g0, g1, g2, g3⟩, hGL, gf⟩ := MBox.mx R2
                    have gf0 := gf 0; have gf1 := gf 1; have gf2 := gf 2; have gf3 := gf 3
                    obtain ⟨B1, b1, e1'⟩ := own_slice (HR2.out.r1)
                    obtain ⟨B2, b2, e2'⟩ := own_slice (HR2.out.r2)
                    clear R1 R2 gf
                    by_cases he : ob = zs
                    · rw [if_pos he] at HRE
                      rw [show decide (ob = zs) = true by simp [he]] at HS
                      have HRE2 := Lib.hid HRE
                      clear HRE he
                      subst e1' e2'
                      go_wp2_with (go_at_call 26; refine HS.out.mono ?_; rintro e w7 ⟨rfl, qq, rfl⟩)
                      obtain ⟨⟨k0, k1, k2, k3⟩, hans⟩ := rb_fin (V := w6.drewN qq) HR2'.out (below_drewN' R4.out qq) (R3.out.below (below_drewN' (Below.refl _ _) qq)) R5.out HRE2.out rfl
                      exact ⟨rfl, .tuple #[.agg #[.int .i64 (q : Int), .slice B1 k b1, .slice B2 j b2, .slice A3 row.length c3], .int .i64 0], by simp [results, Tryd.f34, go_sem, k0, k1, k2, k3], hans⟩
                    · rw [if_neg he] at HRE
                      rw [show decide (ob = zs) = false by simp [he]] at HS
                      have HRE2 := Lib.hid HRE
                      clear HRE he
                      go_wp2_with (go_at_call 26; refine HS.out.mono ?_; rintro e w7 ⟨rfl, qq, rfl⟩)
                      obtain ⟨⟨k0, k1, k2, k3⟩, hans⟩ := refused (V := w6.drewN qq) HR2'.out (below_drewN' R4.out qq) HRE2.out rfl
                      exact ⟨rfl, .tuple #[.agg #[.int .i64 0, .slice none 0 0, .slice none 0 0, .slice none 0 0], .int .i64 3], by simp [results, Tryd.f34, go_sem, k0, k1, k2, k3], hans⟩
                  · have HNO := Lib.hid (rd_frame HK0.out HRD.out HY2.out HY3.out HA.out hfc)
                    have t5 : (Fr.code (zs.drop a1) != 0) = true := by rw [bne_iff_ne]; exact hfc
                    by_cases hca : c = a1
                    · have hca2 : c - a1 = 0 := by omega
                      have hna : n - a1 = 0 := by omega
                      rw [if_pos hca, hna] at hbf
                      have CF := Lib.hid (ref_fget_any _ 0 0 (zs.drop a1) wr hbf (Nat.le_refl _) (Nat.zero_le _))
                      unfold ftup at CF
                      generalize Fr.size (zs.drop a1) = sz at *
                      generalize Fr.code (zs.drop a1) = fc at *
                      clear hbf hfc
                      go_wp2_with fail
                      refine CF.out.mono ?_
                      rintro e w5 ⟨x3, rfl, ho5, hb5⟩
                      obtain ⟨A3, c3, rfl⟩ := own_slice ho5
                      have hR5 := HR2.out.call hb5
                      obtain ⟨q1, q2, q3, q4, q5⟩ := rb_body hR5 (Nat.lt_succ_self _) (Nat.le_refl _) hML ho5 HRB.out HL.out.len HL.out.bd HLJ.out HAB.out (by omega)
                      obtain ⟨⟨m0, m1, m2, m3⟩, hML5, mf⟩ := MBox.mx hR5.mb
                      have mf3 := mf 3
                      obtain ⟨⟨g0, g1, g2, g3⟩, hGL, gf⟩ := MBox.mx hR5.gb
                      have gf0 := gf 0; have gf1 := gf 1; have gf2 := gf 2; have gf3 := gf 3
                      have Q2 := Lib.hid q2; have Q4 := Lib.hid q4
                      clear hb5 hR5 mf gf ho5 q2 q4
                      go_wp2_with fail
                      obtain ⟨⟨k0, k1, k2, k3⟩, hans⟩ := refused Q2.out Q4.out HNO.out rfl
                      exact ⟨rfl, .tuple #[.agg #[.int .i64 0, .slice none 0 0, .slice none 0 0, .slice none 0 0], .int .i64 3], by simp [results, Tryd.f34, go_sem, k0, k1, k2, k3], hans⟩
                    · rw [if_neg hca] at hbf
                      have CF := Lib.hid (ref_fget_any (some ⟨b, off + a1, none⟩) (n - a1) (c - a1) (zs.drop a1) wr (by simpa [add_spot] using hbf) (by omega) (by have := HM.out; omega))
                      unfold ftup at CF
                      generalize Fr.size (zs.drop a1) = sz at *
                      generalize Fr.code (zs.drop a1) = fc at *
                      clear hbf hfc
                      go_wp2_with fail
                      refine CF.out.mono ?_
                      rintro e w5 ⟨x3, rfl, ho5, hb5⟩
                      obtain ⟨A3, c3, rfl⟩ := own_slice ho5
                      have hR5 := HR2.out.call hb5
                      obtain ⟨q1, q2, q3, q4, q5⟩ := rb_body hR5 (Nat.lt_succ_self _) (Nat.le_refl _) hML ho5 HRB.out HL.out.len HL.out.bd HLJ.out HAB.out (by omega)
                      obtain ⟨⟨m0, m1, m2, m3⟩, hML5, mf⟩ := MBox.mx hR5.mb
                      have mf3 := mf 3
                      obtain ⟨⟨g0, g1, g2, g3⟩, hGL, gf⟩ := MBox.mx hR5.gb
                      have gf0 := gf 0; have gf1 := gf 1; have gf2 := gf 2; have gf3 := gf 3
                      have Q2 := Lib.hid q2; have Q4 := Lib.hid q4
                      clear hb5 hR5 mf gf ho5 q2 q4
                      go_wp2_with fail
                      obtain ⟨⟨k0, k1, k2, k3⟩, hans⟩ := refused Q2.out Q4.out HNO.out rfl
                      exact ⟨rfl, .tuple #[.agg #[.int .i64 0, .slice none 0 0, .slice none 0 0, .slice none 0 0], .int .i64 3], by simp [results, Tryd.f34, go_sem, k0, k1, k2, k3], hans⟩
    · have t1 : decide ((q : Int) < 1) = true ∨ (decide ((q : Int) < 1) = false ∧ decide ((18 : Int) < (q : Int)) = true) := by
        by_cases h : q < 1
        · exact .inl (by simp; omega)
        · exact .inr ⟨by simp; omega, by simp; omega⟩
      have HNO := Lib.hid (rd_kind (zs := zs) (.inr (by rw [HQ.out]; omega)))
      rw [hcd] at CG0
      clear hcd hk
      rcases t1 with t1 | ⟨t1, t2⟩
      all_goals
        go_enter Tryd.func34, Tryd.ntmps34
        go_wp2_with (go_at_call 52; refine CG0.out.mono ?_; rintro e w' ⟨rfl, rfl⟩)
        exact ⟨rfl, .tuple #[.agg #[.int .i64 0, .slice none 0 0, .slice none 0 0, .slice none 0 0], .int .i64 3], by simp [results, Tryd.f34, go_sem], noMsg, _, _, _, msgV_no _, HB0.out, .inr ⟨rfl, HNO.out, rfl⟩⟩
  · have t1 : (Uv.code zs != 0) = true := by rw [bne_iff_ne]; exact hcd
    have HNO := Lib.hid (rd_kind (zs := zs) (.inl hcd))
    generalize Uv.code zs = cd at *
    clear hcd
    go_enter Tryd.func34, Tryd.ntmps34
    go_wp2_with (go_at_call 52; refine CG0.out.mono ?_; rintro e w' ⟨rfl, rfl⟩)
    exact ⟨rfl, .tuple #[.agg #[.int .i64 0, .slice none 0 0, .slice none 0 0, .slice none 0 0], .int .i64 3], by simp [results, Tryd.f34, go_sem], noMsg, _, _, _, msgV_no _, HB0.out, .inr ⟨rfl, HNO.out, rfl⟩⟩
end Go.Proofs.YtdiilgedicfekaaDoor
namespace Go.Proofs.YtdiilgedicfekaaDoor
open Go.RowKit
set_option linter.unusedVariables false
set_option maxRecDepth 100000

def IsTxt (w : World) (v : Value) (zs : List Int) : Prop := ∃ A n c, v = .slice A n c ∧ Bts w A n zs ∧ n ≤ c ∧ c ≤ maxLen ∧ (A = none → n = 0 ∧ c = 0)
section
variable {H : Type} {enc : TypeId × Value → H} {W : World}
theorem open_txt {r : Reach} {b0 : Nat} {v : Value} {d : DataW H} {p : List MemPlace} (hv : Value.okWide Tryd.prog W r b0 42 v) (h : DataW.Trod enc Tryd.prog W 0 (fun _ => true) true  42 v d p) : ∃ zs, IsTxt W v zs := by
  obtain ⟨A, l, c, rfl⟩ := WideShapes.okWide_slice Tryd.underlying42 hv
  obtain ⟨fuel, hf⟩ := h
  rcases Go.ChangeShapes.open_ints Tryd.underlying42 Tryd.underlying5 (by kernel_rfl) hf with ⟨hcs, _⟩ | ⟨x, l, c, zs, hcs, _, hl, hm, hz, _, hcell, hwz⟩
  · simp [Value.cells] at hcs
    obtain ⟨rfl, rfl, rfl⟩ := hcs
    exact ⟨[], none, 0, 0, rfl, ⟨rfl, by simp, fun h => by omega⟩, Nat.le_refl _, Nat.zero_le _, fun _ => ⟨rfl, rfl⟩⟩
  · simp [Value.cells] at hcs
    obtain ⟨rfl, rfl, rfl⟩ := hcs
    have hr : IsRow .u8 W (some x) _ _ zs := .inr ⟨_, rfl, hl, hm, by simpa using hz, hcell, hwz⟩
    obtain ⟨h1, h2, h3⟩ := bts_of_row hr
    exact ⟨_, _, _, _, rfl, h1, h2, h3, by intro h; cases h⟩
end
theorem ans_none {w w' : World} {zs : List Int} {e : Ending} (h : ReadAns w zs e w') (hr : Wi.read zs = none) : ∃ x1 x2 x3, e = .returned (.tuple #[.agg #[.int .i64 noMsg.kind, x1, x2, x3], .int .i64 3]) ∧ MsgV w' x1 x2 x3 noMsg ∧ Below w.heap.size w w' := by
  obtain ⟨m, x1, x2, x3, hv, hb, ⟨_, h2⟩ | ⟨rfl, _, rfl⟩⟩ := h
  · rw [hr] at h2; cases h2
  · exact ⟨x1, x2, x3, rfl, hv, hb⟩
theorem ans_some {w w' : World} {zs : List Int} {e : Ending} {m : Wi.Msg} (h : ReadAns w zs e w') (hr : Wi.read zs = some m) : ∃ x1 x2 x3, e = .returned (.tuple #[.agg #[.int .i64 m.kind, x1, x2, x3], .int .i64 0]) ∧ MsgV w' x1 x2 x3 m ∧ Below w.heap.size w w' := by
  obtain ⟨m', x1, x2, x3, hv, hb, ⟨rfl, h2⟩ | ⟨_, h2, _⟩⟩ := h
  · rw [hr] at h2; cases h2
    exact ⟨x1, x2, x3, rfl, hv, hb⟩
  · rw [hr] at h2; cases h2
end Go.Proofs.YtdiilgedicfekaaDoor
namespace Go.Proofs.YtdiilgedicfekaaDoor
open Go.RowKit Go.Maps
set_option linter.unusedVariables false
set_option maxRecDepth 100000

/-- a handshake -/
structure Sk where
  st : Int
  own : Int
  oth : Int
  non : Nat
  ech : Nat
instance : Inhabited Sk := ⟨⟨0, 0, 0, 0, 0⟩⟩
abbrev skv (s : Sk) : Value := .agg #[.int .i64 s.st, .int .i64 s.own, .int .i64 s.oth, .int .u64 (s.non : Int), .int .u64 (s.ech : Int)]
abbrev skc (s : Sk) : Array Value := #[.int .i64 s.st, .int .i64 s.own, .int .i64 s.oth, .int .u64 (s.non : Int), .int .u64 (s.ech : Int)]
theorem sk_eq {s q : Sk} : s = q ↔ s.st = q.st ∧ s.own = q.own ∧ s.oth = q.oth ∧ s.non = q.non ∧ s.ech = q.ech := by
  cases s; cases q; simp
def isPeerB (p : Int) : Bool := decide (1 ≤ p ∧ p ≤ 2147483647)
def isNonB (v : Nat) : Bool := decide (1 ≤ v ∧ v ≤ 9223372036854775807)
def Sk.may (s : Sk) : Bool := isPeerB s.own && (isPeerB s.oth && (decide (s.own ≠ s.oth) && (isNonB s.non && decide (s.ech ≤ 9223372036854775807))))
structure Sk.Ok (s : Sk) : Prop where
  s0 : 0 ≤ s.st
  s4 : s.st ≤ 4
  o1 : 1 ≤ s.own
  o2 : s.own ≤ 2147483647
  t1 : 1 ≤ s.oth
  t2 : s.oth ≤ 2147483647
  ne : s.own ≠ s.oth
  n1 : 1 ≤ s.non
  n2 : s.non ≤ 9223372036854775807
  e2 : s.ech ≤ 9223372036854775807
theorem Sk.Ok.may {s : Sk} (h : s.Ok) : s.may = true := by
  obtain ⟨h0, h00, h1, h2, h3, h4, h5, h6, h7, h8⟩ := h
  simp [Sk.may, isPeerB, isNonB]
  omega
theorem Sk.Ok.of {s : Sk} (h : s.may = true) (h0 : 0 ≤ s.st) (h4 : s.st ≤ 4) : s.Ok := by
  simp [Sk.may, isPeerB, isNonB] at h
  obtain ⟨⟨h1, h2⟩, ⟨h5, h6⟩, h7, ⟨h8, h9⟩, h10⟩ := h
  exact ⟨h0, h4, h1, h2, h5, h6, h7, h8, h9, h10⟩

/-- a message with these numbers -/
def mg (k : Int) (ns : List Nat) (b : List Int) : Wi.Msg := ⟨k, ns, [], b⟩
def txt0 (k : Int) (ns : List Nat) (b : List Int) : List Int := Wi.bytes (mg k (ns ++ [0]) b)
def tagOf (L : List Item) (p k : Int) (ns : List Nat) (b : List Int) : Nat := tagL L (p, txt0 k ns b)
/-- a message with its tag, as bytes; and the entries behind that -/
def tagB (L : List Item) (p k : Int) (ns : List Nat) (b : List Int) : List Int := Wi.bytes (mg k (ns ++ [tagOf L p k ns b]) b)
def tagL' (L : List Item) (p k : Int) (ns : List Nat) (b : List Int) : List Item := mintL L (p, txt0 k ns b)
def Sk.h3 (s : Sk) : List Nat := [s.own.toNat, s.oth.toNat, s.non]
def Sk.h4 (s : Sk) : List Nat := [s.own.toNat, s.oth.toNat, s.non, s.ech]
def helloB (L : List Item) (s : Sk) : List Int := tagB L s.own 1 s.h3 []
def helloL (L : List Item) (s : Sk) : List Item := tagL' L s.own 1 s.h3 []
def answerB (L : List Item) (s : Sk) (b : List Int) : List Int := tagB L s.own 2 s.h4 b
def answerL (L : List Item) (s : Sk) (b : List Int) : List Item := tagL' L s.own 2 s.h4 b
/-- a handshake, what is sent, the entries -/
structure Out where
  s : Sk
  z : List Int
  l : List Item
def callO (s : Sk) (L : List Item) : Out := if s.st = 0 then ⟨{ s with st := 1 }, helloB L s, helloL L s⟩ else ⟨s, [], L⟩
def againO (s : Sk) (L : List Item) : Out := if s.st = 1 then ⟨s, helloB L s, helloL L s⟩ else if s.st = 2 then ⟨s, answerB L s [], answerL L s []⟩ else ⟨s, [], L⟩
def setZ (ns : List Nat) : List Nat := ns.set (ns.length - 1) 0
def lastN (ns : List Nat) : Nat := ns.getD (ns.length - 1) 0
def checkM (L : List Item) (m : Wi.Msg) : Bool := decide (m.kind = 1 ∨ m.kind = 2) && (Wi.may m && decide (checkL L ((m.nums.getD 0 0 : Nat), Wi.bytes { m with nums := setZ m.nums }) (lastN m.nums) = 0))
def toIt (s : Sk) (m : Wi.Msg) : Bool := decide ((m.nums.getD 0 0 : Int) = s.oth) && (decide ((m.nums.getD 1 0 : Int) = s.own) && isNonB (m.nums.getD 2 0))
def Sk.holds (s : Sk) (v : Nat) : Bool := (decide (s.st = 2) || decide (s.st = 3)) && decide (s.ech = v)
def helloO (s : Sk) (L : List Item) (m : Wi.Msg) : Out :=
  if s.st = 0 ∨ s.st = 1 then ⟨{ s with st := 2, ech := m.nums.getD 2 0 }, answerB L { s with st := 2, ech := m.nums.getD 2 0 } [], answerL L { s with st := 2, ech := m.nums.getD 2 0 } []⟩
  else if s.holds (m.nums.getD 2 0) = true then ⟨s, answerB L s [], answerL L s []⟩ else ⟨s, [], L⟩
def answerO (s : Sk) (L : List Item) (m : Wi.Msg) : Out :=
  if m.nums.getD 3 0 ≠ s.non ∨ (s.st ≠ 1 ∧ s.holds (m.nums.getD 2 0) = false) then ⟨s, [], L⟩
  else if 0 < m.body.length then ⟨{ s with st := 3, ech := m.nums.getD 2 0 }, [], L⟩
  else ⟨{ s with st := 3, ech := m.nums.getD 2 0 }, answerB L { s with st := 3, ech := m.nums.getD 2 0 } [1], answerL L { s with st := 3, ech := m.nums.getD 2 0 } [1]⟩
def hearM (s : Sk) (L : List Item) (m : Wi.Msg) : Out := if checkM L m = true ∧ toIt s m = true then (if m.kind = 1 then helloO s L m else answerO s L m) else ⟨s, [], L⟩
def hearO (s : Sk) (L : List Item) (zs : List Int) : Out := match Wi.read zs with
  | some m => hearM s L m
  | none => ⟨s, [], L⟩

theorem may_mg {k : Int} {ns : List Nat} {b : List Int} (hk : (ns.length : Int) = Wi.numsOf k) (hb : b.length ≤ 1000) (hn : ∀ v ∈ ns, v < 9223372036854775808) : Wi.may (mg k ns b) = true :=
  Wi.may_iff.2 ⟨hk, by simp [mg], hb, hn, by simp [mg]⟩
theorem numsOf_1 : Wi.numsOf 1 = 4 := by decide
theorem numsOf_2 : Wi.numsOf 2 = 5 := by decide
theorem may_hello {s : Sk} (h : s.Ok) (t : Nat) (ht : t < 9223372036854775808) : Wi.may (mg 1 (s.h3 ++ [t]) []) = true := by
  have h2 := h.o2; have h4 := h.t2; have h6 := h.n2
  refine may_mg (by rw [numsOf_1]; rfl) (by simp) (fun v hv => ?_)
  simp [Sk.h3] at hv
  rcases hv with rfl | rfl | rfl | rfl <;> omega
theorem may_answer {s : Sk} (h : s.Ok) (t : Nat) (b : List Int) (ht : t < 9223372036854775808) (hb : b.length ≤ 1000) : Wi.may (mg 2 (s.h4 ++ [t]) b) = true := by
  have h2 := h.o2; have h4 := h.t2; have h6 := h.n2; have h8 := h.e2
  refine may_mg (by rw [numsOf_2]; rfl) hb (fun v hv => ?_)
  simp [Sk.h4] at hv
  rcases hv with rfl | rfl | rfl | rfl | rfl <;> omega
theorem tag_lt (L : List Item) (x : Item) : tagL L x ≤ L.length + 1 := by
  unfold tagL
  have : L.idxOf x ≤ L.length := List.idxOf_le_length
  omega

/-- a block that reads as bytes -/
def RowO (o : Obj) (zs : List Int) (c : Nat) : Prop := ∃ C, o = .cells C 5 (0, 0) ∧ zs.length ≤ c ∧ c ≤ maxLen ∧ Bd zs ∧ ∀ j, j < zs.length → C[j]? = some (.int .u8 (zs.getD j 0))
theorem RowO.bts {o : Obj} {zs : List Int} {c g : Nat} {V : World} (h : RowO o zs c) (hg : V.heap[g]? = some o) : Bts V (some ⟨g, 0, none⟩) zs.length zs := by
  obtain ⟨C, rfl, h1, h2, h3, h4⟩ := h
  refine ⟨rfl, h3, fun _ => ⟨g, 0, rfl, (Array.getElem?_eq_some_iff.1 hg).1, fun j hj => ?_⟩⟩
  rw [(cells_of hg (0 + j)).1, Nat.zero_add]
  exact h4 j hj
theorem row_o {V : World} {base g c : Nat} {zs : List Int} (h : V.ownsRow base 5 1 (.slice (some ⟨g, 0, none⟩) zs.length c) zs.length (B zs)) (hb : Bd zs) : ∃ o, V.heap[g]? = some o ∧ RowO o zs c := by
  rcases h.2 with ⟨e, _⟩ | ⟨g', cap, cur, e, _, hg, hle, hm, hsz, hcur⟩
  · cases e
  · simp only [Value.slice.injEq, Option.some.injEq, Addr.mk.injEq, and_true, true_and] at e
    obtain ⟨rfl, rfl⟩ := e
    refine ⟨_, hg, cur, rfl, hle, hm, hb, fun j hj => ?_⟩
    have h1 := B_at zs j hj
    rw [← hcur, List.getElem?_take_of_lt (by omega)] at h1
    simpa using h1

/-- the document's notary, if there is one -/
def RefO (V : World) (S : Nat → Prop) : Option (Nat × List Item) → Prop
  | none => True
  | some r => RefN V S r.1 r.2
theorem RefO.kept {V V' : World} {S : Nat → Prop} {R : Option (Nat × List Item)} (h : RefO V S R) (hb : ∀ k, k < V.heap.size → S k → V'.heap[k]? = V.heap[k]?) : RefO V' S R := by
  cases R with
  | none => trivial
  | some r => exact RefN.kept h hb
structure Sd (w0 : World) (nb : Nat) (L : List Item) (R : Option (Nat × List Item)) (os : List (Nat × Obj)) (V : World) : Prop where
  ex : ∃ S1 S2 : Nat → Prop, (∀ b, S1 b → w0.heap.size ≤ b ∧ b < V.heap.size) ∧ (∀ b, S2 b → w0.heap.size ≤ b ∧ b < V.heap.size) ∧ (∀ b, S1 b → ¬ S2 b) ∧ Nota V S1 nb L ∧ RefO V S2 R ∧ ∀ p ∈ os, ¬ S1 p.1 ∧ ¬ S2 p.1
  held : ∀ p ∈ os, V.heap[p.1]? = some p.2
  low : Below w0.heap.size w0 V
  tb : Tb w0
section
variable {w0 V V' : World} {nb : Nat} {L : List Item} {R : Option (Nat × List Item)} {os : List (Nat × Obj)}
theorem Sd.tbv (h : Sd w0 nb L R os V) : Tb V := h.tb.below h.low
theorem Sd.lt (h : Sd w0 nb L R os V) {p : Nat × Obj} (hp : p ∈ os) : p.1 < V.heap.size := (Array.getElem?_eq_some_iff.1 (h.held p hp)).1
theorem Sd.turned {S : Nat → Prop} (h : Sd w0 nb L R os V) (hk : Keeps S V V') (h1 : ∀ k, S k → w0.heap.size ≤ k) (h2 : ∀ k, S k → (∃ q ∈ os, q.1 = k) ∨ V.heap.size ≤ k) (os' : List (Nat × Obj))
    (h4 : ∀ p ∈ os', (p ∈ os ∧ ¬ S p.1) ∨ (V'.heap[p.1]? = some p.2 ∧ ((∃ q ∈ os, q.1 = p.1) ∨ V.heap.size ≤ p.1))) : Sd w0 nb L R os' V' := by
  obtain ⟨S1, S2, a1, a2, a3, a4, a5, a6⟩ := h.ex
  have hsz := hk.size
  have n1 : ∀ k, S1 k → ¬ S k := fun k hs hk => by
    rcases h2 k hk with ⟨q, hq, rfl⟩ | h3
    · exact (a6 q hq).1 hs
    · have := (a1 k hs).2; omega
  have n2 : ∀ k, S2 k → ¬ S k := fun k hs hk => by
    rcases h2 k hk with ⟨q, hq, rfl⟩ | h3
    · exact (a6 q hq).2 hs
    · have := (a2 k hs).2; omega
  refine ⟨⟨S1, S2, fun b hb => ⟨(a1 b hb).1, by have := (a1 b hb).2; omega⟩, fun b hb => ⟨(a2 b hb).1, by have := (a2 b hb).2; omega⟩, a3, a4.kept (fun k hkk hs => hk.block k hkk (n1 k hs)), a5.kept (fun k hkk hs => hk.block k hkk (n2 k hs)), fun p hp => ?_⟩,
    fun p hp => ?_, h.low.trans (hk.below h1 h.low.size), h.tb⟩
  · rcases h4 p hp with ⟨h5, _⟩ | ⟨_, ⟨q, hq, e⟩ | h5⟩
    · exact a6 p h5
    · rw [← e]; exact a6 q hq
    · exact ⟨fun hs => by have := (a1 _ hs).2; omega, fun hs => by have := (a2 _ hs).2; omega⟩
  · rcases h4 p hp with ⟨h5, h6⟩ | ⟨h5, _⟩
    · exact (hk.block _ (h.lt h5) h6).trans (h.held p h5)
    · exact h5
theorem keeps_below {V V' : World} (hb : Below V.heap.size V V') : Keeps (fun _ => False) V V' := ⟨hb.os, hb.tape, hb.output, hb.size, fun k hk _ => hb.block k hk⟩
theorem Sd.below (h : Sd w0 nb L R os V) (hb : Below V.heap.size V V') : Sd w0 nb L R os V' := h.turned (keeps_below hb) (fun _ e => e.elim) (fun _ e => e.elim) os (fun p hp => .inl ⟨hp, id⟩)
theorem Sd.drewN (h : Sd w0 nb L R os V) (q : Nat) : Sd w0 nb L R os (V.drewN q) := h.below (below_drewN' (Below.refl _ V) q)
theorem Sd.drew (h : Sd w0 nb L R os V) : Sd w0 nb L R os V.drew := h.drewN 1
theorem Sd.alloc (h : Sd w0 nb L R os V) (o : Obj) : Sd w0 nb L R os (V.alloc o) := h.below ((Below.refl _ V).alloc (Nat.le_refl _) o)
theorem Sd.fresh {g : Nat} {o : Obj} (h : Sd w0 nb L R os V) (hb : Below V.heap.size V V') (hg : V'.heap[g]? = some o) (hge : V.heap.size ≤ g) : Sd w0 nb L R ((g, o) :: os) V' :=
  h.turned (keeps_below hb) (fun _ e => e.elim) (fun _ e => e.elim) _ (fun p hp => by
    rcases List.mem_cons.1 hp with rfl | hp
    · exact .inr ⟨hg, .inr hge⟩
    · exact .inl ⟨hp, id⟩)
theorem Sd.box (h : Sd w0 nb L R os V) (cs : Array Value) (t : TypeId) {k : Nat} (hk : k = V.heap.size) : Sd w0 nb L R ((k, .cells cs t (0, 0)) :: os) (V.alloc (.cells cs t)) := by
  subst hk
  exact h.fresh ((Below.refl _ V).alloc (Nat.le_refl _) _) (World.alloc_heap_new V _) (Nat.le_refl _)
theorem Sd.sub {os' : List (Nat × Obj)} (h : Sd w0 nb L R os V) (hs : ∀ p ∈ os', p ∈ os) : Sd w0 nb L R os' V := by
  obtain ⟨S1, S2, a1, a2, a3, a4, a5, a6⟩ := h.ex
  exact ⟨⟨S1, S2, a1, a2, a3, a4, a5, fun p hp => a6 p (hs p hp)⟩, fun p hp => h.held p (hs p hp), h.low, h.tb⟩
theorem Sd.cells {b : Nat} {C : Array Value} {t : TypeId} (h : Sd w0 nb L R os V) (hp : (b, Obj.cells C t (0, 0)) ∈ os) (j : Nat) : V.cell? ⟨b, j, none⟩ = C[j]? ∧ V.frozen? ⟨b, j, none⟩ = false := cells_of (h.held _ hp) j
theorem heap_set_same (V : World) (b j : Nat) (C : Array Value) (t : TypeId) (v : Value) (h : V.heap[b]? = some (.cells C t (0, 0))) : (V.setCell ⟨b, j, none⟩ v).heap[b]? = some (.cells (C.setIfInBounds j v) t (0, 0)) := by
  simp [World.setCell, Array.getElem?_modify, h]
theorem keeps_set (V : World) (b j : Nat) (v : Value) : Keeps (fun k => k = b) V (V.setCell ⟨b, j, none⟩ v) :=
  ⟨rfl, rfl, rfl, by simp [World.setCell], fun k hk hn => Below.heap_setCell _ _ _ _ (fun e => hn e)⟩
theorem Sd.store {b j : Nat} {C : Array Value} {t : TypeId} {v : Value} (h : Sd w0 nb L R ((b, Obj.cells C t (0, 0)) :: os) V) (ho : ∀ p ∈ os, p.1 ≠ b) (hb : w0.heap.size ≤ b) :
    Sd w0 nb L R ((b, Obj.cells (C.setIfInBounds j v) t (0, 0)) :: os) (V.setCell ⟨b, j, none⟩ v) :=
  h.turned (keeps_set V b j v) (fun k e => by rw [e]; exact hb) (fun k e => .inl ⟨_, List.mem_cons_self, e.symm⟩) _ (fun p hp => by
    rcases List.mem_cons.1 hp with rfl | hp
    · exact .inr ⟨heap_set_same V b j C t v (h.held (b, Obj.cells C t (0, 0)) (by simp)), .inl ⟨_, List.mem_cons_self, rfl⟩⟩
    · exact .inl ⟨List.mem_cons_of_mem _ hp, ho p hp⟩)

theorem mint_s (h : Sd w0 nb L R os V) (p : Int) (A : Option Addr) (n c : Nat) (zs : List Int) (hp : 1 ≤ p ∧ p ≤ 2147483647) (hnc : n ≤ c) (hc : c ≤ maxLen) (hb : Bts V A n zs) (hL : L.length ≤ 1000000) :
    Calls Tryd.prog 24 #[.pointer (some ⟨nb, 0, none⟩), .int .i64 p, .slice A n c] V fun e w' => e = .returned (.tuple #[.int .u64 (tagL L (p, zs) : Nat), .int .i64 0]) ∧ Sd w0 nb (mintL L (p, zs)) R os w' := by
  obtain ⟨S1, S2, a1, a2, a3, a4, a5, a6⟩ := h.ex
  refine (mint_any nb S1 L p A n c zs V a4 hp hnc hc hb hL).mono fun e w' h' => ⟨h'.1, ?_⟩
  have hsz := h'.2.2.size
  have hl := h.low.size
  refine ⟨⟨fun k => (S1 k ∨ V.heap.size ≤ k) ∧ k < w'.heap.size, S2, fun b hb => ⟨hb.1.elim (fun e => (a1 b e).1) (fun e => by omega), hb.2⟩, fun b hb => ⟨(a2 b hb).1, by have := (a2 b hb).2; omega⟩, fun b hb hb2 => hb.1.elim (fun e => a3 b e hb2) (fun e => by have := (a2 b hb2).2; omega), h'.2.1.trim,
    a5.kept (fun k hk hs2 => h'.2.2.block k hk (fun hs1 => a3 k hs1 hs2)), fun p hp => ⟨fun hs => hs.1.elim (a6 p hp).1 (fun e => by have := h.lt hp; omega), (a6 p hp).2⟩⟩,
    fun p hp => (h'.2.2.block _ (h.lt hp) (a6 p hp).1).trans (h.held p hp), h.low.trans (h'.2.2.below (fun k hk => (a1 k hk).1) hl), h.tb⟩
theorem mint_bad (h : Sd w0 nb L R os V) (p : Int) (A : Option Addr) (n c : Nat) (hp : ¬ (1 ≤ p ∧ p ≤ 2147483647)) :
    Calls Tryd.prog 24 #[.pointer (some ⟨nb, 0, none⟩), .int .i64 p, .slice A n c] V fun e w' => e = .returned (.tuple #[.int .u64 0, .int .i64 1]) ∧ Sd w0 nb L R os w' :=
  (mint_arg nb p A n c V hp).mono fun e w' h' => ⟨h'.1, h'.2 ▸ h⟩
theorem check_s (h : Sd w0 nb L R os V) (p : Int) (A : Option Addr) (n c T : Nat) (zs : List Int) (r : Int) (hL : L.length ≤ 1000000) (hb : Bts V A n zs) (hT : T < 18446744073709551616) (hr : checkL L (p, zs) T = r) :
    Calls Tryd.prog 41 #[.pointer (some ⟨nb, 0, none⟩), .int .i64 p, .slice A n c, .int .u64 (T : Int)] V fun e w' => e = .returned (.int .i64 r) ∧ Below V.heap.size V w' := by
  subst hr
  obtain ⟨S1, S2, a1, a2, a3, a4, a5, a6⟩ := h.ex
  refine (check_any nb S1 L p A n c T zs V a4 hL hb hT).mono fun e w' h' => ⟨h'.1, drewN_below h'.2⟩
theorem count_s (h : Sd w0 nb L R os V) (hL : L.length ≤ 1000000) : Calls Tryd.prog 27 #[.pointer (some ⟨nb, 0, none⟩)] V fun e w' => e = .returned (.int .i64 (L.length : Nat)) ∧ V = w' := by
  obtain ⟨S1, S2, a1, a2, a3, a4, a5, a6⟩ := h.ex
  exact count_any nb S1 L V a4 hL
theorem Sd.start {w V : World} {nb : Nat} (hT : Tb w) (h : Nota V (w.heap.size ≤ ·) nb []) (hb : Below w.heap.size w V) : Sd w nb [] none [] V :=
  ⟨⟨fun k => w.heap.size ≤ k ∧ k < V.heap.size, fun _ => False, fun b hb => hb, fun b hb => hb.elim, fun b _ e => e, h.trim, trivial, by simp⟩, by simp, hb, hT⟩
theorem new_s (w : World) (hT : Tb w) : Calls Tryd.prog 13 #[] w fun e w' => ∃ nb, e = .returned (.pointer (some ⟨nb, 0, none⟩)) ∧ Sd w nb [] none [] w' :=
  (new_any w).mono fun e w' h => by
    obtain ⟨nb, h1, h2, h3⟩ := h
    exact ⟨nb, h1, .start hT h2 h3⟩
end
section
variable {w0 V V' : World} {nb rb : Nat} {L L2 : List Item} {os : List (Nat × Obj)}
theorem rmint_s (h : Sd w0 nb L (some (rb, L2)) os V) (p : Int) (A : Option Addr) (n c : Nat) (zs : List Int) (hp : 1 ≤ p ∧ p ≤ 2147483647) (hnc : n ≤ c) (hc : c ≤ maxLen) (hb : Bts V A n zs) (hnil : A = none → n = 0 ∧ c = 0) (hn : n ≤ 1000000) (hL : L2.length ≤ 1000000) :
    Calls Tryd.prog 25 #[.pointer (some ⟨rb, 0, none⟩), .int .i64 p, .slice A n c] V fun e w' => e = .returned (.tuple #[.int .u64 (tagL L2 (p, zs) : Nat), .int .i64 0]) ∧ Sd w0 nb L (some (rb, mintL L2 (p, zs))) os w' := by
  obtain ⟨S1, S2, a1, a2, a3, a4, a5, a6⟩ := h.ex
  refine (rmint_ok rb S2 L2 p A n c zs V a5 hp hL hnc hc hb hnil hn).mono fun e w' h' => ⟨h'.1, ?_⟩
  have hsz := h'.2.2.size
  have hl := h.low.size
  refine ⟨⟨S1, fun k => (S2 k ∨ V.heap.size ≤ k) ∧ k < w'.heap.size, fun b hb => ⟨(a1 b hb).1, by have := (a1 b hb).2; omega⟩, fun b hb => ⟨hb.1.elim (fun e => (a2 b e).1) (fun e => by omega), hb.2⟩, fun b hb2 hb => hb.1.elim (fun e => a3 b hb2 e) (fun e => by have := (a1 b hb2).2; omega),
    a4.kept (fun k hk hs1 => h'.2.2.block k hk (fun hs2 => a3 k hs1 hs2)), h'.2.1.trim, fun p hp => ⟨(a6 p hp).1, fun hs => hs.1.elim (a6 p hp).2 (fun e => by have := h.lt hp; omega)⟩⟩,
    fun p hp => (h'.2.2.block _ (h.lt hp) (a6 p hp).2).trans (h.held p hp), h.low.trans (h'.2.2.below (fun k hk => (a2 k hk).1) hl), h.tb⟩
theorem rmint_bad (h : Sd w0 nb L (some (rb, L2)) os V) (p : Int) (A : Option Addr) (n c : Nat) (hp : ¬ (1 ≤ p ∧ p ≤ 2147483647)) :
    Calls Tryd.prog 25 #[.pointer (some ⟨rb, 0, none⟩), .int .i64 p, .slice A n c] V fun e w' => e = .returned (.tuple #[.int .u64 0, .int .i64 1]) ∧ Sd w0 nb L (some (rb, L2)) os w' :=
  (rmint_arg rb p A n c V hp).mono fun e w' h' => ⟨h'.1, h'.2 ▸ h⟩
theorem rcheck_s (h : Sd w0 nb L (some (rb, L2)) os V) (p : Int) (A : Option Addr) (n c T : Nat) (zs : List Int) (r : Int) (hL : L2.length ≤ 1000000) (hb : Bts V A n zs) (hT : T < 18446744073709551616) (hr : checkL L2 (p, zs) T = r) :
    Calls Tryd.prog 43 #[.pointer (some ⟨rb, 0, none⟩), .int .i64 p, .slice A n c, .int .u64 (T : Int)] V fun e w' => e = .returned (.int .i64 r) ∧ Below V.heap.size V w' := by
  subst hr
  obtain ⟨S1, S2, a1, a2, a3, a4, a5, a6⟩ := h.ex
  refine (rcheck_any rb S2 L2 p A n c T zs V a5 hL hb hT).mono fun e w' h' => ⟨h'.1, drewN_below h'.2⟩
/-- the document's notary is laid -/
theorem Sd.ref (h : Sd w0 nb L none os V) {k : Nat} (hk : k = V.heap.size) : Sd w0 nb L (some (k, [])) os (V.alloc (.cells #[.slice none 0 0] 39)) := by
  subst hk
  have h2 := h.alloc (.cells #[.slice none 0 0] 39)
  obtain ⟨S1, S2, a1, a2, a3, a4, a5, a6⟩ := h.ex
  have hl := h.low.size
  refine ⟨⟨S1, fun k => k = V.heap.size, fun b hb => ⟨(a1 b hb).1, by have := (a1 b hb).2; simp; omega⟩, fun b hb => ⟨by omega, by simp; omega⟩, fun b hb e => by have := (a1 b hb).2; omega, a4.alloc _, ?_, fun p hp => ⟨(a6 p hp).1, fun e => by have := h.lt hp; omega⟩⟩, h2.held, h2.low, h.tb⟩
  exact ⟨.slice none 0 0, [], rfl, by simp [Value.ownBlock], (MapKept.heap_alloc V _).1, World.ownsRow_nil _ _ _ _, by simp⟩
theorem Sd.form (h : Sd w0 nb L (some (rb, L2)) os V) : rb < V.heap.size ∧ ∃ A c, V.cell? ⟨rb, 0, none⟩ = some (.slice A L2.length c) := by
  obtain ⟨S1, S2, a1, a2, a3, a4, a5, a6⟩ := h.ex
  have a5' : RefN V S2 rb L2 := a5
  obtain ⟨A, c, hc, _⟩ := a5'.form
  exact ⟨a5'.size, A, c, hc⟩
end
end Go.Proofs.YtdiilgedicfekaaDoor
