/-
  The contract of embrasure/wire's Bytes. Conditions: the table is as the program's text lays it.
-/
import Derived.Test.YtebgfiibcmnfnaaDoorRMay
namespace Go.Proofs.YtebgfiibcmnfnaaDoor
open Go.RowKit
set_option linter.unusedVariables false

theorem bytesA_bd {h p : Int} (h0 : 0 ≤ h) (h1 : h < 4294967296) (hm : mayA h p = true) : ∀ z ∈ bytesA h p, 0 ≤ z ∧ z ≤ 255 := by
  have hp : h ≠ 0 ∧ 1 ≤ p ∧ p ≤ 65535 := by simpa [mayA, and_assoc] using hm
  intro z hz
  simp [bytesA] at hz
  omega
/-- a row of bytes, in a block of its own -/
theorem bts_block {w : World} {g : Nat} {zs : List Int} (hg : w.heap[g]? = some (.cells (zs.map (Value.int .u8)).toArray 5 (0, 0))) (hb : ∀ z ∈ zs, 0 ≤ z ∧ z ≤ 255) : Bts w (some ⟨g, 0, none⟩) zs.length zs := by
  refine ⟨rfl, hb, fun _ => ⟨g, 0, rfl, (Array.getElem?_eq_some_iff.1 hg).1, fun j hj => ?_⟩⟩
  rw [Nat.zero_add, (cells_of hg j).1]
  simp [List.getElem?_eq_getElem hj, List.getD]
theorem addr_row (h p : Int) (w : World) (h0 : 0 ≤ h) (h1 : h < 4294967296) (hm : mayA h p = true) : Calls Tryd.prog 22 #[.agg #[.int .u32 h, .int .i64 p]] w fun e w' => ∃ g, e = .returned (.slice (some ⟨g, 0, none⟩) 6 6) ∧ Bts w' (some ⟨g, 0, none⟩) 6 (bytesA h p) ∧ Below w.heap.size w w' := by
  refine (bytes_ok h p w h0 h1 hm).mono ?_
  rintro e w' ⟨g, rfl, hg, _, hb⟩
  exact ⟨g, rfl, bts_block hg (bytesA_bd h0 h1 hm), hb⟩
theorem put_row (v : Nat) (hv : v < 18446744073709551616) (w : World) : Calls Tryd.prog 21 #[.int .u64 (v : Int)] w fun e w' => ∃ A c, e = .returned (.slice A (Uv.enc v).length c) ∧ w'.ownsRow w.heap.size 5 1 (.slice A (Uv.enc v).length c) (Uv.enc v).length (B (Uv.enc v)) ∧ Bts w' A (Uv.enc v).length (Uv.enc v) ∧ (A = none → (Uv.enc v).length = 0 ∧ c = 0) ∧ Below w.heap.size w w' := by
  refine (put_any v w hv).mono ?_
  rintro e w' ⟨r, rfl, ho, hb⟩
  obtain ⟨A, c, rfl, _, _, hbt⟩ := own_form ho (Uv.enc_mem v)
  exact ⟨A, c, rfl, ho, hbt, own_nil ho, hb⟩
theorem frame_row (v : Value) (zs : List Int) (w : World) (h : Tx w v zs) (hn : zs.length ≤ 1000) : Calls Tryd.prog 23 #[v] w fun e w' => ∃ A c, e = .returned (.tuple #[.slice A (Fr.put zs).length c, .int .i64 0]) ∧ Bts w' A (Fr.put zs).length (Fr.put zs) ∧ (A = none → (Fr.put zs).length = 0 ∧ c = 0) ∧ Below w.heap.size w w' := by
  obtain ⟨A, c, rfl, hb, h1, h2, h3⟩ := h
  refine (fput_ok A zs.length c zs w hb h3 (by omega)).mono ?_
  rintro e w' ⟨r, rfl, ho, hbe⟩
  obtain ⟨A', c', rfl, _, _, hbt⟩ := own_form ho (by
    unfold Fr.put
    exact mem_append_bd (Uv.enc_mem _) hb.bd)
  exact ⟨A', c', rfl, hbt, own_nil ho, hbe⟩
theorem flat_take_succ (vs : List Nat) (k : Nat) (hk : k < vs.length) : Uv.flat (vs.take (k + 1)) = Uv.flat (vs.take k) ++ Uv.enc (vs.getD k 0) := by
  rw [List.take_add_one, List.getElem?_eq_getElem hk, Wi.flat_append]
  simp [Uv.flat, List.getD, hk]
theorem aflat_take_succ (al : List (Int × Int)) (k : Nat) (hk : k < al.length) : Wi.aflat (al.take (k + 1)) = Wi.aflat (al.take k) ++ bytesA (al.getD k (0, 0)).1 (al.getD k (0, 0)).2 := by
  rw [List.take_add_one, List.getElem?_eq_getElem hk, Wi.aflat_append]
  simp [Wi.aflat, List.getD, hk]

theorem flat_le (vs : List Nat) : (Uv.flat vs).length ≤ 9 * vs.length := by
  induction vs with
  | nil => simp [Uv.flat]
  | cons v t ih =>
    have h9 : (Uv.enc v).length ≤ 9 := by
      by_cases h : v < 9223372036854775808
      · rw [Uv.enc_length v h]; exact Uv.len_small v h
      · rw [Uv.enc_big v h]; simp
    simp [Uv.flat] at ih ⊢
    omega
theorem own_below' {w w' : World} {base n : Nat} {e : TypeId} {v : Value} {xs : List Value} (h : w.ownsRow base e 1 v n xs) (hb : Below w.heap.size w w') : w'.ownsRow base e 1 v n xs := by
  refine ⟨h.1, ?_⟩
  rcases h.2 with hn | ⟨g, cap, cur, rfl, h1, hgg, rest⟩
  · exact .inl hn
  · exact .inr ⟨g, cap, cur, rfl, h1, (hb.block g (Array.getElem?_eq_some_iff.1 hgg).1).trans hgg, rest⟩
def RelB (w1 : World) (zs : List Int) (v : Value) (wr : World) : Prop := wr.ownsRow w1.heap.size 5 1 v zs.length (B zs) ∧ Below w1.heap.size w1 wr

set_option maxRecDepth 100000 in
set_option maxHeartbeats 4000000 in
theorem bytes_msg_no (m : Wi.Msg) (x1 x2 x3 : Value) (w : World) (hv : MsgV w x1 x2 x3 m) (hT : Tb w) (hm : Wi.may m = false) :
    Calls Tryd.prog 11 #[.agg #[.int .i64 m.kind, x1, x2, x3]] w fun e w' => e = .returned (.slice none 0 0) ∧ Below w.heap.size w w' := by
  have C1 : Hid (∀ W, Below w.heap.size w W → Calls Tryd.prog 12 #[.agg #[.int .i64 m.kind, x1, x2, x3]] W fun e w' => e = .returned (.bool false) ∧ Below W.heap.size W w') := Lib.hid (fun W hb => by
    have := may_msg m x1 x2 x3 W (hv.below hb) (hT.below hb)
    rw [hm] at this
    exact this)
  clear hv hT hm
  go_enter Tryd.func11, Tryd.ntmps11
  go_wp2_with fail
  have HB0 : Hid (Below w.heap.size w (w.alloc (.cells #[.int .i64 m.kind, x1, x2, x3] 26))) := Lib.hid ((Below.refl _ _).alloc (Nat.le_refl _) _)
  refine (C1.out _ HB0.out).mono ?_
  rintro e w1 ⟨rfl, hb1⟩
  have HB1 := Lib.hid (HB0.out.trans (hb1.mono HB0.out.size)); clear hb1
  go_wp2
  go_ret
  exact ⟨rfl, HB1.out⟩

set_option maxRecDepth 100000 in
set_option maxHeartbeats 4000000 in
theorem bytes_msg_ok (m : Wi.Msg) (x1 x2 x3 : Value) (w : World) (hv : MsgV w x1 x2 x3 m) (hT : Tb w) (hm : Wi.may m = true) :
    Calls Tryd.prog 11 #[.agg #[.int .i64 m.kind, x1, x2, x3]] w fun e w' => ∃ v, e = .returned v ∧ w'.ownsRow w.heap.size 5 1 v (Wi.bytes m).length (B (Wi.bytes m)) ∧ Below w.heap.size w w' := by
  have C1 : Hid (∀ W, Below w.heap.size w W → Calls Tryd.prog 12 #[.agg #[.int .i64 m.kind, x1, x2, x3]] W fun e w' => e = .returned (.bool true) ∧ Below W.heap.size W w') := Lib.hid (fun W hb => by
    have := may_msg m x1 x2 x3 W (hv.below hb) (hT.below hb)
    rw [hm] at this
    exact this)
  have HV := Lib.hid hv
  obtain ⟨m1, m2, m3, m4, m5⟩ := Wi.may_iff.1 hm
  have hkb := (Wi.numsOf_bd m.kind).2
  obtain ⟨kn, hkn⟩ : ∃ kn : Nat, m.kind = (kn : Int) := ⟨m.kind.toNat, by omega⟩
  have hk18 : kn ≤ 18 := by omega
  have C2 := Lib.hid (put_row kn (by omega))
  have C3 := Lib.hid (put_row m.addrs.length (by omega))
  have C4 : Hid (∀ W, Below w.heap.size w W → Calls Tryd.prog 23 #[x3] W fun e w' => ∃ A c, e = .returned (.tuple #[.slice A (Fr.put m.body).length c, .int .i64 0]) ∧ Bts w' A (Fr.put m.body).length (Fr.put m.body) ∧ (A = none → (Fr.put m.body).length = 0 ∧ c = 0) ∧ Below W.heap.size W w') := Lib.hid (fun W hb => frame_row x3 m.body W (hv.2.2.1.below hb) m3)
  have M4 := Lib.hid m4; have M5 := Lib.hid m5
  have HBY : Hid (Wi.bytes m = ((Uv.enc kn ++ Uv.flat m.nums) ++ Uv.enc m.addrs.length ++ Wi.aflat m.addrs) ++ Fr.put m.body) := Lib.hid (by unfold Wi.bytes; rw [hkn, Int.toNat_natCast]; simp [List.append_assoc])
  obtain ⟨⟨A1, c1, rfl, n1, n2, n3, n4, n5⟩, ⟨A2, c2, rfl, a1, a2, a3, a4, a5⟩, hx3, k0, k1⟩ := hv
  have N5 := Lib.hid n5; have A5 := Lib.hid a5; have A4 := Lib.hid a4; have N4 := Lib.hid n4
  have hnl6 : m.nums.length ≤ 6 := by omega
  have he9 : ∀ v, (Uv.enc v).length ≤ 9 := fun v => by
    by_cases h : v < 9223372036854775808
    · rw [Uv.enc_length v h]; exact Uv.len_small v h
    · rw [Uv.enc_big v h]; simp
  have HE9 := Lib.hid he9
  unfold maxLen at n2 a2
  rw [hkn] at C1 ⊢
  clear hT hm n3 n4 n5 a3 a4 a5 hx3 m1 m4 m5 hkb hkn k0 k1 he9
  go_enter Tryd.func11, Tryd.ntmps11
  go_wp2_with fail
  have HX0 := Lib.hid (Mx.new w (kn : Int) (.slice A1 m.nums.length c1) (.slice A2 m.addrs.length c2) x3)
  have HB0 : Hid (Below w.heap.size w (w.alloc (.cells #[.int .i64 (kn : Int), .slice A1 m.nums.length c1, .slice A2 m.addrs.length c2, x3] 26))) := Lib.hid ((Below.refl _ _).alloc (Nat.le_refl _) _)
  generalize hW0 : w.alloc (.cells #[.int .i64 (kn : Int), .slice A1 m.nums.length c1, .slice A2 m.addrs.length c2, x3] 26) = W0 at *
  clear hW0
  refine (C1.out _ HB0.out).mono ?_
  rintro e w1 ⟨rfl, hb1⟩
  have HB1 := Lib.hid (HB0.out.trans (hb1.mono HB0.out.size))
  have HX1 := Lib.hid (HX0.out.call hb1)
  clear hb1 HX0 HB0 C1
  obtain ⟨y0, y1, y2, y3⟩ := HX1.out
  have HS1 := HB1.out.size
  go_wp2_with (go_at_call 21; refine (C2.out _).mono ?_; rintro e w2 ⟨A3, c3, rfl, ho2, _, _, hb2⟩; have HO2 := Lib.hid ho2; have HB2 := Lib.hid hb2; obtain ⟨z0, z1, z2, z3⟩ := HX1.out.call hb2; clear ho2 hb2)
  clear y0 y1 y2 y3 z0 z2 z3
  go_loopw [20, 3] (fun i v wr => ∃ k : Nat, k ≤ m.nums.length ∧ i = .int .i64 (k : Int) ∧ RelB w1 (Uv.enc kn ++ Uv.flat (m.nums.take k)) v wr) (fun i _ _ => m.nums.length - (intOf i).toNat)
  case atStart => exact ⟨0, Nat.zero_le _, rfl, by simpa [Uv.flat] using HO2.out, HB2.out⟩
  case round =>
    clear HO2 HB2 z1
    obtain ⟨k, hk, rfl, ho, hb⟩ := hrel
    have HO := Lib.hid ho; have HB := Lib.hid hb; clear ho hb
    have HE := HE9.out kn
    by_cases hlt : k < m.nums.length
    · obtain ⟨b, off, rfl, hc⟩ := N5.out (by omega)
      have hcell := ((HB1.out.trans (HB.out.mono HS1)).cell (p := ⟨b, off + k, none⟩) (lt_of_cell (hc k hlt))).trans (hc k hlt)
      have hvb := N4.out (m.nums.getD k 0) (by simp [List.getD, hlt])
      have HF := Lib.hid (flat_take_succ m.nums k hlt)
      have hv9 := HE9.out (m.nums.getD k 0)
      have hfl := flat_le (m.nums.take k)
      have hkl : (m.nums.take k).length ≤ 6 := by simp; omega
      have hjl : (Uv.enc kn ++ Uv.flat (m.nums.take k)).length ≤ 63 := by rw [List.length_append]; omega
      have HJ : Hid (Uv.enc kn ++ Uv.flat (m.nums.take (k + 1)) = (Uv.enc kn ++ Uv.flat (m.nums.take k)) ++ Uv.enc (m.nums.getD k 0)) := Lib.hid (by rw [HF.out, List.append_assoc])
      clear hc HF hfl hkl
      have CP := Lib.hid (put_row (m.nums.getD k 0) hvb)
      generalize m.nums.getD k 0 = v at *
      generalize Uv.enc kn ++ Uv.flat (m.nums.take k) = js at *
      go_wp2_with (first
        | (go_at_call 21; refine (CP.out _).mono ?_; rintro e w3 ⟨A9, c9, rfl, _, hbt, hn, hb3⟩; have HBT := Lib.hid hbt; have HN := Lib.hid hn; have HB3 := Lib.hid hb3; clear hbt hn hb3)
        | (at_builtin; refine wpList_append_bts rfl (.tmp 24) (.tmp 26) rfl w1.heap.size _ js.length js rfl (own_below' HO.out HB3.out) A9 (Uv.enc v).length c9 (Uv.enc v) rfl HBT.out HN.out (by omega) (by have := HB.out.size; have := HB3.out.size; omega) ?_; intro v5 w5 ho5 hg5; have HO5 := Lib.hid ho5; have HG5 := Lib.hid (own_grown_below (own_below' HO.out HB3.out) (HB.out.trans (HB3.out.mono HB.out.size)) (Nat.le_refl _) hg5); clear ho5 hg5))
      go_roundw
      case rel => exact ⟨k + 1, by omega, by go_num, by unfold RelB; rw [HJ.out, List.length_append]; exact ⟨HO5.out, HG5.out⟩⟩
      case measure => simp [intOf]; omega
    · obtain rfl : k = m.nums.length := by omega
      have hft : m.nums.take m.nums.length = m.nums := List.take_length
      rw [hft] at HO
      have hfl := flat_le m.nums
      have hjl : (Uv.enc kn ++ Uv.flat m.nums).length ≤ 63 := by rw [List.length_append]; omega
      have HE2 := HE9.out m.addrs.length
      clear hft hfl hlt hk
      generalize Uv.enc kn ++ Uv.flat m.nums = js at *
      obtain ⟨x0, x1, x2, x3⟩ := HX1.out.call HB.out
      clear x0 x1 x3
      go_wp2_with (first
        | (go_at_call 21; refine (C3.out _).mono ?_; rintro e w3 ⟨A9, c9, rfl, _, hbt, hn, hb3⟩; have HBT := Lib.hid hbt; have HN := Lib.hid hn; have HB3 := Lib.hid hb3; clear hbt hn hb3)
        | (at_builtin; refine wpList_append_bts rfl (.tmp 29) (.tmp 34) rfl w1.heap.size _ js.length js rfl (own_below' HO.out HB3.out) A9 (Uv.enc m.addrs.length).length c9 (Uv.enc m.addrs.length) rfl HBT.out HN.out (by omega) (by have := HB.out.size; have := HB3.out.size; omega) ?_; intro v5 w5 ho5 hg5; have HO5 := Lib.hid ho5; have HG5 := Lib.hid (own_grown_below (own_below' HO.out HB3.out) (HB.out.trans (HB3.out.mono HB.out.size)) (Nat.le_refl _) hg5); clear ho5 hg5; obtain ⟨u0, u1, u2, u3⟩ := HX1.out.call HG5.out; clear u0 u1 u3))
      rw [← List.length_append] at HO5
      have hjl2 : (js ++ Uv.enc m.addrs.length).length ≤ 72 := by rw [List.length_append]; omega
      clear HE2 hjl
      generalize js ++ Uv.enc m.addrs.length = ks at *
      go_loopw [39, 3] (fun i v wr => ∃ j : Nat, j ≤ m.addrs.length ∧ i = .int .i64 (j : Int) ∧ RelB w1 (ks ++ Wi.aflat (m.addrs.take j)) v wr) (fun i _ _ => m.addrs.length - (intOf i).toNat)
      case atStart => exact ⟨0, Nat.zero_le _, rfl, by simpa [Wi.aflat] using HO5.out, HG5.out⟩
      case round =>
        clear HO5 HG5 HO HB
        obtain ⟨j, hj, rfl, ho, hb⟩ := hrel
        have HO := Lib.hid ho; have HB := Lib.hid hb; clear ho hb
        by_cases hlt : j < m.addrs.length
        · obtain ⟨b, off, rfl, hc⟩ := A5.out (by omega)
          have hcell0 := ((HB1.out.trans (HB.out.mono HS1)).cell (p := ⟨b, off + j * 2, none⟩) (lt_of_cell (hc j hlt).1)).trans (hc j hlt).1
          have hcell1 := ((HB1.out.trans (HB.out.mono HS1)).cell (p := ⟨b, off + j * 2 + 1, none⟩) (lt_of_cell (hc j hlt).2)).trans (hc j hlt).2
          have hab := A4.out (m.addrs.getD j (0, 0)) (by simp [List.getD, hlt])
          have hma := M5.out (m.addrs.getD j (0, 0)) (by simp [List.getD, hlt])
          have HF := Lib.hid (aflat_take_succ m.addrs j hlt)
          have hjl : (ks ++ Wi.aflat (m.addrs.take j)).length ≤ 200 := by rw [List.length_append, Wi.aflat_len]; simp; omega
          have HJ : Hid (ks ++ Wi.aflat (m.addrs.take (j + 1)) = (ks ++ Wi.aflat (m.addrs.take j)) ++ bytesA (m.addrs.getD j (0, 0)).1 (m.addrs.getD j (0, 0)).2) := Lib.hid (by rw [HF.out, List.append_assoc])
          clear hc HF
          generalize ks ++ Wi.aflat (m.addrs.take j) = js at *
          obtain ⟨⟨h, p⟩, hvv⟩ : ∃ v, m.addrs.getD j (0, 0) = v := ⟨_, rfl⟩
          rw [hvv] at hcell0 hcell1 hab hma HJ
          have CA := Lib.hid (fun W => addr_row h p W hab.1 hab.2 hma)
          have hl6 : (bytesA h p).length = 6 := by simp [bytesA]
          have HJ2 : Hid ((js ++ bytesA h p).length = js.length + 6) := Lib.hid (by rw [List.length_append, hl6])
          clear hvv hab hma hl6
          go_wp2_with (first
            | (go_at_call 22; refine (CA.out _).mono ?_; rintro e w3 ⟨g, rfl, hbt, hb3⟩; have HBT := Lib.hid hbt; have HB3 := Lib.hid hb3; clear hbt hb3)
            | (at_builtin; refine wpList_append_bts rfl (.tmp 43) (.tmp 45) rfl w1.heap.size _ js.length js rfl (own_below' (HO.out.alloc _) HB3.out) (some ⟨g, 0, none⟩) 6 6 (bytesA h p) rfl HBT.out (by intro hh; cases hh) (by omega) (by have := HB.out.size; have := HB3.out.size; simp at this; omega) ?_; intro v5 w5 ho5 hg5; have HO5 := Lib.hid ho5; have HG5 := Lib.hid (own_grown_below (own_below' (HO.out.alloc _) HB3.out) ((HB.out.alloc HB.out.size _).trans (HB3.out.mono (by have := HB.out.size; simp; omega))) (Nat.le_refl _) hg5); clear ho5 hg5))
          go_roundw
          case rel => exact ⟨j + 1, by omega, by go_num, by unfold RelB; rw [HJ.out, HJ2.out]; exact ⟨HO5.out, HG5.out⟩⟩
          case measure => simp [intOf]; omega
        · obtain rfl : j = m.addrs.length := by omega
          have hft : m.addrs.take m.addrs.length = m.addrs := List.take_length
          rw [hft] at HO
          have hjl : (ks ++ Wi.aflat m.addrs).length ≤ 200 := by rw [List.length_append, Wi.aflat_len]; omega
          have HPL := (Fr.put_le m.body (by omega)).1
          clear hft hlt hj
          generalize ks ++ Wi.aflat m.addrs = js at *
          obtain ⟨x0, x1, x2, x3⟩ := HX1.out.call HB.out
          clear x0 x1 x2
          have C5 := Lib.hid (C4.out wr (HB1.out.trans (HB.out.mono HS1)))
          have HL : Hid ((Wi.bytes m).length = js.length + (Fr.put m.body).length) := Lib.hid (by rw [HBY.out, List.length_append])
          generalize Fr.put m.body = ps at *
          go_wp2_with (first
            | (go_at_call 23; refine C5.out.mono ?_; rintro e w3 ⟨A9, c9, rfl, hbt, hn, hb3⟩; have HBT := Lib.hid hbt; have HN := Lib.hid hn; have HB3 := Lib.hid hb3; clear hbt hn hb3)
            | (at_builtin; refine wpList_append_bts rfl (.tmp 54) (.tmp 55) rfl w1.heap.size _ js.length js rfl (own_below' HO.out HB3.out) A9 ps.length c9 ps rfl HBT.out HN.out (by omega) (by have := HB.out.size; have := HB3.out.size; omega) ?_; intro v6 w6 ho6 hg6; have HO6 := Lib.hid ho6; have HG6 := Lib.hid (own_grown_below (own_below' HO.out HB3.out) (HB.out.trans (HB3.out.mono HB.out.size)) (Nat.le_refl _) hg6); clear ho6 hg6))
          go_ret
          refine ⟨_, rfl, ?_, HB1.out.trans (HG6.out.mono HS1)⟩
          rw [HL.out, HBY.out]
          exact Go.Joins.ownsRow_le HO6.out HS1
end Go.Proofs.YtebgfiibcmnfnaaDoor
