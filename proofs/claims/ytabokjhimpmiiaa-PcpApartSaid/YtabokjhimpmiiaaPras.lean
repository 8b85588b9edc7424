/-
  Contracts of the document's own tail, Ask and Answer of PCP: the same bytes. Conditions: the lease's fields are of their types.
-/
import Derived.Test.YtabokjhimpmiiaaPzr
import Derived.Test.YtabokjhimpmiiaaRask
namespace Go.Proofs.Ytabokjhimpmiiaa
open Go.RowKit
attribute [local go_sem] Oper.semAt_some
set_option linter.unusedVariables false
set_option linter.unusedSimpArgs false

theorem Rw.ow {w W W' : World} {l : Le} {V V' : Value} {xs zs : List Int} (h : Rw w W l V xs) (ho : Ow W W' W.heap.size V' zs) : Rw w W' l V' zs :=
  ⟨h.low.trans (ho.low.mono h.low.size), h.box.below ho.low h.box.lt, Go.Joins.ownsRow_le ho.own (by have := h.box.lt; omega)⟩
theorem Rw.below {w W W' : World} {l : Le} {V : Value} {xs : List Int} (h : Rw w W l V xs) (hb : Below W.heap.size W W') : Rw w W' l V xs :=
  ⟨h.low.trans (hb.mono h.low.size), h.box.below hb h.box.lt, own_below h.own hb⟩
theorem Rw.app {w W W' : World} {l : Le} {V V' : Value} {xs zs : List Int} {m : Nat} (h : Rw w W l V xs) (hz : zs.length = m) (ho : W'.ownsRow (w.heap.size + 1) 5 1 V' (xs.length + m) (B (xs ++ zs))) (hg : W.grownBy W' V.ownBlock) : Rw w W' l V' (xs ++ zs) := by
  refine ⟨h.low.trans (own_grown h.own hg (by omega) h.low.size), ?_, by rw [List.length_append, hz]; exact ho⟩
  refine (hg.block _ h.box.lt ?_).trans h.box
  intro e
  have := (h.own.lt _ e.symm).1
  omega
theorem lit_bts (W : World) (zs : List Int) (hz : ∀ z ∈ zs, 0 ≤ z ∧ z ≤ 255) (hm : zs.length ≤ maxLen) : Bts (W.alloc (.cells (B zs).toArray 5)) (some ⟨W.heap.size, 0, none⟩) zs.length zs := by
  have h := Ow.lit (w := W) (W := W) (b := W.heap.size) (Below.refl _ _) (Nat.le_refl _) zs hm
  obtain ⟨A, c, e, _, _, hbt⟩ := own_form h.own hz
  cases e
  exact hbt

theorem Rw.zeros {w W : World} {l : Le} {V : Value} {xs : List Int} (h : Rw w W l V xs) {ops : Array Oper} {o : Oper} {a : Act} {K : Act → World → Prop} {Q : Exit → Act → World → Prop} {E : Prop} (hf : o.guard = none) (s x : Operand)
    (ho : o.op = .call { callee := .builtin .append, args := #[s, x], argTypes := #[27, 3] }) (hs : a.eval s = V) (m : Nat) (hx : a.eval x = .int .i64 (m : Int)) (h0 : 0 < xs.length) (hm : 0 < m) (hl : xs.length + m ≤ 1000)
    (hK : ∀ V' W', Rw w W' l V' (xs ++ List.replicate m 0) → K (a.put o.dst V') W') :
    if Region.wanted o (yielded ops a.tmps) = true then Oper.wp Try.prog o a W K Q else E := by
  obtain ⟨v', w', hrun, r1, r2⟩ := run_zeros W (w.heap.size + 1) V xs.length xs o.type h.own m h0 hm hl (by have := h.box.lt; omega)
  rw [if_pos (by simp [Region.wanted, hf])]
  unfold Oper.wp execOp
  simp only [ho, resolve, invoke, builtin, Sem.run_bind, Sem.run_pure, Result.andThen_ok, List.map_toArray, List.map_cons, List.map_nil, hs, hx, hrun]
  exact hK _ _ (h.app (by simp) r1 r2)

set_option maxRecDepth 100000 in
set_option maxHeartbeats 8000000 in
/-- the document's own tail -/
theorem rtail_any (l : Le) (w : World) (hl : isL l) (hn : Bnd l) : Calls Try.prog 47 #[leV l] w fun e w' => ∃ V, e = .returned V ∧ Ow w w' w.heap.size V (mapR l) := by
  have HN := Lib.hid hn
  have HC := Lib.hid (fun W => rnonce_any l.non W hl.non)
  have HH := Lib.hid (fun W => rhost_any l.hst W hl.hst)
  have hraw : ([0, 0, 0, 0] ++ be 8 l.non) ++ [17, 0, 0, 0] ++ be 2 l.ins ++ be 2 l.prt ++ hostR l.hst = mapR l := by simp [mapR]
  have HRAW := Lib.hid hraw
  clear hn hraw hl
  have HR1 : Hid (Rw w (w.alloc (.cells (leA l) 25)) l (.slice none 0 0) []) := Lib.hid ⟨(Below.refl _ w).alloc (Nat.le_refl _) _, LeAt.new w l, World.ownsRow_nil _ _ _ _⟩
  unfold leV leA at *
  go_enter Try.func47, Try.ntmps47
  go_wp2_with fail
  refine (HC.out _).mono ?_
  rintro e w2 ⟨V2, rfl, h2⟩
  have HR2 := Lib.hid (HR1.out.ow h2)
  clear h2
  have HB3 := Lib.hid (lit_bts w2 [17, 0, 0, 0] (by simp) (by unfold maxLen; simp))
  have HR3 := Lib.hid (HR2.out.below ((Below.refl _ w2).alloc (Nat.le_refl _) (.cells (B [17, 0, 0, 0]).toArray 5)))
  unfold B at HB3 HR3
  simp only [List.map_cons, List.map_nil] at HB3 HR3
  have hsz3 := HR3.out.box.lt
  go_wp2_with (at_builtin; refine wpList_append_bts rfl (.tmp 6) (.tmp 7) rfl (w.heap.size + 1) _ 12 _ rfl HR3.out.own _ 4 4 [17, 0, 0, 0] rfl HB3.out (by intro hh; cases hh) (by omega) hsz3 ?_; intro v4 w4 ho4 hg4; have HR4 := Lib.hid (HR3.out.app (by simp) ho4 hg4); clear ho4 hg4)
  have HR0 := Lib.hid HR4.out.drew
  clear hsz3
  refine wp_region_held_drew (S := fun W => LeAt W w.heap.size l) (by kernel_rfl) HR0.out.box (fun hHeld => ?_)
  refine wpAnyH_take (i := 0) (oi := _) (v := ?_) rfl (by kernel_rfl) (by kernel_rfl) (by kernel_rfl) (fun _ _ _ h => h) (Or.inl ⟨by rfl, ?_⟩) (by assumption) ?_
  case refine_2 => intro w hSw; (try dsimp only at hSw); have hcs := LeAt.cells hSw; obtain ⟨y0, y1, y2, y3, y4, y5, y6, y7⟩ := hcs; clear hSw; go_simp; first | done | (with_reducible rfl)
  try simp only [Act.put, List.getElem_toArray, List.getElem_cons_zero, List.setIfInBounds_toArray, List.set_cons_zero, List.set_cons_succ]
  refine wpAnyH_take (i := 1) (oi := _) (v := ?_) rfl (by kernel_rfl) (by kernel_rfl) (by kernel_rfl) (fun _ _ _ h => h) (Or.inl ⟨by rfl, ?_⟩) (by assumption) ?_
  case refine_2 => intro w hSw; (try dsimp only at hSw); have hcs := LeAt.cells hSw; obtain ⟨y0, y1, y2, y3, y4, y5, y6, y7⟩ := hcs; clear hSw; go_simp; first | done | (with_reducible rfl)
  try simp only [Act.put, List.getElem_toArray, List.getElem_cons_zero, List.getElem_cons_succ, List.setIfInBounds_toArray, List.set_cons_zero, List.set_cons_succ]
  refine wpAnyH_take (i := 2) (oi := _) (v := ?_) rfl (by kernel_rfl) (by kernel_rfl) (by kernel_rfl) (fun _ _ _ h => h) (Or.inl ⟨by rfl, ?_⟩) (by assumption) ?_
  case refine_2 => intro w hSw; (try dsimp only at hSw); have hcs := LeAt.cells hSw; obtain ⟨y0, y1, y2, y3, y4, y5, y6, y7⟩ := hcs; clear hSw; go_simp; first | done | (with_reducible rfl)
  try simp only [Act.put, List.getElem_toArray, List.getElem_cons_zero, List.getElem_cons_succ, List.setIfInBounds_toArray, List.set_cons_zero, List.set_cons_succ]
  refine wpAnyH_take (i := 5) (oi := _) (v := ?_) rfl (by kernel_rfl) (by kernel_rfl) (by kernel_rfl) (fun _ _ _ h => h) (Or.inl ⟨by rfl, ?_⟩) (by assumption) ?_
  case refine_2 => intro w hSw; (try dsimp only at hSw); have hcs := LeAt.cells hSw; obtain ⟨y0, y1, y2, y3, y4, y5, y6, y7⟩ := hcs; clear hSw; go_simp; first | done | (with_reducible rfl)
  try simp only [Act.put, List.getElem_toArray, List.getElem_cons_zero, List.getElem_cons_succ, List.setIfInBounds_toArray, List.set_cons_zero, List.set_cons_succ]
  refine wpAnyH_take (i := 6) (oi := _) (v := ?_) rfl (by kernel_rfl) (by kernel_rfl) (by kernel_rfl) (fun _ _ _ h => h) (Or.inl ⟨by rfl, ?_⟩) (by assumption) ?_
  case refine_2 => intro w hSw; (try dsimp only at hSw); have hcs := LeAt.cells hSw; obtain ⟨y0, y1, y2, y3, y4, y5, y6, y7⟩ := hcs; clear hSw; go_simp; first | done | (with_reducible rfl)
  try simp only [Act.put, List.getElem_toArray, List.getElem_cons_zero, List.getElem_cons_succ, List.setIfInBounds_toArray, List.set_cons_zero, List.set_cons_succ]
  refine wpAnyH_ready (rs := [3]) (by kernel_rfl) (by simp) ?_
  refine AllReadyH.cons rfl (fun K hK => ?_) AllReadyH.nil
  go_simp
  go_at_call 37
  refine (HR0.out.big 2 l.ins (by decide) (by decide) HN.out.ins).mono ?_
  rintro e w5 ⟨A5, c5, rfl, hr, hb⟩
  have HR5 := Lib.hid hr
  have HB5 := Lib.hid hb
  clear hr hb
  refine hK.out _ _ HR5.out.box (fun hHeld => ?_)
  clear hK K
  try simp only [Act.put, List.getElem_toArray, List.getElem_cons_zero, List.getElem_cons_succ, List.setIfInBounds_toArray, List.set_cons_zero, List.set_cons_succ]
  refine wpAnyH_ready (rs := [4]) (by kernel_rfl) (by simp) ?_
  refine AllReadyH.cons rfl (fun K hK => ?_) AllReadyH.nil
  refine Rw.step HR5.out rfl (.tmp 9) (.tmp 12) rfl rfl rfl HB5.out (by simp) ?_
  intro V6 w6 hr
  have HR6 := Lib.hid hr
  clear hr
  refine hK.out _ _ HR6.out.box (fun hHeld => ?_)
  clear hK K
  try simp only [Act.put, List.getElem_toArray, List.getElem_cons_zero, List.getElem_cons_succ, List.setIfInBounds_toArray, List.set_cons_zero, List.set_cons_succ]
  refine wpAnyH_ready (rs := [7]) (by kernel_rfl) (by simp) ?_
  refine AllReadyH.cons rfl (fun K hK => ?_) AllReadyH.nil
  go_simp
  go_at_call 37
  refine (HR6.out.big 2 l.prt (by decide) (by decide) HN.out.prt).mono ?_
  rintro e w7 ⟨A7, c7, rfl, hr, hb⟩
  have HR7 := Lib.hid hr
  have HB7 := Lib.hid hb
  clear hr hb
  refine hK.out _ _ HR7.out.box (fun hHeld => ?_)
  clear hK K
  try simp only [Act.put, List.getElem_toArray, List.getElem_cons_zero, List.getElem_cons_succ, List.setIfInBounds_toArray, List.set_cons_zero, List.set_cons_succ]
  refine wpAnyH_ready (rs := [8]) (by kernel_rfl) (by simp) ?_
  refine AllReadyH.cons rfl (fun K hK => ?_) AllReadyH.nil
  refine Rw.step HR7.out rfl (.tmp 13) (.tmp 16) rfl rfl rfl HB7.out (by simp) ?_
  intro V8 w8 hr
  have HR8 := Lib.hid hr
  clear hr
  refine hK.out _ _ HR8.out.box (fun hHeld => ?_)
  clear hK K
  try simp only [Act.put, List.getElem_toArray, List.getElem_cons_zero, List.getElem_cons_succ, List.setIfInBounds_toArray, List.set_cons_zero, List.set_cons_succ]
  refine wpAnyH_take (i := 9) (oi := _) (v := ?_) rfl (by kernel_rfl) (by kernel_rfl) (by kernel_rfl) (fun _ _ _ h => h) (Or.inl ⟨by rfl, ?_⟩) (by assumption) ?_
  case refine_2 => intro w hSw; (try dsimp only at hSw); go_simp; first | done | (with_reducible rfl)
  try simp only [Act.put, List.getElem_toArray, List.getElem_cons_zero, List.getElem_cons_succ, List.setIfInBounds_toArray, List.set_cons_zero, List.set_cons_succ]
  refine wpAnyH_done (by kernel_rfl) ?_ _
  obtain ⟨x0, x1, x2, x3, x4, x5, x6, x7⟩ := HR8.out.box.cells
  go_wp2_with fail
  clear x0 x1 x2 x3 x4 x5 x6 x7
  refine (HH.out _).mono ?_
  rintro e w20 ⟨p20, c20, rfl, hbt, hb⟩
  have HR20 := Lib.hid (HR8.out.below hb)
  have HB20 := Lib.hid hbt
  have hsz := HR20.out.box.lt
  clear hbt hb
  go_wp2_with (at_builtin; refine wpList_append_bts rfl (.tmp 18) (.tmp 21) rfl (w.heap.size + 1) _ 20 _ rfl HR20.out.own _ 16 c20 (hostR l.hst) rfl HB20.out (by intro hh; cases hh) (by omega) hsz ?_; intro v21 w21 ho21 hg21; have HR21 := Lib.hid (HR20.out.app (hostR_length _) ho21 hg21); clear ho21 hg21)
  go_ret
  have hR := HR21.out
  rw [HRAW.out] at hR
  exact ⟨_, rfl, hR.low, hR.low.size, Go.Joins.ownsRow_le hR.own (by omega)⟩

theorem bnd_pan {l : Le} (h : Pan l) (hl : isL l) : Bnd l := by
  obtain ⟨h0, h1, h2, h3, h4, h5⟩ := h
  have := hl.hst
  exact ⟨by omega, by omega, by omega, by omega, by omega, by omega⟩
/-- the document's row is the program's -/
theorem rtail_bts (l : Le) (W : World) (hl : isL l) (hn : Bnd l) : Calls Try.prog 47 #[leV l] W fun e W' => ∃ p c, e = .returned (.slice (some ⟨p, 0, none⟩) 36 c) ∧ Bts W' (some ⟨p, 0, none⟩) 36 (mapR l) ∧ Below W.heap.size W W' := by
  refine (rtail_any l W hl hn).mono ?_
  rintro e W' ⟨V, rfl, low, ble, own⟩
  rw [mapR_length] at own
  obtain ⟨p, c, rfl, _⟩ := own_some own (by decide)
  obtain ⟨A, c', e1, _, _, hbt⟩ := own_form own (mapR_bd l hl)
  cases e1
  exact ⟨p, c, rfl, hbt, low⟩

set_option maxRecDepth 100000 in
set_option maxHeartbeats 8000000 in
theorem rpask_any (l : Le) (c : Int) (w : World) (hl : isL l) (hc : 0 ≤ c ∧ c < 4294967296) : Calls Try.prog 24 #[leV l, .int .u32 c] w fun e w' => ∃ V, e = .returned V ∧ w'.ownsRow w.heap.size 5 1 V (paskR l c).length (B (paskR l c)) ∧ Below w.heap.size w w' := by
  have HC := Lib.hid (fun W => rmay_any l W hl)
  have HRY := Lib.hid (fun h => paskR_yes (l := l) c h)
  have HRN := Lib.hid (fun h => paskR_no (l := l) c h)
  have HTL := Lib.hid (fun W hn => rtail_bts l W hl hn)
  have HH := Lib.hid (fun W => rhost_any c W hc)
  have hwr8 : Pan l → IntKind.u8.wrap l.res = l.res := by rintro ⟨h0, h1, h2, h3, h4, h5⟩; simp [IntKind.wrap, IntKind.bits, IntKind.signed]; omega
  have HW8 := Lib.hid hwr8
  have HL := Lib.hid hl; clear hl hwr8
  generalize paskR l c = R at *
  unfold leV leA at *
  go_enter Try.func24, Try.ntmps24
  go_wp2_with fail
  refine (HC.out _).mono ?_
  rintro e w1 ⟨rfl, hb⟩
  have HR1 : Hid (Rw w w1 l (.slice none 0 0) []) := Lib.hid ⟨((Below.refl _ w).alloc (Nat.le_refl _) _).trans (hb.mono (by simp)), (LeAt.new w l).below hb (by simp), World.ownsRow_nil _ _ _ _⟩
  obtain ⟨x0, x1, x2, x3, x4, x5, x6, x7⟩ := HR1.out.box.cells
  clear hb
  by_cases hp : Pan l
  · rw [decide_eq_true hp]
    have HN := Lib.hid (bnd_pan hp HL.out)
    cases t1 : (l.epo == 0) with
    | false =>
      have n1 := bne_of t1; simp only [Bool.not_false] at n1
      go_wp2
      go_ret
      rw [HRN.out (fun h => by have := h.2.2; rw [this] at t1; simp at t1)]
      exact ⟨_, rfl, World.ownsRow_nil _ _ _ _, HR1.out.low⟩
    | true =>
      have n1 := bne_of t1; simp only [Bool.not_true] at n1
      cases t2 : (l.res == 0) with
      | false =>
        have n2 := bne_of t2; simp only [Bool.not_false] at n2
        go_wp2
        go_ret
        rw [HRN.out (fun h => by have := h.2.1; rw [this] at t2; simp at t2)]
        exact ⟨_, rfl, World.ownsRow_nil _ _ _ _, HR1.out.low⟩
      | true =>
        have n2 := bne_of t2; simp only [Bool.not_true] at n2
        have HRR := Lib.hid (HRY.out ⟨hp, by simpa using t2, by simpa using t1⟩)
        clear HRY HRN
        have HB2 := Lib.hid (fun W => big_bts 4 l.secs W (by decide) (by decide) HN.out.secs)
        have hlt1 := HR1.out.box.lt
        go_wp2_with fail
        have HR2 := Lib.hid (HR1.out.lit [2, 1, 0, 0] 4 rfl (by unfold maxLen; omega))
        unfold B at HR2
        simp only [List.map_cons, List.map_nil] at HR2
        refine (HB2.out _).mono ?_
        rintro e w3 ⟨p3, c3, rfl, hbt, hb⟩
        have HR3 := Lib.hid (HR2.out.below hb)
        have HB3 := Lib.hid hbt
        have hsz3 := HR3.out.box.lt
        clear hbt hb x0 x1 x2 x3 x4 x5 x6 x7
        go_wp2_with (first | (at_builtin; refine wpList_append_bts rfl (.tmp 19) (.tmp 22) rfl (w.heap.size + 1) _ 4 _ rfl HR3.out.own _ 4 c3 (be 4 l.secs) rfl HB3.out (by intro hh; cases hh) (by omega) hsz3 ?_; intro v4 w4 ho4 hg4; have HR4 := Lib.hid (HR3.out.app (by simp) ho4 hg4); clear ho4 hg4) | fail)
        refine (HH.out _).mono ?_
        rintro e w5 ⟨p5, c5, rfl, hbt, hb⟩
        have HR5 := Lib.hid (HR4.out.below hb)
        have HB5 := Lib.hid hbt
        have hsz5 := HR5.out.box.lt
        clear hbt hb hsz3
        go_wp2_with (first | (at_builtin; refine wpList_append_bts rfl (.tmp 23) (.tmp 25) rfl (w.heap.size + 1) _ 8 _ rfl HR5.out.own _ 16 c5 (hostR c) rfl HB5.out (by intro hh; cases hh) (by omega) hsz5 ?_; intro v7 w7 ho7 hg7; have HR7 := Lib.hid (HR5.out.app (hostR_length _) ho7 hg7); obtain ⟨x0, x1, x2, x3, x4, x5, x6, x7⟩ := HR7.out.box.cells; clear ho7 hg7) | fail)
        refine (HTL.out _ HN.out).mono ?_
        rintro e w8 ⟨p8, c8, rfl, hbt, hb⟩
        have HR8 := Lib.hid (HR7.out.below hb)
        have HB8 := Lib.hid hbt
        have hsz8 := HR8.out.box.lt
        clear hbt hb x0 x1 x2 x3 x4 x5 x6 x7
        go_wp2_with (at_builtin; refine wpList_append_bts rfl (.tmp 27) (.tmp 29) rfl (w.heap.size + 1) _ 24 _ rfl HR8.out.own _ 36 c8 (mapR l) rfl HB8.out (by intro hh; cases hh) (by omega) hsz8 ?_; intro v9 w9 ho9 hg9; have HR9 := Lib.hid (HR8.out.app (mapR_length _) ho9 hg9); clear ho9 hg9)
        go_ret
        have hR := HR9.out
        simp only [List.append_assoc] at hR
        rw [HRR.out]
        exact ⟨_, rfl, Go.Joins.ownsRow_le hR.own (by omega), hR.low⟩
  · rw [decide_eq_false hp]
    go_wp2
    go_ret
    rw [HRN.out (fun h => hp h.1)]
    exact ⟨_, rfl, World.ownsRow_nil _ _ _ _, HR1.out.low⟩

set_option maxRecDepth 100000 in
set_option maxHeartbeats 8000000 in
theorem rpans_any (l : Le) (w : World) (hl : isL l) : Calls Try.prog 25 #[leV l] w fun e w' => ∃ V, e = .returned V ∧ w'.ownsRow w.heap.size 5 1 V (pansR l).length (B (pansR l)) ∧ Below w.heap.size w w' := by
  have HC := Lib.hid (fun W => rmay_any l W hl)
  have HRY := Lib.hid (fun h => pansR_yes (l := l) h)
  have HRN := Lib.hid (fun h => pansR_no (l := l) h)
  have HTL := Lib.hid (fun W hn => rtail_bts l W hl hn)
  have hwr8 : Pan l → IntKind.u8.wrap l.res = l.res := by rintro ⟨h0, h1, h2, h3, h4, h5⟩; simp [IntKind.wrap, IntKind.bits, IntKind.signed]; omega
  have HW8 := Lib.hid hwr8
  have HL := Lib.hid hl; clear hl hwr8
  generalize pansR l = R at *
  unfold leV leA at *
  go_enter Try.func25, Try.ntmps25
  go_wp2_with fail
  refine (HC.out _).mono ?_
  rintro e w1 ⟨rfl, hb⟩
  have HR1 : Hid (Rw w w1 l (.slice none 0 0) []) := Lib.hid ⟨((Below.refl _ w).alloc (Nat.le_refl _) _).trans (hb.mono (by simp)), (LeAt.new w l).below hb (by simp), World.ownsRow_nil _ _ _ _⟩
  obtain ⟨x0, x1, x2, x3, x4, x5, x6, x7⟩ := HR1.out.box.cells
  clear hb
  by_cases hp : Pan l
  · rw [decide_eq_true hp]
    have HN := Lib.hid (bnd_pan hp HL.out)
    have HRR := Lib.hid (HRY.out hp)
    have hw8 := HW8.out hp
    have hres := hp.2.2.2.2.1
    clear HRY HRN
    go_wp2_with fail
    clear x0 x1 x2 x3 x4 x5 x6 x7
    have HR0 := Lib.hid HR1.out.drew
    refine wp_region_held_drew (S := fun W => LeAt W w.heap.size l) (by kernel_rfl) HR0.out.box (fun hHeld => ?_)
    refine wpAnyH_take (i := 0) (oi := _) (v := ?_) rfl (by kernel_rfl) (by kernel_rfl) (by kernel_rfl) (fun _ _ _ h => h) (Or.inl ⟨by rfl, ?_⟩) (by assumption) ?_
    case refine_2 => intro w hSw; (try dsimp only at hSw); have hcs := LeAt.cells hSw; obtain ⟨y0, y1, y2, y3, y4, y5, y6, y7⟩ := hcs; clear hSw; go_simp; first | done | (with_reducible rfl)
    try simp only [Act.put, List.getElem_toArray, List.getElem_cons_zero, List.setIfInBounds_toArray, List.set_cons_zero, List.set_cons_succ]
    refine wpAnyH_take (i := 1) (oi := _) (v := ?_) rfl (by kernel_rfl) (by kernel_rfl) (by kernel_rfl) (fun _ _ _ h => h) (Or.inl ⟨by rfl, ?_⟩) (by assumption) ?_
    case refine_2 => intro w hSw; (try dsimp only at hSw); have hcs := LeAt.cells hSw; obtain ⟨y0, y1, y2, y3, y4, y5, y6, y7⟩ := hcs; clear hSw; go_simp; first | done | (with_reducible rfl)
    try simp only [Act.put, List.getElem_toArray, List.getElem_cons_zero, List.getElem_cons_succ, List.setIfInBounds_toArray, List.set_cons_zero, List.set_cons_succ]
    refine wpAnyH_take (i := 2) (oi := _) (v := ?_) rfl (by kernel_rfl) (by kernel_rfl) (by kernel_rfl) (fun _ _ _ h => h) (Or.inl ⟨by rfl, ?_⟩) (by assumption) ?_
    case refine_2 => intro w hSw; (try dsimp only at hSw); have hcs := LeAt.cells hSw; obtain ⟨y0, y1, y2, y3, y4, y5, y6, y7⟩ := hcs; clear hSw; go_simp; first | done | (with_reducible rfl)
    try simp only [Act.put, List.getElem_toArray, List.getElem_cons_zero, List.getElem_cons_succ, List.setIfInBounds_toArray, List.set_cons_zero, List.set_cons_succ]
    refine wpAnyH_take (i := 4) (oi := _) (v := ?_) rfl (by kernel_rfl) (by kernel_rfl) (by kernel_rfl) (fun _ _ _ h => h) (Or.inl ⟨by rfl, ?_⟩) (by assumption) ?_
    case refine_2 => intro w hSw; (try dsimp only at hSw); have hcs := LeAt.cells hSw; obtain ⟨y0, y1, y2, y3, y4, y5, y6, y7⟩ := hcs; clear hSw; go_simp; first | done | (with_reducible rfl)
    try simp only [Act.put, List.getElem_toArray, List.getElem_cons_zero, List.getElem_cons_succ, List.setIfInBounds_toArray, List.set_cons_zero, List.set_cons_succ]
    refine wpAnyH_take (i := 5) (oi := _) (v := ?_) rfl (by kernel_rfl) (by kernel_rfl) (by kernel_rfl) (fun _ _ _ h => h) (Or.inl ⟨by rfl, ?_⟩) (by assumption) ?_
    case refine_2 => intro w hSw; (try dsimp only at hSw); have hcs := LeAt.cells hSw; obtain ⟨y0, y1, y2, y3, y4, y5, y6, y7⟩ := hcs; clear hSw; go_simp; first | done | (with_reducible rfl)
    try simp only [Act.put, List.getElem_toArray, List.getElem_cons_zero, List.getElem_cons_succ, List.setIfInBounds_toArray, List.set_cons_zero, List.set_cons_succ]
    refine wpAnyH_take (i := 8) (oi := _) (v := ?_) rfl (by kernel_rfl) (by kernel_rfl) (by kernel_rfl) (fun _ _ _ h => h) (Or.inl ⟨by rfl, ?_⟩) (by assumption) ?_
    case refine_2 => intro w hSw; (try dsimp only at hSw); have hcs := LeAt.cells hSw; obtain ⟨y0, y1, y2, y3, y4, y5, y6, y7⟩ := hcs; clear hSw; go_simp; first | done | (with_reducible rfl)
    try simp only [Act.put, List.getElem_toArray, List.getElem_cons_zero, List.getElem_cons_succ, List.setIfInBounds_toArray, List.set_cons_zero, List.set_cons_succ]
    refine wpAnyH_take (i := 9) (oi := _) (v := ?_) rfl (by kernel_rfl) (by kernel_rfl) (by kernel_rfl) (fun _ _ _ h => h) (Or.inl ⟨by rfl, ?_⟩) (by assumption) ?_
    case refine_2 => intro w hSw; (try dsimp only at hSw); have hcs := LeAt.cells hSw; obtain ⟨y0, y1, y2, y3, y4, y5, y6, y7⟩ := hcs; clear hSw; go_simp; first | done | (with_reducible rfl)
    try simp only [Act.put, List.getElem_toArray, List.getElem_cons_zero, List.getElem_cons_succ, List.setIfInBounds_toArray, List.set_cons_zero, List.set_cons_succ]
    refine wpAnyH_ready (rs := [3, 6]) (by kernel_rfl) (by simp) ?_
    refine AllReadyH.cons rfl (fun K hK => ?_) (AllReadyH.cons rfl (fun K hK => ?_) AllReadyH.nil)
    · go_simp
      have HR4 := Lib.hid (HR0.out.lit [2, 129, 0, l.res] 4 rfl (by unfold maxLen; omega))
      unfold B at HR4
      simp only [List.map_cons, List.map_nil] at HR4
      refine hK.out _ _ HR4.out.box (fun hHeld => ?_)
      clear hK K
      try simp only [Act.put, List.getElem_toArray, List.getElem_cons_zero, List.getElem_cons_succ, List.setIfInBounds_toArray, List.set_cons_zero, List.set_cons_succ]
      refine wpAnyH_ready (rs := [6]) (by kernel_rfl) (by simp) ?_
      refine AllReadyH.cons rfl (fun K hK => ?_) AllReadyH.nil
      go_simp
      go_at_call 37
      refine (HR4.out.big 4 l.secs (by decide) (by decide) HN.out.secs).mono ?_
      rintro e w5 ⟨A5, c5, rfl, hr, hb⟩
      have HR5 := Lib.hid hr
      have HB5 := Lib.hid hb
      clear hr hb
      refine hK.out _ _ HR5.out.box (fun hHeld => ?_)
      clear hK K
      try simp only [Act.put, List.getElem_toArray, List.getElem_cons_zero, List.getElem_cons_succ, List.setIfInBounds_toArray, List.set_cons_zero, List.set_cons_succ]
      refine wpAnyH_ready (rs := [7]) (by kernel_rfl) (by simp) ?_
      refine AllReadyH.cons rfl (fun K hK => ?_) AllReadyH.nil
      refine Rw.step HR5.out rfl (.tmp 10) (.tmp 13) rfl rfl rfl HB5.out (by simp) ?_
      intro V6 w6 hr
      have HR6 := Lib.hid hr
      clear hr
      refine hK.out _ _ HR6.out.box (fun hHeld => ?_)
      clear hK K
      try simp only [Act.put, List.getElem_toArray, List.getElem_cons_zero, List.getElem_cons_succ, List.setIfInBounds_toArray, List.set_cons_zero, List.set_cons_succ]
      refine wpAnyH_ready (rs := [10]) (by kernel_rfl) (by simp) ?_
      refine AllReadyH.cons rfl (fun K hK => ?_) AllReadyH.nil
      go_simp
      go_at_call 37
      refine (HR6.out.big 4 l.epo (by decide) (by decide) HN.out.epo).mono ?_
      rintro e w7 ⟨A7, c7, rfl, hr, hb⟩
      have HR7 := Lib.hid hr
      have HB7 := Lib.hid hb
      clear hr hb
      refine hK.out _ _ HR7.out.box (fun hHeld => ?_)
      clear hK K
      try simp only [Act.put, List.getElem_toArray, List.getElem_cons_zero, List.getElem_cons_succ, List.setIfInBounds_toArray, List.set_cons_zero, List.set_cons_succ]
      refine wpAnyH_ready (rs := [11]) (by kernel_rfl) (by simp) ?_
      refine AllReadyH.cons rfl (fun K hK => ?_) AllReadyH.nil
      refine Rw.step HR7.out rfl (.tmp 14) (.tmp 17) rfl rfl rfl HB7.out (by simp) ?_
      intro V8 w8 hr
      have HR8 := Lib.hid hr
      clear hr
      refine hK.out _ _ HR8.out.box (fun hHeld => ?_)
      clear hK K
      try simp only [Act.put, List.getElem_toArray, List.getElem_cons_zero, List.getElem_cons_succ, List.setIfInBounds_toArray, List.set_cons_zero, List.set_cons_succ]
      refine wpAnyH_take (i := 12) (oi := _) (v := ?_) rfl (by kernel_rfl) (by kernel_rfl) (by kernel_rfl) (fun _ _ _ h => h) (Or.inl ⟨by rfl, ?_⟩) (by assumption) ?_
      case refine_2 => intro w hSw; (try dsimp only at hSw); go_simp; first | done | (with_reducible rfl)
      try simp only [Act.put, List.getElem_toArray, List.getElem_cons_zero, List.getElem_cons_succ, List.setIfInBounds_toArray, List.set_cons_zero, List.set_cons_succ]
      refine wpAnyH_done (by kernel_rfl) ?_ _
      go_wp2_with fail
      have HR30 := Lib.hid HR8.out.drew
      refine wp_region_held_drew (S := fun W => LeAt W w.heap.size l) (by kernel_rfl) HR30.out.box (fun hHeld => ?_)
      refine wpAnyH_take (i := 0) (oi := _) (v := ?_) rfl (by kernel_rfl) (by kernel_rfl) (by kernel_rfl) (fun _ _ _ h => h) (Or.inl ⟨by rfl, ?_⟩) (by assumption) ?_
      case refine_2 => intro w hSw; (try dsimp only at hSw); have hcs := LeAt.cells hSw; obtain ⟨y0, y1, y2, y3, y4, y5, y6, y7⟩ := hcs; clear hSw; go_simp; first | done | (with_reducible rfl)
      try simp only [Act.put, List.getElem_toArray, List.getElem_cons_zero, List.setIfInBounds_toArray, List.set_cons_zero, List.set_cons_succ]
      refine wpAnyH_take (i := 2) (oi := _) (v := ?_) rfl (by kernel_rfl) (by kernel_rfl) (by kernel_rfl) (fun _ _ _ h => h) (Or.inl ⟨by rfl, ?_⟩) (by assumption) ?_
      case refine_2 => intro w hSw; (try dsimp only at hSw); have hcs := LeAt.cells hSw; obtain ⟨y0, y1, y2, y3, y4, y5, y6, y7⟩ := hcs; clear hSw; go_simp; first | done | (with_reducible rfl)
      try simp only [Act.put, List.getElem_toArray, List.getElem_cons_zero, List.getElem_cons_succ, List.setIfInBounds_toArray, List.set_cons_zero, List.set_cons_succ]
      refine wpAnyH_ready (rs := [1]) (by kernel_rfl) (by simp) ?_
      refine AllReadyH.cons rfl (fun K hK => ?_) AllReadyH.nil
      refine Rw.zeros HR30.out rfl (.tmp 19) (.const (.int .i64 12)) rfl rfl 12 rfl (by simp) (by decide) (by simp) ?_
      intro V31 w31 hr
      have HR31 := Lib.hid hr
      clear hr
      refine hK.out _ _ HR31.out.box (fun hHeld => ?_)
      clear hK K
      try simp only [Act.put, List.getElem_toArray, List.getElem_cons_zero, List.getElem_cons_succ, List.setIfInBounds_toArray, List.set_cons_zero, List.set_cons_succ]
      refine wpAnyH_ready (rs := [3]) (by kernel_rfl) (by simp) ?_
      refine AllReadyH.cons rfl (fun K hK => ?_) AllReadyH.nil
      go_simp
      go_at_call 47
      refine (HTL.out _ HN.out).mono ?_
      rintro e w32 ⟨p32, c32, rfl, hbt, hb⟩
      have HR32 := Lib.hid (HR31.out.below hb)
      have HB32 := Lib.hid hbt
      clear hbt hb
      refine hK.out _ _ HR32.out.box (fun hHeld => ?_)
      clear hK K
      try simp only [Act.put, List.getElem_toArray, List.getElem_cons_zero, List.getElem_cons_succ, List.setIfInBounds_toArray, List.set_cons_zero, List.set_cons_succ]
      refine wpAnyH_ready (rs := [4]) (by kernel_rfl) (by simp) ?_
      refine AllReadyH.cons rfl (fun K hK => ?_) AllReadyH.nil
      refine Rw.step HR32.out rfl (.tmp 20) (.tmp 22) rfl rfl rfl HB32.out (by simp) ?_
      intro V33 w33 hr
      have HR33 := Lib.hid hr
      clear hr
      refine hK.out _ _ HR33.out.box (fun hHeld => ?_)
      clear hK K
      try simp only [Act.put, List.getElem_toArray, List.getElem_cons_zero, List.getElem_cons_succ, List.setIfInBounds_toArray, List.set_cons_zero, List.set_cons_succ]
      refine wpAnyH_take (i := 5) (oi := _) (v := ?_) rfl (by kernel_rfl) (by kernel_rfl) (by kernel_rfl) (fun _ _ _ h => h) (Or.inl ⟨by rfl, ?_⟩) (by assumption) ?_
      case refine_2 => intro w hSw; (try dsimp only at hSw); go_simp; first | done | (with_reducible rfl)
      try simp only [Act.put, List.getElem_toArray, List.getElem_cons_zero, List.getElem_cons_succ, List.setIfInBounds_toArray, List.set_cons_zero, List.set_cons_succ]
      refine wpAnyH_done (by kernel_rfl) ?_ _
      go_wp2
      go_ret
      have hR := HR33.out
      simp only [List.append_assoc] at hR
      have e0 : List.replicate 12 (0 : Int) = [0, 0, 0, 0, 0, 0, 0, 0, 0, 0, 0, 0] := rfl
      rw [e0] at hR
      have e1 : [2, 129, 0, l.res] ++ (be 4 l.secs ++ (be 4 l.epo ++ ([0, 0, 0, 0, 0, 0, 0, 0, 0, 0, 0, 0] ++ mapR l))) = [2, 129, 0] ++ (be 1 l.res ++ (be 4 l.secs ++ (be 4 l.epo ++ ([0, 0, 0, 0, 0, 0, 0, 0, 0, 0, 0, 0] ++ mapR l)))) := by
        have e2 : be 1 l.res = [l.res] := by simp [be]; omega
        rw [e2]
        rfl
      rw [e1] at hR
      rw [HRR.out]
      exact ⟨_, rfl, Go.Joins.ownsRow_le hR.own (by omega), hR.low⟩
    · go_simp
      go_at_call 37
      refine (HR0.out.big 4 l.secs (by decide) (by decide) HN.out.secs).mono ?_
      rintro e w3 ⟨A3, c3, rfl, hr, hb⟩
      have HR3 := Lib.hid hr
      have HB3 := Lib.hid hb
      clear hr hb
      refine hK.out _ _ HR3.out.box (fun hHeld => ?_)
      clear hK K
      try simp only [Act.put, List.getElem_toArray, List.getElem_cons_zero, List.getElem_cons_succ, List.setIfInBounds_toArray, List.set_cons_zero, List.set_cons_succ]
      refine wpAnyH_ready (rs := [3]) (by kernel_rfl) (by simp) ?_
      refine AllReadyH.cons rfl (fun K hK => ?_) AllReadyH.nil
      go_simp
      have HR4 := Lib.hid (HR3.out.lit [2, 129, 0, l.res] 4 rfl (by unfold maxLen; omega))
      have HB4 := Lib.hid (HB3.out.alloc (.cells (B [2, 129, 0, l.res]).toArray 5))
      unfold B at HR4 HB4
      simp only [List.map_cons, List.map_nil] at HR4 HB4
      refine hK.out _ _ HR4.out.box (fun hHeld => ?_)
      clear hK K
      try simp only [Act.put, List.getElem_toArray, List.getElem_cons_zero, List.getElem_cons_succ, List.setIfInBounds_toArray, List.set_cons_zero, List.set_cons_succ]
      refine wpAnyH_ready (rs := [7]) (by kernel_rfl) (by simp) ?_
      refine AllReadyH.cons rfl (fun K hK => ?_) AllReadyH.nil
      refine Rw.step HR4.out rfl (.tmp 10) (.tmp 13) rfl rfl rfl HB4.out (by simp) ?_
      intro V5 w5 hr
      have HR5 := Lib.hid hr
      clear hr
      refine hK.out _ _ HR5.out.box (fun hHeld => ?_)
      clear hK K
      try simp only [Act.put, List.getElem_toArray, List.getElem_cons_zero, List.getElem_cons_succ, List.setIfInBounds_toArray, List.set_cons_zero, List.set_cons_succ]
      refine wpAnyH_ready (rs := [10]) (by kernel_rfl) (by simp) ?_
      refine AllReadyH.cons rfl (fun K hK => ?_) AllReadyH.nil
      go_simp
      go_at_call 37
      refine (HR5.out.big 4 l.epo (by decide) (by decide) HN.out.epo).mono ?_
      rintro e w6 ⟨A6, c6, rfl, hr, hb⟩
      have HR6 := Lib.hid hr
      have HB6 := Lib.hid hb
      clear hr hb
      refine hK.out _ _ HR6.out.box (fun hHeld => ?_)
      clear hK K
      try simp only [Act.put, List.getElem_toArray, List.getElem_cons_zero, List.getElem_cons_succ, List.setIfInBounds_toArray, List.set_cons_zero, List.set_cons_succ]
      refine wpAnyH_ready (rs := [11]) (by kernel_rfl) (by simp) ?_
      refine AllReadyH.cons rfl (fun K hK => ?_) AllReadyH.nil
      refine Rw.step HR6.out rfl (.tmp 14) (.tmp 17) rfl rfl rfl HB6.out (by simp) ?_
      intro V7 w7 hr
      have HR7 := Lib.hid hr
      clear hr
      refine hK.out _ _ HR7.out.box (fun hHeld => ?_)
      clear hK K
      try simp only [Act.put, List.getElem_toArray, List.getElem_cons_zero, List.getElem_cons_succ, List.setIfInBounds_toArray, List.set_cons_zero, List.set_cons_succ]
      refine wpAnyH_take (i := 12) (oi := _) (v := ?_) rfl (by kernel_rfl) (by kernel_rfl) (by kernel_rfl) (fun _ _ _ h => h) (Or.inl ⟨by rfl, ?_⟩) (by assumption) ?_
      case refine_2 => intro w hSw; (try dsimp only at hSw); go_simp; first | done | (with_reducible rfl)
      try simp only [Act.put, List.getElem_toArray, List.getElem_cons_zero, List.getElem_cons_succ, List.setIfInBounds_toArray, List.set_cons_zero, List.set_cons_succ]
      refine wpAnyH_done (by kernel_rfl) ?_ _
      go_wp2_with fail
      have HR30 := Lib.hid HR7.out.drew
      refine wp_region_held_drew (S := fun W => LeAt W w.heap.size l) (by kernel_rfl) HR30.out.box (fun hHeld => ?_)
      refine wpAnyH_take (i := 0) (oi := _) (v := ?_) rfl (by kernel_rfl) (by kernel_rfl) (by kernel_rfl) (fun _ _ _ h => h) (Or.inl ⟨by rfl, ?_⟩) (by assumption) ?_
      case refine_2 => intro w hSw; (try dsimp only at hSw); have hcs := LeAt.cells hSw; obtain ⟨y0, y1, y2, y3, y4, y5, y6, y7⟩ := hcs; clear hSw; go_simp; first | done | (with_reducible rfl)
      try simp only [Act.put, List.getElem_toArray, List.getElem_cons_zero, List.setIfInBounds_toArray, List.set_cons_zero, List.set_cons_succ]
      refine wpAnyH_take (i := 2) (oi := _) (v := ?_) rfl (by kernel_rfl) (by kernel_rfl) (by kernel_rfl) (fun _ _ _ h => h) (Or.inl ⟨by rfl, ?_⟩) (by assumption) ?_
      case refine_2 => intro w hSw; (try dsimp only at hSw); have hcs := LeAt.cells hSw; obtain ⟨y0, y1, y2, y3, y4, y5, y6, y7⟩ := hcs; clear hSw; go_simp; first | done | (with_reducible rfl)
      try simp only [Act.put, List.getElem_toArray, List.getElem_cons_zero, List.getElem_cons_succ, List.setIfInBounds_toArray, List.set_cons_zero, List.set_cons_succ]
      refine wpAnyH_ready (rs := [1]) (by kernel_rfl) (by simp) ?_
      refine AllReadyH.cons rfl (fun K hK => ?_) AllReadyH.nil
      refine Rw.zeros HR30.out rfl (.tmp 19) (.const (.int .i64 12)) rfl rfl 12 rfl (by simp) (by decide) (by simp) ?_
      intro V31 w31 hr
      have HR31 := Lib.hid hr
      clear hr
      refine hK.out _ _ HR31.out.box (fun hHeld => ?_)
      clear hK K
      try simp only [Act.put, List.getElem_toArray, List.getElem_cons_zero, List.getElem_cons_succ, List.setIfInBounds_toArray, List.set_cons_zero, List.set_cons_succ]
      refine wpAnyH_ready (rs := [3]) (by kernel_rfl) (by simp) ?_
      refine AllReadyH.cons rfl (fun K hK => ?_) AllReadyH.nil
      go_simp
      go_at_call 47
      refine (HTL.out _ HN.out).mono ?_
      rintro e w32 ⟨p32, c32, rfl, hbt, hb⟩
      have HR32 := Lib.hid (HR31.out.below hb)
      have HB32 := Lib.hid hbt
      clear hbt hb
      refine hK.out _ _ HR32.out.box (fun hHeld => ?_)
      clear hK K
      try simp only [Act.put, List.getElem_toArray, List.getElem_cons_zero, List.getElem_cons_succ, List.setIfInBounds_toArray, List.set_cons_zero, List.set_cons_succ]
      refine wpAnyH_ready (rs := [4]) (by kernel_rfl) (by simp) ?_
      refine AllReadyH.cons rfl (fun K hK => ?_) AllReadyH.nil
      refine Rw.step HR32.out rfl (.tmp 20) (.tmp 22) rfl rfl rfl HB32.out (by simp) ?_
      intro V33 w33 hr
      have HR33 := Lib.hid hr
      clear hr
      refine hK.out _ _ HR33.out.box (fun hHeld => ?_)
      clear hK K
      try simp only [Act.put, List.getElem_toArray, List.getElem_cons_zero, List.getElem_cons_succ, List.setIfInBounds_toArray, List.set_cons_zero, List.set_cons_succ]
      refine wpAnyH_take (i := 5) (oi := _) (v := ?_) rfl (by kernel_rfl) (by kernel_rfl) (by kernel_rfl) (fun _ _ _ h => h) (Or.inl ⟨by rfl, ?_⟩) (by assumption) ?_
      case refine_2 => intro w hSw; (try dsimp only at hSw); go_simp; first | done | (with_reducible rfl)
      try simp only [Act.put, List.getElem_toArray, List.getElem_cons_zero, List.getElem_cons_succ, List.setIfInBounds_toArray, List.set_cons_zero, List.set_cons_succ]
      refine wpAnyH_done (by kernel_rfl) ?_ _
      go_wp2
      go_ret
      have hR := HR33.out
      simp only [List.append_assoc] at hR
      have e0 : List.replicate 12 (0 : Int) = [0, 0, 0, 0, 0, 0, 0, 0, 0, 0, 0, 0] := rfl
      rw [e0] at hR
      have e1 : [2, 129, 0, l.res] ++ (be 4 l.secs ++ (be 4 l.epo ++ ([0, 0, 0, 0, 0, 0, 0, 0, 0, 0, 0, 0] ++ mapR l))) = [2, 129, 0] ++ (be 1 l.res ++ (be 4 l.secs ++ (be 4 l.epo ++ ([0, 0, 0, 0, 0, 0, 0, 0, 0, 0, 0, 0] ++ mapR l)))) := by
        have e2 : be 1 l.res = [l.res] := by simp [be]; omega
        rw [e2]
        rfl
      rw [e1] at hR
      rw [HRR.out]
      exact ⟨_, rfl, Go.Joins.ownsRow_le hR.own (by omega), hR.low⟩
  · rw [decide_eq_false hp]
    go_wp2
    go_ret
    rw [HRN.out (hp)]
    exact ⟨_, rfl, World.ownsRow_nil _ _ _ _, HR1.out.low⟩
end Go.Proofs.Ytabokjhimpmiiaa
