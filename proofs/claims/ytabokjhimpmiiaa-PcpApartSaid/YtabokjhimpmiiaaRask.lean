/-
  Contracts of the document's own Ask and Answer: the same bytes. Conditions: the lease's fields are of their types.
-/
import Derived.Test.YtabokjhimpmiiaaAsk
import Derived.Test.YtabokjhimpmiiaaBig
namespace Go.Proofs.Ytabokjhimpmiiaa
open Go.RowKit
attribute [local go_sem] Oper.semAt_some
set_option linter.unusedVariables false
set_option linter.unusedSimpArgs false

theorem fitsB_iff (m v : Int) : fitsB m v = true ↔ 0 ≤ v ∧ v ≤ m := by simp [fitsB]
theorem beq0 (v : Int) : (v == 0) = true ↔ v = 0 := by simp
theorem askB_doc (l : Le) (h : Bool) : askB l h = (allB l && ((l.res == 0) && ((l.epo == 0) && ((l.hst == 0) && (!h || noneB l))))) := by
  rw [Bool.eq_iff_iff]
  unfold askB ansB allB noneB portB
  cases h <;> simp only [Bool.and_eq_true, fitsB_iff, beq0, Bool.not_true, Bool.not_false, Bool.false_or, Bool.true_or, if_true, and_true, Bool.false_eq_true, if_false] <;> constructor <;> intro h <;> omega
theorem ansB_doc (l : Le) (h : Bool) : ansB l h = (allB l && ((!h || noneB l) && (h || (l.hst == 0)))) := by
  rw [Bool.eq_iff_iff]
  unfold ansB allB noneB portB
  cases h <;> simp only [Bool.and_eq_true, fitsB_iff, beq0, Bool.not_true, Bool.not_false, Bool.false_or, Bool.true_or, if_true, and_true, true_and, Bool.false_eq_true, if_false] <;> constructor <;> intro h <;> omega
structure Bnd (l : Le) : Prop where
  ins : 0 ≤ l.ins ∧ l.ins < 9223372036854775808
  prt : 0 ≤ l.prt ∧ l.prt < 9223372036854775808
  secs : 0 ≤ l.secs ∧ l.secs < 9223372036854775808
  res : 0 ≤ l.res ∧ l.res < 9223372036854775808
  epo : 0 ≤ l.epo ∧ l.epo < 9223372036854775808
  hst : 0 ≤ l.hst ∧ l.hst < 9223372036854775808
theorem bnd_of {l : Le} (h : allB l = true) (hl : isL l) : Bnd l := by
  unfold allB at h
  simp only [Bool.and_eq_true, fitsB_iff, beq0] at h
  have := hl.hst
  exact ⟨by omega, by omega, by omega, by omega, by omega, by omega⟩

/-- the document's row while it is put together -/
structure Rw (w W : World) (l : Le) (V : Value) (xs : List Int) : Prop where
  low : Below w.heap.size w W
  box : LeAt W w.heap.size l
  own : W.ownsRow (w.heap.size + 1) 5 1 V xs.length (B xs)
theorem Rw.drew {w W : World} {l : Le} {V : Value} {xs : List Int} (h : Rw w W l V xs) : Rw w W.drew l V xs := ⟨below_drewN' h.low 1, h.box, h.own⟩
theorem Rw.big {w W : World} {l : Le} {V : Value} {xs : List Int} (h : Rw w W l V xs) (n : Nat) (v : Int) (hn0 : 0 < n) (hn : n ≤ 4) (hv : 0 ≤ v ∧ v < 9223372036854775808) :
    Calls Try.prog 37 #[.int .i64 v, .int .i64 (n : Int)] W fun e W' => ∃ A c, e = .returned (.slice (some A) n c) ∧ Rw w W' l V xs ∧ Bts W' (some A) n (be n v) := by
  obtain ⟨X, rfl⟩ := Int.eq_ofNat_of_zero_le hv.1
  refine (big_any n X W hn (by omega)).mono ?_
  rintro e W' ⟨r, rfl, ho, hb⟩
  obtain ⟨A, c, rfl, _, _, hbt⟩ := own_form ho (be_bd n _)
  obtain ⟨ad, rfl⟩ := hbt.some_of hn0
  exact ⟨ad, c, rfl, ⟨h.low.trans (hb.mono h.low.size), h.box.below hb h.box.lt, own_below h.own hb⟩, hbt⟩
theorem Rw.lit {w W : World} {l : Le} {V : Value} {xs : List Int} (h : Rw w W l V xs) (zs : List Int) (n : Nat) (hn : zs.length = n) (hm : n ≤ maxLen) : Rw w (W.alloc (.cells (B zs).toArray 5)) l (.slice (some ⟨W.heap.size, 0, none⟩) n n) zs := by
  refine ⟨h.low.trans (((Below.refl _ W).alloc h.low.size _)), h.box.below ((Below.refl _ W).alloc (Nat.le_refl _) _) h.box.lt, ?_⟩
  rw [hn]
  have := World.ownsRow_lit W (e := 5) (base := w.heap.size + 1) (size := 1) (B zs).toArray n (by have := h.box.lt; omega) hm (by simp [B, hn])
  simpa using this
theorem Rw.step {w W : World} {l : Le} {V : Value} {xs : List Int} (h : Rw w W l V xs) {ops : Array Oper} {o : Oper} {a : Act} {K : Act → World → Prop} {Q : Exit → Act → World → Prop} {E : Prop} (hf : o.guard = none) (s x : Operand)
    (ho : o.op = .call { callee := .builtin .append, args := #[s, x], argTypes := #[27, 27] }) {n c : Nat} {A : Addr} {zs : List Int} (hs : a.eval s = V) (hx : a.eval x = .slice (some A) n c) (hb : Bts W (some A) n zs) (hl : xs.length + n ≤ 1000)
    (hK : ∀ V' W', Rw w W' l V' (xs ++ zs) → K (a.put o.dst V') W') :
    if Region.wanted o (yielded ops a.tmps) = true then Oper.wp Try.prog o a W K Q else E := by
  obtain ⟨i0, hi0, hz0, hz1, hz2⟩ := info_parts u8_info
  obtain ⟨v', w', hrun, r1, r2, _, r3⟩ := run_append_own_at (P := Try.prog) (w := W) (w.heap.size + 1) 27 o.type 5 i0 (.int .u8 0) 1 1 Try.underlying27 hi0 hz0 hz1 hz2 rfl (by decide) V xs.length (B xs) h.own A n c (B zs) (by rw [B_length, hb.len]; omega) hb.news (B_one zs)
    (by unfold maxLen; omega) (by omega) (by have := h.box.lt; omega)
  rw [if_pos (by simp [Region.wanted, hf])]
  unfold Oper.wp execOp
  simp only [ho, resolve, invoke, builtin, Sem.run_bind, Sem.run_pure, Result.andThen_ok, List.map_toArray, List.map_cons, List.map_nil, hs, hx, hrun]
  refine hK _ _ ⟨h.low.trans (own_grown h.own r2 (by omega) h.low.size), ?_, ?_⟩
  · refine (r2.block _ h.box.lt ?_).trans h.box
    intro e
    have := (h.own.lt _ e.symm).1
    omega
  · rw [← B_append] at r1
    rw [List.length_append, hb.len]
    exact r1

set_option maxRecDepth 100000 in
set_option maxHeartbeats 8000000 in
theorem rask_any (l : Le) (h : Bool) (w : World) (hl : isL l) : Calls Try.prog 15 #[leV l, .bool h] w fun e w' => ∃ V, e = .returned V ∧ w'.ownsRow w.heap.size 5 1 V (askR l h).length (B (askR l h)) ∧ Below w.heap.size w w' := by
  have HC := Lib.hid (fun W => rfits_any l W hl)
  have HNO := Lib.hid (fun W => none_any l W hl)
  have HRR : Hid (askR l h = if askB l h then (if h then [0, 0] else [0, 1, 0, 0] ++ (be 2 l.ins ++ (be 2 l.prt ++ be 4 l.secs))) else []) := Lib.hid rfl
  rw [askB_doc] at HRR
  have hh0 := hl.hst
  have hwr : IntKind.i64.wrap l.hst = l.hst := by rw [IntKind.wrap_i64]; omega
  have HL := Lib.hid hl; clear hl
  generalize hRR : askR l h = R at *
  clear hRR
  unfold leV leA at *
  go_enter Try.func15, Try.ntmps15
  go_wp2_with fail
  refine (HC.out _).mono ?_
  rintro e w1 ⟨rfl, hb⟩
  have HR1 : Hid (Rw w w1 l (.slice none 0 0) []) := Lib.hid ⟨((Below.refl _ w).alloc (Nat.le_refl _) _).trans (hb.mono (by simp)), (LeAt.new w l).below hb (by simp), World.ownsRow_nil _ _ _ _⟩
  obtain ⟨x0, x1, x2, x3, x4, x5, x6, x7⟩ := HR1.out.box.cells
  clear hb
  cases t0 : allB l with
  | false =>
    go_wp2
    go_ret
    have e : R = [] := by rw [HRR.out]; simp [t0]
    rw [e]
    exact ⟨_, rfl, World.ownsRow_nil _ _ _ _, HR1.out.low⟩
  | true =>
    have HN := Lib.hid (bnd_of t0 HL.out)
    cases t1 : (l.res == 0) with
    | false =>
      have nt1 := bne_of t1; simp only [Bool.not_false] at nt1
      go_wp2
      go_ret
      have e : R = [] := by rw [HRR.out]; simp [t0, t1]
      rw [e]
      exact ⟨_, rfl, World.ownsRow_nil _ _ _ _, HR1.out.low⟩
    | true =>
      have nt1 := bne_of t1; simp only [Bool.not_true] at nt1
      cases t2 : (l.epo == 0) with
      | false =>
        have nt2 := bne_of t2; simp only [Bool.not_false] at nt2
        go_wp2
        go_ret
        have e : R = [] := by rw [HRR.out]; simp [t0, t1, t2]
        rw [e]
        exact ⟨_, rfl, World.ownsRow_nil _ _ _ _, HR1.out.low⟩
      | true =>
        have nt2 := bne_of t2; simp only [Bool.not_true] at nt2
        cases t3 : (l.hst == 0) with
        | false =>
          have nt3 := bne_of t3; simp only [Bool.not_false] at nt3
          go_wp2
          go_ret
          have e : R = [] := by rw [HRR.out]; simp [t0, t1, t2, t3]
          rw [e]
          exact ⟨_, rfl, World.ownsRow_nil _ _ _ _, HR1.out.low⟩
        | true =>
          have nt3 := bne_of t3; simp only [Bool.not_true] at nt3
          cases h with
          | true =>
            go_wp2_with fail
            refine (HNO.out _).mono ?_
            rintro e w2 ⟨rfl, hb⟩
            have HR2 : Hid (Rw w w2 l (.slice none 0 0) []) := Lib.hid ⟨HR1.out.low.trans (hb.mono HR1.out.low.size), HR1.out.box.below hb HR1.out.box.lt, World.ownsRow_nil _ _ _ _⟩
            clear hb
            cases t5 : noneB l with
            | false =>
              go_wp2
              go_ret
              have e : R = [] := by rw [HRR.out]; simp [t0, t1, t2, t3, t5]
              rw [e]
              exact ⟨_, rfl, World.ownsRow_nil _ _ _ _, HR2.out.low⟩
            | true =>
              go_wp2
              go_ret
              have e : R = [0, 0] := by rw [HRR.out]; simp [t0, t1, t2, t3, t5]
              rw [e]
              have hR := HR2.out.lit [0, 0] 2 rfl (by unfold maxLen; omega)
              exact ⟨_, rfl, Go.Joins.ownsRow_le hR.own (by omega), hR.low⟩
          | false =>
            go_wp2_with fail
            clear x0 x1 x2 x3 x4 x5 x6 x7
            have HR0 := Lib.hid HR1.out.drew
            refine wp_region_held_drew (S := fun W => LeAt W w.heap.size l) (by kernel_rfl) HR0.out.box (fun hHeld => ?_)
            refine wpAnyH_take (i := 1) (oi := _) (v := ?_) rfl (by kernel_rfl) (by kernel_rfl) (by kernel_rfl) (fun _ _ _ h => h) (Or.inl ⟨by rfl, ?_⟩) (by assumption) ?_
            case refine_2 => intro w hSw; (try dsimp only at hSw); have hcs := LeAt.cells hSw; obtain ⟨y0, y1, y2, y3, y4, y5, y6, y7⟩ := hcs; clear hSw; go_simp; first | done | (with_reducible rfl)
            try simp only [Act.put, List.getElem_toArray, List.getElem_cons_zero, List.getElem_cons_succ, List.setIfInBounds_toArray, List.set_cons_zero, List.set_cons_succ]
            refine wpAnyH_take (i := 2) (oi := _) (v := ?_) rfl (by kernel_rfl) (by kernel_rfl) (by kernel_rfl) (fun _ _ _ h => h) (Or.inl ⟨by rfl, ?_⟩) (by assumption) ?_
            case refine_2 => intro w hSw; (try dsimp only at hSw); have hcs := LeAt.cells hSw; obtain ⟨y0, y1, y2, y3, y4, y5, y6, y7⟩ := hcs; clear hSw; go_simp; first | done | (with_reducible rfl)
            try simp only [Act.put, List.getElem_toArray, List.getElem_cons_zero, List.getElem_cons_succ, List.setIfInBounds_toArray, List.set_cons_zero, List.set_cons_succ]
            refine wpAnyH_take (i := 5) (oi := _) (v := ?_) rfl (by kernel_rfl) (by kernel_rfl) (by kernel_rfl) (fun _ _ _ h => h) (Or.inl ⟨by rfl, ?_⟩) (by assumption) ?_
            case refine_2 => intro w hSw; (try dsimp only at hSw); have hcs := LeAt.cells hSw; obtain ⟨y0, y1, y2, y3, y4, y5, y6, y7⟩ := hcs; clear hSw; go_simp; first | done | (with_reducible rfl)
            try simp only [Act.put, List.getElem_toArray, List.getElem_cons_zero, List.getElem_cons_succ, List.setIfInBounds_toArray, List.set_cons_zero, List.set_cons_succ]
            refine wpAnyH_take (i := 6) (oi := _) (v := ?_) rfl (by kernel_rfl) (by kernel_rfl) (by kernel_rfl) (fun _ _ _ h => h) (Or.inl ⟨by rfl, ?_⟩) (by assumption) ?_
            case refine_2 => intro w hSw; (try dsimp only at hSw); have hcs := LeAt.cells hSw; obtain ⟨y0, y1, y2, y3, y4, y5, y6, y7⟩ := hcs; clear hSw; go_simp; first | done | (with_reducible rfl)
            try simp only [Act.put, List.getElem_toArray, List.getElem_cons_zero, List.getElem_cons_succ, List.setIfInBounds_toArray, List.set_cons_zero, List.set_cons_succ]
            refine wpAnyH_take (i := 9) (oi := _) (v := ?_) rfl (by kernel_rfl) (by kernel_rfl) (by kernel_rfl) (fun _ _ _ h => h) (Or.inl ⟨by rfl, ?_⟩) (by assumption) ?_
            case refine_2 => intro w hSw; (try dsimp only at hSw); have hcs := LeAt.cells hSw; obtain ⟨y0, y1, y2, y3, y4, y5, y6, y7⟩ := hcs; clear hSw; go_simp; first | done | (with_reducible rfl)
            try simp only [Act.put, List.getElem_toArray, List.getElem_cons_zero, List.getElem_cons_succ, List.setIfInBounds_toArray, List.set_cons_zero, List.set_cons_succ]
            refine wpAnyH_take (i := 10) (oi := _) (v := ?_) rfl (by kernel_rfl) (by kernel_rfl) (by kernel_rfl) (fun _ _ _ h => h) (Or.inl ⟨by rfl, ?_⟩) (by assumption) ?_
            case refine_2 => intro w hSw; (try dsimp only at hSw); have hcs := LeAt.cells hSw; obtain ⟨y0, y1, y2, y3, y4, y5, y6, y7⟩ := hcs; clear hSw; go_simp; first | done | (with_reducible rfl)
            try simp only [Act.put, List.getElem_toArray, List.getElem_cons_zero, List.getElem_cons_succ, List.setIfInBounds_toArray, List.set_cons_zero, List.set_cons_succ]
            refine wpAnyH_ready (rs := [0, 3]) (by kernel_rfl) (by simp) ?_
            refine AllReadyH.cons rfl (fun K hK => ?_) (AllReadyH.cons rfl (fun K hK => ?_) AllReadyH.nil)
            · go_simp
              have HR4 := Lib.hid (HR0.out.lit [0, 1, 0, 0] 4 rfl (by unfold maxLen; omega))
              unfold B at HR4
              simp only [List.map_cons, List.map_nil] at HR4
              refine hK.out _ _ HR4.out.box (fun hHeld => ?_)
              clear hK K
              try simp only [Act.put, List.getElem_toArray, List.getElem_cons_zero, List.getElem_cons_succ, List.setIfInBounds_toArray, List.set_cons_zero, List.set_cons_succ]
              refine wpAnyH_ready (rs := [3]) (by kernel_rfl) (by simp) ?_
              refine AllReadyH.cons rfl (fun K hK => ?_) AllReadyH.nil
              go_simp
              go_at_call 37
              refine (HR4.out.big 2 l.ins (by decide) (by decide) HN.out.ins).mono ?_
              rintro e w5 ⟨A5, c5, rfl, hr, hb⟩
              have HR5 := Lib.hid hr
              have HB5 := Lib.hid hb
              clear hr hb
              refine hK.out _ _ HR5.out.box (fun hHeld => ?_)
              clear hK K
              try simp only [Act.put, List.getElem_toArray, List.getElem_cons_zero, List.getElem_cons_succ, List.setIfInBounds_toArray, List.set_cons_zero, List.set_cons_succ]
              refine wpAnyH_ready (rs := [4]) (by kernel_rfl) (by simp) ?_
              refine AllReadyH.cons rfl (fun K hK => ?_) AllReadyH.nil
              refine Rw.step HR5.out rfl (.tmp 33) (.tmp 36) rfl rfl rfl HB5.out (by simp) ?_
              intro V6 w6 hr
              have HR6 := Lib.hid hr
              clear hr
              refine hK.out _ _ HR6.out.box (fun hHeld => ?_)
              clear hK K
              try simp only [Act.put, List.getElem_toArray, List.getElem_cons_zero, List.getElem_cons_succ, List.setIfInBounds_toArray, List.set_cons_zero, List.set_cons_succ]
              refine wpAnyH_ready (rs := [7]) (by kernel_rfl) (by simp) ?_
              refine AllReadyH.cons rfl (fun K hK => ?_) AllReadyH.nil
              go_simp
              go_at_call 37
              refine (HR6.out.big 2 l.prt (by decide) (by decide) HN.out.prt).mono ?_
              rintro e w7 ⟨A7, c7, rfl, hr, hb⟩
              have HR7 := Lib.hid hr
              have HB7 := Lib.hid hb
              clear hr hb
              refine hK.out _ _ HR7.out.box (fun hHeld => ?_)
              clear hK K
              try simp only [Act.put, List.getElem_toArray, List.getElem_cons_zero, List.getElem_cons_succ, List.setIfInBounds_toArray, List.set_cons_zero, List.set_cons_succ]
              refine wpAnyH_ready (rs := [8]) (by kernel_rfl) (by simp) ?_
              refine AllReadyH.cons rfl (fun K hK => ?_) AllReadyH.nil
              refine Rw.step HR7.out rfl (.tmp 37) (.tmp 40) rfl rfl rfl HB7.out (by simp) ?_
              intro V8 w8 hr
              have HR8 := Lib.hid hr
              clear hr
              refine hK.out _ _ HR8.out.box (fun hHeld => ?_)
              clear hK K
              try simp only [Act.put, List.getElem_toArray, List.getElem_cons_zero, List.getElem_cons_succ, List.setIfInBounds_toArray, List.set_cons_zero, List.set_cons_succ]
              refine wpAnyH_ready (rs := [11]) (by kernel_rfl) (by simp) ?_
              refine AllReadyH.cons rfl (fun K hK => ?_) AllReadyH.nil
              go_simp
              go_at_call 37
              refine (HR8.out.big 4 l.secs (by decide) (by decide) HN.out.secs).mono ?_
              rintro e w9 ⟨A9, c9, rfl, hr, hb⟩
              have HR9 := Lib.hid hr
              have HB9 := Lib.hid hb
              clear hr hb
              refine hK.out _ _ HR9.out.box (fun hHeld => ?_)
              clear hK K
              try simp only [Act.put, List.getElem_toArray, List.getElem_cons_zero, List.getElem_cons_succ, List.setIfInBounds_toArray, List.set_cons_zero, List.set_cons_succ]
              refine wpAnyH_ready (rs := [12]) (by kernel_rfl) (by simp) ?_
              refine AllReadyH.cons rfl (fun K hK => ?_) AllReadyH.nil
              refine Rw.step HR9.out rfl (.tmp 41) (.tmp 44) rfl rfl rfl HB9.out (by simp) ?_
              intro V10 w10 hr
              have HR10 := Lib.hid hr
              clear hr
              refine hK.out _ _ HR10.out.box (fun hHeld => ?_)
              clear hK K
              try simp only [Act.put, List.getElem_toArray, List.getElem_cons_zero, List.getElem_cons_succ, List.setIfInBounds_toArray, List.set_cons_zero, List.set_cons_succ]
              refine wpAnyH_take (i := 13) (oi := _) (v := ?_) rfl (by kernel_rfl) (by kernel_rfl) (by kernel_rfl) (fun _ _ _ h => h) (Or.inl ⟨by rfl, ?_⟩) (by assumption) ?_
              case refine_2 => intro w hSw; (try dsimp only at hSw); go_simp; first | done | (with_reducible rfl)
              try simp only [Act.put, List.getElem_toArray, List.getElem_cons_zero, List.getElem_cons_succ, List.setIfInBounds_toArray, List.set_cons_zero, List.set_cons_succ]
              refine wpAnyH_done (by kernel_rfl) ?_ _
              go_wp2
              go_ret
              have e := HRR.out
              simp [t0, t1, t2, t3] at e
              rw [e]
              have hR := HR10.out.own
              simp only [List.cons_append, List.nil_append, List.append_assoc] at hR
              exact ⟨_, rfl, Go.Joins.ownsRow_le hR (by omega), HR10.out.low⟩
            · go_simp
              go_at_call 37
              refine (HR0.out.big 2 l.ins (by decide) (by decide) HN.out.ins).mono ?_
              rintro e w3 ⟨A3, c3, rfl, hr, hb⟩
              have HR3 := Lib.hid hr
              have HB3 := Lib.hid hb
              clear hr hb
              refine hK.out _ _ HR3.out.box (fun hHeld => ?_)
              clear hK K
              try simp only [Act.put, List.getElem_toArray, List.getElem_cons_zero, List.getElem_cons_succ, List.setIfInBounds_toArray, List.set_cons_zero, List.set_cons_succ]
              refine wpAnyH_ready (rs := [0]) (by kernel_rfl) (by simp) ?_
              refine AllReadyH.cons rfl (fun K hK => ?_) AllReadyH.nil
              go_simp
              have HR4 := Lib.hid (HR3.out.lit [0, 1, 0, 0] 4 rfl (by unfold maxLen; omega))
              have HB4 := Lib.hid (HB3.out.alloc (.cells (B [0, 1, 0, 0]).toArray 5))
              unfold B at HR4 HB4
              simp only [List.map_cons, List.map_nil] at HR4 HB4
              refine hK.out _ _ HR4.out.box (fun hHeld => ?_)
              clear hK K
              try simp only [Act.put, List.getElem_toArray, List.getElem_cons_zero, List.getElem_cons_succ, List.setIfInBounds_toArray, List.set_cons_zero, List.set_cons_succ]
              refine wpAnyH_ready (rs := [4]) (by kernel_rfl) (by simp) ?_
              refine AllReadyH.cons rfl (fun K hK => ?_) AllReadyH.nil
              refine Rw.step HR4.out rfl (.tmp 33) (.tmp 36) rfl rfl rfl HB4.out (by simp) ?_
              intro V5 w5 hr
              have HR5 := Lib.hid hr
              clear hr
              refine hK.out _ _ HR5.out.box (fun hHeld => ?_)
              clear hK K
              try simp only [Act.put, List.getElem_toArray, List.getElem_cons_zero, List.getElem_cons_succ, List.setIfInBounds_toArray, List.set_cons_zero, List.set_cons_succ]
              refine wpAnyH_ready (rs := [7]) (by kernel_rfl) (by simp) ?_
              refine AllReadyH.cons rfl (fun K hK => ?_) AllReadyH.nil
              go_simp
              go_at_call 37
              refine (HR5.out.big 2 l.prt (by decide) (by decide) HN.out.prt).mono ?_
              rintro e w6 ⟨A6, c6, rfl, hr, hb⟩
              have HR6 := Lib.hid hr
              have HB6 := Lib.hid hb
              clear hr hb
              refine hK.out _ _ HR6.out.box (fun hHeld => ?_)
              clear hK K
              try simp only [Act.put, List.getElem_toArray, List.getElem_cons_zero, List.getElem_cons_succ, List.setIfInBounds_toArray, List.set_cons_zero, List.set_cons_succ]
              refine wpAnyH_ready (rs := [8]) (by kernel_rfl) (by simp) ?_
              refine AllReadyH.cons rfl (fun K hK => ?_) AllReadyH.nil
              refine Rw.step HR6.out rfl (.tmp 37) (.tmp 40) rfl rfl rfl HB6.out (by simp) ?_
              intro V7 w7 hr
              have HR7 := Lib.hid hr
              clear hr
              refine hK.out _ _ HR7.out.box (fun hHeld => ?_)
              clear hK K
              try simp only [Act.put, List.getElem_toArray, List.getElem_cons_zero, List.getElem_cons_succ, List.setIfInBounds_toArray, List.set_cons_zero, List.set_cons_succ]
              refine wpAnyH_ready (rs := [11]) (by kernel_rfl) (by simp) ?_
              refine AllReadyH.cons rfl (fun K hK => ?_) AllReadyH.nil
              go_simp
              go_at_call 37
              refine (HR7.out.big 4 l.secs (by decide) (by decide) HN.out.secs).mono ?_
              rintro e w8 ⟨A8, c8, rfl, hr, hb⟩
              have HR8 := Lib.hid hr
              have HB8 := Lib.hid hb
              clear hr hb
              refine hK.out _ _ HR8.out.box (fun hHeld => ?_)
              clear hK K
              try simp only [Act.put, List.getElem_toArray, List.getElem_cons_zero, List.getElem_cons_succ, List.setIfInBounds_toArray, List.set_cons_zero, List.set_cons_succ]
              refine wpAnyH_ready (rs := [12]) (by kernel_rfl) (by simp) ?_
              refine AllReadyH.cons rfl (fun K hK => ?_) AllReadyH.nil
              refine Rw.step HR8.out rfl (.tmp 41) (.tmp 44) rfl rfl rfl HB8.out (by simp) ?_
              intro V9 w9 hr
              have HR9 := Lib.hid hr
              clear hr
              refine hK.out _ _ HR9.out.box (fun hHeld => ?_)
              clear hK K
              try simp only [Act.put, List.getElem_toArray, List.getElem_cons_zero, List.getElem_cons_succ, List.setIfInBounds_toArray, List.set_cons_zero, List.set_cons_succ]
              refine wpAnyH_take (i := 13) (oi := _) (v := ?_) rfl (by kernel_rfl) (by kernel_rfl) (by kernel_rfl) (fun _ _ _ h => h) (Or.inl ⟨by rfl, ?_⟩) (by assumption) ?_
              case refine_2 => intro w hSw; (try dsimp only at hSw); go_simp; first | done | (with_reducible rfl)
              try simp only [Act.put, List.getElem_toArray, List.getElem_cons_zero, List.getElem_cons_succ, List.setIfInBounds_toArray, List.set_cons_zero, List.set_cons_succ]
              refine wpAnyH_done (by kernel_rfl) ?_ _
              go_wp2
              go_ret
              have e := HRR.out
              simp [t0, t1, t2, t3] at e
              rw [e]
              have hR := HR9.out.own
              simp only [List.cons_append, List.nil_append, List.append_assoc] at hR
              exact ⟨_, rfl, Go.Joins.ownsRow_le hR (by omega), HR9.out.low⟩
set_option maxRecDepth 100000 in
set_option maxHeartbeats 8000000 in
theorem ranswer_any (l : Le) (h : Bool) (w : World) (hl : isL l) : Calls Try.prog 16 #[leV l, .bool h] w fun e w' => ∃ V, e = .returned V ∧ w'.ownsRow w.heap.size 5 1 V (ansR l h).length (B (ansR l h)) ∧ Below w.heap.size w w' := by
  have HC := Lib.hid (fun W => rfits_any l W hl)
  have HNO := Lib.hid (fun W => none_any l W hl)
  have HRR : Hid (ansR l h = if ansB l h then (if h then [0, 128] ++ (be 2 l.res ++ (be 4 l.epo ++ be 4 l.hst)) else [0, 129] ++ (be 2 l.res ++ (be 4 l.epo ++ (be 2 l.ins ++ (be 2 l.prt ++ be 4 l.secs))))) else []) := Lib.hid rfl
  rw [ansB_doc] at HRR
  have hh0 := hl.hst
  have hwr : IntKind.i64.wrap l.hst = l.hst := by rw [IntKind.wrap_i64]; omega
  have HL := Lib.hid hl; clear hl
  generalize hRR : ansR l h = R at *
  clear hRR
  unfold leV leA at *
  go_enter Try.func16, Try.ntmps16
  go_wp2_with fail
  refine (HC.out _).mono ?_
  rintro e w1 ⟨rfl, hb⟩
  have HR1 : Hid (Rw w w1 l (.slice none 0 0) []) := Lib.hid ⟨((Below.refl _ w).alloc (Nat.le_refl _) _).trans (hb.mono (by simp)), (LeAt.new w l).below hb (by simp), World.ownsRow_nil _ _ _ _⟩
  obtain ⟨x0, x1, x2, x3, x4, x5, x6, x7⟩ := HR1.out.box.cells
  clear hb
  cases t0 : allB l with
  | false =>
    go_wp2
    go_ret
    have e : R = [] := by rw [HRR.out]; simp [t0]
    rw [e]
    exact ⟨_, rfl, World.ownsRow_nil _ _ _ _, HR1.out.low⟩
  | true =>
    have HN := Lib.hid (bnd_of t0 HL.out)
    cases h with
    | true =>
      go_wp2_with fail
      refine (HNO.out _).mono ?_
      rintro e w2 ⟨rfl, hb⟩
      have HR2 : Hid (Rw w w2 l (.slice none 0 0) []) := Lib.hid ⟨HR1.out.low.trans (hb.mono HR1.out.low.size), HR1.out.box.below hb HR1.out.box.lt, World.ownsRow_nil _ _ _ _⟩
      clear hb
      cases t5 : noneB l with
      | false =>
        go_wp2
        go_ret
        have e : R = [] := by rw [HRR.out]; simp [t0, t5]
        rw [e]
        exact ⟨_, rfl, World.ownsRow_nil _ _ _ _, HR2.out.low⟩
      | true =>
        go_wp2_with fail
        clear x0 x1 x2 x3 x4 x5 x6 x7
        have HR0 := Lib.hid HR2.out.drew
        refine wp_region_held_drew (S := fun W => LeAt W w.heap.size l) (by kernel_rfl) HR0.out.box (fun hHeld => ?_)
        refine wpAnyH_take (i := 1) (oi := _) (v := ?_) rfl (by kernel_rfl) (by kernel_rfl) (by kernel_rfl) (fun _ _ _ h => h) (Or.inl ⟨by rfl, ?_⟩) (by assumption) ?_
        case refine_2 => intro w hSw; (try dsimp only at hSw); have hcs := LeAt.cells hSw; obtain ⟨y0, y1, y2, y3, y4, y5, y6, y7⟩ := hcs; clear hSw; go_simp; first | done | (with_reducible rfl)
        try simp only [Act.put, List.getElem_toArray, List.getElem_cons_zero, List.getElem_cons_succ, List.setIfInBounds_toArray, List.set_cons_zero, List.set_cons_succ]
        refine wpAnyH_take (i := 2) (oi := _) (v := ?_) rfl (by kernel_rfl) (by kernel_rfl) (by kernel_rfl) (fun _ _ _ h => h) (Or.inl ⟨by rfl, ?_⟩) (by assumption) ?_
        case refine_2 => intro w hSw; (try dsimp only at hSw); have hcs := LeAt.cells hSw; obtain ⟨y0, y1, y2, y3, y4, y5, y6, y7⟩ := hcs; clear hSw; go_simp; first | done | (with_reducible rfl)
        try simp only [Act.put, List.getElem_toArray, List.getElem_cons_zero, List.getElem_cons_succ, List.setIfInBounds_toArray, List.set_cons_zero, List.set_cons_succ]
        refine wpAnyH_take (i := 5) (oi := _) (v := ?_) rfl (by kernel_rfl) (by kernel_rfl) (by kernel_rfl) (fun _ _ _ h => h) (Or.inl ⟨by rfl, ?_⟩) (by assumption) ?_
        case refine_2 => intro w hSw; (try dsimp only at hSw); have hcs := LeAt.cells hSw; obtain ⟨y0, y1, y2, y3, y4, y5, y6, y7⟩ := hcs; clear hSw; go_simp; first | done | (with_reducible rfl)
        try simp only [Act.put, List.getElem_toArray, List.getElem_cons_zero, List.getElem_cons_succ, List.setIfInBounds_toArray, List.set_cons_zero, List.set_cons_succ]
        refine wpAnyH_take (i := 6) (oi := _) (v := ?_) rfl (by kernel_rfl) (by kernel_rfl) (by kernel_rfl) (fun _ _ _ h => h) (Or.inl ⟨by rfl, ?_⟩) (by assumption) ?_
        case refine_2 => intro w hSw; (try dsimp only at hSw); have hcs := LeAt.cells hSw; obtain ⟨y0, y1, y2, y3, y4, y5, y6, y7⟩ := hcs; clear hSw; go_simp; first | done | (with_reducible rfl)
        try simp only [Act.put, List.getElem_toArray, List.getElem_cons_zero, List.getElem_cons_succ, List.setIfInBounds_toArray, List.set_cons_zero, List.set_cons_succ]
        refine wpAnyH_take (i := 9) (oi := _) (v := ?_) rfl (by kernel_rfl) (by kernel_rfl) (by kernel_rfl) (fun _ _ _ h => h) (Or.inl ⟨by rfl, ?_⟩) (by assumption) ?_
        case refine_2 => intro w hSw; (try dsimp only at hSw); have hcs := LeAt.cells hSw; obtain ⟨y0, y1, y2, y3, y4, y5, y6, y7⟩ := hcs; clear hSw; go_simp; first | done | (with_reducible rfl)
        try simp only [Act.put, List.getElem_toArray, List.getElem_cons_zero, List.getElem_cons_succ, List.setIfInBounds_toArray, List.set_cons_zero, List.set_cons_succ]
        refine wpAnyH_take (i := 10) (oi := _) (v := ?_) rfl (by kernel_rfl) (by kernel_rfl) (by kernel_rfl) (fun _ _ _ h => h) (Or.inl ⟨by rfl, ?_⟩) (by assumption) ?_
        case refine_2 => intro w hSw; (try dsimp only at hSw); have hcs := LeAt.cells hSw; obtain ⟨y0, y1, y2, y3, y4, y5, y6, y7⟩ := hcs; clear hSw; go_simp; first | done | (with_reducible rfl)
        try simp only [Act.put, List.getElem_toArray, List.getElem_cons_zero, List.getElem_cons_succ, List.setIfInBounds_toArray, List.set_cons_zero, List.set_cons_succ]
        refine wpAnyH_take (i := 11) (oi := _) (v := ?_) rfl (by kernel_rfl) (by kernel_rfl) (by kernel_rfl) (fun _ _ _ h => h) (Or.inl ⟨by rfl, ?_⟩) (by assumption) ?_
        case refine_2 => intro w hSw; (try dsimp only at hSw); have hcs := LeAt.cells hSw; obtain ⟨y0, y1, y2, y3, y4, y5, y6, y7⟩ := hcs; clear hSw; go_simp; first | done | (with_reducible rfl)
        try simp only [Act.put, List.getElem_toArray, List.getElem_cons_zero, List.getElem_cons_succ, List.setIfInBounds_toArray, List.set_cons_zero, List.set_cons_succ]
        refine wpAnyH_ready (rs := [0, 3]) (by kernel_rfl) (by simp) ?_
        refine AllReadyH.cons rfl (fun K hK => ?_) (AllReadyH.cons rfl (fun K hK => ?_) AllReadyH.nil)
        · go_simp
          have HR4 := Lib.hid (HR0.out.lit [0, 128] 2 rfl (by unfold maxLen; omega))
          unfold B at HR4
          simp only [List.map_cons, List.map_nil] at HR4
          refine hK.out _ _ HR4.out.box (fun hHeld => ?_)
          clear hK K
          try simp only [Act.put, List.getElem_toArray, List.getElem_cons_zero, List.getElem_cons_succ, List.setIfInBounds_toArray, List.set_cons_zero, List.set_cons_succ]
          refine wpAnyH_ready (rs := [3]) (by kernel_rfl) (by simp) ?_
          refine AllReadyH.cons rfl (fun K hK => ?_) AllReadyH.nil
          go_simp
          go_at_call 37
          refine (HR4.out.big 2 l.res (by decide) (by decide) HN.out.res).mono ?_
          rintro e w5 ⟨A5, c5, rfl, hr, hb⟩
          have HR5 := Lib.hid hr
          have HB5 := Lib.hid hb
          clear hr hb
          refine hK.out _ _ HR5.out.box (fun hHeld => ?_)
          clear hK K
          try simp only [Act.put, List.getElem_toArray, List.getElem_cons_zero, List.getElem_cons_succ, List.setIfInBounds_toArray, List.set_cons_zero, List.set_cons_succ]
          refine wpAnyH_ready (rs := [4]) (by kernel_rfl) (by simp) ?_
          refine AllReadyH.cons rfl (fun K hK => ?_) AllReadyH.nil
          refine Rw.step HR5.out rfl (.tmp 27) (.tmp 30) rfl rfl rfl HB5.out (by simp) ?_
          intro V6 w6 hr
          have HR6 := Lib.hid hr
          clear hr
          refine hK.out _ _ HR6.out.box (fun hHeld => ?_)
          clear hK K
          try simp only [Act.put, List.getElem_toArray, List.getElem_cons_zero, List.getElem_cons_succ, List.setIfInBounds_toArray, List.set_cons_zero, List.set_cons_succ]
          refine wpAnyH_ready (rs := [7]) (by kernel_rfl) (by simp) ?_
          refine AllReadyH.cons rfl (fun K hK => ?_) AllReadyH.nil
          go_simp
          go_at_call 37
          refine (HR6.out.big 4 l.epo (by decide) (by decide) HN.out.epo).mono ?_
          rintro e w7 ⟨A7, c7, rfl, hr, hb⟩
          have HR7 := Lib.hid hr
          have HB7 := Lib.hid hb
          clear hr hb
          refine hK.out _ _ HR7.out.box (fun hHeld => ?_)
          clear hK K
          try simp only [Act.put, List.getElem_toArray, List.getElem_cons_zero, List.getElem_cons_succ, List.setIfInBounds_toArray, List.set_cons_zero, List.set_cons_succ]
          refine wpAnyH_ready (rs := [8]) (by kernel_rfl) (by simp) ?_
          refine AllReadyH.cons rfl (fun K hK => ?_) AllReadyH.nil
          refine Rw.step HR7.out rfl (.tmp 31) (.tmp 34) rfl rfl rfl HB7.out (by simp) ?_
          intro V8 w8 hr
          have HR8 := Lib.hid hr
          clear hr
          refine hK.out _ _ HR8.out.box (fun hHeld => ?_)
          clear hK K
          try simp only [Act.put, List.getElem_toArray, List.getElem_cons_zero, List.getElem_cons_succ, List.setIfInBounds_toArray, List.set_cons_zero, List.set_cons_succ]
          refine wpAnyH_ready (rs := [12]) (by kernel_rfl) (by simp) ?_
          refine AllReadyH.cons rfl (fun K hK => ?_) AllReadyH.nil
          go_simp
          go_at_call 37
          refine (HR8.out.big 4 l.hst (by decide) (by decide) HN.out.hst).mono ?_
          rintro e w9 ⟨A9, c9, rfl, hr, hb⟩
          have HR9 := Lib.hid hr
          have HB9 := Lib.hid hb
          clear hr hb
          refine hK.out _ _ HR9.out.box (fun hHeld => ?_)
          clear hK K
          try simp only [Act.put, List.getElem_toArray, List.getElem_cons_zero, List.getElem_cons_succ, List.setIfInBounds_toArray, List.set_cons_zero, List.set_cons_succ]
          refine wpAnyH_ready (rs := [13]) (by kernel_rfl) (by simp) ?_
          refine AllReadyH.cons rfl (fun K hK => ?_) AllReadyH.nil
          refine Rw.step HR9.out rfl (.tmp 35) (.tmp 39) rfl rfl rfl HB9.out (by simp) ?_
          intro V10 w10 hr
          have HR10 := Lib.hid hr
          clear hr
          refine hK.out _ _ HR10.out.box (fun hHeld => ?_)
          clear hK K
          try simp only [Act.put, List.getElem_toArray, List.getElem_cons_zero, List.getElem_cons_succ, List.setIfInBounds_toArray, List.set_cons_zero, List.set_cons_succ]
          refine wpAnyH_take (i := 14) (oi := _) (v := ?_) rfl (by kernel_rfl) (by kernel_rfl) (by kernel_rfl) (fun _ _ _ h => h) (Or.inl ⟨by rfl, ?_⟩) (by assumption) ?_
          case refine_2 => intro w hSw; (try dsimp only at hSw); go_simp; first | done | (with_reducible rfl)
          try simp only [Act.put, List.getElem_toArray, List.getElem_cons_zero, List.getElem_cons_succ, List.setIfInBounds_toArray, List.set_cons_zero, List.set_cons_succ]
          refine wpAnyH_done (by kernel_rfl) ?_ _
          go_wp2
          go_ret
          have e := HRR.out
          simp [t0, t5] at e
          rw [e]
          have hR := HR10.out.own
          simp only [List.cons_append, List.nil_append, List.append_assoc] at hR
          exact ⟨_, rfl, Go.Joins.ownsRow_le hR (by omega), HR10.out.low⟩
        · go_simp
          go_at_call 37
          refine (HR0.out.big 2 l.res (by decide) (by decide) HN.out.res).mono ?_
          rintro e w3 ⟨A3, c3, rfl, hr, hb⟩
          have HR3 := Lib.hid hr
          have HB3 := Lib.hid hb
          clear hr hb
          refine hK.out _ _ HR3.out.box (fun hHeld => ?_)
          clear hK K
          try simp only [Act.put, List.getElem_toArray, List.getElem_cons_zero, List.getElem_cons_succ, List.setIfInBounds_toArray, List.set_cons_zero, List.set_cons_succ]
          refine wpAnyH_ready (rs := [0]) (by kernel_rfl) (by simp) ?_
          refine AllReadyH.cons rfl (fun K hK => ?_) AllReadyH.nil
          go_simp
          have HR4 := Lib.hid (HR3.out.lit [0, 128] 2 rfl (by unfold maxLen; omega))
          have HB4 := Lib.hid (HB3.out.alloc (.cells (B [0, 128]).toArray 5))
          unfold B at HR4 HB4
          simp only [List.map_cons, List.map_nil] at HR4 HB4
          refine hK.out _ _ HR4.out.box (fun hHeld => ?_)
          clear hK K
          try simp only [Act.put, List.getElem_toArray, List.getElem_cons_zero, List.getElem_cons_succ, List.setIfInBounds_toArray, List.set_cons_zero, List.set_cons_succ]
          refine wpAnyH_ready (rs := [4]) (by kernel_rfl) (by simp) ?_
          refine AllReadyH.cons rfl (fun K hK => ?_) AllReadyH.nil
          refine Rw.step HR4.out rfl (.tmp 27) (.tmp 30) rfl rfl rfl HB4.out (by simp) ?_
          intro V5 w5 hr
          have HR5 := Lib.hid hr
          clear hr
          refine hK.out _ _ HR5.out.box (fun hHeld => ?_)
          clear hK K
          try simp only [Act.put, List.getElem_toArray, List.getElem_cons_zero, List.getElem_cons_succ, List.setIfInBounds_toArray, List.set_cons_zero, List.set_cons_succ]
          refine wpAnyH_ready (rs := [7]) (by kernel_rfl) (by simp) ?_
          refine AllReadyH.cons rfl (fun K hK => ?_) AllReadyH.nil
          go_simp
          go_at_call 37
          refine (HR5.out.big 4 l.epo (by decide) (by decide) HN.out.epo).mono ?_
          rintro e w6 ⟨A6, c6, rfl, hr, hb⟩
          have HR6 := Lib.hid hr
          have HB6 := Lib.hid hb
          clear hr hb
          refine hK.out _ _ HR6.out.box (fun hHeld => ?_)
          clear hK K
          try simp only [Act.put, List.getElem_toArray, List.getElem_cons_zero, List.getElem_cons_succ, List.setIfInBounds_toArray, List.set_cons_zero, List.set_cons_succ]
          refine wpAnyH_ready (rs := [8]) (by kernel_rfl) (by simp) ?_
          refine AllReadyH.cons rfl (fun K hK => ?_) AllReadyH.nil
          refine Rw.step HR6.out rfl (.tmp 31) (.tmp 34) rfl rfl rfl HB6.out (by simp) ?_
          intro V7 w7 hr
          have HR7 := Lib.hid hr
          clear hr
          refine hK.out _ _ HR7.out.box (fun hHeld => ?_)
          clear hK K
          try simp only [Act.put, List.getElem_toArray, List.getElem_cons_zero, List.getElem_cons_succ, List.setIfInBounds_toArray, List.set_cons_zero, List.set_cons_succ]
          refine wpAnyH_ready (rs := [12]) (by kernel_rfl) (by simp) ?_
          refine AllReadyH.cons rfl (fun K hK => ?_) AllReadyH.nil
          go_simp
          go_at_call 37
          refine (HR7.out.big 4 l.hst (by decide) (by decide) HN.out.hst).mono ?_
          rintro e w8 ⟨A8, c8, rfl, hr, hb⟩
          have HR8 := Lib.hid hr
          have HB8 := Lib.hid hb
          clear hr hb
          refine hK.out _ _ HR8.out.box (fun hHeld => ?_)
          clear hK K
          try simp only [Act.put, List.getElem_toArray, List.getElem_cons_zero, List.getElem_cons_succ, List.setIfInBounds_toArray, List.set_cons_zero, List.set_cons_succ]
          refine wpAnyH_ready (rs := [13]) (by kernel_rfl) (by simp) ?_
          refine AllReadyH.cons rfl (fun K hK => ?_) AllReadyH.nil
          refine Rw.step HR8.out rfl (.tmp 35) (.tmp 39) rfl rfl rfl HB8.out (by simp) ?_
          intro V9 w9 hr
          have HR9 := Lib.hid hr
          clear hr
          refine hK.out _ _ HR9.out.box (fun hHeld => ?_)
          clear hK K
          try simp only [Act.put, List.getElem_toArray, List.getElem_cons_zero, List.getElem_cons_succ, List.setIfInBounds_toArray, List.set_cons_zero, List.set_cons_succ]
          refine wpAnyH_take (i := 14) (oi := _) (v := ?_) rfl (by kernel_rfl) (by kernel_rfl) (by kernel_rfl) (fun _ _ _ h => h) (Or.inl ⟨by rfl, ?_⟩) (by assumption) ?_
          case refine_2 => intro w hSw; (try dsimp only at hSw); go_simp; first | done | (with_reducible rfl)
          try simp only [Act.put, List.getElem_toArray, List.getElem_cons_zero, List.getElem_cons_succ, List.setIfInBounds_toArray, List.set_cons_zero, List.set_cons_succ]
          refine wpAnyH_done (by kernel_rfl) ?_ _
          go_wp2
          go_ret
          have e := HRR.out
          simp [t0, t5] at e
          rw [e]
          have hR := HR9.out.own
          simp only [List.cons_append, List.nil_append, List.append_assoc] at hR
          exact ⟨_, rfl, Go.Joins.ownsRow_le hR (by omega), HR9.out.low⟩
    | false =>
      cases t4 : (l.hst == 0) with
      | false =>
        have nt4 := bne_of t4; simp only [Bool.not_false] at nt4
        go_wp2
        go_ret
        have e : R = [] := by rw [HRR.out]; simp [t0, t4]
        rw [e]
        exact ⟨_, rfl, World.ownsRow_nil _ _ _ _, HR1.out.low⟩
      | true =>
        have nt4 := bne_of t4; simp only [Bool.not_true] at nt4
        go_wp2_with fail
        clear x0 x1 x2 x3 x4 x5 x6 x7
        have HR0 := Lib.hid HR1.out.drew
        refine wp_region_held_drew (S := fun W => LeAt W w.heap.size l) (by kernel_rfl) HR0.out.box (fun hHeld => ?_)
        refine wpAnyH_take (i := 1) (oi := _) (v := ?_) rfl (by kernel_rfl) (by kernel_rfl) (by kernel_rfl) (fun _ _ _ h => h) (Or.inl ⟨by rfl, ?_⟩) (by assumption) ?_
        case refine_2 => intro w hSw; (try dsimp only at hSw); have hcs := LeAt.cells hSw; obtain ⟨y0, y1, y2, y3, y4, y5, y6, y7⟩ := hcs; clear hSw; go_simp; first | done | (with_reducible rfl)
        try simp only [Act.put, List.getElem_toArray, List.getElem_cons_zero, List.getElem_cons_succ, List.setIfInBounds_toArray, List.set_cons_zero, List.set_cons_succ]
        refine wpAnyH_take (i := 2) (oi := _) (v := ?_) rfl (by kernel_rfl) (by kernel_rfl) (by kernel_rfl) (fun _ _ _ h => h) (Or.inl ⟨by rfl, ?_⟩) (by assumption) ?_
        case refine_2 => intro w hSw; (try dsimp only at hSw); have hcs := LeAt.cells hSw; obtain ⟨y0, y1, y2, y3, y4, y5, y6, y7⟩ := hcs; clear hSw; go_simp; first | done | (with_reducible rfl)
        try simp only [Act.put, List.getElem_toArray, List.getElem_cons_zero, List.getElem_cons_succ, List.setIfInBounds_toArray, List.set_cons_zero, List.set_cons_succ]
        refine wpAnyH_take (i := 5) (oi := _) (v := ?_) rfl (by kernel_rfl) (by kernel_rfl) (by kernel_rfl) (fun _ _ _ h => h) (Or.inl ⟨by rfl, ?_⟩) (by assumption) ?_
        case refine_2 => intro w hSw; (try dsimp only at hSw); have hcs := LeAt.cells hSw; obtain ⟨y0, y1, y2, y3, y4, y5, y6, y7⟩ := hcs; clear hSw; go_simp; first | done | (with_reducible rfl)
        try simp only [Act.put, List.getElem_toArray, List.getElem_cons_zero, List.getElem_cons_succ, List.setIfInBounds_toArray, List.set_cons_zero, List.set_cons_succ]
        refine wpAnyH_take (i := 6) (oi := _) (v := ?_) rfl (by kernel_rfl) (by kernel_rfl) (by kernel_rfl) (fun _ _ _ h => h) (Or.inl ⟨by rfl, ?_⟩) (by assumption) ?_
        case refine_2 => intro w hSw; (try dsimp only at hSw); have hcs := LeAt.cells hSw; obtain ⟨y0, y1, y2, y3, y4, y5, y6, y7⟩ := hcs; clear hSw; go_simp; first | done | (with_reducible rfl)
        try simp only [Act.put, List.getElem_toArray, List.getElem_cons_zero, List.getElem_cons_succ, List.setIfInBounds_toArray, List.set_cons_zero, List.set_cons_succ]
        refine wpAnyH_take (i := 9) (oi := _) (v := ?_) rfl (by kernel_rfl) (by kernel_rfl) (by kernel_rfl) (fun _ _ _ h => h) (Or.inl ⟨by rfl, ?_⟩) (by assumption) ?_
        case refine_2 => intro w hSw; (try dsimp only at hSw); have hcs := LeAt.cells hSw; obtain ⟨y0, y1, y2, y3, y4, y5, y6, y7⟩ := hcs; clear hSw; go_simp; first | done | (with_reducible rfl)
        try simp only [Act.put, List.getElem_toArray, List.getElem_cons_zero, List.getElem_cons_succ, List.setIfInBounds_toArray, List.set_cons_zero, List.set_cons_succ]
        refine wpAnyH_take (i := 10) (oi := _) (v := ?_) rfl (by kernel_rfl) (by kernel_rfl) (by kernel_rfl) (fun _ _ _ h => h) (Or.inl ⟨by rfl, ?_⟩) (by assumption) ?_
        case refine_2 => intro w hSw; (try dsimp only at hSw); have hcs := LeAt.cells hSw; obtain ⟨y0, y1, y2, y3, y4, y5, y6, y7⟩ := hcs; clear hSw; go_simp; first | done | (with_reducible rfl)
        try simp only [Act.put, List.getElem_toArray, List.getElem_cons_zero, List.getElem_cons_succ, List.setIfInBounds_toArray, List.set_cons_zero, List.set_cons_succ]
        refine wpAnyH_ready (rs := [0, 3]) (by kernel_rfl) (by simp) ?_
        refine AllReadyH.cons rfl (fun K hK => ?_) (AllReadyH.cons rfl (fun K hK => ?_) AllReadyH.nil)
        · go_simp
          have HR4 := Lib.hid (HR0.out.lit [0, 129] 2 rfl (by unfold maxLen; omega))
          unfold B at HR4
          simp only [List.map_cons, List.map_nil] at HR4
          refine hK.out _ _ HR4.out.box (fun hHeld => ?_)
          clear hK K
          try simp only [Act.put, List.getElem_toArray, List.getElem_cons_zero, List.getElem_cons_succ, List.setIfInBounds_toArray, List.set_cons_zero, List.set_cons_succ]
          refine wpAnyH_ready (rs := [3]) (by kernel_rfl) (by simp) ?_
          refine AllReadyH.cons rfl (fun K hK => ?_) AllReadyH.nil
          go_simp
          go_at_call 37
          refine (HR4.out.big 2 l.res (by decide) (by decide) HN.out.res).mono ?_
          rintro e w5 ⟨A5, c5, rfl, hr, hb⟩
          have HR5 := Lib.hid hr
          have HB5 := Lib.hid hb
          clear hr hb
          refine hK.out _ _ HR5.out.box (fun hHeld => ?_)
          clear hK K
          try simp only [Act.put, List.getElem_toArray, List.getElem_cons_zero, List.getElem_cons_succ, List.setIfInBounds_toArray, List.set_cons_zero, List.set_cons_succ]
          refine wpAnyH_ready (rs := [4]) (by kernel_rfl) (by simp) ?_
          refine AllReadyH.cons rfl (fun K hK => ?_) AllReadyH.nil
          refine Rw.step HR5.out rfl (.tmp 41) (.tmp 44) rfl rfl rfl HB5.out (by simp) ?_
          intro V6 w6 hr
          have HR6 := Lib.hid hr
          clear hr
          refine hK.out _ _ HR6.out.box (fun hHeld => ?_)
          clear hK K
          try simp only [Act.put, List.getElem_toArray, List.getElem_cons_zero, List.getElem_cons_succ, List.setIfInBounds_toArray, List.set_cons_zero, List.set_cons_succ]
          refine wpAnyH_ready (rs := [7]) (by kernel_rfl) (by simp) ?_
          refine AllReadyH.cons rfl (fun K hK => ?_) AllReadyH.nil
          go_simp
          go_at_call 37
          refine (HR6.out.big 4 l.epo (by decide) (by decide) HN.out.epo).mono ?_
          rintro e w7 ⟨A7, c7, rfl, hr, hb⟩
          have HR7 := Lib.hid hr
          have HB7 := Lib.hid hb
          clear hr hb
          refine hK.out _ _ HR7.out.box (fun hHeld => ?_)
          clear hK K
          try simp only [Act.put, List.getElem_toArray, List.getElem_cons_zero, List.getElem_cons_succ, List.setIfInBounds_toArray, List.set_cons_zero, List.set_cons_succ]
          refine wpAnyH_ready (rs := [8]) (by kernel_rfl) (by simp) ?_
          refine AllReadyH.cons rfl (fun K hK => ?_) AllReadyH.nil
          refine Rw.step HR7.out rfl (.tmp 45) (.tmp 48) rfl rfl rfl HB7.out (by simp) ?_
          intro V8 w8 hr
          have HR8 := Lib.hid hr
          clear hr
          refine hK.out _ _ HR8.out.box (fun hHeld => ?_)
          clear hK K
          try simp only [Act.put, List.getElem_toArray, List.getElem_cons_zero, List.getElem_cons_succ, List.setIfInBounds_toArray, List.set_cons_zero, List.set_cons_succ]
          refine wpAnyH_ready (rs := [11]) (by kernel_rfl) (by simp) ?_
          refine AllReadyH.cons rfl (fun K hK => ?_) AllReadyH.nil
          go_simp
          go_at_call 37
          refine (HR8.out.big 2 l.ins (by decide) (by decide) HN.out.ins).mono ?_
          rintro e w9 ⟨A9, c9, rfl, hr, hb⟩
          have HR9 := Lib.hid hr
          have HB9 := Lib.hid hb
          clear hr hb
          refine hK.out _ _ HR9.out.box (fun hHeld => ?_)
          clear hK K
          try simp only [Act.put, List.getElem_toArray, List.getElem_cons_zero, List.getElem_cons_succ, List.setIfInBounds_toArray, List.set_cons_zero, List.set_cons_succ]
          refine wpAnyH_ready (rs := [12]) (by kernel_rfl) (by simp) ?_
          refine AllReadyH.cons rfl (fun K hK => ?_) AllReadyH.nil
          refine Rw.step HR9.out rfl (.tmp 49) (.tmp 52) rfl rfl rfl HB9.out (by simp) ?_
          intro V10 w10 hr
          have HR10 := Lib.hid hr
          clear hr
          refine hK.out _ _ HR10.out.box (fun hHeld => ?_)
          clear hK K
          try simp only [Act.put, List.getElem_toArray, List.getElem_cons_zero, List.getElem_cons_succ, List.setIfInBounds_toArray, List.set_cons_zero, List.set_cons_succ]
          refine wpAnyH_take (i := 13) (oi := _) (v := ?_) rfl (by kernel_rfl) (by kernel_rfl) (by kernel_rfl) (fun _ _ _ h => h) (Or.inl ⟨by rfl, ?_⟩) (by assumption) ?_
          case refine_2 => intro w hSw; (try dsimp only at hSw); go_simp; first | done | (with_reducible rfl)
          try simp only [Act.put, List.getElem_toArray, List.getElem_cons_zero, List.getElem_cons_succ, List.setIfInBounds_toArray, List.set_cons_zero, List.set_cons_succ]
          refine wpAnyH_done (by kernel_rfl) ?_ _
          go_wp2_with fail
          have HR0 := Lib.hid HR10.out.drew
          refine wp_region_held_drew (S := fun W => LeAt W w.heap.size l) (by kernel_rfl) HR0.out.box (fun hHeld => ?_)
          refine wpAnyH_take (i := 0) (oi := _) (v := ?_) rfl (by kernel_rfl) (by kernel_rfl) (by kernel_rfl) (fun _ _ _ h => h) (Or.inl ⟨by rfl, ?_⟩) (by assumption) ?_
          case refine_2 => intro w hSw; (try dsimp only at hSw); have hcs := LeAt.cells hSw; obtain ⟨y0, y1, y2, y3, y4, y5, y6, y7⟩ := hcs; clear hSw; go_simp; first | done | (with_reducible rfl)
          try simp only [Act.put, List.getElem_toArray, List.getElem_cons_zero, List.setIfInBounds_toArray, List.set_cons_zero, List.set_cons_succ]
          refine wpAnyH_take (i := 1) (oi := _) (v := ?_) rfl (by kernel_rfl) (by kernel_rfl) (by kernel_rfl) (fun _ _ _ h => h) (Or.inl ⟨by rfl, ?_⟩) (by assumption) ?_
          case refine_2 => intro w hSw; (try dsimp only at hSw); have hcs := LeAt.cells hSw; obtain ⟨y0, y1, y2, y3, y4, y5, y6, y7⟩ := hcs; clear hSw; go_simp; first | done | (with_reducible rfl)
          try simp only [Act.put, List.getElem_toArray, List.getElem_cons_zero, List.getElem_cons_succ, List.setIfInBounds_toArray, List.set_cons_zero, List.set_cons_succ]
          refine wpAnyH_take (i := 2) (oi := _) (v := ?_) rfl (by kernel_rfl) (by kernel_rfl) (by kernel_rfl) (fun _ _ _ h => h) (Or.inl ⟨by rfl, ?_⟩) (by assumption) ?_
          case refine_2 => intro w hSw; (try dsimp only at hSw); have hcs := LeAt.cells hSw; obtain ⟨y0, y1, y2, y3, y4, y5, y6, y7⟩ := hcs; clear hSw; go_simp; first | done | (with_reducible rfl)
          try simp only [Act.put, List.getElem_toArray, List.getElem_cons_zero, List.getElem_cons_succ, List.setIfInBounds_toArray, List.set_cons_zero, List.set_cons_succ]
          refine wpAnyH_take (i := 5) (oi := _) (v := ?_) rfl (by kernel_rfl) (by kernel_rfl) (by kernel_rfl) (fun _ _ _ h => h) (Or.inl ⟨by rfl, ?_⟩) (by assumption) ?_
          case refine_2 => intro w hSw; (try dsimp only at hSw); have hcs := LeAt.cells hSw; obtain ⟨y0, y1, y2, y3, y4, y5, y6, y7⟩ := hcs; clear hSw; go_simp; first | done | (with_reducible rfl)
          try simp only [Act.put, List.getElem_toArray, List.getElem_cons_zero, List.getElem_cons_succ, List.setIfInBounds_toArray, List.set_cons_zero, List.set_cons_succ]
          refine wpAnyH_take (i := 6) (oi := _) (v := ?_) rfl (by kernel_rfl) (by kernel_rfl) (by kernel_rfl) (fun _ _ _ h => h) (Or.inl ⟨by rfl, ?_⟩) (by assumption) ?_
          case refine_2 => intro w hSw; (try dsimp only at hSw); have hcs := LeAt.cells hSw; obtain ⟨y0, y1, y2, y3, y4, y5, y6, y7⟩ := hcs; clear hSw; go_simp; first | done | (with_reducible rfl)
          try simp only [Act.put, List.getElem_toArray, List.getElem_cons_zero, List.getElem_cons_succ, List.setIfInBounds_toArray, List.set_cons_zero, List.set_cons_succ]
          refine wpAnyH_ready (rs := [3]) (by kernel_rfl) (by simp) ?_
          refine AllReadyH.cons rfl (fun K hK => ?_) AllReadyH.nil
          go_simp
          go_at_call 37
          refine (HR0.out.big 2 l.prt (by decide) (by decide) HN.out.prt).mono ?_
          rintro e w5 ⟨A5, c5, rfl, hr, hb⟩
          have HR5 := Lib.hid hr
          have HB5 := Lib.hid hb
          clear hr hb
          refine hK.out _ _ HR5.out.box (fun hHeld => ?_)
          clear hK K
          try simp only [Act.put, List.getElem_toArray, List.getElem_cons_zero, List.getElem_cons_succ, List.setIfInBounds_toArray, List.set_cons_zero, List.set_cons_succ]
          refine wpAnyH_ready (rs := [4]) (by kernel_rfl) (by simp) ?_
          refine AllReadyH.cons rfl (fun K hK => ?_) AllReadyH.nil
          refine Rw.step HR5.out rfl (.tmp 54) (.tmp 57) rfl rfl rfl HB5.out (by simp) ?_
          intro V6 w6 hr
          have HR6 := Lib.hid hr
          clear hr
          refine hK.out _ _ HR6.out.box (fun hHeld => ?_)
          clear hK K
          try simp only [Act.put, List.getElem_toArray, List.getElem_cons_zero, List.getElem_cons_succ, List.setIfInBounds_toArray, List.set_cons_zero, List.set_cons_succ]
          refine wpAnyH_ready (rs := [7]) (by kernel_rfl) (by simp) ?_
          refine AllReadyH.cons rfl (fun K hK => ?_) AllReadyH.nil
          go_simp
          go_at_call 37
          refine (HR6.out.big 4 l.secs (by decide) (by decide) HN.out.secs).mono ?_
          rintro e w7 ⟨A7, c7, rfl, hr, hb⟩
          have HR7 := Lib.hid hr
          have HB7 := Lib.hid hb
          clear hr hb
          refine hK.out _ _ HR7.out.box (fun hHeld => ?_)
          clear hK K
          try simp only [Act.put, List.getElem_toArray, List.getElem_cons_zero, List.getElem_cons_succ, List.setIfInBounds_toArray, List.set_cons_zero, List.set_cons_succ]
          refine wpAnyH_ready (rs := [8]) (by kernel_rfl) (by simp) ?_
          refine AllReadyH.cons rfl (fun K hK => ?_) AllReadyH.nil
          refine Rw.step HR7.out rfl (.tmp 58) (.tmp 61) rfl rfl rfl HB7.out (by simp) ?_
          intro V8 w8 hr
          have HR8 := Lib.hid hr
          clear hr
          refine hK.out _ _ HR8.out.box (fun hHeld => ?_)
          clear hK K
          try simp only [Act.put, List.getElem_toArray, List.getElem_cons_zero, List.getElem_cons_succ, List.setIfInBounds_toArray, List.set_cons_zero, List.set_cons_succ]
          refine wpAnyH_take (i := 9) (oi := _) (v := ?_) rfl (by kernel_rfl) (by kernel_rfl) (by kernel_rfl) (fun _ _ _ h => h) (Or.inl ⟨by rfl, ?_⟩) (by assumption) ?_
          case refine_2 => intro w hSw; (try dsimp only at hSw); go_simp; first | done | (with_reducible rfl)
          try simp only [Act.put, List.getElem_toArray, List.getElem_cons_zero, List.getElem_cons_succ, List.setIfInBounds_toArray, List.set_cons_zero, List.set_cons_succ]
          refine wpAnyH_done (by kernel_rfl) ?_ _
          go_wp2
          go_ret
          have e := HRR.out
          simp [t0, t4] at e
          rw [e]
          have hR := HR8.out.own
          simp only [List.cons_append, List.nil_append, List.append_assoc] at hR
          exact ⟨_, rfl, Go.Joins.ownsRow_le hR (by omega), HR8.out.low⟩
        · go_simp
          go_at_call 37
          refine (HR0.out.big 2 l.res (by decide) (by decide) HN.out.res).mono ?_
          rintro e w3 ⟨A3, c3, rfl, hr, hb⟩
          have HR3 := Lib.hid hr
          have HB3 := Lib.hid hb
          clear hr hb
          refine hK.out _ _ HR3.out.box (fun hHeld => ?_)
          clear hK K
          try simp only [Act.put, List.getElem_toArray, List.getElem_cons_zero, List.getElem_cons_succ, List.setIfInBounds_toArray, List.set_cons_zero, List.set_cons_succ]
          refine wpAnyH_ready (rs := [0]) (by kernel_rfl) (by simp) ?_
          refine AllReadyH.cons rfl (fun K hK => ?_) AllReadyH.nil
          go_simp
          have HR4 := Lib.hid (HR3.out.lit [0, 129] 2 rfl (by unfold maxLen; omega))
          have HB4 := Lib.hid (HB3.out.alloc (.cells (B [0, 129]).toArray 5))
          unfold B at HR4 HB4
          simp only [List.map_cons, List.map_nil] at HR4 HB4
          refine hK.out _ _ HR4.out.box (fun hHeld => ?_)
          clear hK K
          try simp only [Act.put, List.getElem_toArray, List.getElem_cons_zero, List.getElem_cons_succ, List.setIfInBounds_toArray, List.set_cons_zero, List.set_cons_succ]
          refine wpAnyH_ready (rs := [4]) (by kernel_rfl) (by simp) ?_
          refine AllReadyH.cons rfl (fun K hK => ?_) AllReadyH.nil
          refine Rw.step HR4.out rfl (.tmp 41) (.tmp 44) rfl rfl rfl HB4.out (by simp) ?_
          intro V5 w5 hr
          have HR5 := Lib.hid hr
          clear hr
          refine hK.out _ _ HR5.out.box (fun hHeld => ?_)
          clear hK K
          try simp only [Act.put, List.getElem_toArray, List.getElem_cons_zero, List.getElem_cons_succ, List.setIfInBounds_toArray, List.set_cons_zero, List.set_cons_succ]
          refine wpAnyH_ready (rs := [7]) (by kernel_rfl) (by simp) ?_
          refine AllReadyH.cons rfl (fun K hK => ?_) AllReadyH.nil
          go_simp
          go_at_call 37
          refine (HR5.out.big 4 l.epo (by decide) (by decide) HN.out.epo).mono ?_
          rintro e w6 ⟨A6, c6, rfl, hr, hb⟩
          have HR6 := Lib.hid hr
          have HB6 := Lib.hid hb
          clear hr hb
          refine hK.out _ _ HR6.out.box (fun hHeld => ?_)
          clear hK K
          try simp only [Act.put, List.getElem_toArray, List.getElem_cons_zero, List.getElem_cons_succ, List.setIfInBounds_toArray, List.set_cons_zero, List.set_cons_succ]
          refine wpAnyH_ready (rs := [8]) (by kernel_rfl) (by simp) ?_
          refine AllReadyH.cons rfl (fun K hK => ?_) AllReadyH.nil
          refine Rw.step HR6.out rfl (.tmp 45) (.tmp 48) rfl rfl rfl HB6.out (by simp) ?_
          intro V7 w7 hr
          have HR7 := Lib.hid hr
          clear hr
          refine hK.out _ _ HR7.out.box (fun hHeld => ?_)
          clear hK K
          try simp only [Act.put, List.getElem_toArray, List.getElem_cons_zero, List.getElem_cons_succ, List.setIfInBounds_toArray, List.set_cons_zero, List.set_cons_succ]
          refine wpAnyH_ready (rs := [11]) (by kernel_rfl) (by simp) ?_
          refine AllReadyH.cons rfl (fun K hK => ?_) AllReadyH.nil
          go_simp
          go_at_call 37
          refine (HR7.out.big 2 l.ins (by decide) (by decide) HN.out.ins).mono ?_
          rintro e w8 ⟨A8, c8, rfl, hr, hb⟩
          have HR8 := Lib.hid hr
          have HB8 := Lib.hid hb
          clear hr hb
          refine hK.out _ _ HR8.out.box (fun hHeld => ?_)
          clear hK K
          try simp only [Act.put, List.getElem_toArray, List.getElem_cons_zero, List.getElem_cons_succ, List.setIfInBounds_toArray, List.set_cons_zero, List.set_cons_succ]
          refine wpAnyH_ready (rs := [12]) (by kernel_rfl) (by simp) ?_
          refine AllReadyH.cons rfl (fun K hK => ?_) AllReadyH.nil
          refine Rw.step HR8.out rfl (.tmp 49) (.tmp 52) rfl rfl rfl HB8.out (by simp) ?_
          intro V9 w9 hr
          have HR9 := Lib.hid hr
          clear hr
          refine hK.out _ _ HR9.out.box (fun hHeld => ?_)
          clear hK K
          try simp only [Act.put, List.getElem_toArray, List.getElem_cons_zero, List.getElem_cons_succ, List.setIfInBounds_toArray, List.set_cons_zero, List.set_cons_succ]
          refine wpAnyH_take (i := 13) (oi := _) (v := ?_) rfl (by kernel_rfl) (by kernel_rfl) (by kernel_rfl) (fun _ _ _ h => h) (Or.inl ⟨by rfl, ?_⟩) (by assumption) ?_
          case refine_2 => intro w hSw; (try dsimp only at hSw); go_simp; first | done | (with_reducible rfl)
          try simp only [Act.put, List.getElem_toArray, List.getElem_cons_zero, List.getElem_cons_succ, List.setIfInBounds_toArray, List.set_cons_zero, List.set_cons_succ]
          refine wpAnyH_done (by kernel_rfl) ?_ _
          go_wp2_with fail
          have HR0 := Lib.hid HR9.out.drew
          refine wp_region_held_drew (S := fun W => LeAt W w.heap.size l) (by kernel_rfl) HR0.out.box (fun hHeld => ?_)
          refine wpAnyH_take (i := 0) (oi := _) (v := ?_) rfl (by kernel_rfl) (by kernel_rfl) (by kernel_rfl) (fun _ _ _ h => h) (Or.inl ⟨by rfl, ?_⟩) (by assumption) ?_
          case refine_2 => intro w hSw; (try dsimp only at hSw); have hcs := LeAt.cells hSw; obtain ⟨y0, y1, y2, y3, y4, y5, y6, y7⟩ := hcs; clear hSw; go_simp; first | done | (with_reducible rfl)
          try simp only [Act.put, List.getElem_toArray, List.getElem_cons_zero, List.setIfInBounds_toArray, List.set_cons_zero, List.set_cons_succ]
          refine wpAnyH_take (i := 1) (oi := _) (v := ?_) rfl (by kernel_rfl) (by kernel_rfl) (by kernel_rfl) (fun _ _ _ h => h) (Or.inl ⟨by rfl, ?_⟩) (by assumption) ?_
          case refine_2 => intro w hSw; (try dsimp only at hSw); have hcs := LeAt.cells hSw; obtain ⟨y0, y1, y2, y3, y4, y5, y6, y7⟩ := hcs; clear hSw; go_simp; first | done | (with_reducible rfl)
          try simp only [Act.put, List.getElem_toArray, List.getElem_cons_zero, List.getElem_cons_succ, List.setIfInBounds_toArray, List.set_cons_zero, List.set_cons_succ]
          refine wpAnyH_take (i := 2) (oi := _) (v := ?_) rfl (by kernel_rfl) (by kernel_rfl) (by kernel_rfl) (fun _ _ _ h => h) (Or.inl ⟨by rfl, ?_⟩) (by assumption) ?_
          case refine_2 => intro w hSw; (try dsimp only at hSw); have hcs := LeAt.cells hSw; obtain ⟨y0, y1, y2, y3, y4, y5, y6, y7⟩ := hcs; clear hSw; go_simp; first | done | (with_reducible rfl)
          try simp only [Act.put, List.getElem_toArray, List.getElem_cons_zero, List.getElem_cons_succ, List.setIfInBounds_toArray, List.set_cons_zero, List.set_cons_succ]
          refine wpAnyH_take (i := 5) (oi := _) (v := ?_) rfl (by kernel_rfl) (by kernel_rfl) (by kernel_rfl) (fun _ _ _ h => h) (Or.inl ⟨by rfl, ?_⟩) (by assumption) ?_
          case refine_2 => intro w hSw; (try dsimp only at hSw); have hcs := LeAt.cells hSw; obtain ⟨y0, y1, y2, y3, y4, y5, y6, y7⟩ := hcs; clear hSw; go_simp; first | done | (with_reducible rfl)
          try simp only [Act.put, List.getElem_toArray, List.getElem_cons_zero, List.getElem_cons_succ, List.setIfInBounds_toArray, List.set_cons_zero, List.set_cons_succ]
          refine wpAnyH_take (i := 6) (oi := _) (v := ?_) rfl (by kernel_rfl) (by kernel_rfl) (by kernel_rfl) (fun _ _ _ h => h) (Or.inl ⟨by rfl, ?_⟩) (by assumption) ?_
          case refine_2 => intro w hSw; (try dsimp only at hSw); have hcs := LeAt.cells hSw; obtain ⟨y0, y1, y2, y3, y4, y5, y6, y7⟩ := hcs; clear hSw; go_simp; first | done | (with_reducible rfl)
          try simp only [Act.put, List.getElem_toArray, List.getElem_cons_zero, List.getElem_cons_succ, List.setIfInBounds_toArray, List.set_cons_zero, List.set_cons_succ]
          refine wpAnyH_ready (rs := [3]) (by kernel_rfl) (by simp) ?_
          refine AllReadyH.cons rfl (fun K hK => ?_) AllReadyH.nil
          go_simp
          go_at_call 37
          refine (HR0.out.big 2 l.prt (by decide) (by decide) HN.out.prt).mono ?_
          rintro e w5 ⟨A5, c5, rfl, hr, hb⟩
          have HR5 := Lib.hid hr
          have HB5 := Lib.hid hb
          clear hr hb
          refine hK.out _ _ HR5.out.box (fun hHeld => ?_)
          clear hK K
          try simp only [Act.put, List.getElem_toArray, List.getElem_cons_zero, List.getElem_cons_succ, List.setIfInBounds_toArray, List.set_cons_zero, List.set_cons_succ]
          refine wpAnyH_ready (rs := [4]) (by kernel_rfl) (by simp) ?_
          refine AllReadyH.cons rfl (fun K hK => ?_) AllReadyH.nil
          refine Rw.step HR5.out rfl (.tmp 54) (.tmp 57) rfl rfl rfl HB5.out (by simp) ?_
          intro V6 w6 hr
          have HR6 := Lib.hid hr
          clear hr
          refine hK.out _ _ HR6.out.box (fun hHeld => ?_)
          clear hK K
          try simp only [Act.put, List.getElem_toArray, List.getElem_cons_zero, List.getElem_cons_succ, List.setIfInBounds_toArray, List.set_cons_zero, List.set_cons_succ]
          refine wpAnyH_ready (rs := [7]) (by kernel_rfl) (by simp) ?_
          refine AllReadyH.cons rfl (fun K hK => ?_) AllReadyH.nil
          go_simp
          go_at_call 37
          refine (HR6.out.big 4 l.secs (by decide) (by decide) HN.out.secs).mono ?_
          rintro e w7 ⟨A7, c7, rfl, hr, hb⟩
          have HR7 := Lib.hid hr
          have HB7 := Lib.hid hb
          clear hr hb
          refine hK.out _ _ HR7.out.box (fun hHeld => ?_)
          clear hK K
          try simp only [Act.put, List.getElem_toArray, List.getElem_cons_zero, List.getElem_cons_succ, List.setIfInBounds_toArray, List.set_cons_zero, List.set_cons_succ]
          refine wpAnyH_ready (rs := [8]) (by kernel_rfl) (by simp) ?_
          refine AllReadyH.cons rfl (fun K hK => ?_) AllReadyH.nil
          refine Rw.step HR7.out rfl (.tmp 58) (.tmp 61) rfl rfl rfl HB7.out (by simp) ?_
          intro V8 w8 hr
          have HR8 := Lib.hid hr
          clear hr
          refine hK.out _ _ HR8.out.box (fun hHeld => ?_)
          clear hK K
          try simp only [Act.put, List.getElem_toArray, List.getElem_cons_zero, List.getElem_cons_succ, List.setIfInBounds_toArray, List.set_cons_zero, List.set_cons_succ]
          refine wpAnyH_take (i := 9) (oi := _) (v := ?_) rfl (by kernel_rfl) (by kernel_rfl) (by kernel_rfl) (fun _ _ _ h => h) (Or.inl ⟨by rfl, ?_⟩) (by assumption) ?_
          case refine_2 => intro w hSw; (try dsimp only at hSw); go_simp; first | done | (with_reducible rfl)
          try simp only [Act.put, List.getElem_toArray, List.getElem_cons_zero, List.getElem_cons_succ, List.setIfInBounds_toArray, List.set_cons_zero, List.set_cons_succ]
          refine wpAnyH_done (by kernel_rfl) ?_ _
          go_wp2
          go_ret
          have e := HRR.out
          simp [t0, t4] at e
          rw [e]
          have hR := HR8.out.own
          simp only [List.cons_append, List.nil_append, List.append_assoc] at hR
          exact ⟨_, rfl, Go.Joins.ownsRow_le hR (by omega), HR8.out.low⟩
end Go.Proofs.Ytabokjhimpmiiaa
