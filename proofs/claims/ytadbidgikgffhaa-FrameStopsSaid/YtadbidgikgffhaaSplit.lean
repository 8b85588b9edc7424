/-
  The contract of embrasure/frame.Split: the rows of whose frames bytes are made, in rows of its own, or why they aren't. Conditions: the slice reads as bytes.
-/
import Derived.Test.YtadbidgikgffhaaCount
namespace Go.Proofs.Ytadbidgikgffhaa
open Go.RowKit Go.Shelf
attribute [local go_sem] Oper.semAt_some
set_option linter.unusedVariables false

theorem follows : Try.prog.follows .mixedOrders = true := by kernel_rfl

/-- one more row put behind a row of rows of the call's own: a step of a region that draws, within a round -/
theorem stepIn_row {F : Fence} {n : Nat} {W : World} {ops : Array Oper} {o : Oper} {b : Act} {K : Act → World → Prop} {Q : Exit → Act → World → Prop} {E : Prop} (hf : o.guard = none) (s x : Operand)
    (ho : o.op = .call { callee := .builtin .append, args := #[s, x], argTypes := #[30, 30] }) {base k g : Nat} {v u : Value} {xs : List Value} (hs : b.eval s = v) (hown : W.ownsRow base 22 1 v k xs) (hx : b.eval x = .slice (some ⟨g, 0, none⟩) 1 1)
    (hu : W.cell? ⟨g, 0, none⟩ = some u) (hone : u.oneCell' = true) (hk : k ≤ 2000000) (hbase : base ≤ W.heap.size) (h : ∀ v' V, V.ownsRow base 22 1 v' (k + 1) (xs ++ [u]) → W.grownBy V v.ownBlock → K (b.put o.dst v') V) :
    if Region.wanted o (yielded ops b.tmps) = true then Oper.wpIn F n Try.prog o b W K Q else E := by
  obtain ⟨i22, hi22, ha0, ha1, ha2⟩ := info_parts sl_info
  obtain ⟨v', V, hrun, r1, r2, _⟩ := run_append_own (P := Try.prog) W base 30 o.type 22 i22 (.slice none 0 0) 1 24 Try.underlying30 hi22 ha0 ha1 ha2 rfl (by decide) v k xs hown ⟨g, 0, none⟩ 1 1 [u] rfl
    (fun j y hy => by
      obtain rfl : j = 0 := by have := (List.getElem?_eq_some_iff.1 hy).1; simp at this; omega
      simp only [List.getElem?_cons_zero, Option.some.injEq] at hy
      subst hy; exact hu) (by simpa using hone) (by unfold maxLen; omega) (by omega) hbase
  rw [if_pos (by simp [Region.wanted, hf])]
  refine ⟨by simp [Oper.about, ho, resolve, Target.leads, Sem.run_pure], ?_⟩
  rw [Oper.semAt_plain F _ _ (by rw [ho]; intro c hc; cases hc)]
  simp [execOp, ho, resolve, invoke, builtin, hs, hx, hrun, Result.andThen]
  exact h v' V r1 r2

theorem Boxed.cells {W : World} {b t : Nat} {v : Value} (h : Boxed W b t v) : ∃ o, W.heap[b]? = some o ∧ o.isCells = true := ⟨_, h, rfl⟩

def zeros (rs : List (List Int)) : List (List Int × Int) := rs.map (fun r => (r, 0))
theorem zeros_snoc (rs : List (List Int)) (r : List Int) : zeros (rs ++ [r]) = zeros rs ++ [(r, 0)] := by simp [zeros]
theorem zeros_each {rs : List (List Int)} {zs : List Int} (h : zeros rs = Fr.each zs) : rs = Fr.rows zs ∧ Fr.stop zs = 0 := by
  have hc := congrArg (List.map (·.2)) h
  unfold Fr.each at h hc
  by_cases h0 : Fr.stop zs = 0
  · rw [if_pos h0, List.append_nil] at h
    refine ⟨?_, h0⟩
    have := congrArg (List.map (·.1)) h
    simpa [zeros, Function.comp_def] using this
  · rw [if_neg h0] at h
    have := congrArg List.getLast? h
    rw [List.getLast?_append] at this
    simp [zeros] at this
    rcases this with ⟨_, rfl⟩ | this
    all_goals omega
theorem stop_each {pre : List (List Int × Int)} {r : List Int} {c : Int} {zs : List Int} (h : pre ++ [(r, c)] <+: Fr.each zs) (hc : ¬ c = 0) : Fr.stop zs = c := by
  have hm : (r, c) ∈ Fr.each zs := h.subset (by simp)
  unfold Fr.each at hm
  rcases List.mem_append.1 hm with hm | hm
  · obtain ⟨x, _, e⟩ := List.mem_map.1 hm
    injection e with _ e; omega
  · by_cases h0 : Fr.stop zs = 0
    · simp [h0] at hm
    · rw [if_neg h0] at hm
      simp at hm
      exact hm.2.symm

/-- what Split has behind the rows rs -/
def RelS (w W0 : World) (rs : List (List Int)) (W : World) : Prop :=
  Boxed W w.heap.size 30 (.slice none 0 0) ∧ Boxed W (w.heap.size + 1) 24 (.int .i64 0) ∧ (∃ v, Boxed W (w.heap.size + 2) 30 v ∧ OwnRows W W0.heap.size v rs) ∧ W0.grownBy W (some (w.heap.size + 2))
theorem own_turn {X Y : World} {base n B : Nat} {e : TypeId} {v : Value} {xs : List Value} {row : Option Nat} (h : X.ownsRow base e 1 v n xs) (hg : X.grownBy Y row) (hr : ∀ r, row = some r → B ≤ r ∧ ∃ o : Obj, X.heap[r]? = some o ∧ o.isCells = false) : Y.ownsRow base e 1 v n xs := by
  refine h.kept hg ?_
  rcases h.2 with ⟨rfl, _⟩ | ⟨g, cap, cur, rfl, _, hh, _⟩
  · left; rfl
  · right
    intro e
    simp only [Value.ownBlock] at e
    obtain ⟨o, ho, hc⟩ := (hr g e.symm).2
    rw [hh] at ho; cases ho; cases hc
theorem box_turn {X Y : World} {b t B : Nat} {v : Value} {row : Option Nat} (h : Boxed X b t v) (hg : X.grownBy Y row) (hr : ∀ r, row = some r → B ≤ r ∧ ∃ o : Obj, X.heap[r]? = some o ∧ o.isCells = false) : Boxed Y b t v :=
  h.kept hg (fun e => by obtain ⟨o, ho, hc⟩ := (hr b e.symm).2; rw [show X.heap[b]? = _ from h] at ho; cases ho; cases hc)
theorem rows_turn {X Y : World} {base B : Nat} {v : Value} {rs : List (List Int)} {row : Option Nat} (h : OwnRows X base v rs) (hg : X.grownBy Y row) (hr : ∀ r, row = some r → B ≤ r ∧ ∃ o : Obj, X.heap[r]? = some o ∧ o.isCells = false) : OwnRows Y base v rs := by
  obtain ⟨h0, xs, h1, h2⟩ := h
  exact ⟨h0, xs, own_turn h1 hg hr, fun j u hu => own_turn (h2 j u hu) hg hr⟩
theorem relS_own (w W0 : World) (rs : List (List Int)) : OwnFrom W0.heap.size (fun (_ : Unit) W => RelS w W0 rs W) := by
  rintro _ X Y row ⟨h1, h2, ⟨v, h3, h4⟩, h5⟩ hg hr
  exact ⟨box_turn h1 hg hr, box_turn h2 hg hr, ⟨v, box_turn h3 hg hr, rows_turn h4 hg hr⟩, grown_then h5 hg (fun r e => (hr r e).1)⟩

theorem below_grown {w w' : World} (h : Below w.heap.size w w') : w.grownBy w' none := ⟨h.os, h.tape, h.output, h.size, fun k hk _ => h.block k hk⟩
theorem own_set_box {w : World} {base Bx n : Nat} {t e : TypeId} {u v : Value} {xs : List Value} (bx : Boxed w Bx t u) (h : w.ownsRow base e 1 v n xs) (hte : t ≠ e) (x : Value) : (w.setCell ⟨Bx, 0, none⟩ x).ownsRow base e 1 v n xs :=
  h.kept (grownBy_setCell' w Bx x) (.inr (Ne.symm (bx.not_row hte h)))
theorem own_cells {w : World} {base n : Nat} {e : TypeId} {v : Value} {xs : List Value} (h : w.ownsRow base e 1 v n xs) : ∀ g, v.ownBlock = some g → base ≤ g ∧ ∃ o, w.heap[g]? = some o ∧ o.isCells = true := by
  intro g hg
  refine ⟨(h.lt g hg).1, ?_⟩
  rcases h.2 with ⟨rfl, _⟩ | ⟨g', cap, cur, rfl, _, hh, _⟩
  · simp [Value.ownBlock] at hg
  · simp only [Value.ownBlock, Option.some.injEq] at hg
    subst hg
    exact ⟨_, hh, rfl⟩

/-- what 'rows = append(rows, bytes.Clone(row))' does, up to the store -/
theorem split_mid {w W0 W w2 w3 : World} {rs : List (List Int)} {vr rv : Value} {xs : List Value} (hs : W0.heap.size = w.heap.size + 4) (bx2 : Boxed W (w.heap.size + 2) 30 vr) (ho1 : W.ownsRow W0.heap.size 22 1 vr rs.length xs)
    (hb : Below W.heap.size W w2) (hg1 : (w2.alloc (.cells #[rv] 22)).grownBy w3 vr.ownBlock) : Boxed w3 (w.heap.size + 2) 30 vr :=
  ((Boxed.below bx2 hb bx2.lt).alloc _).kept hg1 (fun e => by have := (own_cells ho1 _ e.symm).1; omega)
theorem split_step {w W0 W w2 w3 : World} {gs : List Nat} {rs : List (List Int)} {r : List Int} {vr rv v' : Value} {xs : List Value} (hs : W0.heap.size = w.heap.size + 4) (hgs : ∀ g ∈ gs, g < W0.heap.size) (hng : w.heap.size + 2 ∉ gs) (hW : W0.heap.size ≤ W.heap.size)
    (bx0 : Boxed W w.heap.size 30 (.slice none 0 0)) (bx1 : Boxed W (w.heap.size + 1) 24 (.int .i64 0)) (bx2 : Boxed W (w.heap.size + 2) 30 vr) (h0 : ∀ r ∈ rs, ∀ z ∈ r, 0 ≤ z ∧ z ≤ 255) (hz : ∀ z ∈ r, 0 ≤ z ∧ z ≤ 255)
    (ho1 : W.ownsRow W0.heap.size 22 1 vr rs.length xs) (ho2 : ∀ j u, xs[j]? = some u → W.ownsRow W0.heap.size 5 1 u (rs.getD j []).length (B (rs.getD j []))) (hg : W0.grownBy W (some (w.heap.size + 2)))
    (hor : w2.ownsRow W.heap.size 5 1 rv r.length (B r)) (hb : Below W.heap.size W w2) (hg1 : (w2.alloc (.cells #[rv] 22)).grownBy w3 vr.ownBlock) (ho : w3.ownsRow W0.heap.size 22 1 v' (rs.length + 1) (xs ++ [rv])) :
    Kept gs false W0.heap.size W (w3.setCell ⟨w.heap.size + 2, 0, none⟩ v') ∧ RelS w W0 (rs ++ [r]) (w3.setCell ⟨w.heap.size + 2, 0, none⟩ v') := by
  have bx3 := split_mid hs bx2 ho1 hb hg1
  have hgA : W.grownBy (w2.alloc (.cells #[rv] 22)) none := by
    have := hb.alloc hb.size (.cells #[rv] 22)
    exact below_grown this
  have ho1' := (own_below' ho1 hb).alloc (.cells #[rv] 22)
  have hoc := own_cells ho1'
  refine ⟨?_, ?_, ?_, ⟨v', bx3.set v', ?_⟩, ?_⟩
  · refine (Kept.grown hgA (fun g hm => Nat.lt_of_lt_of_le (hgs g hm) hW) (fun r e => by cases e)).trans ((Kept.grown hg1 (fun g hm => by have := hgs g hm; have := hgA.size; omega) (fun g e => ⟨fun hm => by have := hgs g hm; have := (hoc g e).1; omega, .inr ⟨rfl, (hoc g e).2⟩⟩)).trans (Kept.set (by omega) hng v'))
  · exact (((Boxed.below bx0 hb bx0.lt).alloc _).kept hg1 (fun e => by have := (hoc _ e.symm).1; omega)).other (by omega) v'
  · exact (((Boxed.below bx1 hb bx1.lt).alloc _).kept hg1 (fun e => by have := (hoc _ e.symm).1; omega)).other (by omega) v'
  · obtain ⟨k0, ys, k1, k2⟩ := OwnRows.snoc h0 hz ho1' (fun j u hu => (own_below' (ho2 j u hu) hb).alloc _) (hor.alloc _) hW hg1 ho
    exact ⟨k0, ys, own_set_box bx3 k1 (by decide) v', fun j u hu => own_set_box bx3 (k2 j u hu) (by decide) v'⟩
  · exact grown_set (grown_then (grown_then hg hgA (fun r e => by cases e)) hg1 (fun g e => (hoc g e).1)) v'

/-- what Split answers -/
def SplitAns (w : World) (zs : List Int) (e : Ending) (w' : World) : Prop :=
  ∃ v, e = .returned (.tuple #[v, .int .i64 (Fr.stop zs)]) ∧ OwnRows w' w.heap.size v (if Fr.stop zs = 0 then Fr.rows zs else []) ∧ Below w.heap.size w w'

set_option maxRecDepth 100000 in
set_option maxHeartbeats 4000000 in
theorem split_any (A : Option Addr) (m c : Nat) (zs : List Int) (w : World) (h : Bts w A m zs) (hmc : m ≤ c) (hc : c ≤ maxLen) (hm : m ≤ 1000000) :
    Calls Try.prog 14 #[.slice A m c] w (SplitAns w zs) := by
  have HC := Lib.hid hc; clear hc
  have H := Lib.hid h; clear h
  have fo := follows
  refine (callsIn_wide (n := 6)).1 ?_
  refine callsIn_of_wp_marks Try.func14 rfl trivial ?_ rfl
  refine wpIn_wide.2 ?_
  simp only [Try.ntmps14, List.size_toArray, List.length_cons, List.length_nil, Nat.reduceAdd, Nat.reduceSub, Array.replicate_succ, Array.replicate_zero, List.push_toArray, List.append_toArray, List.nil_append, List.cons_append]
  go_wp2_with (go_at_call 25; refine (each_any _ _ _ _).mono ?_; rintro e w' ⟨rfl, rfl⟩)
  obtain ⟨W0, hW0⟩ : ∃ W0, (((w.alloc (.cells #[.slice none 0 0] 30)).alloc (.cells #[.int .i64 0] 24)).alloc (.cells #[.slice none 0 0] 30)).alloc (.cells #[.slice A m c] 22) = W0 := ⟨_, rfl⟩
  rw [hW0]
  have hsz : W0.heap.size = w.heap.size + 4 := by rw [← hW0]; simp
  have HB0 : Hid (Below w.heap.size w W0) := Lib.hid (by rw [← hW0]; exact ((((Below.refl _ w).alloc (Nat.le_refl _) _).alloc (by simp) _).alloc (by simp; omega) _).alloc (by simp; omega) _)
  have HR : Hid (RelS w W0 [] W0) := Lib.hid (by
    refine ⟨?_, ?_, ⟨_, ?_, OwnRows.nil _ _⟩, World.grownBy.refl _ _⟩
    · rw [← hW0]; exact (((Boxed.new w 30 (.slice none 0 0)).alloc _).alloc _).alloc _
    · rw [← hW0]; have := ((Boxed.new (w.alloc (.cells #[.slice none 0 0] 30)) 24 (.int .i64 0)).alloc (.cells #[.slice none 0 0] 30)).alloc (.cells #[.slice A m c] 22); rwa [World.size_alloc] at this
    · rw [← hW0]; have := (Boxed.new ((w.alloc (.cells #[.slice none 0 0] 30)).alloc (.cells #[.int .i64 0] 24)) 30 (.slice none 0 0)).alloc (.cells #[.slice A m c] 22); rwa [World.size_alloc, World.size_alloc] at this)
  have HBX : Hid (W0.cell? ⟨w.heap.size + 3, 0, none⟩ = some (.slice A m c)) := Lib.hid (by
    rw [← hW0]; have := (Boxed.new (((w.alloc (.cells #[.slice none 0 0] 30)).alloc (.cells #[.int .i64 0] 24)).alloc (.cells #[.slice none 0 0] 30)) 22 (.slice A m c)).cell; rwa [World.size_alloc, World.size_alloc, World.size_alloc] at this)
  clear hW0
  have hlt : ∀ x ∈ blk (w.heap.size + 3) A m, x < W0.heap.size := blk_all (by omega) (fun h ad e => by have := H.out.lt h ad e; omega)
  have hne : ∀ b, w.heap.size ≤ b → b ≠ w.heap.size + 3 → b ∉ blk (w.heap.size + 3) A m := fun b h1 h2 hm => blk_all (p := fun x => x ≠ b) (fun e => h2 e.symm) (fun h ad e => by have := H.out.lt h ad e; omega) _ hm rfl
  have hst := each_tells 5 (by omega) (w.heap.size + 3) (blk (w.heap.size + 3) A m) A m c zs W0 hlt HBX.out (blk_self _ _ _) (blk_addr _ _ _) (H.out.below HB0.out) hmc HC.out
  have HLE : Hid ((Fr.each zs).length ≤ 1000001) := Lib.hid (by have := Fr.each_len zs; have := H.out.len; omega)
  have HZB := Lib.hid H.out.bd
  refine (wpIn_wide (n := 6)).1 ?_
  apply range_told (F := Fence.wide) (n := 6) (f := 29) (own := #[.pointer (some ⟨w.heap.size + 3, 0, none⟩)]) ⟨rfl, by omega, trivial, enters_of Try.func29 (by kernel_rfl) rfl, hst⟩ rfl (Below.refl _ _) hlt (fun _ => rfl)
    (fun pre W => ∃ rs, rc pre = zeros rs ∧ RelS w W0 rs W)
    (fun c pre W => ∃ pr r cd, ¬ cd = 0 ∧ rc pre = pr ++ [(r, cd)] ∧ c = .ret ∧ Boxed W w.heap.size 30 (.slice none 0 0) ∧ Boxed W (w.heap.size + 1) 24 (.int .i64 cd) ∧ Below w.heap.size w W)
    ⟨(fun s X Y row hs hg hr => by obtain ⟨rs, h1, h2⟩ := hs; exact ⟨rs, h1, relS_own w W0 rs () X Y row h2 hg hr⟩),
    (fun c s X Y row hs hg hr => by
      obtain ⟨pr, r, cd, h1, h2, h3, h4, h5, h6⟩ := hs
      exact ⟨pr, r, cd, h1, h2, h3, box_turn h4 hg hr, box_turn h5 hg hr, h6.grown hg h6.size (fun g e => by have := (hr g e).1; omega)⟩),
    (fun pre x => okE_own zs _ _ pre x hlt)⟩
    ⟨[], rfl, HR.out⟩
  case hassign =>
    intro l x W K hK
    simp only [encE]
    gi_wp2
    exact hK
  case hbody =>
    rintro l pre ⟨v, r, cd⟩ W hWs ⟨rs, hrs, bx0, bx1, ⟨vr, bx2, hor⟩, hg⟩ ⟨hsl, hpre⟩
    by_cases hcd : cd = 0
    · have t1 : (cd != 0) = false := by simp [hcd]
      have hcl : W.cell? ⟨w.heap.size + 1 + 1, 0, none⟩ = some vr := bx2.cell
      obtain ⟨h0, xs, ho1, ho2⟩ := hor
      have HSL := Lib.hid hsl
      have HZ := Lib.hid hsl.bd
      have hl : rs.length ≤ 1000001 ∧ r.length ≤ 140737488355328 := by
        have h1 := hpre.length_le
        have h2 := HLE.out
        have h3 := congrArg List.length hrs
        simp [rc, zeros] at h1 h3
        refine ⟨by omega, ?_⟩
        have hm : (r, cd) ∈ Fr.each zs := hpre.subset (by simp)
        unfold Fr.each at hm
        rcases List.mem_append.1 hm with hm | hm
        · obtain ⟨x, hx, e⟩ := List.mem_map.1 hm
          injection e with e _
          have := Fr.rows_mem_len zs x hx
          rw [e] at this; omega
        · by_cases h0 : Fr.stop zs = 0
          · simp [h0] at hm
          · rw [if_neg h0] at hm; simp at hm; simp [hm.1]
      obtain ⟨hl1, hl2⟩ := hl
      have HRL := Lib.hid hl2
      subst hcd
      have HRC : Hid (rc (pre ++ [(v, r, 0)]) = zeros (rs ++ [r])) := Lib.hid (by rw [rc_snoc, zeros_snoc, hrs])
      have BX0 := Lib.hid bx0; have BX1 := Lib.hid bx1; have BX2 := Lib.hid bx2; have HO1 := Lib.hid ho1; have HO2 := Lib.hid ho2; have H0 := Lib.hid h0; have HG := Lib.hid hg
      clear bx0 bx1 bx2 ho1 ho2 h0 hg hsl hpre hrs t1 hl2
      gi_wp2
      refine wpIn_region_any fo ?_
      change wpAnyIn _ _ _ _ _ _ _ _ _ (World.drew _)
      refine wpAnyIn_ready (rs := [0, 1]) (by kernel_rfl) (by simp) ?_
      refine AllReadyIn.cons rfl (fun K hK => ?_) ?_
      · go_simp
        refine hK _ _ ?_
        clear hK K
        refine wpAnyIn_ready (rs := [1]) (by kernel_rfl) (by simp) ?_
        refine AllReadyIn.cons rfl (fun K hK => ?_) ?_
        · go_simp
          refine hK _ _ ?_
          clear hK K
          refine wpAnyIn_ready (rs := [2]) (by kernel_rfl) (by simp) ?_
          refine AllReadyIn.cons rfl (fun K hK => ?_) ?_
          · go_simp
            refine ⟨trivial, (CallsIn.inRound l (callsIn_wide.2 (clone_sl v r _ W.drew HSL.out HRL.out))).mono ?_⟩
            rintro e w2 ⟨rv, rfl, hrv, hb2⟩
            obtain ⟨Ar, cr, rfl, _⟩ := own_block' hrv
            have hb2' : Below W.heap.size W w2 := ⟨hb2.os, hb2.tape, hb2.output, hb2.size, hb2.block⟩
            have bx2' := Boxed.below BX2.out hb2' BX2.out.lt
            have hcl2 : w2.cell? ⟨w.heap.size + 1 + 1, 0, none⟩ = some vr := bx2'.cell
            have hcl2b : (w2.alloc (.cells #[.slice Ar r.length cr] 22)).cell? ⟨w.heap.size + 1 + 1, 0, none⟩ = some vr := (bx2'.alloc _).cell; have HRV := Lib.hid hrv; have HB2 := Lib.hid hb2'
            clear hrv hb2 hb2' bx2'
            refine hK _ _ ?_
            clear hK K
            refine wpAnyIn_ready (rs := [3]) (by kernel_rfl) (by simp) ?_
            refine AllReadyIn.cons rfl (fun K hK => ?_) ?_
            · go_simp
              refine hK _ _ ?_
              clear hK K
              refine wpAnyIn_ready (rs := [4]) (by kernel_rfl) (by simp) ?_
              refine AllReadyIn.cons rfl (fun K hK => ?_) ?_
              · refine stepIn_row rfl (.tmp 14) (.tmp 17) rfl (base := W0.heap.size) (k := rs.length) (g := w2.heap.size) (u := .slice Ar r.length cr) (xs := xs) rfl ((own_below' HO1.out HB2.out).alloc _) rfl (Boxed.new w2 22 _).cell rfl (by omega) (by have := HB2.out.size; simp; omega) ?_
                intro v1' w3 ho1' hg1; obtain ⟨A1, d1, rfl, _⟩ := own_block' ho1'
                have HX1 := Lib.hid (split_step hsz hlt (hne _ (by omega) (by omega)) (Nat.le_of_lt hWs) BX0.out BX1.out BX2.out H0.out HZ.out HO1.out HO2.out HG.out HRV.out HB2.out hg1 ho1')
                have bx3 := split_mid (rs := rs) hsz BX2.out HO1.out HB2.out hg1
                have hcl3 : w3.cell? ⟨w.heap.size + 1 + 1, 0, none⟩ = some vr := bx3.cell
                have hfr3 : w3.frozen? ⟨w.heap.size + 1 + 1, 0, none⟩ = false := bx3.frozen
                clear bx3 hg1 ho1'
                refine hK _ _ ?_
                clear hK K
                refine wpAnyIn_ready (rs := [5]) (by kernel_rfl) (by simp) ?_
                refine AllReadyIn.cons rfl (fun K hK => ?_) ?_
                · go_simp
                  refine hK _ _ ?_
                  clear hK K
                  refine wpAnyIn_done (by kernel_rfl) ?_ _
                  exact ⟨HX1.out.1, rs ++ [r], HRC.out, HX1.out.2⟩
                exact AllReadyIn.nil
              exact AllReadyIn.nil
            exact AllReadyIn.nil
          exact AllReadyIn.nil
        exact AllReadyIn.nil
      refine AllReadyIn.cons rfl (fun K hK => ?_) ?_
      · go_simp
        refine hK _ _ ?_
        clear hK K
        refine wpAnyIn_ready (rs := [0, 2]) (by kernel_rfl) (by simp) ?_
        refine AllReadyIn.cons rfl (fun K hK => ?_) ?_
        · go_simp
          refine hK _ _ ?_
          clear hK K
          refine wpAnyIn_ready (rs := [2]) (by kernel_rfl) (by simp) ?_
          refine AllReadyIn.cons rfl (fun K hK => ?_) ?_
          · go_simp
            refine ⟨trivial, (CallsIn.inRound l (callsIn_wide.2 (clone_sl v r _ W.drew HSL.out HRL.out))).mono ?_⟩
            rintro e w2 ⟨rv, rfl, hrv, hb2⟩
            obtain ⟨Ar, cr, rfl, _⟩ := own_block' hrv
            have hb2' : Below W.heap.size W w2 := ⟨hb2.os, hb2.tape, hb2.output, hb2.size, hb2.block⟩
            have bx2' := Boxed.below BX2.out hb2' BX2.out.lt
            have hcl2 : w2.cell? ⟨w.heap.size + 1 + 1, 0, none⟩ = some vr := bx2'.cell
            have hcl2b : (w2.alloc (.cells #[.slice Ar r.length cr] 22)).cell? ⟨w.heap.size + 1 + 1, 0, none⟩ = some vr := (bx2'.alloc _).cell; have HRV := Lib.hid hrv; have HB2 := Lib.hid hb2'
            clear hrv hb2 hb2' bx2'
            refine hK _ _ ?_
            clear hK K
            refine wpAnyIn_ready (rs := [3]) (by kernel_rfl) (by simp) ?_
            refine AllReadyIn.cons rfl (fun K hK => ?_) ?_
            · go_simp
              refine hK _ _ ?_
              clear hK K
              refine wpAnyIn_ready (rs := [4]) (by kernel_rfl) (by simp) ?_
              refine AllReadyIn.cons rfl (fun K hK => ?_) ?_
              · refine stepIn_row rfl (.tmp 14) (.tmp 17) rfl (base := W0.heap.size) (k := rs.length) (g := w2.heap.size) (u := .slice Ar r.length cr) (xs := xs) rfl ((own_below' HO1.out HB2.out).alloc _) rfl (Boxed.new w2 22 _).cell rfl (by omega) (by have := HB2.out.size; simp; omega) ?_
                intro v1' w3 ho1' hg1; obtain ⟨A1, d1, rfl, _⟩ := own_block' ho1'
                have HX1 := Lib.hid (split_step hsz hlt (hne _ (by omega) (by omega)) (Nat.le_of_lt hWs) BX0.out BX1.out BX2.out H0.out HZ.out HO1.out HO2.out HG.out HRV.out HB2.out hg1 ho1')
                have bx3 := split_mid (rs := rs) hsz BX2.out HO1.out HB2.out hg1
                have hcl3 : w3.cell? ⟨w.heap.size + 1 + 1, 0, none⟩ = some vr := bx3.cell
                have hfr3 : w3.frozen? ⟨w.heap.size + 1 + 1, 0, none⟩ = false := bx3.frozen
                clear bx3 hg1 ho1'
                refine hK _ _ ?_
                clear hK K
                refine wpAnyIn_ready (rs := [5]) (by kernel_rfl) (by simp) ?_
                refine AllReadyIn.cons rfl (fun K hK => ?_) ?_
                · go_simp
                  refine hK _ _ ?_
                  clear hK K
                  refine wpAnyIn_done (by kernel_rfl) ?_ _
                  exact ⟨HX1.out.1, rs ++ [r], HRC.out, HX1.out.2⟩
                exact AllReadyIn.nil
              exact AllReadyIn.nil
            exact AllReadyIn.nil
          exact AllReadyIn.nil
        refine AllReadyIn.cons rfl (fun K hK => ?_) ?_
        · go_simp
          refine ⟨trivial, (CallsIn.inRound l (callsIn_wide.2 (clone_sl v r _ W.drew HSL.out HRL.out))).mono ?_⟩
          rintro e w2 ⟨rv, rfl, hrv, hb2⟩
          obtain ⟨Ar, cr, rfl, _⟩ := own_block' hrv
          have hb2' : Below W.heap.size W w2 := ⟨hb2.os, hb2.tape, hb2.output, hb2.size, hb2.block⟩
          have bx2' := Boxed.below BX2.out hb2' BX2.out.lt
          have hcl2 : w2.cell? ⟨w.heap.size + 1 + 1, 0, none⟩ = some vr := bx2'.cell
          have hcl2b : (w2.alloc (.cells #[.slice Ar r.length cr] 22)).cell? ⟨w.heap.size + 1 + 1, 0, none⟩ = some vr := (bx2'.alloc _).cell; have HRV := Lib.hid hrv; have HB2 := Lib.hid hb2'
          clear hrv hb2 hb2' bx2'
          refine hK _ _ ?_
          clear hK K
          refine wpAnyIn_ready (rs := [0, 3]) (by kernel_rfl) (by simp) ?_
          refine AllReadyIn.cons rfl (fun K hK => ?_) ?_
          · go_simp
            refine hK _ _ ?_
            clear hK K
            refine wpAnyIn_ready (rs := [3]) (by kernel_rfl) (by simp) ?_
            refine AllReadyIn.cons rfl (fun K hK => ?_) ?_
            · go_simp
              refine hK _ _ ?_
              clear hK K
              refine wpAnyIn_ready (rs := [4]) (by kernel_rfl) (by simp) ?_
              refine AllReadyIn.cons rfl (fun K hK => ?_) ?_
              · refine stepIn_row rfl (.tmp 14) (.tmp 17) rfl (base := W0.heap.size) (k := rs.length) (g := w2.heap.size) (u := .slice Ar r.length cr) (xs := xs) rfl ((own_below' HO1.out HB2.out).alloc _) rfl (Boxed.new w2 22 _).cell rfl (by omega) (by have := HB2.out.size; simp; omega) ?_
                intro v1' w3 ho1' hg1; obtain ⟨A1, d1, rfl, _⟩ := own_block' ho1'
                have HX1 := Lib.hid (split_step hsz hlt (hne _ (by omega) (by omega)) (Nat.le_of_lt hWs) BX0.out BX1.out BX2.out H0.out HZ.out HO1.out HO2.out HG.out HRV.out HB2.out hg1 ho1')
                have bx3 := split_mid (rs := rs) hsz BX2.out HO1.out HB2.out hg1
                have hcl3 : w3.cell? ⟨w.heap.size + 1 + 1, 0, none⟩ = some vr := bx3.cell
                have hfr3 : w3.frozen? ⟨w.heap.size + 1 + 1, 0, none⟩ = false := bx3.frozen
                clear bx3 hg1 ho1'
                refine hK _ _ ?_
                clear hK K
                refine wpAnyIn_ready (rs := [5]) (by kernel_rfl) (by simp) ?_
                refine AllReadyIn.cons rfl (fun K hK => ?_) ?_
                · go_simp
                  refine hK _ _ ?_
                  clear hK K
                  refine wpAnyIn_done (by kernel_rfl) ?_ _
                  exact ⟨HX1.out.1, rs ++ [r], HRC.out, HX1.out.2⟩
                exact AllReadyIn.nil
              exact AllReadyIn.nil
            exact AllReadyIn.nil
          refine AllReadyIn.cons rfl (fun K hK => ?_) ?_
          · go_simp
            refine hK _ _ ?_
            clear hK K
            refine wpAnyIn_ready (rs := [0]) (by kernel_rfl) (by simp) ?_
            refine AllReadyIn.cons rfl (fun K hK => ?_) ?_
            · go_simp
              refine hK _ _ ?_
              clear hK K
              refine wpAnyIn_ready (rs := [4]) (by kernel_rfl) (by simp) ?_
              refine AllReadyIn.cons rfl (fun K hK => ?_) ?_
              · refine stepIn_row rfl (.tmp 14) (.tmp 17) rfl (base := W0.heap.size) (k := rs.length) (g := w2.heap.size) (u := .slice Ar r.length cr) (xs := xs) rfl ((own_below' HO1.out HB2.out).alloc _) rfl (Boxed.new w2 22 _).cell rfl (by omega) (by have := HB2.out.size; simp; omega) ?_
                intro v1' w3 ho1' hg1; obtain ⟨A1, d1, rfl, _⟩ := own_block' ho1'
                have HX1 := Lib.hid (split_step hsz hlt (hne _ (by omega) (by omega)) (Nat.le_of_lt hWs) BX0.out BX1.out BX2.out H0.out HZ.out HO1.out HO2.out HG.out HRV.out HB2.out hg1 ho1')
                have bx3 := split_mid (rs := rs) hsz BX2.out HO1.out HB2.out hg1
                have hcl3 : w3.cell? ⟨w.heap.size + 1 + 1, 0, none⟩ = some vr := bx3.cell
                have hfr3 : w3.frozen? ⟨w.heap.size + 1 + 1, 0, none⟩ = false := bx3.frozen
                clear bx3 hg1 ho1'
                refine hK _ _ ?_
                clear hK K
                refine wpAnyIn_ready (rs := [5]) (by kernel_rfl) (by simp) ?_
                refine AllReadyIn.cons rfl (fun K hK => ?_) ?_
                · go_simp
                  refine hK _ _ ?_
                  clear hK K
                  refine wpAnyIn_done (by kernel_rfl) ?_ _
                  exact ⟨HX1.out.1, rs ++ [r], HRC.out, HX1.out.2⟩
                exact AllReadyIn.nil
              exact AllReadyIn.nil
            exact AllReadyIn.nil
          exact AllReadyIn.nil
        exact AllReadyIn.nil
      exact AllReadyIn.nil
    · have t1 : (cd != 0) = true := by rw [bne_iff_ne]; exact hcd
      have hcl0 := bx0.cell
      have hfr0 := bx0.frozen
      have b0 := bx0.set (.slice none 0 0)
      have b1 := bx1.other (show w.heap.size + 1 ≠ w.heap.size by omega) (.slice none 0 0)
      have hcl1 := b1.cell
      have hfr1 := b1.frozen
      have B0 := Lib.hid (b0.other (show w.heap.size ≠ w.heap.size + 1 by omega) (.int .i64 cd))
      have B1 := Lib.hid (b1.set (.int .i64 cd))
      have HBW : Hid (Below w.heap.size w ((W.setCell ⟨w.heap.size, 0, none⟩ (.slice none 0 0)).setCell ⟨w.heap.size + 1, 0, none⟩ (.int .i64 cd))) :=
        Lib.hid (((HB0.out.grown hg HB0.out.size (fun g e => by injection e; omega)).setCell (p := ⟨w.heap.size, 0, none⟩) (Nat.le_refl _) _).setCell (p := ⟨w.heap.size + 1, 0, none⟩) (Nat.le_succ _) _)
      have HCD := Lib.hid hcd
      clear bx0 bx1 b0 b1 bx2 hor hg hsl hpre hrs hcd
      gi_wp2
      exact ⟨(Kept.set (by omega) (hne _ (by omega) (by omega)) _).trans (Kept.set (by omega) (hne _ (by omega) (by omega)) _), rc pre, r, cd, HCD.out, rc_snoc _ _ _ _, rfl, B0.out, B1.out, HBW.out⟩
  case hstop =>
    rintro D c pre W hD hpre ⟨pr, r, cd, hcd, hrc, rfl, bx0, bx1, hb⟩ hK
    have hpre : rc pre <+: Fr.each zs := hpre
    rw [hrc] at hpre
    have HSP := Lib.hid (stop_each hpre hcd)
    refine wpIn_wide.2 ?_
    have HK := Lib.hid hK
    have hKo : ∀ r, some D = some r → w.heap.size ≤ r ∧ ∃ o : Obj, W.heap[r]? = some o ∧ o.isCells = false := fun r e => by cases e; exact ⟨by omega, _, hK, rfl⟩
    have hc0 := (box_turn bx0 (grownBy_putObj' W D (.deferred none)) hKo).cell
    have hc1 := (box_turn bx1 (grownBy_putObj' W D (.deferred none)) hKo).cell
    go_wp2
    refine ⟨by simp, .inl ⟨_, _, rfl, run_takeDeferred HK.out, ?_⟩⟩
    refine ⟨.tuple #[.slice none 0 0, .int .i64 cd], by simp [results, Try.results14, go_sem, hc0, hc1], _, by rw [HSP.out], ?_, hb.trans (belowK_b (w := w) (Nat.le_refl _) _ D _ _ (by omega) HK.out rfl rfl)⟩
    rw [HSP.out, if_neg hcd]
    exact OwnRows.nil _ _
  case hdone =>
    rintro D xs W hD hxs ⟨rs, hrs, bx0, bx1, ⟨vr, bx2, hor⟩, hg⟩ hK
    have hxs : rc xs = Fr.each zs := hxs
    rw [hrs] at hxs
    obtain ⟨rfl, hsp⟩ := zeros_each hxs
    have HSP := Lib.hid hsp; clear hsp
    obtain ⟨Av, cv, rfl⟩ : ∃ Av cv, vr = .slice Av (Fr.rows zs).length cv := by obtain ⟨_, ys, k1, _⟩ := hor; obtain ⟨A', c', e, _⟩ := own_block' k1; exact ⟨A', c', e⟩
    obtain ⟨q, hq⟩ : ∃ q, (Fr.rows zs).length = q := ⟨_, rfl⟩
    rw [hq] at bx2 hor
    have hcl2 : W.cell? ⟨w.heap.size + 1 + 1, 0, none⟩ = some (.slice Av q cv) := bx2.cell
    have hcl0 := bx0.cell
    have hfr0 := bx0.frozen
    have b1 := bx1.other (show w.heap.size + 1 ≠ w.heap.size by omega) (.slice Av q cv)
    have hcl1 := b1.cell
    have hfr1 := b1.frozen
    have b0 := (bx0.set (.slice Av q cv)).other (show w.heap.size ≠ w.heap.size + 1 by omega) (.int .i64 0)
    have b1' := b1.set (.int .i64 0)
    have hB : Below w.heap.size w ((W.setCell ⟨w.heap.size, 0, none⟩ (.slice Av q cv)).setCell ⟨w.heap.size + 1, 0, none⟩ (.int .i64 0)) :=
      ((HB0.out.grown hg HB0.out.size (fun g e => by injection e; omega)).setCell (p := ⟨w.heap.size, 0, none⟩) (Nat.le_refl _) _).setCell (p := ⟨w.heap.size + 1, 0, none⟩) (Nat.le_succ _) _
    have hK2 : ((W.setCell ⟨w.heap.size, 0, none⟩ (.slice Av q cv)).setCell ⟨w.heap.size + 1, 0, none⟩ (.int .i64 0)).heap[D]? = some (.deferred (some [])) :=
      (heap_setCell_other _ ⟨w.heap.size + 1, 0, none⟩ D _ (by show D ≠ w.heap.size + 1; omega)).trans ((heap_setCell_other _ ⟨w.heap.size, 0, none⟩ D _ (by show D ≠ w.heap.size; omega)).trans hK)
    have hO : OwnRows ((W.setCell ⟨w.heap.size, 0, none⟩ (.slice Av q cv)).setCell ⟨w.heap.size + 1, 0, none⟩ (.int .i64 0)) W0.heap.size (.slice Av q cv) (Fr.rows zs) := by
      obtain ⟨k0, ys, k1, k2⟩ := hor
      exact ⟨k0, ys, own_set_box b1 (own_set_box bx0 k1 (by decide) _) (by decide) _, fun j u hu => own_set_box b1 (own_set_box bx0 (k2 j u hu) (by decide) _) (by decide) _⟩
    have HK := Lib.hid hK2; have HB := Lib.hid hB; have HO := Lib.hid hO; have BZ0 := Lib.hid b0; have BZ1 := Lib.hid b1'
    clear hK hK2 hB hO b0 b1' b1 bx0 bx1 bx2 hor hg hrs hxs
    have hKo : ∀ r, some D = some r → w.heap.size ≤ r ∧ ∃ o : Obj, ((W.setCell ⟨w.heap.size, 0, none⟩ (.slice Av q cv)).setCell ⟨w.heap.size + 1, 0, none⟩ (.int .i64 0)).heap[r]? = some o ∧ o.isCells = false := fun r e => by cases e; exact ⟨by omega, _, HK.out, rfl⟩
    have hc0 := (box_turn BZ0.out (grownBy_putObj' _ D (.deferred none)) hKo).cell
    have hc1 := (box_turn BZ1.out (grownBy_putObj' _ D (.deferred none)) hKo).cell
    have HO' := Lib.hid (rows_turn HO.out (grownBy_putObj' _ D (.deferred none)) hKo)
    have HKO := Lib.hid hKo; clear hKo
    go_wp2
    refine ⟨by simp, .inl ⟨_, _, rfl, run_takeDeferred HK.out, ?_⟩⟩
    refine ⟨.tuple #[(.slice Av q cv), .int .i64 0], by simp [results, Try.results14, go_sem, hc0, hc1], _, by rw [HSP.out], ?_, HB.out.trans (belowK_b (w := w) (Nat.le_refl _) _ D _ _ (by omega) HK.out rfl rfl)⟩
    rw [HSP.out, if_pos rfl]
    obtain ⟨k0, ys, k1, k2⟩ := HO'.out
    exact ⟨k0, ys, own_mono k1 (by omega), fun j u hu => own_mono (k2 j u hu) (by omega)⟩

end Go.Proofs.Ytadbidgikgffhaa
