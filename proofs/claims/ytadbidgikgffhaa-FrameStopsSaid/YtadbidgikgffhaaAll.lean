/-
  The contract of embrasure/frame.All, and of the iterator that it hands back: it tells the rows of frames, each in a row of its own. Conditions: the slice reads as bytes; the rounds keep the blocks in which the iterator's bytes lie, and all that was laid since the loop began.
-/
import Derived.Test.YtadbidgikgffhaaSplit
namespace Go.Proofs.Ytadbidgikgffhaa
open Go.RowKit Go.Shelf
attribute [local go_sem] Oper.semAt_some
set_option linter.unusedVariables false

theorem RoundIn.wideAny {m m' lr : Nat} {P : Program} {l : Nat} {f : FuncId} {tmps : Array Value} {assign body : Code} {w : World} {R : Ending → World → Prop}
    (h : RoundIn Fence.wide m P l f tmps assign body w R) : RoundIn (Fence.wide.inRound lr) m' P l f tmps assign body w R := ⟨h.1, fun c cs _ => h.2 c cs (room_wide _)⟩

/-- what a round of All's is handed: the row's value, and what it reads as -/
abbrev ItemA := Value × List Int
def encA (x : ItemA) : Array Value := #[x.1]
def OkA (zs : List Int) (pre : List ItemA) (x : ItemA) (W : World) : Prop := Sl W x.1 x.2 (fun _ => True) ∧ (pre ++ [x]).map (·.2) <+: Fr.rows zs

theorem okA_own (zs : List Int) (B : Nat) (pre : List ItemA) (x : ItemA) : OwnFrom B (fun (_ : Unit) W => OkA zs pre x W) := by
  rintro _ X Y row ⟨⟨A, n, c, e, hb, h3, h4, h5, h6⟩, hp⟩ hg hr
  refine ⟨⟨A, n, c, e, ?_, h3, h4, h5, h6⟩, hp⟩
  refine ⟨hb.1, hb.2.1, fun hn => ?_⟩
  obtain ⟨b, off, rfl, hlt, hc⟩ := hb.2.2 hn
  refine ⟨b, off, rfl, Nat.lt_of_lt_of_le hlt hg.size, fun j hj => (World.cell?_of_block (w := X) (a := ⟨b, off + j, none⟩) (hg.block b hlt (fun e => ?_))).trans (hc j hj)⟩
  obtain ⟨o, ho, hoc⟩ := (hr b e.symm).2
  have := hc j hj
  unfold World.cell? at this
  rw [ho] at this
  cases o <;> simp_all [Obj.isCells]

theorem zeros_take (c : List Int × Int) (t : List (List Int × Int)) (hc : ¬ c.2 = 0) : ∀ l : List (List Int), (zeros l ++ c :: t).takeWhile (fun x : List Int × Int => decide (x.2 = 0)) = zeros l
  | [] => by simp [zeros, hc]
  | r :: l => by
    have := zeros_take c t hc l
    simp only [zeros, List.map_cons, List.cons_append] at this ⊢
    rw [List.takeWhile_cons_of_pos (by simp), this]
theorem zeros_inj {a b : List (List Int)} (h : zeros a = zeros b) : a = b := by
  have := congrArg (List.map (fun x : List Int × Int => x.1)) h
  simpa [zeros, Function.comp_def] using this
theorem zeros_stop {pre : List (List Int × Int)} {rs : List (List Int)} {r : List Int} {c : Int} {zs : List Int} (h : pre ++ [(r, c)] <+: Fr.each zs) (hz : pre = zeros rs) (hc : ¬ c = 0) : rs = Fr.rows zs := by
  subst hz
  have hs := stop_each h hc
  obtain ⟨t, ht⟩ := h
  unfold Fr.each at ht
  rw [if_neg (by omega), List.append_assoc] at ht
  have := congrArg (List.takeWhile (fun x : List Int × Int => decide (x.2 = 0))) ht
  rw [show [(r, c)] ++ t = (r, c) :: t from rfl, zeros_take (r, c) t hc rs] at this
  exact zeros_inj (this.trans (zeros_take ([], Fr.stop zs) [] (by show ¬ Fr.stop zs = 0; omega) (Fr.rows zs)))
theorem zeros_pre {pre : List (List Int × Int)} {rs : List (List Int)} {r : List Int} {zs : List Int} (h : pre ++ [(r, 0)] <+: Fr.each zs) (hz : pre = zeros rs) : rs ++ [r] <+: Fr.rows zs := by
  subst hz
  rw [← zeros_snoc] at h
  have hf : (zeros (rs ++ [r])).filter (fun x : List Int × Int => decide (x.2 = 0)) <+: (Fr.each zs).filter (fun x : List Int × Int => decide (x.2 = 0)) := h.filter _
  have hall : ∀ l : List (List Int), (l.map (fun r => (r, (0 : Int)))).filter (fun x : List Int × Int => decide (x.2 = 0)) = l.map (fun r => (r, 0)) := fun l => List.filter_eq_self.2 (by intro a ha; obtain ⟨r, _, rfl⟩ := List.mem_map.1 ha; simp)
  unfold zeros Fr.each at hf
  rw [List.filter_append, hall, hall] at hf
  have hz : (if Fr.stop zs = 0 then ([] : List (List Int × Int)) else [([], Fr.stop zs)]).filter (fun x : List Int × Int => decide (x.2 = 0)) = [] := by
    split <;> simp_all
  rw [hz, List.append_nil] at hf
  have := hf.map (fun x : List Int × Int => x.1)
  simpa [Function.comp_def] using this

theorem drew_grown (W : World) : W.grownBy W.drew none := ⟨rfl, rfl, rfl, Nat.le_refl _, fun _ _ _ => rfl⟩
theorem below_grown' {n : Nat} {w w' : World} (h : Below n w w') (hn : w.heap.size ≤ n) : w.grownBy w' none := ⟨h.os, h.tape, h.output, h.size, fun k hk _ => h.block k (by omega)⟩

/-- what a round of All$1's own loop leaves -/
def OutA (zs : List Int) (gs : List Nat) (B : Nat) (l : Nat) (Y : Nat) (J Jx : List ItemA → World → Prop) (pre : List Item) (V : World) (b : Bool) (W' : World) : Prop :=
  Kept gs false B V W' ∧ (b = true → ∃ ys : List ItemA, rc pre = zeros (ys.map (·.2)) ∧ J ys W' ∧ W'.cell? ⟨Y, 0, none⟩ = some (.func (.yield l) #[] #[])) ∧ (b = false → ∃ ys : List ItemA, ys.map (·.2) <+: Fr.rows zs ∧ Jx ys W')

set_option maxRecDepth 100000 in
set_option maxHeartbeats 4000000 in
theorem all1_in (n : Nat) (l Bk : Nat) (gs : List Nat) (A : Option Addr) (m c : Nat) (zs : List Int) (J Jx : List ItemA → World → Prop) (W : World) (hJ : OwnFrom W.heap.size J) (hJx : OwnFrom W.heap.size Jx)
    (hY : ∀ pre x W1, J pre W1 → OkA zs pre x W1 → YieldAt Fence.wide (n - 1) Try.prog l (encA x) W1 fun e W' => Kept gs true W.heap.size W1 W' ∧
      ((e = .returned (.bool true) ∧ J (pre ++ [x]) W') ∨ (e = .returned (.bool false) ∧ Jx (pre ++ [x]) W')))
    (hbox : W.cell? ⟨Bk, 0, none⟩ = some (.slice A m c)) (hlt : ∀ g ∈ gs, g < W.heap.size) (hA : 0 < m → ∀ ad, A = some ad → ad.block ∈ gs) (hb : Bts W A m zs) (hmc : m ≤ c) (hc : c ≤ maxLen) (hm : m ≤ 1000000) (h0 : J [] W) :
    CallsIn Fence.wide n Try.prog 26 #[.func (.yield l) #[] #[], .pointer (some ⟨Bk, 0, none⟩)] W fun e W' => (∃ v, e = .returned v) ∧
      ((∃ ys, ys.map (·.2) = Fr.rows zs ∧ J ys W') ∨ (∃ pre, pre.map (·.2) <+: Fr.rows zs ∧ Jx pre W')) := by
  have HC := Lib.hid hc; clear hc
  have H := Lib.hid hb; clear hb
  have HJ := Lib.hid hJ; have HJx := Lib.hid hJx; have HY := Lib.hid hY; have HA := Lib.hid hA; have H0 := Lib.hid h0
  clear hJ hJx hY hA h0
  have fo := follows
  refine callsIn_wide.2 ?_
  refine (callsIn_wide (n := 6)).1 ?_
  refine callsIn_of_wp_marks Try.func26 rfl trivial ?_ rfl
  refine wpIn_wide.2 ?_
  simp only [Try.ntmps26, List.size_toArray, List.length_cons, List.length_nil, Nat.reduceAdd, Nat.reduceSub, Array.replicate_succ, Array.replicate_zero, List.push_toArray, List.append_toArray, List.nil_append, List.cons_append]
  have hbox2 : (W.alloc (.cells #[.func (.yield l) #[] #[]] 50)).cell? ⟨Bk, 0, none⟩ = some (.slice A m c) := ((Below.refl _ W).alloc (Nat.le_refl _) _).cell (p := ⟨Bk, 0, none⟩) (lt_of_cell hbox) |>.trans hbox
  go_wp2_with (go_at_call 25; refine (each_any _ _ _ _).mono ?_; rintro e w' ⟨rfl, rfl⟩)
  clear hbox2
  obtain ⟨W0, hW0⟩ : ∃ W0, (W.alloc (.cells #[.func (.yield l) #[] #[]] 50)).alloc (.cells #[.slice A m c] 22) = W0 := ⟨_, rfl⟩
  rw [hW0]
  have hsz : W0.heap.size = W.heap.size + 2 := by rw [← hW0]; simp
  have HB0 : Hid (Below W.heap.size W W0) := Lib.hid (by rw [← hW0]; exact ((Below.refl _ W).alloc (Nat.le_refl _) _).alloc (by simp) _)
  have HCY : Hid (W0.cell? ⟨W.heap.size, 0, none⟩ = some (.func (.yield l) #[] #[])) := Lib.hid (by rw [← hW0]; exact ((Boxed.new W 50 (.func (.yield l) #[] #[])).alloc _).cell)
  have HBX : Hid (W0.cell? ⟨W.heap.size + 1, 0, none⟩ = some (.slice A m c)) := Lib.hid (by
    rw [← hW0]; have := (Boxed.new (W.alloc (.cells #[.func (.yield l) #[] #[]] 50)) 22 (.slice A m c)).cell; rwa [World.size_alloc] at this)
  clear hW0
  have hlt2 : ∀ x ∈ blk (W.heap.size + 1) A m, x < W0.heap.size := blk_all (by omega) (fun h ad e => by have := H.out.lt h ad e; omega)
  have hst := each_tells 5 (by omega) (W.heap.size + 1) (blk (W.heap.size + 1) A m) A m c zs W0 hlt2 HBX.out (blk_self _ _ _) (blk_addr _ _ _) (H.out.below HB0.out) hmc HC.out
  refine (wpIn_wide (n := 6)).1 ?_
  apply range_told (F := Fence.wide) (n := 6) (f := 29) (own := #[.pointer (some ⟨W.heap.size + 1, 0, none⟩)]) ⟨rfl, by omega, trivial, enters_of Try.func29 (by kernel_rfl) rfl, hst⟩ rfl (Below.refl _ _) hlt2 (fun _ => rfl)
    (fun pre V => ∃ ys : List ItemA, rc pre = zeros (ys.map (·.2)) ∧ J ys V ∧ V.cell? ⟨W.heap.size, 0, none⟩ = some (.func (.yield l) #[] #[]))
    (fun c pre V => c = .ret ∧ ((∃ ys : List ItemA, ys.map (·.2) = Fr.rows zs ∧ J ys V) ∨ (∃ ys : List ItemA, ys.map (·.2) <+: Fr.rows zs ∧ Jx ys V)))
    ⟨(fun s X Y row hs hg hr => by
      obtain ⟨ys, h1, h2, h3⟩ := hs
      exact ⟨ys, h1, HJ.out _ _ _ _ h2 hg (fun r e => ⟨by have := (hr r e).1; omega, (hr r e).2⟩), cell_kept h3 hg (fun r e => (hr r e).2)⟩),
    (fun c s X Y row hs hg hr => by
      obtain ⟨h0, ⟨ys, h1, h2⟩ | ⟨ys, h1, h2⟩⟩ := hs
      · exact ⟨h0, .inl ⟨ys, h1, HJ.out _ _ _ _ h2 hg (fun r e => ⟨by have := (hr r e).1; omega, (hr r e).2⟩)⟩⟩
      · exact ⟨h0, .inr ⟨ys, h1, HJx.out _ _ _ _ h2 hg (fun r e => ⟨by have := (hr r e).1; omega, (hr r e).2⟩)⟩⟩),
    (fun pre x => okE_own zs _ _ pre x hlt2)⟩
    ⟨[], rfl, HJ.out _ _ _ _ H0.out (below_grown' HB0.out (Nat.le_refl _)) (fun r e => by cases e), HCY.out⟩
  case hassign =>
    intro l x W K hK
    simp only [encE]
    gi_wp2
    exact hK
  case hbody =>
    rintro lr pre ⟨v, r, cd⟩ V hVs ⟨ys, hys, hj, hcy⟩ ⟨hsl, hpre⟩
    have hpre2 : rc pre ++ [(r, cd)] <+: Fr.each zs := by rw [← rc_snoc pre v]; exact hpre
    have hyl : W.heap.size < V.heap.size := lt_of_cell hcy
    by_cases hcd : cd = 0
    · have t1 : (cd != 0) = false := by simp [hcd]
      subst hcd
      have hz := zeros_pre hpre2 hys
      have HSL := Lib.hid hsl
      have HRL : Hid (r.length ≤ 140737488355328) := Lib.hid (by
        have := Fr.rows_mem_len zs r (hz.subset (by simp)); omega)
      have HRC : Hid (rc (pre ++ [(v, r, 0)]) = zeros (ys.map (·.2) ++ [r])) := Lib.hid (by rw [rc_snoc, zeros_snoc, hys])
      have HY2 : Hid (∀ rv w2, w2.ownsRow V.heap.size 5 1 rv r.length (B r) → Below V.drew.heap.size V.drew w2 → ∃ fn tmps assign body, (Instr.yield l #[rv]).run Try.prog w2 = .ok (.round l fn tmps assign body) w2 ∧
          ∀ m' : Nat, RoundIn (Fence.wide.inRound lr) m' Try.prog l fn tmps assign body w2 fun e W3 => ∃ b, e = .returned (.bool b) ∧ OutA zs (blk (W.heap.size + 1) A m) W0.heap.size l W.heap.size J Jx (pre ++ [(v, r, 0)]) V b W3) := Lib.hid (by
        intro rv w2 hrv hb2
        have hb2' : Below V.heap.size V w2 := ⟨hb2.os, hb2.tape, hb2.output, hb2.size, hb2.block⟩
        have hgr := below_grown' hb2' (Nat.le_refl _)
        have hj2 : J ys w2 := HJ.out _ _ _ _ hj hgr (fun r e => by cases e)
        have hok : OkA zs ys (rv, r) w2 := ⟨(own_sl hrv hsl.bd).mono (fun _ _ => trivial), by simpa using hz⟩
        obtain ⟨fn, tmps, assign, body, hy, hR⟩ := HY.out ys (rv, r) w2 hj2 hok
        refine ⟨fn, tmps, assign, body, hy, fun m' => (RoundIn.wideAny hR).mono ?_⟩
        have hcy2 : w2.cell? ⟨W.heap.size, 0, none⟩ = some (.func (.yield l) #[] #[]) := (hb2'.cell (p := ⟨W.heap.size, 0, none⟩) hyl).trans hcy
        have hkeep : ∀ W3, Kept gs true W.heap.size w2 W3 → Kept (blk (W.heap.size + 1) A m) false W0.heap.size V W3 := fun W3 hk =>
          (Kept.grown hgr (fun g hg => Nat.lt_of_lt_of_le (hlt2 g hg) (Nat.le_of_lt hVs)) (fun r e => by cases e)).trans
            ⟨hk.size, fun g hg => by
              refine blk_all (p := fun g => W3.heap[g]? = w2.heap[g]?) ?_ ?_ g hg
              · obtain ⟨o, ho⟩ : ∃ o, w2.heap[W.heap.size + 1]? = some o := ⟨_, Array.getElem?_eq_getElem (by have := hb2'.size; omega)⟩
                rw [ho]; exact hk.new _ _ (by omega) ho (.inl rfl)
              · intro h ad e; exact hk.same _ (HA.out h ad e), fun k o h1 h2 _ => hk.new k o (by omega) h2 (.inl rfl)⟩
        rintro e W3 ⟨hk, ⟨rfl, h3⟩ | ⟨rfl, h3⟩⟩
        · refine ⟨true, rfl, hkeep W3 hk, fun _ => ⟨ys ++ [(rv, r)], by rw [HRC.out]; simp, h3, ?_⟩, fun h => by cases h⟩
          obtain ⟨o, ho⟩ : ∃ o, w2.heap[W.heap.size]? = some o := ⟨_, Array.getElem?_eq_getElem (lt_of_cell hcy2)⟩
          exact (World.cell?_of_block (w := w2) (a := ⟨W.heap.size, 0, none⟩) ((hk.new _ _ (Nat.le_refl _) ho (.inl rfl)).trans ho.symm)).trans hcy2
        · exact ⟨false, rfl, hkeep W3 hk, fun h => (by cases h), fun _ => ⟨ys ++ [(rv, r)], by simpa using hz, h3⟩⟩)
      clear hsl hpre hpre2 hys hj hz
      gi_wp2
      refine wpIn_region_any fo ?_
      change wpAnyIn _ _ _ _ _ _ _ _ _ (World.drew _)
      refine wpAnyIn_ready (rs := [0]) (by kernel_rfl) (by simp) ?_
      refine AllReadyIn.cons rfl (fun K hK => ?_) ?_
      · go_simp
        refine hK _ _ ?_
        clear hK K
        refine wpAnyIn_ready (rs := [1]) (by kernel_rfl) (by simp) ?_
        refine AllReadyIn.cons rfl (fun K hK => ?_) ?_
        · go_simp
          refine hK _ _ ?_
          clear hK K
          refine wpAnyIn_ready (rs := [2]) (by kernel_rfl) (by simp) ?_
          refine AllReadyIn.cons rfl (fun K hK => ?_) ?_
          · go_simp
            refine hK _ _ ?_
            clear hK K
            refine wpAnyIn_ready (rs := [3, 4]) (by kernel_rfl) (by simp) ?_
            refine AllReadyIn.cons rfl (fun K hK => ?_) ?_
            · go_simp
              refine hK _ _ ?_
              clear hK K
              refine wpAnyIn_ready (rs := [4]) (by kernel_rfl) (by simp) ?_
              refine AllReadyIn.cons rfl (fun K hK => ?_) ?_
              · go_simp
                refine hK _ _ ?_
                clear hK K
                refine wpAnyIn_ready (rs := [5]) (by kernel_rfl) (by simp) ?_
                refine AllReadyIn.cons rfl (fun K hK => ?_) ?_
                · go_simp
                  refine ⟨trivial, (CallsIn.inRound lr (callsIn_wide.2 (clone_sl v r _ V.drew HSL.out HRL.out))).mono ?_⟩
                  rintro e w2 ⟨rv, rfl, hrv, hb2⟩
                  obtain ⟨fn, tmps, assign, body, hy, hR⟩ := HY2.out rv w2 hrv hb2
                  have hcy2 : w2.cell? ⟨W.heap.size, 0, none⟩ = some (.func (.yield l) #[] #[]) := (hb2.cell (p := ⟨W.heap.size, 0, none⟩) hyl).trans hcy
                  have HR := Lib.hid hR; clear hrv hb2 hR
                  refine hK _ _ ?_
                  clear hK K
                  refine wpAnyIn_ready (rs := [6]) (by kernel_rfl) (by simp) ?_
                  refine AllReadyIn.cons rfl (fun K hK => ?_) ?_
                  · go_simp
                    refine (HR.out _).mono ?_
                    rintro e W3 ⟨b, rfl, ho⟩
                    have HO := Lib.hid ho; clear ho
                    refine hK _ _ ?_
                    clear hK K
                    refine wpAnyIn_ready (rs := [7]) (by kernel_rfl) (by simp) ?_
                    refine AllReadyIn.cons rfl (fun K hK => ?_) ?_
                    · go_simp
                      refine hK _ _ ?_
                      clear hK K
                      refine wpAnyIn_ready (rs := [8]) (by kernel_rfl) (by simp) ?_
                      refine AllReadyIn.cons rfl (fun K hK => ?_) ?_
                      · go_simp
                        refine hK _ _ ?_
                        clear hK K
                        refine wpAnyIn_done (by kernel_rfl) ?_ _
                        cases b
                        · gi_wp2
                          exact ⟨HO.out.1, rfl, .inr (HO.out.2.2 rfl)⟩
                        · gi_wp2
                          exact ⟨HO.out.1, HO.out.2.1 rfl⟩
                      exact AllReadyIn.nil
                    exact AllReadyIn.nil
                  exact AllReadyIn.nil
                exact AllReadyIn.nil
              exact AllReadyIn.nil
            refine AllReadyIn.cons rfl (fun K hK => ?_) ?_
            · go_simp
              refine hK _ _ ?_
              clear hK K
              refine wpAnyIn_ready (rs := [3, 5]) (by kernel_rfl) (by simp) ?_
              refine AllReadyIn.cons rfl (fun K hK => ?_) ?_
              · go_simp
                refine hK _ _ ?_
                clear hK K
                refine wpAnyIn_ready (rs := [5]) (by kernel_rfl) (by simp) ?_
                refine AllReadyIn.cons rfl (fun K hK => ?_) ?_
                · go_simp
                  refine ⟨trivial, (CallsIn.inRound lr (callsIn_wide.2 (clone_sl v r _ V.drew HSL.out HRL.out))).mono ?_⟩
                  rintro e w2 ⟨rv, rfl, hrv, hb2⟩
                  obtain ⟨fn, tmps, assign, body, hy, hR⟩ := HY2.out rv w2 hrv hb2
                  have hcy2 : w2.cell? ⟨W.heap.size, 0, none⟩ = some (.func (.yield l) #[] #[]) := (hb2.cell (p := ⟨W.heap.size, 0, none⟩) hyl).trans hcy
                  have HR := Lib.hid hR; clear hrv hb2 hR
                  refine hK _ _ ?_
                  clear hK K
                  refine wpAnyIn_ready (rs := [6]) (by kernel_rfl) (by simp) ?_
                  refine AllReadyIn.cons rfl (fun K hK => ?_) ?_
                  · go_simp
                    refine (HR.out _).mono ?_
                    rintro e W3 ⟨b, rfl, ho⟩
                    have HO := Lib.hid ho; clear ho
                    refine hK _ _ ?_
                    clear hK K
                    refine wpAnyIn_ready (rs := [7]) (by kernel_rfl) (by simp) ?_
                    refine AllReadyIn.cons rfl (fun K hK => ?_) ?_
                    · go_simp
                      refine hK _ _ ?_
                      clear hK K
                      refine wpAnyIn_ready (rs := [8]) (by kernel_rfl) (by simp) ?_
                      refine AllReadyIn.cons rfl (fun K hK => ?_) ?_
                      · go_simp
                        refine hK _ _ ?_
                        clear hK K
                        refine wpAnyIn_done (by kernel_rfl) ?_ _
                        cases b
                        · gi_wp2
                          exact ⟨HO.out.1, rfl, .inr (HO.out.2.2 rfl)⟩
                        · gi_wp2
                          exact ⟨HO.out.1, HO.out.2.1 rfl⟩
                      exact AllReadyIn.nil
                    exact AllReadyIn.nil
                  exact AllReadyIn.nil
                exact AllReadyIn.nil
              refine AllReadyIn.cons rfl (fun K hK => ?_) ?_
              · go_simp
                refine ⟨trivial, (CallsIn.inRound lr (callsIn_wide.2 (clone_sl v r _ V.drew HSL.out HRL.out))).mono ?_⟩
                rintro e w2 ⟨rv, rfl, hrv, hb2⟩
                obtain ⟨fn, tmps, assign, body, hy, hR⟩ := HY2.out rv w2 hrv hb2
                have hcy2 : w2.cell? ⟨W.heap.size, 0, none⟩ = some (.func (.yield l) #[] #[]) := (hb2.cell (p := ⟨W.heap.size, 0, none⟩) hyl).trans hcy
                have HR := Lib.hid hR; clear hrv hb2 hR
                refine hK _ _ ?_
                clear hK K
                refine wpAnyIn_ready (rs := [3]) (by kernel_rfl) (by simp) ?_
                refine AllReadyIn.cons rfl (fun K hK => ?_) ?_
                · go_simp
                  refine hK _ _ ?_
                  clear hK K
                  refine wpAnyIn_ready (rs := [6]) (by kernel_rfl) (by simp) ?_
                  refine AllReadyIn.cons rfl (fun K hK => ?_) ?_
                  · go_simp
                    refine (HR.out _).mono ?_
                    rintro e W3 ⟨b, rfl, ho⟩
                    have HO := Lib.hid ho; clear ho
                    refine hK _ _ ?_
                    clear hK K
                    refine wpAnyIn_ready (rs := [7]) (by kernel_rfl) (by simp) ?_
                    refine AllReadyIn.cons rfl (fun K hK => ?_) ?_
                    · go_simp
                      refine hK _ _ ?_
                      clear hK K
                      refine wpAnyIn_ready (rs := [8]) (by kernel_rfl) (by simp) ?_
                      refine AllReadyIn.cons rfl (fun K hK => ?_) ?_
                      · go_simp
                        refine hK _ _ ?_
                        clear hK K
                        refine wpAnyIn_done (by kernel_rfl) ?_ _
                        cases b
                        · gi_wp2
                          exact ⟨HO.out.1, rfl, .inr (HO.out.2.2 rfl)⟩
                        · gi_wp2
                          exact ⟨HO.out.1, HO.out.2.1 rfl⟩
                      exact AllReadyIn.nil
                    exact AllReadyIn.nil
                  exact AllReadyIn.nil
                exact AllReadyIn.nil
              exact AllReadyIn.nil
            exact AllReadyIn.nil
          exact AllReadyIn.nil
        exact AllReadyIn.nil
      exact AllReadyIn.nil
    · have t1 : (cd != 0) = true := by rw [bne_iff_ne]; exact hcd
      have HEND : Hid (ys.map (·.2) = Fr.rows zs) := Lib.hid (zeros_stop hpre2 hys hcd)
      have HJD : Hid (J ys V.drew) := Lib.hid (HJ.out _ _ _ _ hj (drew_grown V) (fun r e => by cases e))
      have HKD : Hid (Kept (blk (W.heap.size + 1) A m) false W0.heap.size V V.drew) := Lib.hid (Kept.grown (drew_grown V) (fun g hg => Nat.lt_of_lt_of_le (hlt2 g hg) (Nat.le_of_lt hVs)) (fun r e => by cases e))
      clear hsl hpre hpre2 hys hj hcd
      gi_wp2
      refine wpIn_region_any fo ?_
      change wpAnyIn _ _ _ _ _ _ _ _ _ (World.drew _)
      refine wpAnyIn_ready (rs := [0]) (by kernel_rfl) (by simp) ?_
      refine AllReadyIn.cons rfl (fun K hK => ?_) ?_
      · go_simp
        refine hK _ _ ?_
        clear hK K
        refine wpAnyIn_ready (rs := [1]) (by kernel_rfl) (by simp) ?_
        refine AllReadyIn.cons rfl (fun K hK => ?_) ?_
        · go_simp
          refine hK _ _ ?_
          clear hK K
          refine wpAnyIn_ready (rs := [2]) (by kernel_rfl) (by simp) ?_
          refine AllReadyIn.cons rfl (fun K hK => ?_) ?_
          · go_simp
            refine hK _ _ ?_
            clear hK K
            refine wpAnyIn_ready (rs := [3, 4]) (by kernel_rfl) (by simp) ?_
            refine AllReadyIn.cons rfl (fun K hK => ?_) ?_
            · go_simp
              refine hK _ _ ?_
              clear hK K
              refine wpAnyIn_ready (rs := [4]) (by kernel_rfl) (by simp) ?_
              refine AllReadyIn.cons rfl (fun K hK => ?_) ?_
              · go_simp
                refine hK _ _ ?_
                clear hK K
                refine wpAnyIn_ready (rs := [5]) (by kernel_rfl) (by simp) ?_
                refine AllReadyIn.cons rfl (fun K hK => ?_) ?_
                · go_simp
                  refine ⟨trivial, ?_⟩
                  refine hK _ _ ?_
                  clear hK K
                  refine wpAnyIn_ready (rs := [6]) (by kernel_rfl) (by simp) ?_
                  refine AllReadyIn.cons rfl (fun K hK => ?_) ?_
                  · go_simp
                    refine ⟨fun _ _ => trivial, ?_⟩
                    refine hK _ _ ?_
                    clear hK K
                    refine wpAnyIn_ready (rs := [7]) (by kernel_rfl) (by simp) ?_
                    refine AllReadyIn.cons rfl (fun K hK => ?_) ?_
                    · go_simp
                      refine hK _ _ ?_
                      clear hK K
                      refine wpAnyIn_ready (rs := [8]) (by kernel_rfl) (by simp) ?_
                      refine AllReadyIn.cons rfl (fun K hK => ?_) ?_
                      · go_simp
                        refine hK _ _ ?_
                        clear hK K
                        refine wpAnyIn_done (by kernel_rfl) ?_ _
                        gi_wp2
                        exact ⟨HKD.out, rfl, .inl ⟨ys, HEND.out, HJD.out⟩⟩
                      exact AllReadyIn.nil
                    exact AllReadyIn.nil
                  exact AllReadyIn.nil
                exact AllReadyIn.nil
              exact AllReadyIn.nil
            refine AllReadyIn.cons rfl (fun K hK => ?_) ?_
            · go_simp
              refine hK _ _ ?_
              clear hK K
              refine wpAnyIn_ready (rs := [3, 5]) (by kernel_rfl) (by simp) ?_
              refine AllReadyIn.cons rfl (fun K hK => ?_) ?_
              · go_simp
                refine hK _ _ ?_
                clear hK K
                refine wpAnyIn_ready (rs := [5]) (by kernel_rfl) (by simp) ?_
                refine AllReadyIn.cons rfl (fun K hK => ?_) ?_
                · go_simp
                  refine ⟨trivial, ?_⟩
                  refine hK _ _ ?_
                  clear hK K
                  refine wpAnyIn_ready (rs := [6]) (by kernel_rfl) (by simp) ?_
                  refine AllReadyIn.cons rfl (fun K hK => ?_) ?_
                  · go_simp
                    refine ⟨fun _ _ => trivial, ?_⟩
                    refine hK _ _ ?_
                    clear hK K
                    refine wpAnyIn_ready (rs := [7]) (by kernel_rfl) (by simp) ?_
                    refine AllReadyIn.cons rfl (fun K hK => ?_) ?_
                    · go_simp
                      refine hK _ _ ?_
                      clear hK K
                      refine wpAnyIn_ready (rs := [8]) (by kernel_rfl) (by simp) ?_
                      refine AllReadyIn.cons rfl (fun K hK => ?_) ?_
                      · go_simp
                        refine hK _ _ ?_
                        clear hK K
                        refine wpAnyIn_done (by kernel_rfl) ?_ _
                        gi_wp2
                        exact ⟨HKD.out, rfl, .inl ⟨ys, HEND.out, HJD.out⟩⟩
                      exact AllReadyIn.nil
                    exact AllReadyIn.nil
                  exact AllReadyIn.nil
                exact AllReadyIn.nil
              refine AllReadyIn.cons rfl (fun K hK => ?_) ?_
              · go_simp
                refine ⟨trivial, ?_⟩
                refine hK _ _ ?_
                clear hK K
                refine wpAnyIn_ready (rs := [3]) (by kernel_rfl) (by simp) ?_
                refine AllReadyIn.cons rfl (fun K hK => ?_) ?_
                · go_simp
                  refine hK _ _ ?_
                  clear hK K
                  refine wpAnyIn_ready (rs := [6]) (by kernel_rfl) (by simp) ?_
                  refine AllReadyIn.cons rfl (fun K hK => ?_) ?_
                  · go_simp
                    refine ⟨fun _ _ => trivial, ?_⟩
                    refine hK _ _ ?_
                    clear hK K
                    refine wpAnyIn_ready (rs := [7]) (by kernel_rfl) (by simp) ?_
                    refine AllReadyIn.cons rfl (fun K hK => ?_) ?_
                    · go_simp
                      refine hK _ _ ?_
                      clear hK K
                      refine wpAnyIn_ready (rs := [8]) (by kernel_rfl) (by simp) ?_
                      refine AllReadyIn.cons rfl (fun K hK => ?_) ?_
                      · go_simp
                        refine hK _ _ ?_
                        clear hK K
                        refine wpAnyIn_done (by kernel_rfl) ?_ _
                        gi_wp2
                        exact ⟨HKD.out, rfl, .inl ⟨ys, HEND.out, HJD.out⟩⟩
                      exact AllReadyIn.nil
                    exact AllReadyIn.nil
                  exact AllReadyIn.nil
                exact AllReadyIn.nil
              exact AllReadyIn.nil
            exact AllReadyIn.nil
          exact AllReadyIn.nil
        exact AllReadyIn.nil
      exact AllReadyIn.nil
  case hstop =>
    rintro D c pre V hD hpre ⟨rfl, hor⟩ hK
    have HOR := Lib.hid hor; clear hor
    have HK := Lib.hid hK; clear hK
    have HT : Hid (∀ r, some D = some r → W.heap.size ≤ r ∧ ∃ o : Obj, V.heap[r]? = some o ∧ o.isCells = false) := Lib.hid (fun r e => by cases e; exact ⟨by omega, _, HK.out, rfl⟩)
    refine wpIn_wide.2 ?_
    go_wp2
    refine ⟨by simp, .inl ⟨_, _, rfl, run_takeDeferred HK.out, ?_⟩⟩
    refine ⟨_, results_none rfl _ _ _, ⟨_, rfl⟩, ?_⟩
    rcases HOR.out with ⟨ys, h1, h2⟩ | ⟨ys, h1, h2⟩
    · exact .inl ⟨ys, h1, HJ.out _ _ _ _ h2 (grownBy_putObj' _ D (.deferred none)) HT.out⟩
    · exact .inr ⟨ys, h1, HJx.out _ _ _ _ h2 (grownBy_putObj' _ D (.deferred none)) HT.out⟩
  case hdone =>
    rintro D xs V hD hxs ⟨ys, hys, hj, hcy⟩ hK
    have hxs : rc xs = Fr.each zs := hxs
    rw [hys] at hxs
    have HYS : Hid (ys.map (·.2) = Fr.rows zs) := Lib.hid (zeros_each hxs).1
    have HK := Lib.hid hK; clear hK
    have HT : Hid (∀ r, some D = some r → W.heap.size ≤ r ∧ ∃ o : Obj, V.heap[r]? = some o ∧ o.isCells = false) := Lib.hid (fun r e => by cases e; exact ⟨by omega, _, HK.out, rfl⟩)
    have HJ2 := Lib.hid hj; clear hj hys hxs
    go_wp2
    refine ⟨by simp, .inl ⟨_, _, rfl, run_takeDeferred HK.out, ?_⟩⟩
    refine ⟨_, results_none rfl _ _ _, ⟨_, rfl⟩, ?_⟩
    exact .inl ⟨ys, HYS.out, HJ.out _ _ _ _ HJ2.out (grownBy_putObj' _ D (.deferred none)) HT.out⟩

/-- the iterator of frame.All, over the box Bk that holds the slice -/
theorem all_tells (n : Nat) (Bk : Nat) (gs : List Nat) (A : Option Addr) (m c : Nat) (zs : List Int) (w : World) (hlt : ∀ g ∈ gs, g < w.heap.size)
    (hbox : w.cell? ⟨Bk, 0, none⟩ = some (.slice A m c)) (hBk : Bk ∈ gs) (hA : 0 < m → ∀ ad, A = some ad → ad.block ∈ gs) (hb : Bts w A m zs) (hmc : m ≤ c) (hc : c ≤ maxLen) (hm : m ≤ 1000000) :
    Tells Fence.wide n Try.prog 26 #[.pointer (some ⟨Bk, 0, none⟩)] encA (OkA zs) gs true (fun ys => ys.map (·.2) = Fr.rows zs) (fun pre => pre.map (·.2) <+: Fr.rows zs) w := fun l J Jx W hW ⟨hJ, hJx⟩ h0 hY =>
  all1_in n l Bk gs A m c zs J Jx W hJ hJx hY ((hW.cell (p := ⟨Bk, 0, none⟩) (hlt Bk hBk)).trans hbox) (fun g hg => Nat.lt_of_lt_of_le (hlt g hg) hW.size) hA (hb.below hW) hmc hc hm h0

def AllAns (w : World) (n : Nat) (zs : List Int) (e : Ending) (w' : World) : Prop :=
  ∃ Ar cr Bk, e = .returned (.func (.func 26) #[] #[.pointer (some ⟨Bk, 0, none⟩)]) ∧ w'.cell? ⟨Bk, 0, none⟩ = some (.slice Ar n cr) ∧ w.heap.size ≤ Bk ∧ Bts w' Ar n zs ∧ n ≤ cr ∧ cr ≤ maxLen ∧ (∀ ad, Ar = some ad → w.heap.size ≤ ad.block) ∧ Below w.heap.size w w'
set_option maxHeartbeats 400000 in
/-- frame.All hands back a closure over a box that holds a copy of the slice -/
theorem all_any (A : Option Addr) (n c : Nat) (zs : List Int) (w : World) (h : Bts w A n zs) (hnil : A = none → n = 0 ∧ c = 0) (hn : n ≤ 1000000) :
    Calls Try.prog 18 #[.slice A n c] w (AllAns w n zs) := by
  have H := Lib.hid h; have HN := Lib.hid hnil; clear h hnil
  go_enter Try.func18, Try.ntmps18
  go_wp2_with (go_at_call 21; refine (clone_any _ _ _ zs _ H.out HN.out (by omega)).mono ?_; rintro e w2 ⟨r, rfl, ho, hb⟩; obtain ⟨Ar, cr, rfl, hnc, hcm, hbt⟩ := own_form ho H.out.bd; obtain ⟨Ar', cr', e', _, _, _, hbl, _⟩ := own_block' ho; have HBL := Lib.hid hbl; have HE := Lib.hid e'; have HBT := Lib.hid hbt; have HB := Lib.hid hb; have HC := Lib.hid hcm; clear ho hbt hb hbl e' hcm)
  go_ret
  have hE := HE.out
  simp only [Value.slice.injEq] at hE
  obtain ⟨rfl, _, rfl⟩ := hE
  refine ⟨Ar, cr, _, rfl, ?_, HB.out.size, HBT.out.alloc _, hnc, HC.out, fun ad e => (HBL.out ad e).1, HB.out.alloc HB.out.size _⟩
  exact (Boxed.new w2 22 (.slice Ar n cr)).cell

end Go.Proofs.Ytadbidgikgffhaa
