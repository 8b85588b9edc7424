/-
  Contracts of embrasure/pmp.Ask and Answer: what they tell. Conditions: the lease's fields are of their types.
-/
import Derived.Test.YtfaekiopmfnpkaaQMay
import Derived.Test.YtfaekiopmfnpkaaQFx
import Derived.Deep.RegionHeld
import Derived.Deep.Cut
import Derived.Lib.SmallJoins
namespace Go.Proofs.Ytfaekiopmfnpkaa.Pp
open Go.RowKit
attribute [local go_sem] Oper.semAt_some
set_option linter.unusedVariables false
set_option linter.unusedSimpArgs false

def askR (l : Le) (h : Bool) : List Int := if askB l h then (if h then [0, 0] else [0, 1, 0, 0] ++ (be 2 l.ins ++ (be 2 l.prt ++ be 4 l.secs))) else []
def ansR (l : Le) (h : Bool) : List Int := if ansB l h then (if h then [0, 128] ++ (be 2 l.res ++ (be 4 l.epo ++ be 4 l.hst)) else [0, 129] ++ (be 2 l.res ++ (be 4 l.epo ++ (be 2 l.ins ++ (be 2 l.prt ++ be 4 l.secs))))) else []
/-- block g holds the lease -/
def LeAt (w : World) (g : Nat) (l : Le) : Prop := w.heap[g]? = some (.cells (leA l) 36 (0, 0))
theorem LeAt.lt {w : World} {g : Nat} {l : Le} (h : LeAt w g l) : g < w.heap.size := (Array.getElem?_eq_some_iff.1 h).1
theorem LeAt.below {w w' : World} {b g : Nat} {l : Le} (h : LeAt w g l) (hb : Below b w w') (hg : g < b) : LeAt w' g l := (hb.block g hg).trans h
theorem LeAt.at {w : World} {g : Nat} {l : Le} (h : LeAt w g l) (k : Nat) : w.cell? ⟨g, k, none⟩ = (leA l)[k]? := by
  unfold World.cell?
  rw [h]
  simp
theorem LeAt.cells {w : World} {g : Nat} {l : Le} (h : LeAt w g l) :
    w.cell? ⟨g, 0, none⟩ = some (.int .i64 l.ver) ∧ w.cell? ⟨g, 1, none⟩ = some (.int .i64 l.ins) ∧ w.cell? ⟨g, 2, none⟩ = some (.int .i64 l.prt) ∧ w.cell? ⟨g, 3, none⟩ = some (.int .i64 l.secs) ∧ w.cell? ⟨g, 4, none⟩ = some (.int .u64 l.non) ∧ w.cell? ⟨g, 5, none⟩ = some (.int .i64 l.res) ∧ w.cell? ⟨g, 6, none⟩ = some (.int .i64 l.epo) ∧ w.cell? ⟨g, 7, none⟩ = some (.int .u32 l.hst) :=
  ⟨h.at 0, h.at 1, h.at 2, h.at 3, h.at 4, h.at 5, h.at 6, h.at 7⟩
theorem LeAt.new (w : World) (l : Le) : LeAt (w.alloc (.cells (leA l) 36)) w.heap.size l := by
  show (w.heap.push _)[w.heap.size]? = _
  simp
/-- parts that are gathered -/
structure Gath (w W : World) (g : Nat) (l : Le) (ps : Ps) : Prop where
  low : Below w.heap.size w W
  gle : w.heap.size ≤ g
  box : LeAt W g l
  held : ∀ q ∈ ps, PtAt W q
theorem Gath.drew {w W : World} {g : Nat} {l : Le} {ps : Ps} (h : Gath w W g l ps) : Gath w W.drew g l ps := ⟨below_drewN' h.low 1, h.gle, h.box, h.held⟩
theorem Gath.number {w W : World} {g : Nat} {l : Le} {ps : Ps} (h : Gath w W g l ps) (n : Nat) (v : Int) (hn : n ≤ 16) (hv : W64 v) :
    Calls Try.prog 24 #[.int .i64 (n : Int), .int .i64 v] W fun e W' => ∃ p, e = .returned (.slice (some ⟨p, 0, none⟩) n n) ∧ Gath w W' g l (ps ++ [(p, n, n, be n v)]) := by
  refine (number_any n v W hn hv).mono ?_
  rintro e W' ⟨rfl, h1, h2⟩
  refine ⟨_, rfl, h.low.trans (h2.mono h.low.size), h.gle, h.box.below h2 h.box.lt, fun q hq => ?_⟩
  rcases List.mem_append.1 hq with hq | hq
  · exact (h.held q hq).below h2
  · obtain rfl : q = (W.heap.size, n, n, be n v) := by simpa using hq
    obtain ⟨A, c, e, e1, e2, e3⟩ := own_form h1 (be_bd n v)
    cases e
    exact ⟨e3, e1, e2⟩
theorem Gath.join {w W : World} {g : Nat} {l : Le} {ps : Ps} (h : Gath w W g l ps) (C : Array Value) (t : TypeId) (hC : C.toList = ps.map pv) (n : Nat) (hn : n = ps.length) (hl : ps.length ≤ 20) (r : List Int) (hr : flat ps = r) (hr1 : 0 < r.length) (hr2 : r.length ≤ 200) :
    Calls Try.prog 23 #[.slice (some ⟨W.heap.size, 0, none⟩) n n] (W.alloc (.cells C t)) fun e W' => ∃ V, e = .returned V ∧ W'.ownsRow w.heap.size 5 1 V r.length (B r) ∧ Below w.heap.size w W' ∧ LeAt W' g l := by
  subst hn
  subst hr
  have hs : C.size = ps.length := by rw [← Array.length_toList, hC]; simp
  have hb : Below W.heap.size W (W.alloc (.cells C t)) := (Below.refl _ W).alloc (Nat.le_refl _) _
  refine (join_any W.heap.size ps (W.alloc (.cells C t)) ⟨by simp, fun k q hq => ?_, fun q hq => (h.held q hq).below hb⟩ hl hr1 hr2).mono ?_
  · have hk : C[k]? = some (pv q) := by rw [← Array.getElem?_toList, hC]; simp [hq]
    have e : (W.alloc (.cells C t)).heap[W.heap.size]? = some (.cells C t (0, 0)) := by
      show (W.heap.push _)[W.heap.size]? = _
      simp
    unfold World.cell?
    dsimp only
    rw [e]
    simp [hk]
  · rintro e W' ⟨V, rfl, ho, hb2⟩
    have hlow := h.low.size
    exact ⟨V, rfl, Go.Joins.ownsRow_le ho (by simp; omega), (h.low.trans (hb.mono hlow)).trans (hb2.mono (by simp; omega)), (h.box.below hb h.box.lt).below hb2 (by have := h.box.lt; simp; omega)⟩

set_option maxRecDepth 100000 in
set_option maxHeartbeats 4000000 in
theorem ask_port (l : Le) (w : World) (hl : isL l) (hh : askB l false = true) : Calls Try.prog 29 #[leV l, .bool false] w fun e w' => ∃ V, e = .returned V ∧ w'.ownsRow w.heap.size 5 1 V ([0, 1, 0, 0] ++ (be 2 l.ins ++ (be 2 l.prt ++ be 4 l.secs))).length (B ([0, 1, 0, 0] ++ (be 2 l.ins ++ (be 2 l.prt ++ be 4 l.secs)))) ∧ Below w.heap.size w w' := by
  have HM := Lib.hid (fun W => mayAsk_any l false W hl)
  rw [hh] at HM
  clear hh
  have hh0 := hl.hst
  have hwr : IntKind.i64.wrap l.hst = l.hst := by rw [IntKind.wrap_i64]; omega
  have HL := Lib.hid hl; clear hl
  unfold leV leA at *
  go_enter Try.func29, Try.ntmps29
  go_wp2_with fail
  refine (HM.out _).mono ?_
  rintro e w1 ⟨rfl, hb⟩
  have HG0 : Hid (Gath w w1 w.heap.size l []) := Lib.hid ⟨((Below.refl _ w).alloc (Nat.le_refl _) _).trans (hb.mono (by simp)), Nat.le_refl _, (LeAt.new w l).below hb (by simp), by simp⟩
  clear hb
  have HG00 := Lib.hid HG0.out.drew
  go_wp2_with fail
  refine wp_region_held_drew (S := fun W => LeAt W w.heap.size l) (by kernel_rfl) (HG00.out.box) (fun hHeld => ?_)
  refine wpAnyH_take (i := 3) (oi := _) (v := ?_) rfl (by kernel_rfl) (by kernel_rfl) (by kernel_rfl) (fun _ _ _ h => h) (Or.inl ⟨by rfl, ?_⟩) (by assumption) ?_
  case refine_2 => intro w hSw; (try dsimp only at hSw); have hcs := LeAt.cells hSw; obtain ⟨y0, y1, y2, y3, y4, y5, y6, y7⟩ := hcs; clear hSw; go_simp; first | done | (with_reducible rfl)
  try simp only [Act.put, List.getElem_toArray, List.getElem_cons_zero, List.getElem_cons_succ, List.setIfInBounds_toArray, List.set_cons_zero, List.set_cons_succ]
  refine wpAnyH_take (i := 4) (oi := _) (v := ?_) rfl (by kernel_rfl) (by kernel_rfl) (by kernel_rfl) (fun _ _ _ h => h) (Or.inl ⟨by rfl, ?_⟩) (by assumption) ?_
  case refine_2 => intro w hSw; (try dsimp only at hSw); have hcs := LeAt.cells hSw; obtain ⟨y0, y1, y2, y3, y4, y5, y6, y7⟩ := hcs; clear hSw; go_simp; first | done | (with_reducible rfl)
  try simp only [Act.put, List.getElem_toArray, List.getElem_cons_zero, List.getElem_cons_succ, List.setIfInBounds_toArray, List.set_cons_zero, List.set_cons_succ]
  refine wpAnyH_take (i := 6) (oi := _) (v := ?_) rfl (by kernel_rfl) (by kernel_rfl) (by kernel_rfl) (fun _ _ _ h => h) (Or.inl ⟨by rfl, ?_⟩) (by assumption) ?_
  case refine_2 => intro w hSw; (try dsimp only at hSw); have hcs := LeAt.cells hSw; obtain ⟨y0, y1, y2, y3, y4, y5, y6, y7⟩ := hcs; clear hSw; go_simp; first | done | (with_reducible rfl)
  try simp only [Act.put, List.getElem_toArray, List.getElem_cons_zero, List.getElem_cons_succ, List.setIfInBounds_toArray, List.set_cons_zero, List.set_cons_succ]
  refine wpAnyH_take (i := 7) (oi := _) (v := ?_) rfl (by kernel_rfl) (by kernel_rfl) (by kernel_rfl) (fun _ _ _ h => h) (Or.inl ⟨by rfl, ?_⟩) (by assumption) ?_
  case refine_2 => intro w hSw; (try dsimp only at hSw); have hcs := LeAt.cells hSw; obtain ⟨y0, y1, y2, y3, y4, y5, y6, y7⟩ := hcs; clear hSw; go_simp; first | done | (with_reducible rfl)
  try simp only [Act.put, List.getElem_toArray, List.getElem_cons_zero, List.getElem_cons_succ, List.setIfInBounds_toArray, List.set_cons_zero, List.set_cons_succ]
  refine wpAnyH_take (i := 9) (oi := _) (v := ?_) rfl (by kernel_rfl) (by kernel_rfl) (by kernel_rfl) (fun _ _ _ h => h) (Or.inl ⟨by rfl, ?_⟩) (by assumption) ?_
  case refine_2 => intro w hSw; (try dsimp only at hSw); have hcs := LeAt.cells hSw; obtain ⟨y0, y1, y2, y3, y4, y5, y6, y7⟩ := hcs; clear hSw; go_simp; first | done | (with_reducible rfl)
  try simp only [Act.put, List.getElem_toArray, List.getElem_cons_zero, List.getElem_cons_succ, List.setIfInBounds_toArray, List.set_cons_zero, List.set_cons_succ]
  refine wpAnyH_take (i := 10) (oi := _) (v := ?_) rfl (by kernel_rfl) (by kernel_rfl) (by kernel_rfl) (fun _ _ _ h => h) (Or.inl ⟨by rfl, ?_⟩) (by assumption) ?_
  case refine_2 => intro w hSw; (try dsimp only at hSw); have hcs := LeAt.cells hSw; obtain ⟨y0, y1, y2, y3, y4, y5, y6, y7⟩ := hcs; clear hSw; go_simp; first | done | (with_reducible rfl)
  try simp only [Act.put, List.getElem_toArray, List.getElem_cons_zero, List.getElem_cons_succ, List.setIfInBounds_toArray, List.set_cons_zero, List.set_cons_succ]
  refine wpAnyH_ready (rs := [0]) (by kernel_rfl) (by simp) ?_
  refine AllReadyH.cons rfl (fun K hK => ?_) AllReadyH.nil
  go_simp
  go_at_call 24
  refine (HG00.out.number 1 0 (by decide) ⟨by decide, by decide⟩).mono ?_
  rintro e w2 ⟨p1, rfl, hg1⟩
  have HG1 := Lib.hid hg1
  clear hg1
  refine hK.out _ _ HG1.out.box (fun hHeld => ?_)
  clear hK K
  try simp only [Act.put, List.getElem_toArray, List.getElem_cons_zero, List.getElem_cons_succ, List.setIfInBounds_toArray, List.set_cons_zero, List.set_cons_succ]
  refine wpAnyH_ready (rs := [1]) (by kernel_rfl) (by simp) ?_
  refine AllReadyH.cons rfl (fun K hK => ?_) AllReadyH.nil
  go_simp
  go_at_call 24
  refine (HG1.out.number 1 1 (by decide) ⟨by decide, by decide⟩).mono ?_
  rintro e w3 ⟨p2, rfl, hg2⟩
  have HG2 := Lib.hid hg2
  clear hg2
  refine hK.out _ _ HG2.out.box (fun hHeld => ?_)
  clear hK K
  try simp only [Act.put, List.getElem_toArray, List.getElem_cons_zero, List.getElem_cons_succ, List.setIfInBounds_toArray, List.set_cons_zero, List.set_cons_succ]
  refine wpAnyH_ready (rs := [2]) (by kernel_rfl) (by simp) ?_
  refine AllReadyH.cons rfl (fun K hK => ?_) AllReadyH.nil
  go_simp
  go_at_call 24
  refine (HG2.out.number 2 0 (by decide) ⟨by decide, by decide⟩).mono ?_
  rintro e w4 ⟨p3, rfl, hg3⟩
  have HG3 := Lib.hid hg3
  clear hg3
  refine hK.out _ _ HG3.out.box (fun hHeld => ?_)
  clear hK K
  try simp only [Act.put, List.getElem_toArray, List.getElem_cons_zero, List.getElem_cons_succ, List.setIfInBounds_toArray, List.set_cons_zero, List.set_cons_succ]
  refine wpAnyH_ready (rs := [5]) (by kernel_rfl) (by simp) ?_
  refine AllReadyH.cons rfl (fun K hK => ?_) AllReadyH.nil
  go_simp
  go_at_call 24
  refine (HG3.out.number 2 l.ins (by decide) HL.out.ins).mono ?_
  rintro e w5 ⟨p4, rfl, hg4⟩
  have HG4 := Lib.hid hg4
  clear hg4
  refine hK.out _ _ HG4.out.box (fun hHeld => ?_)
  clear hK K
  try simp only [Act.put, List.getElem_toArray, List.getElem_cons_zero, List.getElem_cons_succ, List.setIfInBounds_toArray, List.set_cons_zero, List.set_cons_succ]
  refine wpAnyH_ready (rs := [8]) (by kernel_rfl) (by simp) ?_
  refine AllReadyH.cons rfl (fun K hK => ?_) AllReadyH.nil
  go_simp
  go_at_call 24
  refine (HG4.out.number 2 l.prt (by decide) HL.out.prt).mono ?_
  rintro e w6 ⟨p5, rfl, hg5⟩
  have HG5 := Lib.hid hg5
  clear hg5
  refine hK.out _ _ HG5.out.box (fun hHeld => ?_)
  clear hK K
  try simp only [Act.put, List.getElem_toArray, List.getElem_cons_zero, List.getElem_cons_succ, List.setIfInBounds_toArray, List.set_cons_zero, List.set_cons_succ]
  refine wpAnyH_ready (rs := [11]) (by kernel_rfl) (by simp) ?_
  refine AllReadyH.cons rfl (fun K hK => ?_) AllReadyH.nil
  go_simp
  go_at_call 24
  refine (HG5.out.number 4 l.secs (by decide) HL.out.secs).mono ?_
  rintro e w7 ⟨p6, rfl, hg6⟩
  have HG6 := Lib.hid hg6
  clear hg6
  refine hK.out _ _ HG6.out.box (fun hHeld => ?_)
  clear hK K
  try simp only [Act.put, List.getElem_toArray, List.getElem_cons_zero, List.getElem_cons_succ, List.setIfInBounds_toArray, List.set_cons_zero, List.set_cons_succ]
  refine wpAnyH_ready (rs := [12]) (by kernel_rfl) (by simp) ?_
  refine AllReadyH.cons rfl (fun K hK => ?_) AllReadyH.nil
  go_simp
  have HJ := Lib.hid (HG6.out.join #[.slice (some ⟨p1, 0, none⟩) 1 1, .slice (some ⟨p2, 0, none⟩) 1 1, .slice (some ⟨p3, 0, none⟩) 2 2, .slice (some ⟨p4, 0, none⟩) 2 2, .slice (some ⟨p5, 0, none⟩) 2 2, .slice (some ⟨p6, 0, none⟩) 4 4] 38 (by simp [pv]) 6 (by simp) (by simp) ([0, 1, 0, 0] ++ (be 2 l.ins ++ (be 2 l.prt ++ be 4 l.secs))) (by simp [flat, be]) (by simp) (by simp))
  refine hK.out _ _ (HG6.out.box.below ((Below.refl _ _).alloc (Nat.le_refl _) _) HG6.out.box.lt) (fun hHeld => ?_)
  clear hK K
  try simp only [Act.put, List.getElem_toArray, List.getElem_cons_zero, List.getElem_cons_succ, List.setIfInBounds_toArray, List.set_cons_zero, List.set_cons_succ]
  refine wpAnyH_ready (rs := [13]) (by kernel_rfl) (by simp) ?_
  refine AllReadyH.cons rfl (fun K hK => ?_) AllReadyH.nil
  go_simp
  go_at_call 23
  refine HJ.out.mono ?_
  rintro e w8 ⟨V, rfl, ho, hb, hbox⟩
  have HO := Lib.hid ho
  have HB9 := Lib.hid hb
  clear ho hb
  refine hK.out _ _ hbox (fun hHeld => ?_)
  clear hK K
  try simp only [Act.put, List.getElem_toArray, List.getElem_cons_zero, List.getElem_cons_succ, List.setIfInBounds_toArray, List.set_cons_zero, List.set_cons_succ]
  refine wpAnyH_take (i := 14) (oi := _) (v := ?_) rfl (by kernel_rfl) (by kernel_rfl) (by kernel_rfl) (fun _ _ _ h => h) (Or.inl ⟨by rfl, ?_⟩) (by assumption) ?_
  case refine_2 => intro w hSw; (try dsimp only at hSw); have hcs := LeAt.cells hSw; obtain ⟨y0, y1, y2, y3, y4, y5, y6, y7⟩ := hcs; clear hSw; go_simp; first | done | (with_reducible rfl)
  try simp only [Act.put, List.getElem_toArray, List.getElem_cons_zero, List.getElem_cons_succ, List.setIfInBounds_toArray, List.set_cons_zero, List.set_cons_succ]
  refine wpAnyH_done (by kernel_rfl) ?_ _
  go_wp2
  go_ret
  exact ⟨_, rfl, HO.out, HB9.out⟩
set_option maxRecDepth 100000 in
set_option maxHeartbeats 4000000 in
theorem ans_port (l : Le) (w : World) (hl : isL l) (hh : ansB l false = true) : Calls Try.prog 46 #[leV l, .bool false] w fun e w' => ∃ V, e = .returned V ∧ w'.ownsRow w.heap.size 5 1 V ([0, 129] ++ (be 2 l.res ++ (be 4 l.epo ++ (be 2 l.ins ++ (be 2 l.prt ++ be 4 l.secs))))).length (B ([0, 129] ++ (be 2 l.res ++ (be 4 l.epo ++ (be 2 l.ins ++ (be 2 l.prt ++ be 4 l.secs)))))) ∧ Below w.heap.size w w' := by
  have HM := Lib.hid (fun W => mayAnswer_any l false W hl)
  rw [hh] at HM
  clear hh
  have hh0 := hl.hst
  have hwr : IntKind.i64.wrap l.hst = l.hst := by rw [IntKind.wrap_i64]; omega
  have HL := Lib.hid hl; clear hl
  unfold leV leA at *
  go_enter Try.func46, Try.ntmps46
  go_wp2_with fail
  refine (HM.out _).mono ?_
  rintro e w1 ⟨rfl, hb⟩
  have HG0 : Hid (Gath w w1 w.heap.size l []) := Lib.hid ⟨((Below.refl _ w).alloc (Nat.le_refl _) _).trans (hb.mono (by simp)), Nat.le_refl _, (LeAt.new w l).below hb (by simp), by simp⟩
  clear hb
  have HG00 := Lib.hid HG0.out.drew
  go_wp2_with fail
  refine wp_region_held_drew (S := fun W => LeAt W w.heap.size l) (by kernel_rfl) (HG00.out.box) (fun hHeld => ?_)
  refine wpAnyH_take (i := 2) (oi := _) (v := ?_) rfl (by kernel_rfl) (by kernel_rfl) (by kernel_rfl) (fun _ _ _ h => h) (Or.inl ⟨by rfl, ?_⟩) (by assumption) ?_
  case refine_2 => intro w hSw; (try dsimp only at hSw); have hcs := LeAt.cells hSw; obtain ⟨y0, y1, y2, y3, y4, y5, y6, y7⟩ := hcs; clear hSw; go_simp; first | done | (with_reducible rfl)
  try simp only [Act.put, List.getElem_toArray, List.getElem_cons_zero, List.getElem_cons_succ, List.setIfInBounds_toArray, List.set_cons_zero, List.set_cons_succ]
  refine wpAnyH_take (i := 3) (oi := _) (v := ?_) rfl (by kernel_rfl) (by kernel_rfl) (by kernel_rfl) (fun _ _ _ h => h) (Or.inl ⟨by rfl, ?_⟩) (by assumption) ?_
  case refine_2 => intro w hSw; (try dsimp only at hSw); have hcs := LeAt.cells hSw; obtain ⟨y0, y1, y2, y3, y4, y5, y6, y7⟩ := hcs; clear hSw; go_simp; first | done | (with_reducible rfl)
  try simp only [Act.put, List.getElem_toArray, List.getElem_cons_zero, List.getElem_cons_succ, List.setIfInBounds_toArray, List.set_cons_zero, List.set_cons_succ]
  refine wpAnyH_take (i := 5) (oi := _) (v := ?_) rfl (by kernel_rfl) (by kernel_rfl) (by kernel_rfl) (fun _ _ _ h => h) (Or.inl ⟨by rfl, ?_⟩) (by assumption) ?_
  case refine_2 => intro w hSw; (try dsimp only at hSw); have hcs := LeAt.cells hSw; obtain ⟨y0, y1, y2, y3, y4, y5, y6, y7⟩ := hcs; clear hSw; go_simp; first | done | (with_reducible rfl)
  try simp only [Act.put, List.getElem_toArray, List.getElem_cons_zero, List.getElem_cons_succ, List.setIfInBounds_toArray, List.set_cons_zero, List.set_cons_succ]
  refine wpAnyH_take (i := 6) (oi := _) (v := ?_) rfl (by kernel_rfl) (by kernel_rfl) (by kernel_rfl) (fun _ _ _ h => h) (Or.inl ⟨by rfl, ?_⟩) (by assumption) ?_
  case refine_2 => intro w hSw; (try dsimp only at hSw); have hcs := LeAt.cells hSw; obtain ⟨y0, y1, y2, y3, y4, y5, y6, y7⟩ := hcs; clear hSw; go_simp; first | done | (with_reducible rfl)
  try simp only [Act.put, List.getElem_toArray, List.getElem_cons_zero, List.getElem_cons_succ, List.setIfInBounds_toArray, List.set_cons_zero, List.set_cons_succ]
  refine wpAnyH_take (i := 8) (oi := _) (v := ?_) rfl (by kernel_rfl) (by kernel_rfl) (by kernel_rfl) (fun _ _ _ h => h) (Or.inl ⟨by rfl, ?_⟩) (by assumption) ?_
  case refine_2 => intro w hSw; (try dsimp only at hSw); have hcs := LeAt.cells hSw; obtain ⟨y0, y1, y2, y3, y4, y5, y6, y7⟩ := hcs; clear hSw; go_simp; first | done | (with_reducible rfl)
  try simp only [Act.put, List.getElem_toArray, List.getElem_cons_zero, List.getElem_cons_succ, List.setIfInBounds_toArray, List.set_cons_zero, List.set_cons_succ]
  refine wpAnyH_take (i := 9) (oi := _) (v := ?_) rfl (by kernel_rfl) (by kernel_rfl) (by kernel_rfl) (fun _ _ _ h => h) (Or.inl ⟨by rfl, ?_⟩) (by assumption) ?_
  case refine_2 => intro w hSw; (try dsimp only at hSw); have hcs := LeAt.cells hSw; obtain ⟨y0, y1, y2, y3, y4, y5, y6, y7⟩ := hcs; clear hSw; go_simp; first | done | (with_reducible rfl)
  try simp only [Act.put, List.getElem_toArray, List.getElem_cons_zero, List.getElem_cons_succ, List.setIfInBounds_toArray, List.set_cons_zero, List.set_cons_succ]
  refine wpAnyH_take (i := 11) (oi := _) (v := ?_) rfl (by kernel_rfl) (by kernel_rfl) (by kernel_rfl) (fun _ _ _ h => h) (Or.inl ⟨by rfl, ?_⟩) (by assumption) ?_
  case refine_2 => intro w hSw; (try dsimp only at hSw); have hcs := LeAt.cells hSw; obtain ⟨y0, y1, y2, y3, y4, y5, y6, y7⟩ := hcs; clear hSw; go_simp; first | done | (with_reducible rfl)
  try simp only [Act.put, List.getElem_toArray, List.getElem_cons_zero, List.getElem_cons_succ, List.setIfInBounds_toArray, List.set_cons_zero, List.set_cons_succ]
  refine wpAnyH_take (i := 12) (oi := _) (v := ?_) rfl (by kernel_rfl) (by kernel_rfl) (by kernel_rfl) (fun _ _ _ h => h) (Or.inl ⟨by rfl, ?_⟩) (by assumption) ?_
  case refine_2 => intro w hSw; (try dsimp only at hSw); have hcs := LeAt.cells hSw; obtain ⟨y0, y1, y2, y3, y4, y5, y6, y7⟩ := hcs; clear hSw; go_simp; first | done | (with_reducible rfl)
  try simp only [Act.put, List.getElem_toArray, List.getElem_cons_zero, List.getElem_cons_succ, List.setIfInBounds_toArray, List.set_cons_zero, List.set_cons_succ]
  refine wpAnyH_take (i := 14) (oi := _) (v := ?_) rfl (by kernel_rfl) (by kernel_rfl) (by kernel_rfl) (fun _ _ _ h => h) (Or.inl ⟨by rfl, ?_⟩) (by assumption) ?_
  case refine_2 => intro w hSw; (try dsimp only at hSw); have hcs := LeAt.cells hSw; obtain ⟨y0, y1, y2, y3, y4, y5, y6, y7⟩ := hcs; clear hSw; go_simp; first | done | (with_reducible rfl)
  try simp only [Act.put, List.getElem_toArray, List.getElem_cons_zero, List.getElem_cons_succ, List.setIfInBounds_toArray, List.set_cons_zero, List.set_cons_succ]
  refine wpAnyH_take (i := 15) (oi := _) (v := ?_) rfl (by kernel_rfl) (by kernel_rfl) (by kernel_rfl) (fun _ _ _ h => h) (Or.inl ⟨by rfl, ?_⟩) (by assumption) ?_
  case refine_2 => intro w hSw; (try dsimp only at hSw); have hcs := LeAt.cells hSw; obtain ⟨y0, y1, y2, y3, y4, y5, y6, y7⟩ := hcs; clear hSw; go_simp; first | done | (with_reducible rfl)
  try simp only [Act.put, List.getElem_toArray, List.getElem_cons_zero, List.getElem_cons_succ, List.setIfInBounds_toArray, List.set_cons_zero, List.set_cons_succ]
  refine wpAnyH_ready (rs := [0]) (by kernel_rfl) (by simp) ?_
  refine AllReadyH.cons rfl (fun K hK => ?_) AllReadyH.nil
  go_simp
  go_at_call 24
  refine (HG00.out.number 1 0 (by decide) ⟨by decide, by decide⟩).mono ?_
  rintro e w2 ⟨p1, rfl, hg1⟩
  have HG1 := Lib.hid hg1
  clear hg1
  refine hK.out _ _ HG1.out.box (fun hHeld => ?_)
  clear hK K
  try simp only [Act.put, List.getElem_toArray, List.getElem_cons_zero, List.getElem_cons_succ, List.setIfInBounds_toArray, List.set_cons_zero, List.set_cons_succ]
  refine wpAnyH_ready (rs := [1]) (by kernel_rfl) (by simp) ?_
  refine AllReadyH.cons rfl (fun K hK => ?_) AllReadyH.nil
  go_simp
  go_at_call 24
  refine (HG1.out.number 1 129 (by decide) ⟨by decide, by decide⟩).mono ?_
  rintro e w3 ⟨p2, rfl, hg2⟩
  have HG2 := Lib.hid hg2
  clear hg2
  refine hK.out _ _ HG2.out.box (fun hHeld => ?_)
  clear hK K
  try simp only [Act.put, List.getElem_toArray, List.getElem_cons_zero, List.getElem_cons_succ, List.setIfInBounds_toArray, List.set_cons_zero, List.set_cons_succ]
  refine wpAnyH_ready (rs := [4]) (by kernel_rfl) (by simp) ?_
  refine AllReadyH.cons rfl (fun K hK => ?_) AllReadyH.nil
  go_simp
  go_at_call 24
  refine (HG2.out.number 2 l.res (by decide) HL.out.res).mono ?_
  rintro e w4 ⟨p3, rfl, hg3⟩
  have HG3 := Lib.hid hg3
  clear hg3
  refine hK.out _ _ HG3.out.box (fun hHeld => ?_)
  clear hK K
  try simp only [Act.put, List.getElem_toArray, List.getElem_cons_zero, List.getElem_cons_succ, List.setIfInBounds_toArray, List.set_cons_zero, List.set_cons_succ]
  refine wpAnyH_ready (rs := [7]) (by kernel_rfl) (by simp) ?_
  refine AllReadyH.cons rfl (fun K hK => ?_) AllReadyH.nil
  go_simp
  go_at_call 24
  refine (HG3.out.number 4 l.epo (by decide) HL.out.epo).mono ?_
  rintro e w5 ⟨p4, rfl, hg4⟩
  have HG4 := Lib.hid hg4
  clear hg4
  refine hK.out _ _ HG4.out.box (fun hHeld => ?_)
  clear hK K
  try simp only [Act.put, List.getElem_toArray, List.getElem_cons_zero, List.getElem_cons_succ, List.setIfInBounds_toArray, List.set_cons_zero, List.set_cons_succ]
  refine wpAnyH_ready (rs := [10]) (by kernel_rfl) (by simp) ?_
  refine AllReadyH.cons rfl (fun K hK => ?_) AllReadyH.nil
  go_simp
  go_at_call 24
  refine (HG4.out.number 2 l.ins (by decide) HL.out.ins).mono ?_
  rintro e w6 ⟨p5, rfl, hg5⟩
  have HG5 := Lib.hid hg5
  clear hg5
  refine hK.out _ _ HG5.out.box (fun hHeld => ?_)
  clear hK K
  try simp only [Act.put, List.getElem_toArray, List.getElem_cons_zero, List.getElem_cons_succ, List.setIfInBounds_toArray, List.set_cons_zero, List.set_cons_succ]
  refine wpAnyH_ready (rs := [13]) (by kernel_rfl) (by simp) ?_
  refine AllReadyH.cons rfl (fun K hK => ?_) AllReadyH.nil
  go_simp
  go_at_call 24
  refine (HG5.out.number 2 l.prt (by decide) HL.out.prt).mono ?_
  rintro e w7 ⟨p6, rfl, hg6⟩
  have HG6 := Lib.hid hg6
  clear hg6
  refine hK.out _ _ HG6.out.box (fun hHeld => ?_)
  clear hK K
  try simp only [Act.put, List.getElem_toArray, List.getElem_cons_zero, List.getElem_cons_succ, List.setIfInBounds_toArray, List.set_cons_zero, List.set_cons_succ]
  refine wpAnyH_ready (rs := [16]) (by kernel_rfl) (by simp) ?_
  refine AllReadyH.cons rfl (fun K hK => ?_) AllReadyH.nil
  go_simp
  go_at_call 24
  refine (HG6.out.number 4 l.secs (by decide) HL.out.secs).mono ?_
  rintro e w8 ⟨p7, rfl, hg7⟩
  have HG7 := Lib.hid hg7
  clear hg7
  refine hK.out _ _ HG7.out.box (fun hHeld => ?_)
  clear hK K
  try simp only [Act.put, List.getElem_toArray, List.getElem_cons_zero, List.getElem_cons_succ, List.setIfInBounds_toArray, List.set_cons_zero, List.set_cons_succ]
  refine wpAnyH_ready (rs := [17]) (by kernel_rfl) (by simp) ?_
  refine AllReadyH.cons rfl (fun K hK => ?_) AllReadyH.nil
  go_simp
  have HJ := Lib.hid (HG7.out.join #[.slice (some ⟨p1, 0, none⟩) 1 1, .slice (some ⟨p2, 0, none⟩) 1 1, .slice (some ⟨p3, 0, none⟩) 2 2, .slice (some ⟨p4, 0, none⟩) 4 4, .slice (some ⟨p5, 0, none⟩) 2 2, .slice (some ⟨p6, 0, none⟩) 2 2, .slice (some ⟨p7, 0, none⟩) 4 4] 38 (by simp [pv]) 7 (by simp) (by simp) ([0, 129] ++ (be 2 l.res ++ (be 4 l.epo ++ (be 2 l.ins ++ (be 2 l.prt ++ be 4 l.secs))))) (by simp [flat, be]) (by simp) (by simp))
  refine hK.out _ _ (HG7.out.box.below ((Below.refl _ _).alloc (Nat.le_refl _) _) HG7.out.box.lt) (fun hHeld => ?_)
  clear hK K
  try simp only [Act.put, List.getElem_toArray, List.getElem_cons_zero, List.getElem_cons_succ, List.setIfInBounds_toArray, List.set_cons_zero, List.set_cons_succ]
  refine wpAnyH_ready (rs := [18]) (by kernel_rfl) (by simp) ?_
  refine AllReadyH.cons rfl (fun K hK => ?_) AllReadyH.nil
  go_simp
  go_at_call 23
  refine HJ.out.mono ?_
  rintro e w9 ⟨V, rfl, ho, hb, hbox⟩
  have HO := Lib.hid ho
  have HB9 := Lib.hid hb
  clear ho hb
  refine hK.out _ _ hbox (fun hHeld => ?_)
  clear hK K
  try simp only [Act.put, List.getElem_toArray, List.getElem_cons_zero, List.getElem_cons_succ, List.setIfInBounds_toArray, List.set_cons_zero, List.set_cons_succ]
  refine wpAnyH_take (i := 19) (oi := _) (v := ?_) rfl (by kernel_rfl) (by kernel_rfl) (by kernel_rfl) (fun _ _ _ h => h) (Or.inl ⟨by rfl, ?_⟩) (by assumption) ?_
  case refine_2 => intro w hSw; (try dsimp only at hSw); have hcs := LeAt.cells hSw; obtain ⟨y0, y1, y2, y3, y4, y5, y6, y7⟩ := hcs; clear hSw; go_simp; first | done | (with_reducible rfl)
  try simp only [Act.put, List.getElem_toArray, List.getElem_cons_zero, List.getElem_cons_succ, List.setIfInBounds_toArray, List.set_cons_zero, List.set_cons_succ]
  refine wpAnyH_done (by kernel_rfl) ?_ _
  go_wp2
  go_ret
  exact ⟨_, rfl, HO.out, HB9.out⟩
set_option maxRecDepth 100000 in
set_option maxHeartbeats 4000000 in
theorem ans_host (l : Le) (w : World) (hl : isL l) (hh : ansB l true = true) : Calls Try.prog 46 #[leV l, .bool true] w fun e w' => ∃ V, e = .returned V ∧ w'.ownsRow w.heap.size 5 1 V ([0, 128] ++ (be 2 l.res ++ (be 4 l.epo ++ be 4 l.hst))).length (B ([0, 128] ++ (be 2 l.res ++ (be 4 l.epo ++ be 4 l.hst)))) ∧ Below w.heap.size w w' := by
  have HM := Lib.hid (fun W => mayAnswer_any l true W hl)
  rw [hh] at HM
  clear hh
  have hh0 := hl.hst
  have hwr : IntKind.i64.wrap l.hst = l.hst := by rw [IntKind.wrap_i64]; omega
  have HL := Lib.hid hl; clear hl
  unfold leV leA at *
  go_enter Try.func46, Try.ntmps46
  go_wp2_with fail
  refine (HM.out _).mono ?_
  rintro e w1 ⟨rfl, hb⟩
  have HG0 : Hid (Gath w w1 w.heap.size l []) := Lib.hid ⟨((Below.refl _ w).alloc (Nat.le_refl _) _).trans (hb.mono (by simp)), Nat.le_refl _, (LeAt.new w l).below hb (by simp), by simp⟩
  clear hb
  have HG00 := Lib.hid HG0.out.drew
  go_wp2_with fail
  refine wp_region_held_drew (S := fun W => LeAt W w.heap.size l) (by kernel_rfl) (HG00.out.box) (fun hHeld => ?_)
  refine wpAnyH_take (i := 2) (oi := _) (v := ?_) rfl (by kernel_rfl) (by kernel_rfl) (by kernel_rfl) (fun _ _ _ h => h) (Or.inl ⟨by rfl, ?_⟩) (by assumption) ?_
  case refine_2 => intro w hSw; (try dsimp only at hSw); have hcs := LeAt.cells hSw; obtain ⟨y0, y1, y2, y3, y4, y5, y6, y7⟩ := hcs; clear hSw; go_simp; first | done | (with_reducible rfl)
  try simp only [Act.put, List.getElem_toArray, List.getElem_cons_zero, List.getElem_cons_succ, List.setIfInBounds_toArray, List.set_cons_zero, List.set_cons_succ]
  refine wpAnyH_take (i := 3) (oi := _) (v := ?_) rfl (by kernel_rfl) (by kernel_rfl) (by kernel_rfl) (fun _ _ _ h => h) (Or.inl ⟨by rfl, ?_⟩) (by assumption) ?_
  case refine_2 => intro w hSw; (try dsimp only at hSw); have hcs := LeAt.cells hSw; obtain ⟨y0, y1, y2, y3, y4, y5, y6, y7⟩ := hcs; clear hSw; go_simp; first | done | (with_reducible rfl)
  try simp only [Act.put, List.getElem_toArray, List.getElem_cons_zero, List.getElem_cons_succ, List.setIfInBounds_toArray, List.set_cons_zero, List.set_cons_succ]
  refine wpAnyH_take (i := 5) (oi := _) (v := ?_) rfl (by kernel_rfl) (by kernel_rfl) (by kernel_rfl) (fun _ _ _ h => h) (Or.inl ⟨by rfl, ?_⟩) (by assumption) ?_
  case refine_2 => intro w hSw; (try dsimp only at hSw); have hcs := LeAt.cells hSw; obtain ⟨y0, y1, y2, y3, y4, y5, y6, y7⟩ := hcs; clear hSw; go_simp; first | done | (with_reducible rfl)
  try simp only [Act.put, List.getElem_toArray, List.getElem_cons_zero, List.getElem_cons_succ, List.setIfInBounds_toArray, List.set_cons_zero, List.set_cons_succ]
  refine wpAnyH_take (i := 6) (oi := _) (v := ?_) rfl (by kernel_rfl) (by kernel_rfl) (by kernel_rfl) (fun _ _ _ h => h) (Or.inl ⟨by rfl, ?_⟩) (by assumption) ?_
  case refine_2 => intro w hSw; (try dsimp only at hSw); have hcs := LeAt.cells hSw; obtain ⟨y0, y1, y2, y3, y4, y5, y6, y7⟩ := hcs; clear hSw; go_simp; first | done | (with_reducible rfl)
  try simp only [Act.put, List.getElem_toArray, List.getElem_cons_zero, List.getElem_cons_succ, List.setIfInBounds_toArray, List.set_cons_zero, List.set_cons_succ]
  refine wpAnyH_take (i := 8) (oi := _) (v := ?_) rfl (by kernel_rfl) (by kernel_rfl) (by kernel_rfl) (fun _ _ _ h => h) (Or.inl ⟨by rfl, ?_⟩) (by assumption) ?_
  case refine_2 => intro w hSw; (try dsimp only at hSw); have hcs := LeAt.cells hSw; obtain ⟨y0, y1, y2, y3, y4, y5, y6, y7⟩ := hcs; clear hSw; go_simp; first | done | (with_reducible rfl)
  try simp only [Act.put, List.getElem_toArray, List.getElem_cons_zero, List.getElem_cons_succ, List.setIfInBounds_toArray, List.set_cons_zero, List.set_cons_succ]
  refine wpAnyH_take (i := 9) (oi := _) (v := ?_) rfl (by kernel_rfl) (by kernel_rfl) (by kernel_rfl) (fun _ _ _ h => h) (Or.inl ⟨by rfl, ?_⟩) (by assumption) ?_
  case refine_2 => intro w hSw; (try dsimp only at hSw); have hcs := LeAt.cells hSw; obtain ⟨y0, y1, y2, y3, y4, y5, y6, y7⟩ := hcs; clear hSw; go_simp; first | done | (with_reducible rfl)
  try simp only [Act.put, List.getElem_toArray, List.getElem_cons_zero, List.getElem_cons_succ, List.setIfInBounds_toArray, List.set_cons_zero, List.set_cons_succ]
  refine wpAnyH_take (i := 10) (oi := _) (v := ?_) rfl (by kernel_rfl) (by kernel_rfl) (by kernel_rfl) (fun _ _ _ h => h) (Or.inl ⟨by rfl, ?_⟩) (by assumption) ?_
  case refine_2 => intro w hSw; (try dsimp only at hSw); have hcs := LeAt.cells hSw; obtain ⟨y0, y1, y2, y3, y4, y5, y6, y7⟩ := hcs; clear hSw; go_simp; first | done | (with_reducible rfl)
  try simp only [Act.put, List.getElem_toArray, List.getElem_cons_zero, List.getElem_cons_succ, List.setIfInBounds_toArray, List.set_cons_zero, List.set_cons_succ]
  refine wpAnyH_ready (rs := [0]) (by kernel_rfl) (by simp) ?_
  refine AllReadyH.cons rfl (fun K hK => ?_) AllReadyH.nil
  go_simp
  go_at_call 24
  refine (HG00.out.number 1 0 (by decide) ⟨by decide, by decide⟩).mono ?_
  rintro e w2 ⟨p1, rfl, hg1⟩
  have HG1 := Lib.hid hg1
  clear hg1
  refine hK.out _ _ HG1.out.box (fun hHeld => ?_)
  clear hK K
  try simp only [Act.put, List.getElem_toArray, List.getElem_cons_zero, List.getElem_cons_succ, List.setIfInBounds_toArray, List.set_cons_zero, List.set_cons_succ]
  refine wpAnyH_ready (rs := [1]) (by kernel_rfl) (by simp) ?_
  refine AllReadyH.cons rfl (fun K hK => ?_) AllReadyH.nil
  go_simp
  go_at_call 24
  refine (HG1.out.number 1 128 (by decide) ⟨by decide, by decide⟩).mono ?_
  rintro e w3 ⟨p2, rfl, hg2⟩
  have HG2 := Lib.hid hg2
  clear hg2
  refine hK.out _ _ HG2.out.box (fun hHeld => ?_)
  clear hK K
  try simp only [Act.put, List.getElem_toArray, List.getElem_cons_zero, List.getElem_cons_succ, List.setIfInBounds_toArray, List.set_cons_zero, List.set_cons_succ]
  refine wpAnyH_ready (rs := [4]) (by kernel_rfl) (by simp) ?_
  refine AllReadyH.cons rfl (fun K hK => ?_) AllReadyH.nil
  go_simp
  go_at_call 24
  refine (HG2.out.number 2 l.res (by decide) HL.out.res).mono ?_
  rintro e w4 ⟨p3, rfl, hg3⟩
  have HG3 := Lib.hid hg3
  clear hg3
  refine hK.out _ _ HG3.out.box (fun hHeld => ?_)
  clear hK K
  try simp only [Act.put, List.getElem_toArray, List.getElem_cons_zero, List.getElem_cons_succ, List.setIfInBounds_toArray, List.set_cons_zero, List.set_cons_succ]
  refine wpAnyH_ready (rs := [7]) (by kernel_rfl) (by simp) ?_
  refine AllReadyH.cons rfl (fun K hK => ?_) AllReadyH.nil
  go_simp
  go_at_call 24
  refine (HG3.out.number 4 l.epo (by decide) HL.out.epo).mono ?_
  rintro e w5 ⟨p4, rfl, hg4⟩
  have HG4 := Lib.hid hg4
  clear hg4
  refine hK.out _ _ HG4.out.box (fun hHeld => ?_)
  clear hK K
  try simp only [Act.put, List.getElem_toArray, List.getElem_cons_zero, List.getElem_cons_succ, List.setIfInBounds_toArray, List.set_cons_zero, List.set_cons_succ]
  refine wpAnyH_ready (rs := [11]) (by kernel_rfl) (by simp) ?_
  refine AllReadyH.cons rfl (fun K hK => ?_) AllReadyH.nil
  go_simp
  go_at_call 24
  refine (HG4.out.number 4 l.hst (by decide) ⟨by omega, by omega⟩).mono ?_
  rintro e w6 ⟨p5, rfl, hg5⟩
  have HG5 := Lib.hid hg5
  clear hg5
  refine hK.out _ _ HG5.out.box (fun hHeld => ?_)
  clear hK K
  try simp only [Act.put, List.getElem_toArray, List.getElem_cons_zero, List.getElem_cons_succ, List.setIfInBounds_toArray, List.set_cons_zero, List.set_cons_succ]
  refine wpAnyH_ready (rs := [12]) (by kernel_rfl) (by simp) ?_
  refine AllReadyH.cons rfl (fun K hK => ?_) AllReadyH.nil
  go_simp
  have HJ := Lib.hid (HG5.out.join #[.slice (some ⟨p1, 0, none⟩) 1 1, .slice (some ⟨p2, 0, none⟩) 1 1, .slice (some ⟨p3, 0, none⟩) 2 2, .slice (some ⟨p4, 0, none⟩) 4 4, .slice (some ⟨p5, 0, none⟩) 4 4] 38 (by simp [pv]) 5 (by simp) (by simp) ([0, 128] ++ (be 2 l.res ++ (be 4 l.epo ++ be 4 l.hst))) (by simp [flat, be]) (by simp) (by simp))
  refine hK.out _ _ (HG5.out.box.below ((Below.refl _ _).alloc (Nat.le_refl _) _) HG5.out.box.lt) (fun hHeld => ?_)
  clear hK K
  try simp only [Act.put, List.getElem_toArray, List.getElem_cons_zero, List.getElem_cons_succ, List.setIfInBounds_toArray, List.set_cons_zero, List.set_cons_succ]
  refine wpAnyH_ready (rs := [13]) (by kernel_rfl) (by simp) ?_
  refine AllReadyH.cons rfl (fun K hK => ?_) AllReadyH.nil
  go_simp
  go_at_call 23
  refine HJ.out.mono ?_
  rintro e w7 ⟨V, rfl, ho, hb, hbox⟩
  have HO := Lib.hid ho
  have HB9 := Lib.hid hb
  clear ho hb
  refine hK.out _ _ hbox (fun hHeld => ?_)
  clear hK K
  try simp only [Act.put, List.getElem_toArray, List.getElem_cons_zero, List.getElem_cons_succ, List.setIfInBounds_toArray, List.set_cons_zero, List.set_cons_succ]
  refine wpAnyH_take (i := 14) (oi := _) (v := ?_) rfl (by kernel_rfl) (by kernel_rfl) (by kernel_rfl) (fun _ _ _ h => h) (Or.inl ⟨by rfl, ?_⟩) (by assumption) ?_
  case refine_2 => intro w hSw; (try dsimp only at hSw); have hcs := LeAt.cells hSw; obtain ⟨y0, y1, y2, y3, y4, y5, y6, y7⟩ := hcs; clear hSw; go_simp; first | done | (with_reducible rfl)
  try simp only [Act.put, List.getElem_toArray, List.getElem_cons_zero, List.getElem_cons_succ, List.setIfInBounds_toArray, List.set_cons_zero, List.set_cons_succ]
  refine wpAnyH_done (by kernel_rfl) ?_ _
  go_wp2
  go_ret
  exact ⟨_, rfl, HO.out, HB9.out⟩
set_option maxRecDepth 100000 in
set_option maxHeartbeats 4000000 in
theorem ask_host (l : Le) (w : World) (hl : isL l) (hh : askB l true = true) : Calls Try.prog 29 #[leV l, .bool true] w fun e w' => ∃ V, e = .returned V ∧ w'.ownsRow w.heap.size 5 1 V ([0, 0]).length (B ([0, 0])) ∧ Below w.heap.size w w' := by
  have HM := Lib.hid (fun W => mayAsk_any l true W hl)
  rw [hh] at HM
  clear hh
  have hh0 := hl.hst
  have hwr : IntKind.i64.wrap l.hst = l.hst := by rw [IntKind.wrap_i64]; omega
  have HL := Lib.hid hl; clear hl
  unfold leV leA at *
  go_enter Try.func29, Try.ntmps29
  go_wp2_with fail
  refine (HM.out _).mono ?_
  rintro e w1 ⟨rfl, hb⟩
  have HG0 : Hid (Gath w w1 w.heap.size l []) := Lib.hid ⟨((Below.refl _ w).alloc (Nat.le_refl _) _).trans (hb.mono (by simp)), Nat.le_refl _, (LeAt.new w l).below hb (by simp), by simp⟩
  clear hb
  go_wp2_with fail
  refine (HG0.out.number 1 0 (by decide) ⟨by decide, by decide⟩).mono ?_
  rintro e w2 ⟨p1, rfl, hg1⟩
  have HG1 := Lib.hid hg1
  clear hg1
  go_wp2_with fail
  refine (HG1.out.number 1 0 (by decide) ⟨by decide, by decide⟩).mono ?_
  rintro e w3 ⟨p2, rfl, hg2⟩
  have HG2 := Lib.hid hg2
  clear hg2
  have HJ := Lib.hid (HG2.out.join #[.slice (some ⟨p1, 0, none⟩) 1 1, .slice (some ⟨p2, 0, none⟩) 1 1] 38 (by simp [pv]) 2 (by simp) (by simp) [0, 0] (by simp [flat, be]) (by simp) (by simp))
  go_wp2_with fail
  refine HJ.out.mono ?_
  rintro e w4 ⟨V, rfl, ho, hb, _⟩
  have HO := Lib.hid ho
  have HB9 := Lib.hid hb
  clear ho hb
  go_wp2
  go_ret
  exact ⟨_, rfl, HO.out, HB9.out⟩
set_option maxRecDepth 100000 in
set_option maxHeartbeats 4000000 in
theorem ask_no (l : Le) (h : Bool) (w : World) (hl : isL l) (hh : askB l h = false) : Calls Try.prog 29 #[leV l, .bool h] w fun e w' => ∃ V, e = .returned V ∧ w'.ownsRow w.heap.size 5 1 V (([] : List Int)).length (B (([] : List Int))) ∧ Below w.heap.size w w' := by
  have HM := Lib.hid (fun W => mayAsk_any l h W hl)
  rw [hh] at HM
  clear hh
  have hh0 := hl.hst
  have hwr : IntKind.i64.wrap l.hst = l.hst := by rw [IntKind.wrap_i64]; omega
  have HL := Lib.hid hl; clear hl
  unfold leV leA at *
  go_enter Try.func29, Try.ntmps29
  go_wp2_with fail
  refine (HM.out _).mono ?_
  rintro e w1 ⟨rfl, hb⟩
  have HG0 : Hid (Gath w w1 w.heap.size l []) := Lib.hid ⟨((Below.refl _ w).alloc (Nat.le_refl _) _).trans (hb.mono (by simp)), Nat.le_refl _, (LeAt.new w l).below hb (by simp), by simp⟩
  clear hb
  go_wp2
  go_ret
  exact ⟨_, rfl, World.ownsRow_nil _ _ _ _, HG0.out.low⟩
set_option maxRecDepth 100000 in
set_option maxHeartbeats 4000000 in
theorem ans_no (l : Le) (h : Bool) (w : World) (hl : isL l) (hh : ansB l h = false) : Calls Try.prog 46 #[leV l, .bool h] w fun e w' => ∃ V, e = .returned V ∧ w'.ownsRow w.heap.size 5 1 V (([] : List Int)).length (B (([] : List Int))) ∧ Below w.heap.size w w' := by
  have HM := Lib.hid (fun W => mayAnswer_any l h W hl)
  rw [hh] at HM
  clear hh
  have hh0 := hl.hst
  have hwr : IntKind.i64.wrap l.hst = l.hst := by rw [IntKind.wrap_i64]; omega
  have HL := Lib.hid hl; clear hl
  unfold leV leA at *
  go_enter Try.func46, Try.ntmps46
  go_wp2_with fail
  refine (HM.out _).mono ?_
  rintro e w1 ⟨rfl, hb⟩
  have HG0 : Hid (Gath w w1 w.heap.size l []) := Lib.hid ⟨((Below.refl _ w).alloc (Nat.le_refl _) _).trans (hb.mono (by simp)), Nat.le_refl _, (LeAt.new w l).below hb (by simp), by simp⟩
  clear hb
  go_wp2
  go_ret
  exact ⟨_, rfl, World.ownsRow_nil _ _ _ _, HG0.out.low⟩
/-- Ask -/
theorem ask_any (l : Le) (h : Bool) (w : World) (hl : isL l) : Calls Try.prog 29 #[leV l, .bool h] w fun e w' => ∃ V, e = .returned V ∧ w'.ownsRow w.heap.size 5 1 V (askR l h).length (B (askR l h)) ∧ Below w.heap.size w w' := by
  unfold askR
  cases hh : askB l h with
  | false => rw [if_neg (by simp)]; exact ask_no l h w hl hh
  | true =>
    rw [if_pos rfl]
    cases h with
    | true => rw [if_pos rfl]; exact ask_host l w hl hh
    | false => rw [if_neg (by simp)]; exact ask_port l w hl hh
/-- Answer -/
theorem answer_any (l : Le) (h : Bool) (w : World) (hl : isL l) : Calls Try.prog 46 #[leV l, .bool h] w fun e w' => ∃ V, e = .returned V ∧ w'.ownsRow w.heap.size 5 1 V (ansR l h).length (B (ansR l h)) ∧ Below w.heap.size w w' := by
  unfold ansR
  cases hh : ansB l h with
  | false => rw [if_neg (by simp)]; exact ans_no l h w hl hh
  | true =>
    rw [if_pos rfl]
    cases h with
    | true => rw [if_pos rfl]; exact ans_host l w hl hh
    | false => rw [if_neg (by simp)]; exact ans_port l w hl hh
end Go.Proofs.Ytfaekiopmfnpkaa.Pp
