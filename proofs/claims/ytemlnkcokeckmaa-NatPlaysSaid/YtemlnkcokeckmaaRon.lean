/-
  The document's own on: the time goes on, and those are gone whose end has come. Conditions: the box stands in memory.
-/
import Derived.Lib.SmallJoins
import Derived.Test.YtemlnkcokeckmaaRme
namespace Go.Proofs.Ytemlnkcokeckmaa
open Go.RowKit
attribute [local go_sem] Oper.semAt_some
set_option linter.unusedVariables false

def liveR (L : List Rb) (t : Int) : List Rb := L.filter fun d => !decide (d.b.until_ ≤ t)
theorem liveR_map (L : List Rb) (t : Int) : (liveR L t).map Rb.b = liveM (L.map Rb.b) t := by
  unfold liveR liveM
  rw [List.filter_map]
  rfl
theorem liveR_take {L : List Rb} {k : Nat} {d : Rb} (t : Int) (h : L[k]? = some d) : liveR (L.take (k + 1)) t = liveR (L.take k) t ++ (if d.b.until_ ≤ t then [] else [d]) := by
  unfold liveR
  rw [List.take_add_one, h, List.filter_append]
  congr 1
  by_cases hd : d.b.until_ ≤ t <;> simp [hd]
/-- one more binding is put behind a row of the document's own -/
theorem wpList_append_rb {w : World} {ops : Array Oper} {rest : List Oper} {o : Oper} {a : Act} {Q : Exit → Act → World → Prop} (hgd : o.guard = none) (s x : Operand)
    (ho : o.op = .call { callee := .builtin .append, args := #[s, x], argTypes := #[34, 34] }) (base : Nat) (v : Value) (n : Nat) (L : List Rb) (hs : a.eval s = v) (hown : w.ownsRow base 104 8 v n (cellsR L))
    (b : Nat) (d : Rb) (hx : a.eval x = .slice (some ⟨b, 0, none⟩) 1 1) (hc : w.heap[b]? = some (.cells (rbCells d).toArray 104 (0, 0))) (hsv : d.sv.oneCell' = true) (hn : n ≤ 1000) (hbase : base ≤ w.heap.size)
    (h : ∀ v' w', w'.ownsRow base 104 8 v' (n + 1) (cellsR (L ++ [d])) → w.grownBy w' v.ownBlock → wpList Try.prog ops Q rest (a.put o.dst v') w') : wpList Try.prog ops Q (o :: rest) a w := by
  obtain ⟨i0, hi0, hz0, hz1, hz2⟩ := info_parts info78
  refine wpList_append_own w hgd s x 34 ho base 104 i0 _ 8 80 Try.underlying34 hi0 hz0 hz1 hz2 rfl (by decide) v n (cellsR L) hs hown ⟨b, 0, none⟩ 1 1 (rbCells d) hx rfl (fun j u hj => ?_) (fun u hu => ?_) (by unfold maxLen; omega) (by omega) hbase ?_
  · have e : (⟨b, 0, none⟩ : Addr).add j = ⟨b, j, none⟩ := by unfold Addr.add; split <;> simp_all
    rw [e, (cells_of hc j).1]
    simpa using hj
  · simp only [rbCells, List.mem_cons, List.not_mem_nil, or_false] at hu
    rcases hu with rfl | rfl | rfl | rfl | rfl | rfl | rfl | rfl <;> first | rfl | exact hsv
  · intro v' w' h1 h2 _
    have e : cellsR L ++ rbCells d = cellsR (L ++ [d]) := by rw [cellsR_append]; simp [cellsR]
    rw [e] at h1
    exact h v' w' h1 h2
theorem set_top {w : World} {rb : Nat} {C : Array Value} {t : TypeId} (h : w.heap[rb]? = some (.cells C t (0, 0))) (k : Nat) (u : Value) : (w.setCell ⟨rb, k, none⟩ u).heap[rb]? = some (.cells (C.setIfInBounds k u) t (0, 0)) := by
  simp [World.setCell, Array.getElem?_modify, h]
theorem set_else {w : World} {rb j k : Nat} {u : Value} (h : j ≠ rb) : (w.setCell ⟨rb, k, none⟩ u).heap[j]? = w.heap[j]? := heap_setCell_other w ⟨rb, k, none⟩ j u h
/-- the box with another time -/
theorem Ra.setNow {w : World} {rb : Nat} {x : Bx} {now : Int} {v : Value} {L : List Rb} (h : Ra w rb x now v L) (t : Int) : Ra (w.setCell ⟨rb, 8, none⟩ (.int .i64 t)) rb x t v L :=
  ⟨by rw [set_top h.top]; simp [natCells], own_at h.row (fun g hg => set_else (fun e => h.ne_row (by rw [hg, e]))), fun d hd => (h.nds d hd).kept (fun k hk => set_else (fun e => h.ne_seen hd (by rw [hk, e])))⟩
/-- the box with another row -/
theorem Ra.setRow {w : World} {rb : Nat} {x : Bx} {now : Int} {v v' : Value} {L L' : List Rb} (h : Ra w rb x now v L) (hr : w.ownsRow 0 104 8 v' L'.length (cellsR L')) (hn : ∀ d ∈ L', SeenAt w d.sv d.b.seen) : Ra (w.setCell ⟨rb, 7, none⟩ v') rb x now v' L' := by
  refine ⟨by rw [set_top h.top]; simp [natCells], own_at hr (fun g hg => set_else (fun e => ?_)), fun d hd => (hn d hd).kept (fun k hk => set_else (fun e => ?_))⟩
  · obtain ⟨C, hC⟩ := own_obj hr hg
    rw [e] at hC
    exact clash h.top hC (by decide)
  · obtain ⟨_, C, hC⟩ := (hn d hd).lt hk
    rw [e] at hC
    exact clash h.top hC (by decide)

/-- the time may not go on -/
theorem on_no {w : World} {rb : Nat} {x : Bx} {now : Int} {v : Value} {L : List Rb} (h : Ra w rb x now v L) (t : Int) (hg : goes now t = false) :
    Calls Try.prog 47 #[.pointer (some ⟨rb, 0, none⟩), .int .i64 t] w fun e w' => e = .returned (.bool false) ∧ w = w' := by
  obtain ⟨-, -, c8, -⟩ := h.cells
  have hl := h.lt
  unfold goes at hg
  by_cases h1 : t < now
  · go_enter Try.func47, Try.ntmps47
    go_wp2
    go_ret
    exact ⟨rfl, rfl⟩
  · have h2 : 1099511627776 < t := by
      simp only [Bool.and_eq_false_iff, decide_eq_false_iff_not] at hg
      omega
    clear hg
    go_enter Try.func47, Try.ntmps47
    go_wp2
    go_ret
    exact ⟨rfl, rfl⟩

set_option maxRecDepth 100000 in
set_option maxHeartbeats 4000000 in
/-- the time goes on -/
theorem on_yes {w : World} {rb : Nat} {x : Bx} {now : Int} {v : Value} {L : List Rb} (h : Ra w rb x now v L) (t : Int) (hg : goes now t = true) (hL : L.length ≤ 100) :
    Calls Try.prog 47 #[.pointer (some ⟨rb, 0, none⟩), .int .i64 t] w fun e w' => e = .returned (.bool true) ∧ ∃ v', Ra w' rb x t v' (liveR L t) ∧ (∀ g, v'.ownBlock = some g → w.heap.size ≤ g) ∧ Keeps (fun k => k = rb) w w' := by
  obtain ⟨-, c7, c8, fz⟩ := h.cells
  have hl := h.lt
  have f8 := fz 8
  have H1 := Lib.hid (h.setNow t)
  obtain ⟨A, c, rfl, hlc, hcm, hnil, had⟩ := h.form
  unfold maxLen at hcm
  have hs : (w.setCell ⟨rb, 8, none⟩ (.int .i64 t)).heap.size = w.heap.size := by simp
  have h1 : ¬ t < now := by
    unfold goes at hg
    simp only [Bool.and_eq_true, decide_eq_true_eq] at hg
    omega
  have h2 : ¬ 1099511627776 < t := by
    unfold goes at hg
    simp only [Bool.and_eq_true, decide_eq_true_eq] at hg
    omega
  obtain ⟨n, hn⟩ : ∃ n, L.length = n := ⟨_, rfl⟩
  have HN := Lib.hid hn
  have HS := Lib.hid hs
  rw [hn] at hlc hL c7 H1 hnil
  clear h hg hn hs
  go_enter Try.func47, Try.ntmps47
  go_wp2
  go_loopw [6, 5] (fun i u wr => ∃ k : Nat, k ≤ n ∧ i = .int .i64 (k : Int) ∧ wr.ownsRow w.heap.size 104 8 u (liveR (L.take k) t).length (cellsR (liveR (L.take k) t)) ∧ Below w.heap.size (w.setCell ⟨rb, 8, none⟩ (.int .i64 t)) wr)
    (fun i _ _ => n - (intOf i).toNat)
  case atStart => exact ⟨0, by omega, rfl, World.ownsRow_nil _ _ _ _, Below.refl _ _⟩
  case round =>
    obtain ⟨k, hk, rfl, hown, hbel⟩ := hrel
    have HB := Lib.hid hbel
    have HO := Lib.hid hown
    have hR : Ra wr rb x t (.slice A n c) L := by
      have := H1.out.below (w' := wr) (by rw [HS.out]; exact hbel)
      exact this
    obtain ⟨-, d7, d8, gz⟩ := hR.cells
    have hlr := hR.lt
    have g7 := gz 7
    have hle : (liveR (L.take k) t).length ≤ k := by
      have h3 := List.length_filter_le (fun d : Rb => !decide (d.b.until_ ≤ t)) (L.take k)
      unfold liveR
      simp at h3 ⊢
      omega
    clear hbel hown c7 c8 f8
    by_cases hkn : k < n
    · obtain ⟨d, hd⟩ : ∃ d, L[k]? = some d := ⟨_, List.getElem?_eq_getElem (by have := HN.out; omega)⟩
      obtain ⟨g, c', e1, _, _, hat, hfz, hgl⟩ := hR.at hd
      cases e1
      have HT := Lib.hid (liveR_take t hd)
      have hcu : wr.cell? ⟨g, k * 8 + 5, none⟩ = some (.int .i64 d.b.until_) := hat 5 (by omega)
      have HAT := Lib.hid hat
      have hsv := hR.nds d (List.mem_of_getElem? hd)
      clear hat hfz gz fz
      have HSV := Lib.hid (sv_one hsv)
      by_cases hu : d.b.until_ ≤ t
      · have t1 : decide (t < d.b.until_) = false := by simp; omega
        rw [if_pos hu, List.append_nil] at HT
        go_wp2
        go_roundw
        case rel => exact ⟨k + 1, by omega, by go_num, by rw [HT.out]; exact HO.out, HB.out⟩
        case measure => simp [intOf]; omega
      · have t1 : decide (t < d.b.until_) = true := by simp; omega
        rw [if_neg hu] at HT
        have a0 : wr.cell? ⟨g, k * 8, none⟩ = some (.int .u32 d.b.inn.1) := HAT.out 0 (by omega)
        have a1 : wr.cell? ⟨g, k * 8 + 1, none⟩ = some (.int .i64 d.b.inn.2) := HAT.out 1 (by omega)
        have a2 : wr.cell? ⟨g, k * 8 + 2, none⟩ = some (.int .u32 d.b.to.1) := HAT.out 2 (by omega)
        have a3 : wr.cell? ⟨g, k * 8 + 3, none⟩ = some (.int .i64 d.b.to.2) := HAT.out 3 (by omega)
        have a4 : wr.cell? ⟨g, k * 8 + 4, none⟩ = some (.int .i64 d.b.port) := HAT.out 4 (by omega)
        have a6 : wr.cell? ⟨g, k * 8 + 6, none⟩ = some (.bool d.b.asked) := HAT.out 6 (by omega)
        have a7 : wr.cell? ⟨g, k * 8 + 7, none⟩ = some d.sv := HAT.out 7 (by omega)
        obtain ⟨Av, cv, esv, _⟩ := hsv
        rw [esv] at a7
        have HC : Hid ((wr.alloc (.cells #[.int .u32 d.b.inn.1, .int .i64 d.b.inn.2, .int .u32 d.b.to.1, .int .i64 d.b.to.2, .int .i64 d.b.port, .int .i64 d.b.until_, .bool d.b.asked, .slice Av d.b.seen.length cv] 104)).heap[wr.heap.size]? = some (.cells (rbCells d).toArray 104 (0, 0))) := Lib.hid (by
          unfold rbCells
          rw [esv]
          exact World.alloc_heap_new wr _)
        clear esv hd
        have HAL := Lib.hid (HO.out.alloc (.cells #[.int .u32 d.b.inn.1, .int .i64 d.b.inn.2, .int .u32 d.b.to.1, .int .i64 d.b.to.2, .int .i64 d.b.port, .int .i64 d.b.until_, .bool d.b.asked, .slice Av d.b.seen.length cv] 104))
        have hsz := HB.out.size
        rw [HS.out] at hsz
        have HBS : Hid (w.heap.size ≤ (wr.alloc (.cells #[.int .u32 d.b.inn.1, .int .i64 d.b.inn.2, .int .u32 d.b.to.1, .int .i64 d.b.to.2, .int .i64 d.b.port, .int .i64 d.b.until_, .bool d.b.asked, .slice Av d.b.seen.length cv] 104)).heap.size) := Lib.hid (by simp; omega)
        have HLE : Hid ((liveR (L.take k) t).length ≤ 1000) := Lib.hid (by omega)
        have HBA : Hid (Below w.heap.size wr (wr.alloc (.cells #[.int .u32 d.b.inn.1, .int .i64 d.b.inn.2, .int .u32 d.b.to.1, .int .i64 d.b.to.2, .int .i64 d.b.port, .int .i64 d.b.until_, .bool d.b.asked, .slice Av d.b.seen.length cv] 104))) := Lib.hid ((Below.refl _ wr).alloc hsz _)
        clear hsz
        go_wp2_with (at_builtin; refine wpList_append_rb rfl (.tmp 41) (.tmp 49) rfl w.heap.size _ _ (liveR (L.take k) t) rfl HAL.out wr.heap.size d rfl HC.out HSV.out HLE.out HBS.out ?_; intro v5 w5 ho5 hg5; have HO5 := Lib.hid ho5; have HG5 : Hid (Below w.heap.size wr w5) := Lib.hid (HBA.out.trans ((Below.refl _ _).grown hg5 HBS.out (fun g' h' => (HAL.out.lt g' h').1))); clear ho5 hg5)
        go_roundw
        case rel => exact ⟨k + 1, by omega, by go_num, by rw [HT.out, List.length_append]; exact HO5.out, HB.out.trans HG5.out⟩
        case measure => simp [intOf]; omega
    · have e : L.take k = L := List.take_of_length_le (by have := HN.out; omega)
      rw [e] at HO
      have HR := Lib.hid hR
      obtain ⟨Au, cu, rfl⟩ := own_slice2 HO.out
      clear e hR
      go_wp2
      go_ret
      refine ⟨rfl, _, HR.out.setRow (Go.Joins.ownsRow_le HO.out (Nat.zero_le _)) (fun d hd => HR.out.nds d (List.mem_filter.1 hd).1), fun g hg => (HO.out.lt g hg).1, ?_⟩
      refine Keeps.set (S := fun k => k = rb) ?_ rb 7 _ rfl
      exact (Keeps.set (S := fun k => k = rb) (Keeps.refl _ _) rb 8 _ rfl).trans (.all (by rw [HS.out]; exact HB.out))
end Go.Proofs.Ytemlnkcokeckmaa
