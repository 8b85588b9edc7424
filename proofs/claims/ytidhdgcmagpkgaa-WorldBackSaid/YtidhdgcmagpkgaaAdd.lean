/-
  The contract of nat's add: a new binding, its port being chosen, if there is room for one. Conditions: the box may be made so, and lies in memory; at most 1000 bindings.
-/
import Derived.Test.YtidhdgcmagpkgaaCho
import Derived.Test.YtidhdgcmagpkgaaDl1
import Derived.Deep.Cut
import Derived.OwnWalk
namespace Go.Proofs.Ytidhdgcmagpkgaa
open Go.RowKit
attribute [local go_sem] Oper.semAt_some
set_option linter.unusedVariables false

theorem info67 : (Try.prog.info? 70).map (fun i => (i.zero, i.size, i.bytes)) = some (some (.pointer none), 1, 8) := by kernel_rfl
theorem add_end {w : World} {v : Value} {ps : List Nat} (hr : w.ownsRow 0 70 1 v ps.length (cellsP ps)) (hl : ps.length ≤ 1000) (q : Nat) :
    ∃ v' w', (∀ ty, (Builtin.append_ #[67, 67] ty #[v, .slice (some ⟨w.heap.size, 0, none⟩) 1 1]).run Try.prog (w.alloc (.cells #[.pointer (some ⟨q, 0, none⟩)] 70)) = .ok v' w') ∧ (∃ A n c, v' = .slice A n c) ∧
      w'.ownsRow 0 70 1 v' (ps ++ [q]).length (cellsP (ps ++ [q])) ∧ (∀ g, v'.ownBlock = some g → v.ownBlock = some g ∨ w.heap.size ≤ g) ∧ Keeps (fun k => v.ownBlock = some k) w w' := by
  obtain ⟨i0, hi0, hz0, hz1, hz2⟩ := info_parts info67
  have h1 : (w.alloc (.cells #[.pointer (some ⟨q, 0, none⟩)] 70)).ownsRow 0 70 1 v ps.length (cellsP ps) := hr.alloc _
  have hc : ∀ j u, (cellsP [q])[j]? = some u → (w.alloc (.cells #[.pointer (some ⟨q, 0, none⟩)] 70)).cell? ((⟨w.heap.size, 0, none⟩ : Addr).add j) = some u := by
    intro j u hj
    rw [add_spot, Nat.zero_add, (cells_of (World.alloc_heap_new w _) j).1]
    simpa [cellsP, ptr] using hj
  have hrun := fun ty => run_append_own_at (P := Try.prog) (w.alloc (.cells #[.pointer (some ⟨q, 0, none⟩)] 70)) 0 67 ty 70 i0 (.pointer none) 1 8 Try.underlying67 hi0 hz0 hz1 hz2 rfl (by decide) v ps.length (cellsP ps) h1 ⟨w.heap.size, 0, none⟩ 1 1 (cellsP [q]) rfl hc (cellsP_one _) (by unfold maxLen; omega) (by omega) (Nat.zero_le _)
  obtain ⟨v', w', r0, r1, r2, r3, r4⟩ := hrun 67
  refine ⟨v', w', fun ty => ?_, ?_, ?_, ?_, ?_⟩
  · rw [← r0]; rfl
  · rcases r1.2 with ⟨e, _⟩ | ⟨g, cap, cur, e, _⟩
    · exact ⟨_, _, _, e⟩
    · exact ⟨_, _, _, e⟩
  · rw [List.length_append, show cellsP (ps ++ [q]) = cellsP ps ++ cellsP [q] by simp [cellsP]]; exact r1
  · intro g hg
    rcases r4 with e | e
    · exact .inl (by rw [← e]; exact hg)
    · rw [e] at hg
      simp at hg
      exact .inr (by omega)
  · exact ((Keeps.refl _ w).alloc _).trans (Keeps.grown r2 (fun g hg => hg))
/-- a new binding in memory, laid behind the others -/
theorem na_add {w W W' : World} {nb q : Nat} {x : Bx} {now : Int} {kv kv' : Value} {L : List Nd} {b : Bn} (h : Na w nb x now kv L) (hb : Below w.heap.size w W) (hq : W.heap[q]? = some (.cells (bnCells b (.slice none 0 0)) 75 (0, 0))) (hqn : w.heap.size ≤ q) (hs : b.seen = [])
    (h1 : W'.ownsRow 0 70 1 kv' (L.map Nd.p ++ [q]).length (cellsP (L.map Nd.p ++ [q]))) (h2 : ∀ g, kv'.ownBlock = some g → kv.ownBlock = some g ∨ W.heap.size ≤ g) (h3 : Keeps (fun k => kv.ownBlock = some k) W W') :
    Na (W'.setCell ⟨nb, 7, none⟩ kv') nb x now kv' (L ++ [⟨q, b, .slice none 0 0⟩]) ∧ Keeps (fun k => k = nb ∨ kv.ownBlock = some k) w (W'.setCell ⟨nb, 7, none⟩ kv') := by
  have hN := h.below hb
  have hlt := hN.lt
  have hk : Keeps (fun k => k = nb ∨ kv.ownBlock = some k) W (W'.setCell ⟨nb, 7, none⟩ kv') := (h3.mono (fun k _ e => Or.inr e)).set nb 7 kv' (.inl rfl)
  have ht1 : W'.heap[nb]? = some (.cells (natCells x kv now) 69 (0, 0)) := (h3.block nb hlt hN.ne_row).trans hN.top
  have hql : q < W.heap.size := (Array.getElem?_eq_some_iff.1 hq).1
  have hqnb : q ≠ nb := fun e => by rw [e] at hq; exact clash hN.top hq (by decide)
  have hqr : kv.ownBlock ≠ some q := fun e => by
    obtain ⟨C, hC⟩ := own_obj hN.row e
    exact clash hq hC (by decide)
  refine ⟨⟨heap_setCell_same W' nb 7 _ 69 kv' ht1, ?_, fun d hd => ?_, ?_⟩, ((Keeps.refl _ w).trans (Keeps.all hb)).trans hk⟩
  · have e1 : (L ++ [(⟨q, b, .slice none 0 0⟩ : Nd)]).length = (L.map Nd.p ++ [q]).length := by simp
    have e2 : (L ++ [(⟨q, b, .slice none 0 0⟩ : Nd)]).map Nd.p = L.map Nd.p ++ [q] := by simp
    rw [e1, e2]
    refine own_at h1 (fun g hg => heap_setCell_other W' ⟨nb, 7, none⟩ g kv' (fun e => ?_))
    have e3 : g = nb := e
    obtain ⟨C, hC⟩ := own_obj h1 hg
    rw [e3] at hC
    exact clash ht1 hC (by decide)
  · rcases List.mem_append.1 hd with hd | hd
    · refine (hN.nds d hd).kept (hk.block _ (hN.nds d hd).lt ?_) (fun g hg => hk.block g ((hN.nds d hd).rowlt hg) ?_)
      · rintro (e | e)
        · exact hN.ne_nd hd e
        · exact hN.row_nd hd e
      · rintro (e | e)
        · rw [e] at hg; exact hN.ne_seen hd hg
        · exact hN.row_seen hd e hg
    · simp only [List.mem_singleton] at hd
      subst hd
      refine ⟨(hk.block q hql (fun e => e.elim hqnb hqr)).trans hq, ?_⟩
      show World.ownsRow _ 0 36 2 (.slice none 0 0) b.seen.length (cellsA b.seen)
      rw [hs]
      exact World.ownsRow_nil _ _ _ _
  · rw [List.pairwise_append]
    refine ⟨h.sep, List.pairwise_singleton _ _, fun d hd e he => ?_⟩
    simp only [List.mem_singleton] at he
    subst he
    refine ⟨fun e => ?_, fun g _ e => by cases e⟩
    have e2 : d.p = q := e
    have := (h.nds d hd).lt
    omega

def addM (x : Bx) (M : List Bn) (s : Int) : Option Int := match chooseM x M s with
  | none => none
  | some p => if (M.length : Int) < x.most then some p else none
/-- what add leaves -/
def Added (w : World) (nb : Nat) (x : Bx) (now : Int) (kv : Value) (L : List Nd) (b : Bn) (s : Int) : Ending → World → Prop := fun e w' => match addM x (L.map Nd.b) s with
  | none => e = .returned (.pointer none) ∧ Below w.heap.size w w'
  | some p => ∃ q kv', e = .returned (.pointer (some ⟨q, 0, none⟩)) ∧ w.heap.size ≤ q ∧ Na w' nb x now kv' (L ++ [⟨q, { b with port := p }, .slice none 0 0⟩]) ∧ (∀ g, kv'.ownBlock = some g → kv.ownBlock = some g ∨ w.heap.size ≤ g) ∧ Keeps (fun k => k = nb ∨ kv.ownBlock = some k) w w'

set_option maxRecDepth 100000 in
set_option maxHeartbeats 4000000 in
theorem add_any (nb : Nat) (x : Bx) (now : Int) (kv : Value) (L : List Nd) (b : Bn) (s : Int) (w : World) (h : Na w nb x now kv L) (hbig : L.length ≤ 900) (hlo : 1 ≤ x.lo) (hlh : x.lo ≤ x.hi) (hhi : x.hi ≤ 65535) (hs : b.seen = []) :
    Calls Try.prog 41 #[.pointer (some ⟨nb, 0, none⟩), .agg b.cells.toArray, .int .i64 s] w (Added w nb x now kv L b s) := by
  have hb0 : Below w.heap.size w (w.alloc (.cells b.cells.toArray 72)) := (Below.refl _ _).alloc (Nat.le_refl _) _
  have HC := Lib.hid (choose_any nb x now kv L s _ (h.below hb0) (by omega) hlo hlh hhi)
  have c6 := h.cells.1.2.2.2.2.2.2
  have c7 := h.cells.2.1
  have f7 := h.cells.2.2.2 7
  have hlt := h.lt
  have HROW := Lib.hid h.rowAt
  have H := Lib.hid h
  have HB0 := Lib.hid hb0
  have HS := Lib.hid hs
  obtain ⟨A0, cc0, hkv⟩ : ∃ A c, kv = .slice A L.length c := by
    rcases h.row.2 with ⟨e, e0⟩ | ⟨g, cap, cur, e, _⟩
    · rw [e0]; exact ⟨_, _, e⟩
    · exact ⟨_, _, e⟩
  clear h hb0 hs
  unfold Bn.cells at *
  obtain ⟨inn, to, port, until_, asked, seen⟩ := b
  dsimp only at *
  have hlen : (L.map Nd.b).length = L.length := List.length_map _
  have HAD : Hid (∀ p, chooseM x (L.map Nd.b) s = some p → addM x (L.map Nd.b) s = if (L.length : Int) < x.most then some p else none) := Lib.hid (fun p hp => by unfold addM; rw [hp, hlen])
  cases hch : chooseM x (L.map Nd.b) s with
  | none =>
    have HR : Hid (addM x (L.map Nd.b) s = none) := Lib.hid (by unfold addM; rw [hch])
    rw [hch] at HC
    unfold choV at HC
    dsimp only [Option.getD, Option.isSome] at HC
    clear hch
    go_enter Try.func41, Try.ntmps41
    go_wp2_with fail
    refine HC.out.mono ?_
    rintro e w1 ⟨rfl, q, rfl⟩
    go_wp2
    go_quiet (fail)
    go_wp2
    go_ret
    unfold Added
    rw [HR.out]
    exact ⟨rfl, below_drw (below_drw HB0.out _) _⟩
  | some p =>
    rw [hch] at HC
    unfold choV at HC
    dsimp only [Option.getD, Option.isSome] at HC
    have HAD2 := Lib.hid (HAD.out p hch)
    clear hch
    by_cases hm : (L.length : Int) < x.most
    · have HR : Hid (addM x (L.map Nd.b) s = some p) := Lib.hid (by rw [HAD2.out, if_pos hm])
      have hm2 : ¬ x.most ≤ (L.length : Int) := by omega
      subst hkv
      go_enter Try.func41, Try.ntmps41
      go_wp2_with fail
      refine HC.out.mono ?_
      rintro e w1 ⟨rfl, q, rfl⟩
      go_wp2
      go_quiet (fail)
      go_upto_region 6 with (fail)
      obtain ⟨V, hV⟩ : ∃ V, ((((w.alloc (.cells #[.int .u32 inn.1, .int .i64 inn.2, .int .u32 to.1, .int .i64 to.2, .int .i64 port, .int .i64 until_, .bool asked] 72)).drewN (q + nq)).setCell ⟨w.heap.size, 4, none⟩ (.int .i64 p)).alloc (.cells #[.int .u32 inn.1, .int .i64 inn.2, .int .u32 to.1, .int .i64 to.2, .int .i64 p, .int .i64 until_, .bool asked, .slice none 0 0] 75)) = V := ⟨_, rfl⟩
      rw [hV]
      have hbV : Below w.heap.size w V := by
        rw [← hV]
        exact (((below_drw ((Below.refl _ w).alloc (Nat.le_refl _) _) _).setCell (p := ⟨w.heap.size, 4, none⟩) (Nat.le_refl _) _).alloc (by simp) _)
      have hqV : V.heap[w.heap.size + 1]? = some (.cells (bnCells ⟨inn, to, p, until_, asked, seen⟩ (.slice none 0 0)) 75 (0, 0)) := by
        rw [← hV]
        have := World.alloc_heap_new (((w.alloc (.cells #[.int .u32 inn.1, .int .i64 inn.2, .int .u32 to.1, .int .i64 to.2, .int .i64 port, .int .i64 until_, .bool asked] 72)).drewN (q + nq)).setCell ⟨w.heap.size, 4, none⟩ (.int .i64 p)) (.cells (bnCells ⟨inn, to, p, until_, asked, seen⟩ (.slice none 0 0)) 75)
        have e1 : (((w.alloc (.cells #[.int .u32 inn.1, .int .i64 inn.2, .int .u32 to.1, .int .i64 to.2, .int .i64 port, .int .i64 until_, .bool asked] 72)).drewN (q + nq)).setCell ⟨w.heap.size, 4, none⟩ (.int .i64 p)).heap.size = w.heap.size + 1 := by simp
        rw [e1] at this
        exact this
      clear hV
      have hNV := H.out.below hbV
      obtain ⟨kv', W', t1, ⟨A1, n1, cc1, rfl⟩, t3, t4, t5⟩ := add_end hNV.map_len (by rw [List.length_map]; omega) (w.heap.size + 1)
      have hE := na_add H.out hbV hqV (by omega) HS.out t3 t4 t5
      have hr := t1 67
      have d7 := hNV.cells.2.1
      have ht1 : W'.heap[nb]? = some (.cells (natCells x (.slice A0 L.length cc0) now) 69 (0, 0)) := (t5.block nb hNV.lt hNV.ne_row).trans hNV.top
      have e7 : W'.cell? ⟨nb, 7, none⟩ = some (.slice A0 L.length cc0) := (cells_of ht1 7).1
      have g7 := (cells_of ht1 7).2
      have HE := Lib.hid hE
      have T4 : Hid (∀ g, (Value.slice A1 n1 cc1).ownBlock = some g → (Value.slice A0 L.length cc0).ownBlock = some g ∨ w.heap.size ≤ g) := Lib.hid (fun g hg => (t4 g hg).imp id (fun h => Nat.le_trans hbV.size h))
      have hlV : nb < V.heap.size := hNV.lt
      clear hE t3 t4 t5 ht1 hNV hqV hbV c7 f7 c6
      have T1 := Lib.hid t1
      clear hr t1
      go_wp2_with (at_builtin; refine wpList_run rfl (.tmp 40) (.tmp 42) 67 rfl rfl rfl T1.out ?_)
      go_ret
      unfold Added
      rw [HR.out]
      exact ⟨_, _, rfl, by omega, HE.out.1, T4.out, HE.out.2⟩
    · have HR : Hid (addM x (L.map Nd.b) s = none) := Lib.hid (by rw [HAD2.out, if_neg hm])
      have hm2 : x.most ≤ (L.length : Int) := by omega
      subst hkv
      go_enter Try.func41, Try.ntmps41
      go_wp2_with fail
      refine HC.out.mono ?_
      rintro e w1 ⟨rfl, q, rfl⟩
      go_wp2
      go_quiet (fail)
      go_wp2
      go_ret
      unfold Added
      rw [HR.out]
      exact ⟨rfl, below_drw (below_drw HB0.out _) _⟩
end Go.Proofs.Ytidhdgcmagpkgaa
