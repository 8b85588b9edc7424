/-
  The contract of nat's add: a new binding, its port being chosen, if there is room for one. Conditions: the box may be made so, and lies in memory; at most 1000 bindings.
  A range over a function whose iterator hands over what it has just made: the iterator's word ('Tells') says, at each yield, what is handed there, in the world there ('Ok'); the body is walked with that word. Conditions: as each lemma states.
  Contracts of a binding's see and lets. Conditions: the binding lies in memory, with at most sixteen seen ones.
  The contract of a binding's see. Conditions: the binding lies in memory, with at most sixteen seen ones.
  The contract of a binding's lets. Conditions: the binding lies in memory, with at most sixteen seen ones.
  The contract of the iterator that nat's of hands back: it tells the bindings of one, in their row's order. Conditions: the rounds keep the box, its row and its bindings' own blocks.
-/
import Derived.Test.YtemlnkcokeckmaaMh8
import Derived.Deep.Cut
import Derived.OwnWalk
import Derived.RangeFuncNested
import Derived.RangeFuncBound
import Derived.RangeFuncCalls
import Derived.RangeFuncLeaves
import Derived.Test.YtemlnkcokeckmaaMh7
import Derived.Shelf.RegionOpen
import Derived.OwnWalkIn
import Derived.TacticsInMore
import Derived.LoopNIn
import Derived.LoopIn
import Derived.BigQuiet
import Derived.BigRegionIn
namespace Go.Proofs.Ytemlnkcokeckmaa
open Go.RowKit
attribute [local go_sem] Oper.semAt_some
set_option linter.unusedVariables false

theorem info67 : (Try.prog.info? 93).map (fun i => (i.zero, i.size, i.bytes)) = some (some (.pointer none), 1, 8) := by kernel_rfl
theorem add_end {w : World} {v : Value} {ps : List Nat} (hr : w.ownsRow 0 93 1 v ps.length (cellsP ps)) (hl : ps.length ≤ 1000) (q : Nat) :
    ∃ v' w', (∀ ty, (Builtin.append_ #[88, 88] ty #[v, .slice (some ⟨w.heap.size, 0, none⟩) 1 1]).run Try.prog (w.alloc (.cells #[.pointer (some ⟨q, 0, none⟩)] 93)) = .ok v' w') ∧ (∃ A n c, v' = .slice A n c) ∧
      w'.ownsRow 0 93 1 v' (ps ++ [q]).length (cellsP (ps ++ [q])) ∧ (∀ g, v'.ownBlock = some g → v.ownBlock = some g ∨ w.heap.size ≤ g) ∧ Keeps (fun k => v.ownBlock = some k) w w' := by
  obtain ⟨i0, hi0, hz0, hz1, hz2⟩ := info_parts info67
  have h1 : (w.alloc (.cells #[.pointer (some ⟨q, 0, none⟩)] 93)).ownsRow 0 93 1 v ps.length (cellsP ps) := hr.alloc _
  have hc : ∀ j u, (cellsP [q])[j]? = some u → (w.alloc (.cells #[.pointer (some ⟨q, 0, none⟩)] 93)).cell? ((⟨w.heap.size, 0, none⟩ : Addr).add j) = some u := by
    intro j u hj
    rw [add_spot, Nat.zero_add, (cells_of (World.alloc_heap_new w _) j).1]
    simpa [cellsP, ptr] using hj
  have hrun := fun ty => run_append_own_at (P := Try.prog) (w.alloc (.cells #[.pointer (some ⟨q, 0, none⟩)] 93)) 0 88 ty 93 i0 (.pointer none) 1 8 Try.underlying88 hi0 hz0 hz1 hz2 rfl (by decide) v ps.length (cellsP ps) h1 ⟨w.heap.size, 0, none⟩ 1 1 (cellsP [q]) rfl hc (cellsP_one _) (by unfold maxLen; omega) (by omega) (Nat.zero_le _)
  obtain ⟨v', w', r0, r1, r2, r3, r4⟩ := hrun 88
  refine ⟨v', w', fun ty => ?_, ?_, ?_, ?_, ?_⟩
  · rw [← r0]; rfl
  · rcases r1.2 with ⟨e, _⟩ | ⟨g, cap, cur, e, _⟩
    · exact ⟨_, _, _, e⟩
    · exact ⟨_, _, _, e⟩
  · rw [List.length_append, show cellsP (ps ++ [q]) = cellsP ps ++ cellsP [q] by simp [cellsP]]; exact r1
  · intro g hg
    rcases r4 with e | e
    · exact .inl (by rw [← e]; exact hg)
    · rw [e] at hg
      simp at hg
      exact .inr (by omega)
  · exact ((Keeps.refl _ w).alloc _).trans (Keeps.grown r2 (fun g hg => hg))
/-- a new binding in memory, laid behind the others -/
theorem na_add {w W W' : World} {nb q : Nat} {x : Bx} {now : Int} {kv kv' : Value} {L : List Nd} {b : Bn} (h : Na w nb x now kv L) (hb : Below w.heap.size w W) (hq : W.heap[q]? = some (.cells (bnCells b (.slice none 0 0)) 98 (0, 0))) (hqn : w.heap.size ≤ q) (hs : b.seen = [])
    (h1 : W'.ownsRow 0 93 1 kv' (L.map Nd.p ++ [q]).length (cellsP (L.map Nd.p ++ [q]))) (h2 : ∀ g, kv'.ownBlock = some g → kv.ownBlock = some g ∨ W.heap.size ≤ g) (h3 : Keeps (fun k => kv.ownBlock = some k) W W') :
    Na (W'.setCell ⟨nb, 7, none⟩ kv') nb x now kv' (L ++ [⟨q, b, .slice none 0 0⟩]) ∧ Keeps (fun k => k = nb ∨ kv.ownBlock = some k) w (W'.setCell ⟨nb, 7, none⟩ kv') := by
  have hN := h.below hb
  have hlt := hN.lt
  have hk : Keeps (fun k => k = nb ∨ kv.ownBlock = some k) W (W'.setCell ⟨nb, 7, none⟩ kv') := (h3.mono (fun k _ e => Or.inr e)).set nb 7 kv' (.inl rfl)
  have ht1 : W'.heap[nb]? = some (.cells (natCells x kv now) 90 (0, 0)) := (h3.block nb hlt hN.ne_row).trans hN.top
  have hql : q < W.heap.size := (Array.getElem?_eq_some_iff.1 hq).1
  have hqnb : q ≠ nb := fun e => by rw [e] at hq; exact clash hN.top hq (by decide)
  have hqr : kv.ownBlock ≠ some q := fun e => by
    obtain ⟨C, hC⟩ := own_obj hN.row e
    exact clash hq hC (by decide)
  refine ⟨⟨heap_setCell_same W' nb 7 _ 90 kv' ht1, ?_, fun d hd => ?_, ?_⟩, ((Keeps.refl _ w).trans (Keeps.all hb)).trans hk⟩
  · have e1 : (L ++ [(⟨q, b, .slice none 0 0⟩ : Nd)]).length = (L.map Nd.p ++ [q]).length := by simp
    have e2 : (L ++ [(⟨q, b, .slice none 0 0⟩ : Nd)]).map Nd.p = L.map Nd.p ++ [q] := by simp
    rw [e1, e2]
    refine own_at h1 (fun g hg => heap_setCell_other W' ⟨nb, 7, none⟩ g kv' (fun e => ?_))
    have e3 : g = nb := e
    obtain ⟨C, hC⟩ := own_obj h1 hg
    rw [e3] at hC
    exact clash ht1 hC (by decide)
  · rcases List.mem_append.1 hd with hd | hd
    · refine (hN.nds d hd).kept (hk.block _ (hN.nds d hd).lt ?_) (fun g hg => hk.block g ((hN.nds d hd).rowlt hg) ?_)
      · rintro (e | e)
        · exact hN.ne_nd hd e
        · exact hN.row_nd hd e
      · rintro (e | e)
        · rw [e] at hg; exact hN.ne_seen hd hg
        · exact hN.row_seen hd e hg
    · simp only [List.mem_singleton] at hd
      subst hd
      refine ⟨(hk.block q hql (fun e => e.elim hqnb hqr)).trans hq, ?_⟩
      show World.ownsRow _ 0 38 2 (.slice none 0 0) b.seen.length (cellsA b.seen)
      rw [hs]
      exact World.ownsRow_nil _ _ _ _
  · rw [List.pairwise_append]
    refine ⟨h.sep, List.pairwise_singleton _ _, fun d hd e he => ?_⟩
    simp only [List.mem_singleton] at he
    subst he
    refine ⟨fun e => ?_, fun g _ e => by cases e⟩
    have e2 : d.p = q := e
    have := (h.nds d hd).lt
    omega

def addM (x : Bx) (M : List Bn) (s : Int) : Option Int := match chooseM x M s with
  | none => none
  | some p => if (M.length : Int) < x.most then some p else none
/-- what add leaves -/
def Added (w : World) (nb : Nat) (x : Bx) (now : Int) (kv : Value) (L : List Nd) (b : Bn) (s : Int) : Ending → World → Prop := fun e w' => match addM x (L.map Nd.b) s with
  | none => e = .returned (.pointer none) ∧ Below w.heap.size w w'
  | some p => ∃ q kv', e = .returned (.pointer (some ⟨q, 0, none⟩)) ∧ w.heap.size ≤ q ∧ Na w' nb x now kv' (L ++ [⟨q, { b with port := p }, .slice none 0 0⟩]) ∧ (∀ g, kv'.ownBlock = some g → kv.ownBlock = some g ∨ w.heap.size ≤ g) ∧ Keeps (fun k => k = nb ∨ kv.ownBlock = some k) w w'

set_option maxRecDepth 100000 in
set_option maxHeartbeats 4000000 in
theorem add_any (nb : Nat) (x : Bx) (now : Int) (kv : Value) (L : List Nd) (b : Bn) (s : Int) (w : World) (h : Na w nb x now kv L) (hbig : L.length ≤ 900) (hlo : 1 ≤ x.lo) (hlh : x.lo ≤ x.hi) (hhi : x.hi ≤ 65535) (hs : b.seen = []) :
    Calls Try.prog 43 #[.pointer (some ⟨nb, 0, none⟩), .agg b.cells.toArray, .int .i64 s] w (Added w nb x now kv L b s) := by
  have hb0 : Below w.heap.size w (w.alloc (.cells b.cells.toArray 54)) := (Below.refl _ _).alloc (Nat.le_refl _) _
  have HC := Lib.hid (choose_any nb x now kv L s _ (h.below hb0) (by omega) hlo hlh hhi)
  have c6 := h.cells.1.2.2.2.2.2.2
  have c7 := h.cells.2.1
  have f7 := h.cells.2.2.2 7
  have hlt := h.lt
  have HROW := Lib.hid h.rowAt
  have H := Lib.hid h
  have HB0 := Lib.hid hb0
  have HS := Lib.hid hs
  obtain ⟨A0, cc0, hkv⟩ : ∃ A c, kv = .slice A L.length c := by
    rcases h.row.2 with ⟨e, e0⟩ | ⟨g, cap, cur, e, _⟩
    · rw [e0]; exact ⟨_, _, e⟩
    · exact ⟨_, _, e⟩
  clear h hb0 hs
  unfold Bn.cells at *
  obtain ⟨inn, to, port, until_, asked, seen⟩ := b
  dsimp only at *
  have hlen : (L.map Nd.b).length = L.length := List.length_map _
  have HAD : Hid (∀ p, chooseM x (L.map Nd.b) s = some p → addM x (L.map Nd.b) s = if (L.length : Int) < x.most then some p else none) := Lib.hid (fun p hp => by unfold addM; rw [hp, hlen])
  cases hch : chooseM x (L.map Nd.b) s with
  | none =>
    have HR : Hid (addM x (L.map Nd.b) s = none) := Lib.hid (by unfold addM; rw [hch])
    rw [hch] at HC
    unfold choV at HC
    dsimp only [Option.getD, Option.isSome] at HC
    clear hch
    go_enter Try.func43, Try.ntmps43
    go_wp2_with fail
    refine HC.out.mono ?_
    rintro e w1 ⟨rfl, q, rfl⟩
    go_wp2
    go_quiet (fail)
    go_wp2
    go_ret
    unfold Added
    rw [HR.out]
    exact ⟨rfl, below_drw (below_drw HB0.out _) _⟩
  | some p =>
    rw [hch] at HC
    unfold choV at HC
    dsimp only [Option.getD, Option.isSome] at HC
    have HAD2 := Lib.hid (HAD.out p hch)
    clear hch
    by_cases hm : (L.length : Int) < x.most
    · have HR : Hid (addM x (L.map Nd.b) s = some p) := Lib.hid (by rw [HAD2.out, if_pos hm])
      have hm2 : ¬ x.most ≤ (L.length : Int) := by omega
      subst hkv
      go_enter Try.func43, Try.ntmps43
      go_wp2_with fail
      refine HC.out.mono ?_
      rintro e w1 ⟨rfl, q, rfl⟩
      go_wp2
      go_quiet (fail)
      go_upto_region 6 with (fail)
      obtain ⟨V, hV⟩ : ∃ V, ((((w.alloc (.cells #[.int .u32 inn.1, .int .i64 inn.2, .int .u32 to.1, .int .i64 to.2, .int .i64 port, .int .i64 until_, .bool asked] 54)).drewN (q + nq)).setCell ⟨w.heap.size, 4, none⟩ (.int .i64 p)).alloc (.cells #[.int .u32 inn.1, .int .i64 inn.2, .int .u32 to.1, .int .i64 to.2, .int .i64 p, .int .i64 until_, .bool asked, .slice none 0 0] 98)) = V := ⟨_, rfl⟩
      rw [hV]
      have hbV : Below w.heap.size w V := by
        rw [← hV]
        exact (((below_drw ((Below.refl _ w).alloc (Nat.le_refl _) _) _).setCell (p := ⟨w.heap.size, 4, none⟩) (Nat.le_refl _) _).alloc (by simp) _)
      have hqV : V.heap[w.heap.size + 1]? = some (.cells (bnCells ⟨inn, to, p, until_, asked, seen⟩ (.slice none 0 0)) 98 (0, 0)) := by
        rw [← hV]
        have := World.alloc_heap_new (((w.alloc (.cells #[.int .u32 inn.1, .int .i64 inn.2, .int .u32 to.1, .int .i64 to.2, .int .i64 port, .int .i64 until_, .bool asked] 54)).drewN (q + nq)).setCell ⟨w.heap.size, 4, none⟩ (.int .i64 p)) (.cells (bnCells ⟨inn, to, p, until_, asked, seen⟩ (.slice none 0 0)) 98)
        have e1 : (((w.alloc (.cells #[.int .u32 inn.1, .int .i64 inn.2, .int .u32 to.1, .int .i64 to.2, .int .i64 port, .int .i64 until_, .bool asked] 54)).drewN (q + nq)).setCell ⟨w.heap.size, 4, none⟩ (.int .i64 p)).heap.size = w.heap.size + 1 := by simp
        rw [e1] at this
        exact this
      clear hV
      have hNV := H.out.below hbV
      obtain ⟨kv', W', t1, ⟨A1, n1, cc1, rfl⟩, t3, t4, t5⟩ := add_end hNV.map_len (by rw [List.length_map]; omega) (w.heap.size + 1)
      have hE := na_add H.out hbV hqV (by omega) HS.out t3 t4 t5
      have hr := t1 88
      have d7 := hNV.cells.2.1
      have ht1 : W'.heap[nb]? = some (.cells (natCells x (.slice A0 L.length cc0) now) 90 (0, 0)) := (t5.block nb hNV.lt hNV.ne_row).trans hNV.top
      have e7 : W'.cell? ⟨nb, 7, none⟩ = some (.slice A0 L.length cc0) := (cells_of ht1 7).1
      have g7 := (cells_of ht1 7).2
      have HE := Lib.hid hE
      have T4 : Hid (∀ g, (Value.slice A1 n1 cc1).ownBlock = some g → (Value.slice A0 L.length cc0).ownBlock = some g ∨ w.heap.size ≤ g) := Lib.hid (fun g hg => (t4 g hg).imp id (fun h => Nat.le_trans hbV.size h))
      have hlV : nb < V.heap.size := hNV.lt
      clear hE t3 t4 t5 ht1 hNV hqV hbV c7 f7 c6
      have T1 := Lib.hid t1
      clear hr t1
      go_wp2_with (at_builtin; refine wpList_run rfl (.tmp 40) (.tmp 42) 88 rfl rfl rfl T1.out ?_)
      go_ret
      unfold Added
      rw [HR.out]
      exact ⟨_, _, rfl, by omega, HE.out.1, T4.out, HE.out.2⟩
    · have HR : Hid (addM x (L.map Nd.b) s = none) := Lib.hid (by rw [HAD2.out, if_neg hm])
      have hm2 : x.most ≤ (L.length : Int) := by omega
      subst hkv
      go_enter Try.func43, Try.ntmps43
      go_wp2_with fail
      refine HC.out.mono ?_
      rintro e w1 ⟨rfl, q, rfl⟩
      go_wp2
      go_quiet (fail)
      go_wp2
      go_ret
      unfold Added
      rw [HR.out]
      exact ⟨rfl, below_drw (below_drw HB0.out _) _⟩
end Go.Proofs.Ytemlnkcokeckmaa
namespace Go.Proofs.Ytemlnkcokeckmaa
open Go.RowKit
set_option linter.unusedVariables false

/-- these blocks are as they were; so is, of what was laid from B on, whatever is no cells, and where t says so all -/
structure Kept (gs : List Nat) (t : Bool) (B : Nat) (W W' : World) : Prop where
  size : W.heap.size ≤ W'.heap.size
  same : ∀ g ∈ gs, W'.heap[g]? = W.heap[g]?
  new : ∀ k o, B ≤ k → W.heap[k]? = some o → (t = true ∨ o.isCells = false) → W'.heap[k]? = some o
theorem Kept.refl (gs : List Nat) (t : Bool) (B : Nat) (W : World) : Kept gs t B W W := ⟨Nat.le_refl _, fun _ _ => rfl, fun _ _ _ h _ => h⟩
theorem Kept.trans {gs : List Nat} {t : Bool} {B : Nat} {X Y Z : World} (h : Kept gs t B X Y) (k : Kept gs t B Y Z) : Kept gs t B X Z :=
  ⟨Nat.le_trans h.size k.size, fun g hg => (k.same g hg).trans (h.same g hg), fun i o h1 h2 h3 => k.new i o h1 (h.new i o h1 h2 h3) h3⟩
theorem Kept.mono {gs : List Nat} {t : Bool} {B B' : Nat} {X Y : World} (h : Kept gs t B X Y) (hB : B ≤ B') : Kept gs t B' X Y := ⟨h.size, h.same, fun k o h1 h2 h3 => h.new k o (Nat.le_trans hB h1) h2 h3⟩
theorem Kept.weak {gs gs' : List Nat} {t : Bool} {B : Nat} {X Y : World} (h : Kept gs t B X Y) (hg : ∀ g ∈ gs', g ∈ gs) : Kept gs' false B X Y := ⟨h.size, fun g hm => h.same g (hg g hm), fun k o h1 h2 h3 => h.new k o h1 h2 (.inr (h3.resolve_left (by simp)))⟩
theorem Kept.from {gs : List Nat} {t : Bool} {B : Nat} {X Y : World} (h : Kept gs t B X Y) : KeepsFrom B X Y := ⟨h.size, fun k o hB hk ho => h.new k o hB hk (.inr ho)⟩
/-- .. where one block at most was turned -/
theorem Kept.grown {gs : List Nat} {t : Bool} {B : Nat} {X Y : World} {row : Option Nat} (h : X.grownBy Y row) (hgs : ∀ g ∈ gs, g < X.heap.size) (hr : ∀ r, row = some r → r ∉ gs ∧ (r < B ∨ (t = false ∧ ∃ o, X.heap[r]? = some o ∧ o.isCells = true))) : Kept gs t B X Y :=
  ⟨h.size, fun g hg => h.block g (hgs g hg) (fun e => (hr g e.symm).1 hg), fun k o h1 h2 h3 => (h.block k (Array.getElem?_eq_some_iff.1 h2).1 (fun e => by
    rcases (hr k e.symm).2 with h | ⟨h4, o', h5, h6⟩
    · omega
    · rw [h2] at h5; cases h5
      rcases h3 with h3 | h3
      · rw [h4] at h3; cases h3
      · rw [h6] at h3; cases h3)).trans h2⟩

/-- what is said of what has come so far, and of the world -/
abbrev Tale (α : Type) := List α → World → Prop
/-- what a round leaves behind the items zs: it goes on, or has said 'no more' -/
def Said {α : Type} (gs : List Nat) (t : Bool) (B : Nat) (V : World) (J Jx : Tale α) (zs : List α) : Ending → World → Prop := fun e V' =>
  Kept gs t B V V' ∧ ((e = .returned (.bool true) ∧ J zs V') ∨ (e = .returned (.bool false) ∧ Jx zs V'))
/-- what the iterator leaves: all have come, or some, and then no more was asked for -/
def Came {α : Type} (S Sp : List α → Prop) (J Jx : Tale α) : Ending → World → Prop := fun e V =>
  (∃ r, e = .returned r) ∧ ((∃ zs, S zs ∧ J zs V) ∨ (∃ zs, Sp zs ∧ Jx zs V))
/-- what an iterator that hands over what 'Ok' says, at each yield, has promised -/
def Tells {α : Type} (F : Fence) (n : Nat) (P : Program) (f : Nat) (own : Array Value) (enc : α → Array Value) (Ok : List α → α → World → Prop) (gs : List Nat) (t : Bool) (S Sp : List α → Prop) (V0 : World) : Prop :=
  ∀ (l : Nat) (J Jx : Tale α) (V : World), Below V0.heap.size V0 V → OwnFrom V.heap.size J ∧ OwnFrom V.heap.size Jx → J [] V →
    (∀ zs z V1, J zs V1 → Ok zs z V1 → YieldAt F (n - 1) P l (enc z) V1 (Said gs t V.heap.size V1 J Jx (zs ++ [z]))) →
    CallsIn F n P f (#[.func (.yield l) #[] #[]] ++ own) V (Came S Sp J Jx)
/-- an iterator at hand: a function of the program, entered as any, that tells -/
structure Told {α : Type} (F : Fence) (n : Nat) (P : Program) (f : Nat) (own : Array Value) (enc : α → Array Value) (Ok : List α → α → World → Prop) (gs : List Nat) (t : Bool) (S Sp : List α → Prop) (V0 : World) : Prop where
  free : F.round = none
  room : 1 ≤ n
  inside : F.fn f
  enters : ∀ vs V, (callFunc f vs).run P V = .ok (.enter f vs) V
  tells : Tells F (n - 1) P f own enc Ok gs t S Sp V0

/-- how a body of such a loop may be left -/
def Left {α : Type} (B : Nat) (gs : List Nat) (t : Bool) (I : Tale α) (Ix : Code → Tale α) (zs : List α) (V : World) (e : Exit) (_ : Act) (V' : World) : Prop :=
  Kept gs t B V V' ∧ match e with
    | .normal => I zs V'
    | .ret => Ix .ret zs V'
    | .exit id => Ix (.exit id) zs V'
    | .goto b => Ix (.goto b) zs V'
    | _ => False
/-- what is said is kept by turns of what is no cells and was laid since -/
structure Lasts {α : Type} (B : Nat) (I : Tale α) (Ix : Code → Tale α) (Ok : List α → α → World → Prop) : Prop where
  on : OwnFrom B I
  off : ∀ c, OwnFrom B (Ix c)
  ok : ∀ zs z, OwnFrom B (fun (_ : Unit) V => Ok zs z V)
/-- the assignment at a round's head -/
def Lays {α : Type} (F : Fence) (n : Nat) (P : Program) (ps : Array Tmp) (assign : Code) (enc : α → Array Value) (a : Act) (a₁ : α → Act) : Prop :=
  ∀ l z V K, K (a₁ z) V → assign.wpIn (F.inRound l) n P (Exit.then K fun _ _ _ => False) { tmps := (ps.zip (enc z)).foldl (fun t (p, v) => t.setIfInBounds p v) a.tmps, defers := [] } V
/-- a round's body -/
def Goes {α : Type} (F : Fence) (n : Nat) (P : Program) (body : Code) (B : Nat) (gs : List Nat) (t : Bool) (I : Tale α) (Ix : Code → Tale α) (Ok : List α → α → World → Prop) (a₁ : α → Act) : Prop :=
  ∀ l zs z V, B < V.heap.size → I zs V → Ok zs z V → body.wpIn (F.inRound l) n P (Left B gs t I Ix (zs ++ [z]) V) (a₁ z) V
/-- behind the loop, block D holds what was put off in its rounds: nothing -/
def Ends {α : Type} (B : Nat) (a : Act) (S : List α → Prop) (I : Tale α) (go : Act → World → Prop) : Prop :=
  ∀ D zs V, B ≤ D → S zs → I zs V → V.heap[D]? = some (.deferred (some [])) → go { a with defers := { target := .collected D, args := #[] } :: a.defers } V
def Stops {α : Type} (B : Nat) (a : Act) (Sp : List α → Prop) (Ix : Code → Tale α) (go : Code → Act → World → Prop) : Prop :=
  ∀ D c zs V, B ≤ D → Sp zs → Ix c zs V → V.heap[D]? = some (.deferred (some [])) → go c { a with defers := { target := .collected D, args := #[] } :: a.defers } V

variable {F : Fence} {n : Nat} {P : Program}

/-- a range over an iterator that tells (the steps of the machine by the library's own equations, as its laws for such a loop take them) -/
theorem range_told {α : Type} {f : Nat} {own : Array Value} {enc : α → Array Value} {Ok : List α → α → World → Prop} {gs : List Nat} {t : Bool} {S Sp : List α → Prop} {V0 : World} (it : Told F n P f own enc Ok gs t S Sp V0)
    {g : Operand} {ps : Array Tmp} {assign body : Code} {Q : Exit → Act → World → Prop} {a : Act} {w : World} (hg : a.eval g = .func (.func f) #[] own) (hb0 : Below V0.heap.size V0 w) (hgs : ∀ g ∈ gs, g < w.heap.size) (hps : ∀ z, (enc z).size = ps.size)
    (I : Tale α) (Ix : Code → Tale α) (hl : Lasts w.heap.size I Ix Ok) (h0 : I [] w) (a₁ : α → Act) (hassign : Lays F (n - 1 - 1) P ps assign enc a a₁) (hbody : Goes F (n - 1 - 1) P body w.heap.size gs t I Ix Ok a₁)
    (hdone : Ends w.heap.size a S I fun b V => Q .normal b V) (hstop : Stops w.heap.size a Sp Ix fun c b V => c.wpIn F n P Q b V) :
    (Code.rangeFunc g ps assign body).wpIn F n P Q a w := by
  obtain ⟨hro, h1, hFg, eg, hseq⟩ := it
  obtain ⟨hI, hIx, hOk⟩ := hl
  refine wpIn_rangeFunc fun fn hfn => ?_
  rw [hro]
  let R : LoopState → Option Code → Loop := fun st pe => { state := st, pending := pe, fn, tmps := a.tmps, params := ps, assign, body, defers := w.heap.size }
  -- the two blocks, and what is said of them
  let D := w.heap.size
  let two (st : LoopState) (pe : Option Code) (W : World) : Prop := W.heap[D + 1]? = some (.loop (R st pe)) ∧ W.heap[D]? = some (.deferred (some []))
  let W1 := (w.alloc (.deferred (some []))).alloc (.loop (R .ready none))
  have sz1 : W1.heap.size = D + 2 := by simp [W1, D]
  have two1 : two .ready none W1 := by
    refine ⟨?_, (Below.heap_alloc _ _ _ (by simp [D])).trans (World.alloc_heap_new w _)⟩
    have := World.alloc_heap_new (w.alloc (.deferred (some []))) (.loop (R .ready none))
    rwa [World.size_alloc] at this
  have keepTwo : ∀ {st pe W W' row}, two st pe W → W.grownBy W' row → (∀ r, row = some r → D + 2 ≤ r) → two st pe W' := fun {st pe W W' row} h hg hr =>
    ⟨(hg.block _ (Array.getElem?_eq_some_iff.1 h.1).1 (fun e => by have := hr _ e.symm; omega)).trans h.1, (hg.block _ (Array.getElem?_eq_some_iff.1 h.2).1 (fun e => by have := hr _ e.symm; omega)).trans h.2⟩
  -- a turn of the record
  have turn : ∀ {st pe W} (st' pe'), two st pe W → two st' pe' (W.putObj (D + 1) (.loop (R st' pe'))) := fun {st pe W} st' pe' h =>
    ⟨World.putObj_heap_same (Array.getElem?_eq_some_iff.1 h.1).1, (World.putObj_heap_other (by omega)).trans h.2⟩
  have keptTurn : ∀ (W : World) (o : Obj), Kept gs t (D + 2) W (W.putObj (D + 1) o) := fun W o =>
    ⟨(grownBy_putObj' W (D + 1) o).size, fun g hg => World.putObj_heap_other (by have := hgs g hg; simp only [D]; omega), fun k o' h1 h2 _ => (World.putObj_heap_other (by omega)).trans h2⟩
  refine ⟨D + 1, [{ target := .collected D, args := #[] }], W1, { target := .fn (.func f) own, args := #[.func (.yield (D + 1)) #[] #[]] }, W1, f,
    #[.func (.yield (D + 1)) #[] #[]] ++ own, W1, run_enterLoop_outer _ _ _ _ _, by simp only [resolve, hg]; simp [go_sem], ?_, by simp [invoke, go_sem, eg], fun _ => h1, ?_⟩
  · intro f' hf'; simp [Target.leads] at hf'; subst hf'; exact hFg
  refine (hseq (D + 1) (fun pre W => I pre W ∧ two .ready none W) (fun pre W => ∃ c, Ix c pre W ∧ two .done (some c) W) W1 ?_ ⟨?_, ?_⟩ ?_ ?_).mono ?_
  · exact hb0.trans ((((Below.refl _ w).alloc (Nat.le_refl _) _).alloc (by simp) _).mono hb0.size)
  · exact fun s A B row hs hgr hr => ⟨hI s A B row hs.1 hgr (fun r e => ⟨by have := (hr r e).1; simp only [D] at *; omega, (hr r e).2⟩), keepTwo hs.2 hgr (fun r e => by have := (hr r e).1; omega)⟩
  · rintro s A B row ⟨c, hc, h2⟩ hgr hr
    exact ⟨c, hIx c s A B row hc hgr (fun r e => ⟨by have := (hr r e).1; simp only [D] at *; omega, (hr r e).2⟩), keepTwo h2 hgr (fun r e => by have := (hr r e).1; omega)⟩
  · exact ⟨hI.alloc _ (hI.alloc _ h0), two1⟩
  · -- one round
    rintro pre x W ⟨hi, h2⟩ hok
    refine ⟨fn, _, assign, body, run_yield (P := P) (args := enc x) h2.1 (hps x), roundIn_of_wpIn hfn (hassign _ x W _ ⟨_, run_beginRound h2.1 rfl, ?_⟩)⟩
    have hb2 := turn .busy none h2
    have hput : ∀ {W : World} {st pe} (_ : two st pe W), ∃ o, W.heap[D + 1]? = some o ∧ o.isCells = false := fun h => ⟨_, h.1, rfl⟩
    have hlt : w.heap.size < W.heap.size := by have := (Array.getElem?_eq_some_iff.1 h2.1).1; simp only [D] at this; omega
    refine wpIn_mono (hbody _ pre x _ (Nat.lt_of_lt_of_le hlt (grownBy_putObj' W (D + 1) _).size) (hI.putObj _ hi (Nat.le_succ _) h2.1 rfl) ((hOk pre x).putObj (s := ()) _ hok (Nat.le_succ _) h2.1 rfl)) ?_
    have after : ∀ {W3 : World}, Kept gs t w.heap.size (W.putObj (D + 1) (.loop (R .busy none))) W3 → two .busy none W3 := fun {W3} hk =>
      ⟨hk.new _ _ (Nat.le_succ _) hb2.1 (.inr rfl), hk.new _ _ (Nat.le_refl _) hb2.2 (.inr rfl)⟩
    have all : ∀ {W3 : World} (o : Obj), Kept gs t w.heap.size (W.putObj (D + 1) (.loop (R .busy none))) W3 → Kept gs t W1.heap.size W (W3.putObj (D + 1) o) := fun {W3} o hk => by
      rw [sz1]
      exact (keptTurn W _).trans ((hk.mono (by simp only [D]; omega)).trans (keptTurn W3 o))
    rintro e a3 W3 hp
    cases e with
    | normal =>
      have h3 := after hp.1
      exact ⟨_, _, run_endRound (P := P) none h3.1, all _ hp.1, .inl ⟨rfl, hI.putObj _ hp.2 (Nat.le_succ _) h3.1 rfl, turn .ready none h3⟩⟩
    | ret =>
      have h3 := after hp.1
      exact ⟨_, _, run_endRound (P := P) (some .ret) h3.1, all _ hp.1, .inr ⟨rfl, .ret, (hIx _).putObj _ hp.2 (Nat.le_succ _) h3.1 rfl, turn .done _ h3⟩⟩
    | exit id =>
      have h3 := after hp.1
      exact ⟨_, _, run_endRound (P := P) (some (.exit id)) h3.1, all _ hp.1, .inr ⟨rfl, .exit id, (hIx _).putObj _ hp.2 (Nat.le_succ _) h3.1 rfl, turn .done _ h3⟩⟩
    | goto b =>
      have h3 := after hp.1
      exact ⟨_, _, run_endRound (P := P) (some (.goto b)) h3.1, all _ hp.1, .inr ⟨rfl, .goto b, (hIx _).putObj _ hp.2 (Nat.le_succ _) h3.1 rfl, turn .done _ h3⟩⟩
    | panic ch => exact hp.2.elim
    | outgrown => exact hp.2.elim
  · rintro e W2 ⟨⟨v, rfl⟩, (⟨xs, hS, hi, h2⟩ | ⟨pre, hSp, c, hi, h2⟩)⟩
    · exact ⟨none, _, run_endLoop (P := P) h2.1 (by simp [R]), hdone _ xs _ (Nat.le_refl _) hS (hI.putObj _ hi (Nat.le_succ _) h2.1 rfl) ((World.putObj_heap_other (by omega)).trans h2.2)⟩
    · exact ⟨some c, _, run_endLoop (P := P) h2.1 (by simp [R]), hstop _ c pre _ (Nat.le_refl _) hSp ((hIx c).putObj _ hi (Nat.le_succ _) h2.1 rfl) ((World.putObj_heap_other (by omega)).trans h2.2)⟩

end Go.Proofs.Ytemlnkcokeckmaa
namespace Go.Proofs.Ytemlnkcokeckmaa
open Go.RowKit
attribute [local go_sem] Oper.semAt_some
set_option linter.unusedVariables false

/-- who is seen, when one more is, as the last one -/
def cut16 (l : List A2) : List A2 := if l.length = 16 then l.drop 1 else l
def seeL (l : List A2) (a : A2) : List A2 := cut16 (l.filter (fun p => !decide (p = a))) ++ [a]
theorem cut16_len {l : List A2} (h : l.length ≤ 16) : (cut16 l).length ≤ 15 := by
  unfold cut16
  split
  · rw [List.length_drop]; omega
  · omega
theorem seeL_len {l : List A2} (h : l.length ≤ 16) (a : A2) : (seeL l a).length ≤ 16 := by
  have h1 := List.length_filter_le (fun p => !decide (p = a)) l
  have h2 := cut16_len (l := l.filter (fun p => !decide (p = a))) (by omega)
  unfold seeL
  rw [List.length_append]
  simp only [List.length_cons, List.length_nil]
  omega
theorem put_seen {w : World} {p : Nat} {b : Bn} {sv v : Value} {l : List A2} (hp : w.heap[p]? = some (.cells (bnCells b sv) 98 (0, 0))) (hr : w.ownsRow 0 38 2 v l.length (cellsA l)) :
    NdAt (w.setCell ⟨p, 7, none⟩ v) ⟨p, { b with seen := l }, v⟩ := by
  refine ⟨heap_setCell_same w p 7 _ 98 v hp, own_at hr (fun g hg => heap_setCell_other w ⟨p, 7, none⟩ g v (fun e => ?_))⟩
  have e2 : g = p := e
  obtain ⟨C, hC⟩ := own_obj hr hg
  rw [e2] at hC
  exact clash hp hC (by decide)
/-- what see leaves -/
def Saw (w : World) (d : Nd) (l : List A2) : Ending → World → Prop := fun e w' => e = .returned (.tuple #[]) ∧
  ∃ sv', NdAt w' ⟨d.p, { d.b with seen := l }, sv'⟩ ∧ (∀ g, sv'.ownBlock = some g → d.sv.ownBlock = some g ∨ w.heap.size ≤ g) ∧ Keeps (fun k => k = d.p ∨ d.sv.ownBlock = some k) w w'
theorem cut_run {w : World} {v : Value} {l : List A2} (hr : w.ownsRow 0 38 2 v l.length (cellsA l)) (hl : l.length = 16) :
    ∃ g c, v = .slice (some ⟨g, 0, none⟩) 16 c ∧ Calls Try.prog 82 #[.slice (some ⟨g, 0, none⟩) 16 c, .int .i64 0, .int .i64 1] w fun e w' => ∃ v', e = .returned v' ∧ v'.ownBlock = v.ownBlock ∧ w'.ownsRow 0 38 2 v' 15 (cellsA (l.drop 1)) ∧ Keeps (fun k => k = g) w w' := by
  rcases hr.2 with ⟨rfl, h0⟩ | ⟨g, cap, cur, rfl, hb, hg, hn, hm, hsz, htake⟩
  · omega
  · rw [hl] at htake hn
    refine ⟨g, cap, by rw [hl], (delete1 g cap cur l w hg hl hn hm hsz htake).mono ?_⟩
    rintro e w' ⟨rfl, h1, h2⟩
    exact ⟨_, rfl, rfl, h1, h2⟩

set_option maxRecDepth 100000 in
set_option maxHeartbeats 2000000 in
/-- the end of see: one more is laid behind -/
theorem see_end {w : World} {v : Value} {l : List A2} {a : A2} (hr : w.ownsRow 0 38 2 v l.length (cellsA l)) (hl : l.length ≤ 15) :
    ∃ v' w', (∀ ty, (Builtin.append_ #[56, 56] ty #[v, .slice (some ⟨w.heap.size, 0, none⟩) 1 1]).run Try.prog (w.alloc (.cells #[.int .u32 a.1, .int .i64 a.2] 38)) = .ok v' w') ∧ (∃ A n c, v' = .slice A n c) ∧
      w'.ownsRow 0 38 2 v' (l ++ [a]).length (cellsA (l ++ [a])) ∧ (∀ g, v'.ownBlock = some g → v.ownBlock = some g ∨ w.heap.size ≤ g) ∧ Keeps (fun k => v.ownBlock = some k) w w' := by
  obtain ⟨i0, hi0, hz0, hz1, hz2⟩ := info_parts info38
  have h1 : (w.alloc (.cells #[.int .u32 a.1, .int .i64 a.2] 38)).ownsRow 0 38 2 v l.length (cellsA l) := hr.alloc _
  have hc : ∀ j u, (cellsA [a])[j]? = some u → (w.alloc (.cells #[.int .u32 a.1, .int .i64 a.2] 38)).cell? ((⟨w.heap.size, 0, none⟩ : Addr).add j) = some u := by
    intro j u hj
    rw [add_spot, Nat.zero_add, (cells_of (World.alloc_heap_new w _) j).1]
    simpa [cellsA] using hj
  have hrun := fun ty => run_append_own_at (P := Try.prog) (w.alloc (.cells #[.int .u32 a.1, .int .i64 a.2] 38)) 0 56 ty 38 i0 (.agg #[.int .u32 0, .int .i64 0]) 2 16 Try.underlying56 hi0 hz0 hz1 hz2 rfl (by decide) v l.length (cellsA l) h1 ⟨w.heap.size, 0, none⟩ 1 1 (cellsA [a]) rfl hc (cellsA_one _) (by unfold maxLen; omega) (by omega) (Nat.zero_le _)
  obtain ⟨v', w', r0, r1, r2, r3, r4⟩ := hrun 56
  refine ⟨v', w', fun ty => ?_, ?_, ?_, ?_, ?_⟩
  · rw [← r0]; rfl
  · obtain ⟨A, m, c, e⟩ := own_slice r1
    exact ⟨A, m, c, e⟩
  · rw [List.length_append, cellsA_append]; exact r1
  · intro g hg
    rcases r4 with e | e
    · exact .inl (by rw [← e]; exact hg)
    · rw [e] at hg
      simp at hg
      exact .inr (by omega)
  · exact ((Keeps.refl _ w).alloc _).trans (Keeps.grown r2 (fun g hg => hg))
end Go.Proofs.Ytemlnkcokeckmaa
namespace Go.Proofs.Ytemlnkcokeckmaa
open Go.RowKit
attribute [local go_sem] Oper.semAt_some
set_option linter.unusedVariables false

theorem own_slice2 {w : World} {base : Nat} {e : TypeId} {k : Nat} {v : Value} {n : Nat} {xs : List Value} (h : w.ownsRow base e k v n xs) : ∃ A c, v = .slice A n c := by
  rcases h.2 with ⟨rfl, rfl⟩ | ⟨g, cap, cur, rfl, _⟩
  · exact ⟨_, _, rfl⟩
  · exact ⟨_, _, rfl⟩
theorem tests50 {V : World} {cb : Nat} {t : A2} {v : Value} (c0 : V.cell? ⟨cb, 0, none⟩ = some (.int .u32 t.1)) (c1 : V.cell? ⟨cb, 1, none⟩ = some (.int .i64 t.2)) (hv : v.ownBlock ≠ some cb) :
    TestsA 81 #[.pointer (some ⟨cb, 0, none⟩)] (fun a => decide (a = t)) (fun k => v.ownBlock = some k) V := by
  intro a W hW
  have hcl := World.block_lt_of_cell? V _ c0
  exact same_any cb t a W ((World.cell?_of_block (hW.block cb hcl hv)).trans c0) ((World.cell?_of_block (hW.block cb hcl hv)).trans c1)

set_option maxRecDepth 100000 in
set_option maxHeartbeats 4000000 in
/-- the last part of see: the row is l, cut by now -/
theorem see_tail {w V : World} {d : Nd} {p : Nat} {b : Bn} {v : Value} {l : List A2} {a : A2} {K : World → Prop} (h : NdAt V ⟨p, { b with seen := l }, v⟩) (hl : l.length ≤ 15) :
    ∃ v' W', (∀ ty, (Builtin.append_ #[56, 56] ty #[v, .slice (some ⟨V.heap.size, 0, none⟩) 1 1]).run Try.prog (V.alloc (.cells #[.int .u32 a.1, .int .i64 a.2] 38)) = .ok v' W') ∧ (∃ A n c, v' = .slice A n c) ∧ W'.cell? ⟨p, 7, none⟩ = some v ∧ W'.frozen? ⟨p, 7, none⟩ = false ∧
      NdAt (W'.setCell ⟨p, 7, none⟩ v') ⟨p, { b with seen := l ++ [a] }, v'⟩ ∧ (∀ g, v'.ownBlock = some g → v.ownBlock = some g ∨ V.heap.size ≤ g) ∧ Keeps (fun k => k = p ∨ v.ownBlock = some k) V (W'.setCell ⟨p, 7, none⟩ v') := by
  obtain ⟨v', W', h1, h2, h3, h4, h5⟩ := see_end (a := a) h.row hl
  have hp : W'.heap[p]? = some (.cells (bnCells { b with seen := l } v) 98 (0, 0)) := (h5.block p h.lt (fun e => by
    obtain ⟨C, hC⟩ := own_obj h.row e
    exact clash h.own hC (by decide))).trans h.own
  refine ⟨v', W', h1, h2, (cells_of hp 7).1, (cells_of hp 7).2, put_seen (b := { b with seen := l }) hp h3, h4, (h5.mono (fun k _ e => Or.inr e)).set p 7 v' (.inl rfl)⟩

set_option maxRecDepth 100000 in
set_option maxHeartbeats 4000000 in
theorem see_any (d : Nd) (to : A2) (w : World) (h : NdAt w d) (hs : d.b.seen.length ≤ 16) :
    Calls Try.prog 45 #[ptr d.p, adr to] w (Saw w d (seeL d.b.seen to)) := by
  have c7 := h.cells.2.1
  have f7 := h.cells.2.2 7
  have hlt := h.lt
  have H := Lib.hid h
  have hb0 : Below w.heap.size w (w.alloc (.cells #[.int .u32 to.1, .int .i64 to.2] 38)) := (Below.refl _ _).alloc (Nat.le_refl _) _
  have hV0 : NdAt (w.alloc (.cells #[.int .u32 to.1, .int .i64 to.2] 38)) d := h.kept (hb0.block _ hlt) (fun g hg => hb0.block g (h.rowlt hg))
  have hD := deleteA w.heap.size (fun a => decide (a = to)) d.sv d.b.seen _ hV0.row (by omega) (tests50 (by go_simp) (by go_simp) (fun e => by have := h.rowlt e; omega))
  obtain ⟨A0, m0, cc0, hsv⟩ := own_slice h.row
  have HSV := Lib.hid hsv
  have HV0 := Lib.hid hV0
  have HL := Lib.hid hs
  have HS2 : Hid (seeL d.b.seen to = cut16 (d.b.seen.filter (fun p => !decide (p = to))) ++ [to]) := Lib.hid rfl
  have HFL : Hid ((d.b.seen.filter (fun p => !decide (p = to))).length ≤ 16) := Lib.hid (by have := List.length_filter_le (fun p => !decide (p = to)) d.b.seen; omega)
  clear h hs hV0 hsv hb0
  unfold ptr adr
  generalize d.b.seen.filter (fun p => !decide (p = to)) = l1 at *
  go_enter Try.func45, Try.ntmps45
  go_wp2_with fail
  refine hD.mono ?_
  rintro e w1 ⟨v1, rfl, h1, h2, h3⟩
  obtain ⟨A1, cc1, rfl⟩ := own_slice2 h2
  have hne : ∀ k, d.sv.ownBlock = some k → k ≠ d.p := fun k hk e => by
    obtain ⟨C, hC⟩ := own_obj H.out.row hk
    rw [e] at hC
    exact clash H.out.own hC (by decide)
  have hp1 : w1.heap[d.p]? = some (.cells (bnCells d.b d.sv) 98 (0, 0)) := (h3.block d.p (by simp; omega) (fun e => hne _ e rfl)).trans HV0.out.own
  have d7 : w1.cell? ⟨d.p, 7, none⟩ = some d.sv := (cells_of hp1 7).1
  have g7 := (cells_of hp1 7).2
  have b0 : w1.cell? ⟨w.heap.size, 0, none⟩ = some (.int .u32 to.1) := (World.cell?_of_block (h3.block w.heap.size (by simp) (fun e => by have := H.out.rowlt e; omega))).trans (by go_simp)
  have b1 : w1.cell? ⟨w.heap.size, 1, none⟩ = some (.int .i64 to.2) := (World.cell?_of_block (h3.block w.heap.size (by simp) (fun e => by have := H.out.rowlt e; omega))).trans (by go_simp)
  have hk1 : Keeps (fun k => k = d.p ∨ d.sv.ownBlock = some k) w (w1.setCell ⟨d.p, 7, none⟩ (.slice A1 l1.length cc1)) := (((Keeps.refl _ w).alloc _).trans (h3.mono (fun k _ e => Or.inr e))).set d.p 7 _ (.inl rfl)
  have hN1 := put_seen (b := d.b) (sv := d.sv) hp1 h2
  have HN1 := Lib.hid hN1; have HK1 := Lib.hid hk1; have H1 := Lib.hid h1
  have e7 : (w1.setCell ⟨d.p, 7, none⟩ (.slice A1 l1.length cc1)).cell? ⟨d.p, 7, none⟩ = some (.slice A1 l1.length cc1) := (cells_of hN1.own 7).1
  have k7 := (cells_of hN1.own 7).2
  have x0 : (w1.setCell ⟨d.p, 7, none⟩ (.slice A1 l1.length cc1)).cell? ⟨w.heap.size, 0, none⟩ = some (.int .u32 to.1) := (World.cell?_of_block (heap_setCell_other _ ⟨d.p, 7, none⟩ w.heap.size _ (fun e => by have e2 : w.heap.size = d.p := e; omega))).trans b0
  have x1 : (w1.setCell ⟨d.p, 7, none⟩ (.slice A1 l1.length cc1)).cell? ⟨w.heap.size, 1, none⟩ = some (.int .i64 to.2) := (World.cell?_of_block (heap_setCell_other _ ⟨d.p, 7, none⟩ w.heap.size _ (fun e => by have e2 : w.heap.size = d.p := e; omega))).trans b1
  clear hN1 hk1 h1 h2 h3 hp1 c7 f7 hne
  by_cases h16 : l1.length = 16
  · have HCUT : Hid (cut16 l1 = l1.drop 1) := Lib.hid (if_pos h16)
    have h15 : (l1.drop 1).length ≤ 15 := by rw [List.length_drop]; omega
    have h16z : (l1.length : Int) = 16 := by omega
    obtain ⟨g, cg, hve, hC⟩ := cut_run HN1.out.row h16
    rw [h16] at hve
    cases hve
    rw [h16] at HN1 HK1 e7 k7 x0 x1 H1 hC
    go_wp2_with fail
    have hrl : Hid (w.heap.size ≤ w1.heap.size) := Lib.hid (by have := HK1.out.size; simpa using this)
    generalize w1.setCell ⟨d.p, 7, none⟩ (.slice (some ⟨g, 0, none⟩) 16 cc1) = V0 at *
    refine hC.mono ?_
    rintro e w2 ⟨v2, rfl, q1, q2, q3⟩
    obtain ⟨A2', c2', rfl⟩ := own_slice2 q2
    have hgs : d.sv.ownBlock = some g := by rw [← H1.out]; rfl
    have hgp : g ≠ d.p := fun e => by
      obtain ⟨C, hC⟩ := own_obj H.out.row hgs
      rw [e] at hC
      exact clash H.out.own hC (by decide)
    have hgB : g < w.heap.size := H.out.rowlt hgs
    have hlV : d.p < V0.heap.size := HN1.out.lt
    have hp2 : w2.heap[d.p]? = some (.cells (bnCells { d.b with seen := l1 } (.slice (some ⟨g, 0, none⟩) 16 cc1)) 98 (0, 0)) := (q3.block d.p hlV (fun e => hgp e.symm)).trans HN1.out.own
    have m7 : w2.cell? ⟨d.p, 7, none⟩ = some (.slice (some ⟨g, 0, none⟩) 16 cc1) := (cells_of hp2 7).1
    have n7 := (cells_of hp2 7).2
    have hBV : w.heap.size < V0.heap.size := World.block_lt_of_cell? V0 _ x0
    have z0 := (World.cell?_of_block (a := ⟨w.heap.size, 0, none⟩) (q3.block w.heap.size hBV (fun e => by omega))).trans x0
    have z1 := (World.cell?_of_block (a := ⟨w.heap.size, 1, none⟩) (q3.block w.heap.size hBV (fun e => by omega))).trans x1
    have hN2 := put_seen (b := { d.b with seen := l1 }) (l := l1.drop 1) hp2 (by rw [List.length_drop, h16]; exact q2)
    have hk2 : Keeps (fun k => k = d.p ∨ d.sv.ownBlock = some k) w (w2.setCell ⟨d.p, 7, none⟩ (.slice A2' 15 c2')) := (HK1.out.trans (q3.mono (fun k _ e => Or.inr (by rw [e]; exact hgs)))).set d.p 7 _ (.inl rfl)
    clear e7 k7 x0 x1
    have e7 : (w2.setCell ⟨d.p, 7, none⟩ (.slice A2' 15 c2')).cell? ⟨d.p, 7, none⟩ = some (.slice A2' 15 c2') := (cells_of hN2.own 7).1
    have k7 := (cells_of hN2.own 7).2
    have x0 := (World.cell?_of_block (a := ⟨w.heap.size, 0, none⟩) (heap_setCell_other w2 ⟨d.p, 7, none⟩ w.heap.size (.slice A2' 15 c2') (fun e => by have e2 : w.heap.size = d.p := e; omega))).trans z0
    have x1 := (World.cell?_of_block (a := ⟨w.heap.size, 1, none⟩) (heap_setCell_other w2 ⟨d.p, 7, none⟩ w.heap.size (.slice A2' 15 c2') (fun e => by have e2 : w.heap.size = d.p := e; omega))).trans z1
    have HN2 := Lib.hid hN2; have HK2 := Lib.hid hk2; have H2 : Hid (Value.ownBlock (.slice A2' 15 c2') = d.sv.ownBlock) := Lib.hid (q1.trans H1.out)
    clear hN2 hk2 q1 q2 q3 hp2 z0 z1
    go_wp2_with fail
    generalize w2.setCell ⟨d.p, 7, none⟩ (.slice A2' 15 c2') = V at *
    obtain ⟨v9, W9, t1, ⟨A9, n9, c9, rfl⟩, t3, t4, t5, t6, t7⟩ := see_tail (w := w) (d := d) (a := to) (K := fun _ => True) (V := V.drew) (p := d.p) (b := d.b) (v := .slice A2' 15 c2') (l := l1.drop 1) (HN2.out.kept (w' := V.drew) rfl (fun _ _ => rfl)) h15
    have T1 := Lib.hid t1
    have HEND : Hid (Saw w d (l1.drop 1 ++ [to]) (.returned (.tuple #[])) (W9.setCell ⟨d.p, 7, none⟩ (.slice A9 n9 c9))) := Lib.hid ⟨rfl, _, t5, fun g hg => ?hg, ?hk⟩
    case hg =>
      rcases t6 g hg with e | e
      · exact .inl ((fun g e => (H2.out ▸ e)) g e)
      · exact .inr (Nat.le_trans HK2.out.size e)
    case hk => exact (HK2.out.trans (.all (below_drw (Below.refl _ V) 1))).then t7 (fun i hi e => e.imp id ((fun g e => (H2.out ▸ e)) i))
    clear t1 t5 t6 t7
    have e8 : V.drew.cell? ⟨d.p, 7, none⟩ = some (.slice A2' 15 c2') := e7
    have y0 : V.drew.cell? ⟨w.heap.size, 0, none⟩ = some (.int .u32 to.1) := x0
    have y1 : V.drew.cell? ⟨w.heap.size, 1, none⟩ = some (.int .i64 to.2) := x1
    have y2 : d.p < V.heap.size := Nat.lt_of_lt_of_le hlt HK2.out.size
    have y3 : w.heap.size < V.heap.size := World.block_lt_of_cell? V _ x0
    go_region_law (refine step_run rfl (.tmp 31) (.tmp 33) 56 rfl (v1 := .slice A2' 15 c2') (v2 := .slice (some ⟨V.heap.size, 0, none⟩) 1 1) (v := .slice A9 n9 c9) (W' := W9) rfl rfl (T1.out 56) ?_)
    all_goals
      go_wp2
      go_end0
      rw [HS2.out, HCUT.out]
      exact HEND.out

  · have HCUT : Hid (cut16 l1 = l1) := Lib.hid (if_neg h16)
    have h15 : l1.length ≤ 15 := by have := HFL.out; omega
    have h16z : ¬ (l1.length : Int) = 16 := by omega
    go_wp2_with fail
    generalize w1.setCell ⟨d.p, 7, none⟩ (.slice A1 l1.length cc1) = V at *
    obtain ⟨v9, W9, t1, ⟨A9, n9, c9, rfl⟩, t3, t4, t5, t6, t7⟩ := see_tail (w := w) (d := d) (a := to) (K := fun _ => True) (V := V.drew) (p := d.p) (b := d.b) (v := .slice A1 l1.length cc1) (l := l1) (HN1.out.kept (w' := V.drew) rfl (fun _ _ => rfl)) h15
    have T1 := Lib.hid t1
    have HEND : Hid (Saw w d (l1 ++ [to]) (.returned (.tuple #[])) (W9.setCell ⟨d.p, 7, none⟩ (.slice A9 n9 c9))) := Lib.hid ⟨rfl, _, t5, fun g hg => ?hg, ?hk⟩
    case hg =>
      rcases t6 g hg with e | e
      · exact .inl ((fun g e => (H1.out ▸ e)) g e)
      · exact .inr (Nat.le_trans HK1.out.size e)
    case hk => exact (HK1.out.trans (.all (below_drw (Below.refl _ V) 1))).then t7 (fun i hi e => e.imp id ((fun g e => (H1.out ▸ e)) i))
    clear t1 t5 t6 t7
    have e8 : V.drew.cell? ⟨d.p, 7, none⟩ = some (.slice A1 l1.length cc1) := e7
    have y0 : V.drew.cell? ⟨w.heap.size, 0, none⟩ = some (.int .u32 to.1) := x0
    have y1 : V.drew.cell? ⟨w.heap.size, 1, none⟩ = some (.int .i64 to.2) := x1
    have y2 : d.p < V.heap.size := Nat.lt_of_lt_of_le hlt HK1.out.size
    have y3 : w.heap.size < V.heap.size := World.block_lt_of_cell? V _ x0
    go_region_law (refine step_run rfl (.tmp 31) (.tmp 33) 56 rfl (v1 := .slice A1 l1.length cc1) (v2 := .slice (some ⟨V.heap.size, 0, none⟩) 1 1) (v := .slice A9 n9 c9) (W' := W9) rfl rfl (T1.out 56) ?_)
    all_goals
      go_wp2
      go_end0
      rw [HS2.out, HCUT.out]
      exact HEND.out
end Go.Proofs.Ytemlnkcokeckmaa
namespace Go.Proofs.Ytemlnkcokeckmaa
open Go.RowKit
attribute [local go_sem] Oper.semAt_some
set_option linter.unusedVariables false

/-- is what comes from another one let in by a binding, where the box filters so? -/
def letsB (b : Bn) (f : A2) (m : Int) : Bool := b.asked || b.seen.any (fun a => decide (partA a m = partA f m))
theorem tests53 {V : World} {c1 c2 : Nat} {f : A2} {m : Int} (h1 : V.cell? ⟨c1, 0, none⟩ = some (.int .i64 m)) (h2 : V.cell? ⟨c2, 0, none⟩ = some (.int .u32 f.1)) (h3 : V.cell? ⟨c2, 1, none⟩ = some (.int .i64 f.2)) :
    TestsA 84 #[.pointer (some ⟨c1, 0, none⟩), .pointer (some ⟨c2, 0, none⟩)] (fun a => decide (partA a m = partA f m)) (fun _ => False) V := by
  intro a W hW
  have l1 := World.block_lt_of_cell? V _ h1
  have l2 := World.block_lt_of_cell? V _ h2
  exact like_any c1 c2 m f a W ((World.cell?_of_block (hW.block c1 l1 id)).trans h1) ((World.cell?_of_block (hW.block c2 l2 id)).trans h2) ((World.cell?_of_block (hW.block c2 l2 id)).trans h3)

set_option maxHeartbeats 2000000 in
theorem lets_any (d : Nd) (f : A2) (m : Int) (w : World) (h : NdAt w d) (hs : d.b.seen.length ≤ 16) :
    Calls Try.prog 51 #[ptr d.p, adr f, .int .i64 m] w fun e w' => e = .returned (.bool (letsB d.b f m)) ∧ Below w.heap.size w w' := by
  have c6 := h.cells.1.2.2.2.2.2.2
  have c7 := h.cells.2.1
  have hlt := h.lt
  have hb0 : Below w.heap.size w ((w.alloc (.cells #[.int .u32 f.1, .int .i64 f.2] 38)).alloc (.cells #[.int .i64 m] 3)) := ((Below.refl _ _).alloc (Nat.le_refl _) _).alloc (by simp) _
  have hV0 : NdAt ((w.alloc (.cells #[.int .u32 f.1, .int .i64 f.2] 38)).alloc (.cells #[.int .i64 m] 3)) d := h.kept (hb0.block _ hlt) (fun g hg => hb0.block g (h.rowlt hg))
  have hC := contains_any (w.heap.size + 1) w.heap.size (fun a => decide (partA a m = partA f m)) d.sv d.b.seen (fun _ => False) _ hV0.row (by omega) (tests53 (by go_simp) (by go_simp) (by go_simp))
  have HB0 := Lib.hid hb0
  unfold ptr adr
  cases hk : d.b.asked with
  | true =>
    rw [hk] at c6
    have HR : Hid (letsB d.b f m = true) := Lib.hid (by simp [letsB, hk])
    clear h hs hb0 hV0 hC hk
    go_enter Try.func51, Try.ntmps51
    go_wp2
    go_ret
    exact ⟨ret_b HR.out.symm, HB0.out⟩
  | false =>
    rw [hk] at c6
    have HR : Hid (letsB d.b f m = d.b.seen.any (fun a => decide (partA a m = partA f m))) := Lib.hid (by simp [letsB, hk])
    generalize d.b.seen.any (fun a => decide (partA a m = partA f m)) = r at *
    clear h hs hb0 hV0 hk
    go_enter Try.func51, Try.ntmps51
    go_wp2_with fail
    refine hC.mono ?_
    rintro e w1 ⟨rfl, hb1⟩
    have HB1 := Lib.hid hb1; clear hb1
    go_wp2
    go_ret
    exact ⟨ret_b HR.out.symm, HB0.out.trans (HB1.out.mono (by simp; omega))⟩
end Go.Proofs.Ytemlnkcokeckmaa
namespace Go.Proofs.Ytemlnkcokeckmaa
open Go.RowKit Go.Shelf
attribute [local go_sem] Oper.semAt_some
set_option linter.unusedVariables false

/-- these blocks are as they were -/
def SameAt (gs : List Nat) (W W' : World) : Prop := ∀ g ∈ gs, W'.heap[g]? = W.heap[g]?
theorem SameAt.refl (gs : List Nat) (W : World) : SameAt gs W W := fun _ _ => rfl
theorem SameAt.t {gs : List Nat} {A B C : World} (h : SameAt gs A B) (k : SameAt gs B C) : SameAt gs A C := fun g hg => (k g hg).trans (h g hg)
theorem SameAt.cell {gs : List Nat} {W W' : World} (h : SameAt gs W W') {a : Addr} (ha : a.block ∈ gs) : W'.cell? a = W.cell? a := World.cell?_of_block (w := W) (h a.block ha)
theorem grown_drw (W : World) (q : Nat) : W.grownBy (W.drewN q) none := ⟨rfl, rfl, rfl, Nat.le_refl _, fun _ _ _ => rfl⟩

def inF (a : A2) (d : Nd) : Bool := decide (d.b.inn = a)
def encN (z : Nd) : Array Value := #[.pointer (some ⟨z.p, 0, none⟩)]
def OkN (L : List Nd) (a : A2) (pre : List Nd) (z : Nd) (_ : World) : Prop := ∃ rest, L.filter (inF a) = pre ++ z :: rest
theorem ok_at {L : List Nd} {a : A2} {k : Nat} {d : Nd} (h : L[k]? = some d) (hf : inF a d = true) (W : World) : OkN L a ((L.take k).filter (inF a)) d W := by
  have hk := (List.getElem?_eq_some_iff.1 h).1
  have e : L = L.take k ++ d :: L.drop (k + 1) := by
    have h1 := List.take_append_drop k L
    rw [List.drop_eq_getElem_cons hk, (List.getElem?_eq_some_iff.1 h).2] at h1
    exact h1.symm
  refine ⟨(L.drop (k + 1)).filter (inF a), ?_⟩
  conv => lhs; rw [e]
  rw [List.filter_append, List.filter_cons_of_pos hf]
theorem take_snoc {L : List Nd} {a : A2} {k : Nat} {d : Nd} (h : L[k]? = some d) (hf : inF a d = true) : (L.take (k + 1)).filter (inF a) = (L.take k).filter (inF a) ++ [d] := by
  rw [List.take_add_one, h, List.filter_append]; simp [hf]
theorem take_skip {L : List Nd} {a : A2} {k : Nat} {d : Nd} (h : L[k]? = some d) (hf : inF a d = false) : (L.take (k + 1)).filter (inF a) = (L.take k).filter (inF a) := by
  rw [List.take_add_one, h, List.filter_append]; simp [hf]

theorem said_one {gs : List Nat} {B : Nat} {V : World} {J Jx : List Nd → World → Prop} {zs : List Nd} {e : Ending} {W : World} (h : Kept gs false B V W ∧ ((e = .returned (.bool true) ∧ J zs W) ∨ (e = .returned (.bool false) ∧ Jx zs W))) :
    ∃ r : Bool, e = .returned (.bool r) ∧ Kept gs false B V W ∧ (if r = true then J zs W else Jx zs W) := by
  obtain ⟨hk, ⟨rfl, h⟩ | ⟨rfl, h⟩⟩ := h
  · exact ⟨true, rfl, hk, h⟩
  · exact ⟨false, rfl, hk, h⟩
set_option maxRecDepth 100000 in
set_option maxHeartbeats 4000000 in
theorem of1_in (n : Nat) (hn : 1 ≤ n) (l b2 b3 B0 nb : Nat) (gs : List Nat) (x : Bx) (now : Int) (kv : Value) (L : List Nd) (a : A2) (J Jx : List Nd → World → Prop)
    (hY : ∀ pre z W, J pre W → OkN L a pre z W → YieldAt Fence.wide (n - 1) Try.prog l (encN z) W fun e W' => Kept gs false B0 W W' ∧
      ((e = .returned (.bool true) ∧ J (pre ++ [z]) W') ∨ (e = .returned (.bool false) ∧ Jx (pre ++ [z]) W')))
    (hJ : ∀ pre W q, J pre W → J pre (W.drewN q))
    (W : World) (hN : Na W nb x now kv L) (hbig : L.length ≤ 1000) (hc2 : W.cell? ⟨b2, 0, none⟩ = some (.pointer (some ⟨nb, 0, none⟩))) (hc3 : W.cell? ⟨b3, 0, none⟩ = some (.int .u32 a.1)) (hc4 : W.cell? ⟨b3, 1, none⟩ = some (.int .i64 a.2))
    (hB2 : b2 ∈ gs) (hB3 : b3 ∈ gs) (hBn : nb ∈ gs) (hBk : ∀ g, kv.ownBlock = some g → g ∈ gs) (hBd : ∀ d ∈ L, d.p ∈ gs) (h0 : J [] W) :
    CallsIn Fence.wide n Try.prog 101 #[.func (.yield l) #[] #[], .pointer (some ⟨b2, 0, none⟩), .pointer (some ⟨b3, 0, none⟩)] W fun e W' => (∃ v, e = .returned v) ∧
      ((∃ ys, ys = L.filter (inF a) ∧ J ys W') ∨ (∃ pre, (∃ rest, L.filter (inF a) = pre ++ rest) ∧ Jx pre W')) := by
  refine callsIn_of_wp Try.func101 rfl trivial ?_ rfl
  simp only [Try.ntmps101, List.size_toArray, List.length_cons, List.length_nil, Nat.reduceAdd, Nat.reduceSub, Array.replicate_succ, Array.replicate_zero, List.push_toArray, List.append_toArray, List.nil_append, List.cons_append]
  have c7 := hN.cells.2.1
  have HY := Lib.hid hY; have HJ := Lib.hid hJ; have HN := Lib.hid hN; have HBD := Lib.hid hBd; have HBK := Lib.hid hBk
  have H3 := Lib.hid hc3; have H4 := Lib.hid hc4
  have hm := noGuard38
  clear hY hJ hN hBd hBk hc3 hc4
  rcases HN.out.rowAt with ⟨rfl, rfl⟩ | ⟨g, cap, cur, rfl, hg, hnc, hm2, hcs, hcell⟩
  · gi_wp2
    gi_loopw [5, 11] (fun _ i wr => i = .int .i64 0 ∧ wr = W) (fun _ _ _ => 0)
    case atStart => exact ⟨rfl, rfl⟩
    case round =>
      obtain ⟨rfl, rfl⟩ := hrel
      gi_wp2
      refine bodyPost_end (results_none rfl _ _ _) rfl ?_
      exact ⟨⟨_, rfl⟩, .inl ⟨_, rfl, h0⟩⟩
  · have HCELL : Hid (∀ (j : Nat) (d : Nd), L[j]? = some d → W.cell? ⟨g, j, none⟩ = some (.pointer (some ⟨d.p, 0, none⟩))) := Lib.hid (fun j d hj => by rw [(cells_of hg j).1]; exact hcell j d hj)
    have hgs : g ∈ gs := HBK.out g rfl
    clear hcell
    gi_wp2
    gi_loopw [5, 11] (fun _ i wr => ∃ k : Nat, k ≤ L.length ∧ i = .int .i64 (k : Int) ∧ J ((L.take k).filter (inF a)) wr ∧ SameAt gs W wr) (fun _ i _ => L.length - (intOf i).toNat)
    case atStart => exact ⟨0, Nat.zero_le _, rfl, h0, SameAt.refl _ _⟩
    case round =>
      obtain ⟨k, hk, rfl, hJk, hS⟩ := hrel
      by_cases hlt : k < L.length
      · have hltz : (k : Int) < (L.length : Int) := by omega
        obtain ⟨d, hd⟩ : ∃ d, L[k]? = some d := ⟨_, List.getElem?_eq_getElem hlt⟩
        have hdm := List.mem_of_getElem? hd
        have k0 := (hS.cell (a := ⟨g, k, none⟩) hgs).trans (HCELL.out k d hd)
        have n0 := (hS.cell (a := ⟨d.p, 0, none⟩) (HBD.out d hdm)).trans (HN.out.nds d hdm).cells.1.1
        have n1 := (hS.cell (a := ⟨d.p, 1, none⟩) (HBD.out d hdm)).trans (HN.out.nds d hdm).cells.1.2.1
        have a0 := (hS.cell (a := ⟨b3, 0, none⟩) hB3).trans H3.out
        have a1 := (hS.cell (a := ⟨b3, 1, none⟩) hB3).trans H4.out
        have HJK := Lib.hid hJk; have HS := Lib.hid hS; have HD := Lib.hid hd
        clear hJk hS hd hdm
        have hE := fun W => run_eqA d.b.inn a W
        cases hf : inF a d with
        | false =>
          have hff : decide (d.b.inn = a) = false := hf
          have HF := Lib.hid hf
          rw [hff] at hE
          clear hf hff
          gi_wp2
          refine (wpIn_wide (n := n)).2 ?_
          go_quiet (fail)
          gi_wp2
          go_roundw
          case rel => exact ⟨k + 1, by omega, by go_num, by rw [take_skip HD.out HF.out]; exact HJ.out _ _ _ HJK.out, HS.out⟩
          case measure => simp [intOf]; omega
        | true =>
          have hff : decide (d.b.inn = a) = true := hf
          have HF := Lib.hid hf
          rw [hff] at hE
          clear hf hff
          obtain ⟨fn, tmps, assign, body, hy, hR⟩ := HY.out ((L.take k).filter (inF a)) d wr.drew (HJ.out _ _ 1 HJK.out) (ok_at HD.out HF.out _)
          dsimp only [encN] at hy hR
          gi_wp2
          first | (gi_region_with (refine hR.mono ?_; rintro e W3 hr3; obtain ⟨r, rfl, hr⟩ := said_one hr3; have HR3 := Lib.hid hr; clear hr hr3)) | fail
          all_goals
            cases r with
            | true =>
              gi_wp2
              go_roundw
              case rel => exact ⟨k + 1, by omega, by go_num, by rw [take_snoc HD.out HF.out]; exact HR3.out.2, HS.out.t (fun g hg => (HR3.out.1.same g hg))⟩
              case measure => simp [intOf]; omega
            | false =>
              gi_wp2
              refine bodyPost_ret (results_none rfl _ _ _) rfl ?_
              refine ⟨⟨_, rfl⟩, .inr ⟨_, ?_, HR3.out.2⟩⟩
              obtain ⟨rest, hr⟩ := ok_at HD.out HF.out W
              exact ⟨rest, by rw [hr]; simp⟩
      · obtain rfl : k = L.length := by omega
        have hltz : ¬ (L.length : Int) < (L.length : Int) := by omega
        rw [List.take_length] at hJk
        gi_wp2
        refine bodyPost_end (results_none rfl _ _ _) rfl ?_
        first | exact ⟨⟨_, rfl⟩, .inl ⟨_, rfl, hJk⟩⟩ | exact ⟨⟨_, rfl⟩, .inl hJk⟩

/-- the iterator of nat's of, over its boxes -/
theorem of1_tells (n : Nat) (hn : 1 ≤ n) (b2 b3 nb : Nat) (gs : List Nat) (x : Bx) (now : Int) (kv : Value) (L : List Nd) (a : A2) (w : World) (hlt : ∀ g ∈ gs, g < w.heap.size) (hN : Na w nb x now kv L) (hbig : L.length ≤ 1000)
    (hc2 : w.cell? ⟨b2, 0, none⟩ = some (.pointer (some ⟨nb, 0, none⟩))) (hc3 : w.cell? ⟨b3, 0, none⟩ = some (.int .u32 a.1)) (hc4 : w.cell? ⟨b3, 1, none⟩ = some (.int .i64 a.2))
    (hB2 : b2 ∈ gs) (hB3 : b3 ∈ gs) (hBn : nb ∈ gs) (hBk : ∀ g, kv.ownBlock = some g → g ∈ gs) (hBd : ∀ d ∈ L, d.p ∈ gs) :
    Tells Fence.wide n Try.prog 101 #[.pointer (some ⟨b2, 0, none⟩), .pointer (some ⟨b3, 0, none⟩)] encN (OkN L a) gs false (fun ys => ys = L.filter (inF a)) (fun pre => ∃ rest, L.filter (inF a) = pre ++ rest) w := fun l J Jx W hW hown h0 hY =>
  of1_in n hn l b2 b3 W.heap.size nb gs x now kv L a J Jx hY (fun pre X q hj => hown.1 pre X _ none hj (grown_drw X q) (fun r e => by cases e)) W (hN.below (hW.mono (Nat.le_refl _))) hbig
    ((hW.cell (p := ⟨b2, 0, none⟩) (hlt b2 hB2)).trans hc2) ((hW.cell (p := ⟨b3, 0, none⟩) (hlt b3 hB3)).trans hc3) ((hW.cell (p := ⟨b3, 1, none⟩) (hlt b3 hB3)).trans hc4) hB2 hB3 hBn hBk hBd h0
set_option maxHeartbeats 400000 in
/-- of hands back a closure over two boxes: the box, and whose bindings -/
theorem of_any (nb : Nat) (a : A2) (w : World) : Calls Try.prog 78 #[.pointer (some ⟨nb, 0, none⟩), adr a] w fun e w' => e = .returned (.func (.func 101) #[] #[.pointer (some ⟨w.heap.size, 0, none⟩), .pointer (some ⟨w.heap.size + 1, 0, none⟩)]) ∧ w' = (w.alloc (.cells #[.pointer (some ⟨nb, 0, none⟩)] 27)).alloc (.cells #[.int .u32 a.1, .int .i64 a.2] 38) := by
  unfold adr
  go_enter Try.func78, Try.ntmps78
  go_wp2
  go_ret
  exact ⟨rfl, rfl⟩
end Go.Proofs.Ytemlnkcokeckmaa
