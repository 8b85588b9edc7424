/-
  Contracts of net's add, Send, Copy and At, and of the document's own put, Send, Copy and At. Conditions: the net lies in memory; its last number is not near the greatest one; at most 1000 datagrams, whose bytes lie in memory.
-/
import Derived.Test.YthfdnidcmkjmoaaNy
import Derived.Deep.RegionLaw
import Derived.Deep.Cut
namespace Go.Proofs.Ythfdnidcmkjmoaa
open Go.RowKit
attribute [local go_sem] Oper.semAt_some
set_option linter.unusedVariables false

/-- an append of which the run is known, as one step of a region that draws its order -/
theorem step_run {W : World} {ops : Array Oper} {o : Oper} {a : Act} {K : Act → World → Prop} {Q : Exit → Act → World → Prop} {E : Prop} (hf : o.guard = none) (s x : Operand) (t : TypeId)
    (ho : o.op = .call { callee := .builtin .append, args := #[s, x], argTypes := #[t, t] }) {v1 v2 v : Value} {W' : World} (hs : a.eval s = v1) (hx : a.eval x = v2)
    (hrun : (Builtin.append_ #[t, t] o.type #[v1, v2]).run Try.prog W = .ok v W') (h : K (a.put o.dst v) W') :
    if Region.wanted o (yielded ops a.tmps) = true then Oper.wp Try.prog o a W K Q else E := by
  rw [if_pos (by simp [Region.wanted, hf])]
  unfold Oper.wp
  simp [execOp, ho, resolve, invoke, builtin, hs, hx, hrun, Result.andThen]
  exact h
section
variable {w : World} {T nb : Nat} {last : Int} {kv : Value} {L : List Md}
/-- what a datagram more leaves -/
def PutR (w : World) (T nb : Nat) (last : Int) (kv : Value) (L : List Md) (m : Md) : Ending → World → Prop := fun e w' =>
  if L.length < 300 then ∃ kv', e = .returned (twoV (last + 1, 0)) ∧ Na w' T nb (last + 1) kv' (L ++ [m]) ∧ (∀ k, FootN nb kv' (L ++ [m]) k → FootN nb kv L k ∨ w.heap.size ≤ k ∨ m.v.ownBlock = some k) ∧ Keeps (Top nb kv) w w'
  else e = .returned (twoV (0, 10)) ∧ Below w.heap.size w w'

set_option maxRecDepth 100000 in
set_option maxHeartbeats 4000000 in
theorem add_n (h : Na w T nb last kv L) (x : Int) (m : Md) (hm : MdAt w m) (hno : m.d.no = last + 1) (h0 : -1000 ≤ last) (h1 : last < 4611686018427387904) (hL : L.length ≤ 1000) :
    Calls Try.prog 23 #[.pointer (some ⟨nb, 0, none⟩), .agg (sentC x m.d.f m.d.t m.v)] w (PutR w T nb last kv L m) := by
  have hb0 : Below w.heap.size w (w.alloc (.cells (sentC x m.d.f m.d.t m.v) 43)) := (Below.refl _ w).alloc (Nat.le_refl _) _
  have h2 := h.below hb0
  obtain ⟨A, c, hkv, -⟩ := h.form
  obtain ⟨c0, c1, fr, hl⟩ := h2.cells
  have hlt := h.lt
  have f1 := fr 1; have f0 := fr 0
  by_cases hroom : L.length < 300
  · have hrz : ¬ (300 : Int) ≤ (L.length : Int) := by omega
    have hPR : Hid (PutR w T nb last kv L m = fun e w' => ∃ kv', e = .returned (twoV (last + 1, 0)) ∧ Na w' T nb (last + 1) kv' (L ++ [m]) ∧ (∀ k, FootN nb kv' (L ++ [m]) k → FootN nb kv L k ∨ w.heap.size ≤ k ∨ m.v.ownBlock = some k) ∧ Keeps (Top nb kv) w w') := Lib.hid (by funext e w'; unfold PutR; rw [if_pos hroom])
    -- the number goes up
    have h3 := h.up (last + 1)
    have k1 : Keeps (Top nb kv) w (w.setCell ⟨nb, 1, none⟩ (.int .i64 (last + 1))) := (Keeps.refl _ w).set nb 1 _ (.inl rfl)
    have hb3 : Below (w.setCell ⟨nb, 1, none⟩ (.int .i64 (last + 1))).heap.size (w.setCell ⟨nb, 1, none⟩ (.int .i64 (last + 1))) ((w.setCell ⟨nb, 1, none⟩ (.int .i64 (last + 1))).alloc (.cells (sentC (last + 1) m.d.f m.d.t m.v) 43)) := (Below.refl _ _).alloc (Nat.le_refl _) _
    have h4 := h3.below hb3
    have hm4 : MdAt ((w.setCell ⟨nb, 1, none⟩ (.int .i64 (last + 1))).alloc (.cells (sentC (last + 1) m.d.f m.d.t m.v) 43)) m := (hm.kept (fun g hg => k1.block g (hm.lt hg) (h.ne_top hm hg))).below hb3
    have k4 := k1.alloc (.cells (sentC (last + 1) m.d.f m.d.t m.v) 43)
    have hbox2 := World.alloc_heap_new (w.setCell ⟨nb, 1, none⟩ (.int .i64 (last + 1))) (.cells (sentC (last + 1) m.d.f m.d.t m.v) 43)
    have e3 : (w.setCell ⟨nb, 1, none⟩ (.int .i64 (last + 1))).heap.size = w.heap.size := by simp
    rw [e3] at hbox2
    have HFT : Hid (∀ k, FootN nb kv L k → k < w.heap.size) := Lib.hid (fun k hk => h.foot_lt hk)
    have H4 := Lib.hid h4; have HM4 := Lib.hid hm4; have K4 := Lib.hid k4; have HBX := Lib.hid hbox2
    have z1 := h3.cells.2.1
    have y1 := h4.cells.2.1
    clear h h2 h3 h4 hm hm4 k1 k4 hbox2 hb0 fr hb3 e3
    subst hkv
    have HNO := Lib.hid hno
    clear hno
    unfold sentC at *
    rw [hPR.out]
    clear hPR
    go_enter Try.func23, Try.ntmps23
    go_wp2_with fail
    generalize hV : ((w.setCell ⟨nb, 1, none⟩ (.int .i64 (last + 1))).alloc (.cells #[.int .i64 (last + 1), .int .u32 m.d.f.1, .int .i64 m.d.f.2, .int .u32 m.d.t.1, .int .i64 m.d.t.2, m.v] 43)) = V at *
    have hVs : w.heap.size < V.heap.size := (Array.getElem?_eq_some_iff.1 HBX.out).1
    have hVn : nb < V.heap.size := by omega
    obtain ⟨v9, W9, t1, ⟨A9, n9, c9, rfl⟩, t3, t4, t5⟩ := row_endD (w := V.drew) m (H4.out.drewN 1).row (by omega) (Nat.zero_le _)
    obtain ⟨q1, q2, q3⟩ := na_add (H4.out.drewN 1) (HM4.out.below (below_drw (Below.refl _ V) 1)) t3 t4 t5
    rw [HNO.out] at t1
    unfold sentC at t1
    have T1 := Lib.hid t1
    have hs9 : (W9.setCell ⟨nb, 0, none⟩ (.slice A9 n9 c9)).heap[w.heap.size]? = some (.cells #[.int .i64 (last + 1), .int .u32 m.d.f.1, .int .i64 m.d.f.2, .int .u32 m.d.t.1, .int .i64 m.d.t.2, m.v] 43 (0, 0)) := (q3.block w.heap.size hVs (by
      rintro (e | e)
      · omega
      · have := HFT.out w.heap.size (.inl (.inr e)); omega)).trans HBX.out
    have HEND : Hid (Na (W9.setCell ⟨nb, 0, none⟩ (.slice A9 n9 c9)) T nb (last + 1) (.slice A9 n9 c9) (L ++ [m]) ∧ (∀ k, FootN nb (.slice A9 n9 c9) (L ++ [m]) k → FootN nb (.slice A L.length c) L k ∨ w.heap.size ≤ k ∨ m.v.ownBlock = some k) ∧ Keeps (Top nb (.slice A L.length c)) w (W9.setCell ⟨nb, 0, none⟩ (.slice A9 n9 c9))) :=
      Lib.hid ⟨q1, fun k hk => (q2 k hk).imp id (fun e => e.imp (fun e => Nat.le_trans K4.out.size e) id), (K4.out.trans (.all (below_drw (Below.refl _ V) 1))).trans (q3.mono (fun k _ e => e))⟩
    have s0 := (cells_of hs9 0).1
    have hn9 : W9.heap[nb]? = some (.cells #[.slice A L.length c, .int .i64 (last + 1)] T (0, 0)) := (t5.block nb (by simpa using hVn) (H4.out.drewN 1).ne_row).trans (H4.out.drewN 1).top
    have n0 := (cells_of hn9 0).1; have n1' := (cells_of hn9 1).1; have nf := (cells_of hn9 0).2
    have nl : nb < W9.heap.size := (Array.getElem?_eq_some_iff.1 hn9).1
    have d0 : V.cell? ⟨nb, 0, none⟩ = some (.slice A L.length c) := H4.out.cells.1
    have x0 : V.cell? ⟨w.heap.size, 0, none⟩ = some (.int .i64 (last + 1)) := (cells_of HBX.out 0).1
    have x1 : V.cell? ⟨w.heap.size, 1, none⟩ = some (.int .u32 m.d.f.1) := (cells_of HBX.out 1).1
    have x2 : V.cell? ⟨w.heap.size, 2, none⟩ = some (.int .i64 m.d.f.2) := (cells_of HBX.out 2).1
    have x3 : V.cell? ⟨w.heap.size, 3, none⟩ = some (.int .u32 m.d.t.1) := (cells_of HBX.out 3).1
    have x4 : V.cell? ⟨w.heap.size, 4, none⟩ = some (.int .i64 m.d.t.2) := (cells_of HBX.out 4).1
    have x5 : V.cell? ⟨w.heap.size, 5, none⟩ = some m.v := (cells_of HBX.out 5).1
    simp at s0 n1'
    clear t1 t3 t4 t5 q1 q2 q3 hs9 hn9 hV z1 y1 c0 c1 f0 f1
    go_region_law (refine step_run rfl (.tmp 28) (.tmp 30) 28 rfl (v1 := .slice A L.length c) (v2 := .slice (some ⟨V.heap.size, 0, none⟩) 1 1) (v := .slice A9 n9 c9) (W' := W9) rfl rfl (T1.out 28) ?_)
    all_goals
      go_wp2
      exact ⟨rfl, twoV (last + 1, 0), by simp [results, Try.results23, go_sem, twoV], _, rfl, HEND.out⟩
  · have hrz : (300 : Int) ≤ (L.length : Int) := by omega
    have hPR : Hid (PutR w T nb last kv L m = fun e w' => e = .returned (twoV (0, 10)) ∧ Below w.heap.size w w') := Lib.hid (by funext e w'; unfold PutR; rw [if_neg hroom])
    have HB0 := Lib.hid hb0
    clear h h2 hm hb0 fr hroom
    subst hkv
    unfold sentC at *
    rw [hPR.out]
    clear hPR
    go_enter Try.func23, Try.ntmps23
    go_wp2
    exact ⟨rfl, twoV (0, 10), by simp [results, Try.results23, go_sem, twoV], rfl, HB0.out⟩
/-- what a datagram more leaves, its bytes being copied -/
def RPutR (w : World) (T nb : Nat) (last : Int) (kv : Value) (L : List Md) (f t : A2) (b : List Int) : Ending → World → Prop := fun e w' =>
  if L.length < 300 then ∃ m kv', m.d = ⟨last + 1, f, t, b⟩ ∧ e = .returned (twoV (last + 1, 0)) ∧ Na w' T nb (last + 1) kv' (L ++ [m]) ∧ (∀ k, FootN nb kv' (L ++ [m]) k → FootN nb kv L k ∨ w.heap.size ≤ k) ∧ Keeps (Top nb kv) w w'
  else e = .returned (twoV (0, 10)) ∧ Below w.heap.size w w'

set_option maxRecDepth 100000 in
set_option maxHeartbeats 4000000 in
theorem put_n (h : Na w T nb last kv L) (x : Int) (f t : A2) (A1 : Option Addr) (n1 c1' : Nat) (b : List Int) (hb : Bts w A1 n1 b) (hnil : A1 = none → n1 = 0 ∧ c1' = 0) (hn1 : n1 ≤ 1000000) (h0 : -1000 ≤ last) (h1 : last < 4611686018427387904) (hL : L.length ≤ 1000) :
    Calls Try.prog 26 #[.pointer (some ⟨nb, 0, none⟩), .agg (sentC x f t (.slice A1 n1 c1'))] w (RPutR w T nb last kv L f t b) := by
  have hb0 : Below w.heap.size w (w.alloc (.cells (sentC x f t (.slice A1 n1 c1')) 43)) := (Below.refl _ w).alloc (Nat.le_refl _) _
  have h2 := h.below hb0
  obtain ⟨A, c, hkv, -⟩ := h.form
  obtain ⟨c0, c1, fr, hl⟩ := h2.cells
  have hlt := h.lt
  have f1 := fr 1; have f0 := fr 0
  by_cases hroom : L.length < 300
  · have hrz : ¬ (300 : Int) ≤ (L.length : Int) := by omega
    have hPR : Hid (RPutR w T nb last kv L f t b = fun e w' => ∃ m kv', m.d = ⟨last + 1, f, t, b⟩ ∧ e = .returned (twoV (last + 1, 0)) ∧ Na w' T nb (last + 1) kv' (L ++ [m]) ∧ (∀ k, FootN nb kv' (L ++ [m]) k → FootN nb kv L k ∨ w.heap.size ≤ k) ∧ Keeps (Top nb kv) w w') := Lib.hid (by funext e w'; unfold RPutR; rw [if_pos hroom])
    have h3 := h.up (last + 1)
    have k1 : Keeps (Top nb kv) w (w.setCell ⟨nb, 1, none⟩ (.int .i64 (last + 1))) := (Keeps.refl _ w).set nb 1 _ (.inl rfl)
    obtain ⟨W1, hW1⟩ : ∃ W1, (w.setCell ⟨nb, 1, none⟩ (.int .i64 (last + 1))).alloc (.cells (sentC (last + 1) f t (.slice A1 n1 c1')) 43) = W1 := ⟨_, rfl⟩
    have hb3 : Below (w.setCell ⟨nb, 1, none⟩ (.int .i64 (last + 1))).heap.size (w.setCell ⟨nb, 1, none⟩ (.int .i64 (last + 1))) W1 := by rw [← hW1]; exact (Below.refl _ _).alloc (Nat.le_refl _) _
    have h4 := h3.below hb3
    have e3 : (w.setCell ⟨nb, 1, none⟩ (.int .i64 (last + 1))).heap.size = w.heap.size := by simp
    have k4 := k1.trans (.all hb3)
    have hbox2 : W1.heap[w.heap.size]? = some (.cells (sentC (last + 1) f t (.slice A1 n1 c1')) 43 (0, 0)) := by
      have := World.alloc_heap_new (w.setCell ⟨nb, 1, none⟩ (.int .i64 (last + 1))) (.cells (sentC (last + 1) f t (.slice A1 n1 c1')) 43)
      rw [e3, hW1] at this; exact this
    have eW1 : W1.heap.size = w.heap.size + 1 := by rw [← hW1, World.size_alloc, e3]
    -- the bytes are none of what was turned
    have hbt : Bts W1 A1 n1 b := by
      refine ⟨hb.1, hb.2.1, fun hn => ?_⟩
      obtain ⟨b1, o1, e1, e2, e4⟩ := hb.2.2 hn
      refine ⟨b1, o1, e1, Nat.lt_of_lt_of_le e2 (by omega), fun j hj => ?_⟩
      have hne : b1 ≠ nb := fun e => by
        have e5 := e4 0 hn
        rw [e, (cells_of h.top _).1] at e5
        rcases Nat.lt_or_ge (o1 + 0) 2 with h8 | h8
        · obtain h9 | h9 : o1 + 0 = 0 ∨ o1 + 0 = 1 := by omega
          · rw [h9] at e5; subst hkv; simp at e5
          · rw [h9] at e5; simp at e5
        · rw [Array.getElem?_eq_none (by simpa using h8)] at e5; cases e5
      refine (World.cell?_of_block (w := w) ?_).trans (e4 j hj)
      exact (hb3.block b1 (by omega)).trans (heap_setCell_other w ⟨nb, 1, none⟩ b1 _ hne)
    have HFT : Hid (∀ k, FootN nb kv L k → k < w.heap.size) := Lib.hid (fun k hk => h.foot_lt hk)
    have H3 := Lib.hid h4; have K3 := Lib.hid k4; have HB3 := Lib.hid hbox2; have HBT := Lib.hid hbt; have HNIL := Lib.hid hnil
    have z1 := h3.cells.2.1
    have y1 := h4.cells.2.1
    have w5 := (cells_of hbox2 5).1
    have g5 := (cells_of hbox2 5).2
    have hA1 : Hid (∀ ad, A1 = some ad → n1 = 0 ∨ ad.block < W1.heap.size) := Lib.hid (fun ad e => by
      rcases Nat.eq_zero_or_pos n1 with h8 | h8
      · exact .inl h8
      · obtain ⟨b1, o1, e1, e2, _⟩ := hbt.2.2 h8
        rw [e] at e1; cases e1; exact .inr e2)
    have HLO : Hid ((W1.alloc (.cells #[] 5)).ownsRow (w.heap.size + 1) 5 1 (.slice (some ⟨w.heap.size + 1, 0, none⟩) 0 0) 0 (B [])) := Lib.hid (by have := lit_own W1; rwa [eW1] at this)
    have HLB : Hid (∀ W5, (W1.alloc (.cells #[] 5)).grownBy W5 (Value.slice (some ⟨w.heap.size + 1, 0, none⟩) 0 0).ownBlock → Below W1.heap.size W1 W5) := Lib.hid (fun W5 hg => own_grown_below HLO.out ((Below.refl W1.heap.size W1).alloc (Nat.le_refl _) _) (by omega) hg)
    clear h h2 h3 h4 hb hbt hnil k1 k4 hbox2 hb0 fr hb3 e3
    subst hkv
    unfold sentC at *
    simp at w5
    go_enter Try.func26, Try.ntmps26
    go_upto_region 5 with (fail)
    go_upto_region 6 with (at_builtin; refine wpList_append_bts rfl (.tmp 24) (.tmp 26) rfl (w.heap.size + 1) _ 0 [] rfl HLO.out A1 n1 c1' b rfl (HBT.out.alloc _) HNIL.out (by omega) (by simp; omega) ?_; intro v5 W5 ho hg; rw [List.nil_append, Nat.zero_add] at ho; obtain ⟨A5, c5, rfl, -, -, -⟩ := own_form ho HBT.out.bd; have HO := Lib.hid ho; have HB5 := Lib.hid (HLB.out _ hg); clear ho hg; have r5 := (HB5.out.block w.heap.size (by omega)).trans HB3.out; have u5 := (cells_of r5 5).1; have v5' := (cells_of r5 5).2; simp at u5; have l5 : w.heap.size < W5.heap.size := (Array.getElem?_eq_some_iff.1 r5).1; clear r5)
    have hlen : Hid (b.length = n1) := Lib.hid HBT.out.len
    have HBX0 : Hid (W5.heap[w.heap.size]? = some (.cells #[.int .i64 (last + 1), .int .u32 f.1, .int .i64 f.2, .int .u32 t.1, .int .i64 t.2, .slice A1 n1 c1'] 43 (0, 0))) := Lib.hid ((HB5.out.block w.heap.size (by omega)).trans HB3.out)
    have hks : Keeps (fun k => k = w.heap.size) W5 (W5.setCell ⟨w.heap.size, 5, none⟩ (.slice A5 n1 c5)) := Keeps.set (S := fun k => k = w.heap.size) (Keeps.refl _ _) w.heap.size 5 _ rfl
    have HBX : Hid ((W5.setCell ⟨w.heap.size, 5, none⟩ (.slice A5 n1 c5)).heap[w.heap.size]? = some (.cells #[.int .i64 (last + 1), .int .u32 f.1, .int .i64 f.2, .int .u32 t.1, .int .i64 t.2, .slice A5 n1 c5] 43 (0, 0))) := Lib.hid (heap_setCell_same W5 w.heap.size 5 _ 43 (.slice A5 n1 c5) HBX0.out)
    have H4 : Hid (Na (W5.setCell ⟨w.heap.size, 5, none⟩ (.slice A5 n1 c5)) T nb (last + 1) (.slice A L.length c) L) := Lib.hid ((H3.out.below HB5.out).keeps hks (fun k hk e => by
      have := HFT.out k hk
      omega))
    obtain ⟨m, hmd, hmv⟩ : ∃ m : Md, m.d = ⟨last + 1, f, t, b⟩ ∧ m.v = .slice A5 n1 c5 := ⟨⟨⟨last + 1, f, t, b⟩, A5, c5⟩, rfl, by show Value.slice A5 b.length c5 = _; rw [hlen.out]⟩
    have HMD := Lib.hid hmd; have HMV := Lib.hid hmv
    have HNO : Hid (m.d.no = last + 1) := Lib.hid (by rw [hmd]); have HMF : Hid (m.d.f = f) := Lib.hid (by rw [hmd]); have HMT : Hid (m.d.t = t) := Lib.hid (by rw [hmd])
    have HM4 : Hid (MdAt (W5.setCell ⟨w.heap.size, 5, none⟩ (.slice A5 n1 c5)) m) := Lib.hid ⟨by
      rw [hmd, hmv]
      show World.ownsRow _ 0 5 1 (.slice A5 n1 c5) b.length (B b)
      rw [hlen.out]
      have h2 := own_at (w' := W5.setCell ⟨w.heap.size, 5, none⟩ (.slice A5 n1 c5)) HO.out (fun g hg => hks.block g (HO.out.lt g hg).2 (fun e => by have := (HO.out.lt g hg).1; omega))
      exact ⟨h2.1, h2.2.imp id (fun ⟨g, cap, cur, e1, e2, e3⟩ => ⟨g, cap, cur, e1, Nat.zero_le _, e3⟩)⟩, by rw [hmd]; exact HBT.out.bd⟩
    have K4 : Hid (Keeps (Top nb (.slice A L.length c)) w (W5.setCell ⟨w.heap.size, 5, none⟩ (.slice A5 n1 c5))) := Lib.hid ((K3.out.trans (.all HB5.out)).then hks (fun i hi e => by omega))
    have HFRE : Hid (∀ (X : Nat → Prop), (∀ k, X k → FootN nb (.slice A L.length c) L k ∨ w.heap.size ≤ k ∨ m.v.ownBlock = some k) → ∀ k, X k → FootN nb (.slice A L.length c) L k ∨ w.heap.size ≤ k) := Lib.hid (fun X hX k hk => (hX k hk).imp id (fun e => e.elim id (fun e => by
      rw [hmv] at e
      have := (HO.out.lt k e).1
      omega)))
    clear hmd hmv hks u5 v5' l5
    generalize W5.setCell ⟨w.heap.size, 5, none⟩ (.slice A5 n1 c5) = V at *
    have hVs : w.heap.size < V.heap.size := (Array.getElem?_eq_some_iff.1 HBX.out).1
    have hVn : nb < V.heap.size := by omega
    obtain ⟨v9, W9, t1, ⟨A9, n9, c9, rfl⟩, t3, t4, t5⟩ := row_endD (w := V.drew) m (H4.out.drewN 1).row (by omega) (Nat.zero_le _)
    obtain ⟨q1, q2, q3⟩ := na_add (H4.out.drewN 1) (HM4.out.below (below_drw (Below.refl _ V) 1)) t3 t4 t5
    rw [HNO.out, HMF.out, HMT.out, HMV.out] at t1
    unfold sentC at t1
    have T1 := Lib.hid t1
    have hs9 : (W9.setCell ⟨nb, 0, none⟩ (.slice A9 n9 c9)).heap[w.heap.size]? = some (.cells #[.int .i64 (last + 1), .int .u32 f.1, .int .i64 f.2, .int .u32 t.1, .int .i64 t.2, .slice A5 n1 c5] 43 (0, 0)) := (q3.block w.heap.size hVs (by
      rintro (e | e)
      · omega
      · have := HFT.out w.heap.size (.inl (.inr e)); omega)).trans HBX.out
    have HEND : Hid (Na (W9.setCell ⟨nb, 0, none⟩ (.slice A9 n9 c9)) T nb (last + 1) (.slice A9 n9 c9) (L ++ [m]) ∧ (∀ k, FootN nb (.slice A9 n9 c9) (L ++ [m]) k → FootN nb (.slice A L.length c) L k ∨ w.heap.size ≤ k ∨ m.v.ownBlock = some k) ∧ Keeps (Top nb (.slice A L.length c)) w (W9.setCell ⟨nb, 0, none⟩ (.slice A9 n9 c9))) :=
      Lib.hid ⟨q1, fun k hk => (q2 k hk).imp id (fun e => e.imp (fun e => Nat.le_trans K4.out.size e) id), (K4.out.trans (.all (below_drw (Below.refl _ V) 1))).trans (q3.mono (fun k _ e => e))⟩
    have s0 := (cells_of hs9 0).1
    have hn9 : W9.heap[nb]? = some (.cells #[.slice A L.length c, .int .i64 (last + 1)] T (0, 0)) := (t5.block nb (by simpa using hVn) (H4.out.drewN 1).ne_row).trans (H4.out.drewN 1).top
    have n0 := (cells_of hn9 0).1; have n1' := (cells_of hn9 1).1; have nf := (cells_of hn9 0).2
    have nl : nb < W9.heap.size := (Array.getElem?_eq_some_iff.1 hn9).1
    have d0 : V.cell? ⟨nb, 0, none⟩ = some (.slice A L.length c) := H4.out.cells.1
    have x0 : V.cell? ⟨w.heap.size, 0, none⟩ = some (.int .i64 (last + 1)) := (cells_of HBX.out 0).1
    have x1 : V.cell? ⟨w.heap.size, 1, none⟩ = some (.int .u32 f.1) := (cells_of HBX.out 1).1
    have x2 : V.cell? ⟨w.heap.size, 2, none⟩ = some (.int .i64 f.2) := (cells_of HBX.out 2).1
    have x3 : V.cell? ⟨w.heap.size, 3, none⟩ = some (.int .u32 t.1) := (cells_of HBX.out 3).1
    have x4 : V.cell? ⟨w.heap.size, 4, none⟩ = some (.int .i64 t.2) := (cells_of HBX.out 4).1
    have x5 : V.cell? ⟨w.heap.size, 5, none⟩ = some (.slice A5 n1 c5) := (cells_of HBX.out 5).1
    simp at s0 n1'
    clear t1 t3 t4 t5 q1 q2 q3 hs9 hn9 z1 y1 c0 c1 f0 f1 w5 g5
    go_region_law (refine step_run rfl (.tmp 33) (.tmp 35) 28 rfl (v1 := .slice A L.length c) (v2 := .slice (some ⟨V.heap.size, 0, none⟩) 1 1) (v := .slice A9 n9 c9) (W' := W9) rfl rfl (T1.out 28) ?_)
    all_goals
      go_wp2
      exact ⟨rfl, twoV (last + 1, 0), by simp [results, Try.results26, go_sem, twoV], by rw [hPR.out]; exact ⟨m, _, HMD.out, rfl, HEND.out.1, HFRE.out _ HEND.out.2.1, HEND.out.2.2⟩⟩
  · have hrz : (300 : Int) ≤ (L.length : Int) := by omega
    have hPR : Hid (RPutR w T nb last kv L f t b = fun e w' => e = .returned (twoV (0, 10)) ∧ Below w.heap.size w w') := Lib.hid (by funext e w'; unfold RPutR; rw [if_neg hroom])
    have HB0 := Lib.hid hb0
    clear h h2 hb hnil hb0 fr hroom
    subst hkv
    unfold sentC at *
    go_enter Try.func26, Try.ntmps26
    go_wp2
    exact ⟨rfl, twoV (0, 10), by simp [results, Try.results26, go_sem, twoV], by rw [hPR.out]; exact ⟨rfl, HB0.out⟩⟩
end
end Go.Proofs.Ythfdnidcmkjmoaa
