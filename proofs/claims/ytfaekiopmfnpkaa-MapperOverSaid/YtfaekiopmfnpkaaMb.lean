/-
  A client that asks: contracts of request, ask, askIn, begin and renew. Conditions: the client stands; its fields are of their types, its tries and its time within bounds.
-/
import Derived.Test.YtfaekiopmfnpkaaMa
import Derived.Maps.AppendAt
import Derived.Deep.QuietTactic
import Derived.BigQuiet
namespace Go.Proofs.Ytfaekiopmfnpkaa.Mp
open Go.RowKit Go.Maps
attribute [local go_sem] Oper.semAt_some
set_option linter.unusedVariables false
set_option linter.unusedSimpArgs false

theorem sl_info : (Try.prog.info? 38).map (fun i => (i.zero, i.size, i.bytes)) = some (some (.slice none 0 0), 1, 24) := by kernel_rfl
theorem wpList_run {w w' : World} {ops : Array Oper} {rest : List Oper} {o : Oper} {a : Act} {Q : Exit → Act → World → Prop} (hgd : o.guard = none) (s x : Operand) (t : TypeId)
    (ho : o.op = .call { callee := .builtin .append, args := #[s, x], argTypes := #[t, t] }) {v1 v2 v : Value} (hs : a.eval s = v1) (hx : a.eval x = v2)
    (hr : ∀ ty, (Builtin.append_ #[t, t] ty #[v1, v2]).run Try.prog w = .ok v w') (h : wpList Try.prog ops Q rest (a.put o.dst v) w') : wpList Try.prog ops Q (o :: rest) a w := by
  refine wpList_plain hgd fun K hK => ?_
  unfold Oper.wp execOp
  simp only [ho, resolve, invoke, builtin, Sem.run_bind, Sem.run_pure, Result.andThen_ok, List.map_toArray, List.map_cons, List.map_nil, hs, hx, hr]
  exact hK _ _ h
/-- objects that are held -/
def Held (OB : List (Nat × Obj)) (W : World) : Prop := ∀ r ∈ OB, W.heap[r.1]? = some r.2
theorem Held.kp {OB : List (Nat × Obj)} {mb : Nat} {W W' : World} (h : Held OB W) (hk : Kp mb W W') (hm : ∀ r ∈ OB, r.1 ≠ mb) : Held OB W' := fun r hr => (hk.block _ (Array.getElem?_eq_some_iff.1 (h r hr)).1 (hm r hr)).trans (h r hr)
theorem Held.below {OB : List (Nat × Obj)} {W W' : World} (h : Held OB W) (hb : Below W.heap.size W W') : Held OB W' := fun r hr => (hb.block _ (Array.getElem?_eq_some_iff.1 (h r hr)).1).trans (h r hr)
theorem Held.left {A B : List (Nat × Obj)} {W : World} (h : Held (A ++ B) W) : Held A W := fun r hr => h r (List.mem_append_left _ hr)
theorem Held.right {A B : List (Nat × Obj)} {W : World} (h : Held (A ++ B) W) : Held B W := fun r hr => h r (List.mem_append_right _ hr)
theorem row_nil (W : World) : Pp.Row W (.slice none 0 0) [] := ⟨none, 0, rfl, ⟨rfl, by simp, fun h => absurd h (by simp)⟩, Nat.le_refl _, Nat.zero_le _, fun _ => ⟨rfl, rfl⟩⟩
/-- a row that was made is held -/
theorem hold_row {V' : World} {B : Nat} {u : Value} {zs : List Int} (ho : V'.ownsRow B 5 1 u zs.length (Pp.B zs)) (hz : ∀ z ∈ zs, 0 ≤ z ∧ z ≤ 255) :
    ∃ OB, Held OB V' ∧ (∀ r ∈ OB, B ≤ r.1) ∧ ∀ W, Held OB W → Pp.Row W u zs := by
  have ho' := ho
  rcases ho'.2 with hn | ⟨g, cap, cur, rfl, hg, hobj, hrest⟩
  · refine ⟨[], fun r hr => absurd hr (by simp), fun r hr => absurd hr (by simp), fun W _ => ?_⟩
    have h0 : zs = [] := List.eq_nil_of_length_eq_zero hn.2
    subst h0
    rw [hn.1]
    exact row_nil W
  · refine ⟨[(g, .cells cur 5 (0, 0))], fun r hr => ?_, fun r hr => ?_, fun W hW => ?_⟩
    · simp only [List.mem_singleton] at hr; subst hr; exact hobj
    · simp only [List.mem_singleton] at hr; subst hr; exact hg
    · have hk := hW (g, .cells cur 5 (0, 0)) (by simp)
      exact .own (b := 0) ⟨ho.1, .inr ⟨g, cap, cur, rfl, Nat.zero_le _, hk, hrest⟩⟩ hz
/-- the fields are of their types -/
structure IsM (m : Mpr) : Prop where
  host : 0 ≤ m.host ∧ m.host < 4294967296
  secs : Pp.W64 m.secs
  non : 0 ≤ m.non ∧ m.non ≤ 18446744073709551615
  ver : Pp.W64 m.ver
  ins : Pp.W64 m.ins
  hh : 0 ≤ m.hh ∧ m.hh < 4294967296
  hp : Pp.W64 m.hp
  now : 0 ≤ m.now ∧ m.now ≤ 1099511627776
  tries : 0 ≤ m.tries ∧ m.tries ≤ 1099511627776
/-- what it asks for -/
def reqA (m : Mpr) (s : Int) : Pp.Le := ⟨m.ver, m.ins, m.hp, s, 0, 0, 0, 0⟩
def reqP (m : Mpr) (s : Int) : Pp.Le := ⟨m.ver, m.ins, m.hp, s, m.non, 0, 0, m.hh⟩
def reqR (m : Mpr) (s : Int) : List Int := if m.ver = 0 then Pp.askR (reqA m s) false else Pp.paskR (reqP m s) m.host
/-- a row is told that is held from then on -/
def Tells (V : World) (zs : List Int) : Ending → World → Prop := fun e V' => ∃ u OB, e = .returned u ∧ Held OB V' ∧ (∀ r ∈ OB, V.heap.size ≤ r.1) ∧ (∀ W, Held OB W → Pp.Row W u zs) ∧ Below V.heap.size V V'
section
variable {V V' : World} {mb : Nat} {m : Mpr} {sv : Value}
theorem isA (hm : IsM m) (s : Int) (hs : Pp.W64 s) : Pp.isL (reqA m s) := by
  obtain ⟨_, _, _, h1, h2, _, h3, _, _⟩ := hm
  unfold reqA
  constructor <;> simp only [Pp.W64] at * <;> omega
theorem isP (hm : IsM m) (s : Int) (hs : Pp.W64 s) : Pp.isL (reqP m s) := by
  obtain ⟨_, _, h0, h1, h2, h4, h3, _, _⟩ := hm
  unfold reqP
  constructor <;> simp only [Pp.W64] at * <;> omega
set_option maxHeartbeats 8000000 in
theorem request_any (h : MpAt V mb m sv) (hm : IsM m) (s : Int) (hs : Pp.W64 s) : Calls Try.prog 30 #[pt mb, .int .i64 s] V (Tells V (reqR m s)) := by
  have HA := Lib.hid (isA hm s hs)
  have HP := Lib.hid (isP hm s hs)
  have HH := Lib.hid hm.host
  have H := Lib.hid h
  have HL : Hid (∀ B W u zs, V.heap.size ≤ B → Below V.heap.size V W → (∀ z ∈ zs, 0 ≤ z ∧ z ≤ 255) → W.ownsRow B 5 1 u zs.length (Pp.B zs) → Tells V zs (.returned u) W) := Lib.hid (fun B W u zs hB hb hz ho => by
    obtain ⟨OB, h1, h2, h3⟩ := hold_row ho hz
    exact ⟨u, OB, rfl, h1, fun r hr => Nat.le_trans hB (h2 r hr), h3, hb⟩)
  unfold pt
  by_cases hv : m.ver = 0
  · have HR : Hid (reqR m s = Pp.askR (reqA m s) false) := Lib.hid (by unfold reqR; rw [if_pos hv])
    have HV := Lib.hid hv
    clear h hm hs hv
    go_enter Try.func30, Try.ntmps30
    go_upto_region 1 with (fail)
    obtain ⟨c0, c1, c2, c3, c4, c5, c6, c7, c8, c9, c10, c11, c12, c13, c14, c15, c16, c17, cf, cl⟩ := H.out.cells
    go_cut [5] from 6 (fun v5 wc => v5 = .pointer (some ⟨V.heap.size, 0, none⟩) ∧ wc = V.drew.alloc (.cells (Pp.leA (reqA m s)) 36))
    case first =>
      go_region_with (fail)
      all_goals go_wp2
      all_goals (go_meet; case rel => exact ⟨rfl, rfl⟩)
    case rest =>
      obtain ⟨rfl, rfl⟩ := hcut
      clear c0 c1 c2 c3 c4 c5 c6 c7 c8 c9 c10 c11 c12 c13 c14 c15 c16 c17 cf cl
      have hb : Below V.heap.size V (V.drew.alloc (.cells (Pp.leA (reqA m s)) 36)) := (below_drw (Below.refl _ V) 1).alloc (Nat.le_refl _) _
      have HB := Lib.hid hb
      have h2 := H.out.below hb
      obtain ⟨c0, c1, c2, c3, c4, c5, c6, c7, c8, c9, c10, c11, c12, c13, c14, c15, c16, c17, cf, cl⟩ := h2.cells
      rw [HV.out] at c4
      have HC := Lib.hid (Pp.ask_any (reqA m s) false (V.drew.alloc (.cells (Pp.leA (reqA m s)) 36)) HA.out)
      unfold Pp.leV at HC
      have hsz : V.heap.size < (V.drew.alloc (.cells (Pp.leA (reqA m s)) 36)).heap.size := by show V.heap.size < (V.heap.push _).size; simp
      have hla : Pp.LeAt (V.drew.alloc (.cells (Pp.leA (reqA m s)) 36)) V.heap.size (reqA m s) := by show (V.heap.push _)[V.heap.size]? = _; simp
      obtain ⟨q0, q1, q2, q3, q4, q5, q6, q7⟩ := hla.cells
      clear h2 hb hla
      generalize V.drew.alloc (.cells (Pp.leA (reqA m s)) 36) = W1 at *
      unfold Pp.leA at HC
      go_wp2_with fail
      refine HC.out.mono ?_
      rintro e W2 ⟨u, rfl, ho, hb2⟩
      have HF := Lib.hid (HL.out W1.heap.size W2 u _ (by omega) (HB.out.trans (hb2.mono (by omega))) (Pp.askR_bd _ _) ho)
      rw [← HR.out] at HF
      clear ho hb2
      go_wp2
      go_ret
      exact HF.out
  · have HR : Hid (reqR m s = Pp.paskR (reqP m s) m.host) := Lib.hid (by unfold reqR; rw [if_neg hv])
    have hvb : (m.ver == (0 : Int)) = false := by simpa using hv
    clear h hm hs hv
    go_enter Try.func30, Try.ntmps30
    go_upto_region 1 with (fail)
    obtain ⟨c0, c1, c2, c3, c4, c5, c6, c7, c8, c9, c10, c11, c12, c13, c14, c15, c16, c17, cf, cl⟩ := H.out.cells
    go_cut [5] from 6 (fun v5 wc => v5 = .pointer (some ⟨V.heap.size, 0, none⟩) ∧ wc = V.drew.alloc (.cells (Pp.leA (reqA m s)) 36))
    case first =>
      go_region_with (fail)
      all_goals go_wp2
      all_goals (go_meet; case rel => exact ⟨rfl, rfl⟩)
    case rest =>
      obtain ⟨rfl, rfl⟩ := hcut
      clear c0 c1 c2 c3 c4 c5 c6 c7 c8 c9 c10 c11 c12 c13 c14 c15 c16 c17 cf cl
      have hb : Below V.heap.size V (V.drew.alloc (.cells (Pp.leA (reqA m s)) 36)) := (below_drw (Below.refl _ V) 1).alloc (Nat.le_refl _) _
      have HB := Lib.hid hb
      have h2 := H.out.below hb
      have H2 := Lib.hid h2
      obtain ⟨c0, c1, c2, c3, c4, c5, c6, c7, c8, c9, c10, c11, c12, c13, c14, c15, c16, c17, cf, cl⟩ := h2.cells
      have hsz : V.heap.size < (V.drew.alloc (.cells (Pp.leA (reqA m s)) 36)).heap.size := by show V.heap.size < (V.heap.push _).size; simp
      have hla : Pp.LeAt (V.drew.alloc (.cells (Pp.leA (reqA m s)) 36)) V.heap.size (reqA m s) := by show (V.heap.push _)[V.heap.size]? = _; simp
      have HLA := Lib.hid hla
      obtain ⟨q0, q1, q2, q3, q4, q5, q6, q7⟩ := hla.cells
      have qf : ∀ j, (V.drew.alloc (.cells (Pp.leA (reqA m s)) 36)).frozen? ⟨V.heap.size, j, none⟩ = false := fun j => (cells_of hla j).2
      have HMB : Hid (mb < V.heap.size) := Lib.hid H.out.lt
      clear h2 hb hla
      generalize V.drew.alloc (.cells (Pp.leA (reqA m s)) 36) = W1 at *
      go_upto_region 4 with (fail)
      go_cut [] from 6 (fun wc => Hid (Pp.LeAt wc V.heap.size (reqP m s) ∧ MpAt wc mb m sv ∧ Below V.heap.size V wc))
      case first =>
        have HQ : Hid (Pp.LeAt ((W1.drew.setCell ⟨V.heap.size, 4, none⟩ (.int .u64 m.non)).setCell ⟨V.heap.size, 7, none⟩ (.int .u32 m.hh)) V.heap.size (reqP m s) ∧ MpAt ((W1.drew.setCell ⟨V.heap.size, 4, none⟩ (.int .u64 m.non)).setCell ⟨V.heap.size, 7, none⟩ (.int .u32 m.hh)) mb m sv ∧ Below V.heap.size V ((W1.drew.setCell ⟨V.heap.size, 4, none⟩ (.int .u64 m.non)).setCell ⟨V.heap.size, 7, none⟩ (.int .u32 m.hh))) := Lib.hid (by
          refine ⟨?_, ?_, ?_⟩
          · have h1 := heap_setCell_same W1.drew V.heap.size 4 (Pp.leA (reqA m s)) 36 (.int .u64 m.non) HLA.out
            have h2 := heap_setCell_same _ V.heap.size 7 _ 36 (.int .u32 m.hh) h1
            exact h2
          · have hmb := HMB.out
            exact (heap_setCell_other _ ⟨V.heap.size, 7, none⟩ mb _ (by show mb ≠ V.heap.size; omega)).trans ((heap_setCell_other W1.drew ⟨V.heap.size, 4, none⟩ mb _ (by show mb ≠ V.heap.size; omega)).trans H2.out)
          · exact ((below_drw HB.out 1).setCell (p := ⟨V.heap.size, 4, none⟩) (Nat.le_refl _) _).setCell (p := ⟨V.heap.size, 7, none⟩) (Nat.le_refl _) _)
        go_region_with (fail)
        all_goals go_wp2
        all_goals (go_meet; case rel => exact HQ)
      case rest =>
        obtain ⟨hla, hma, hbw⟩ := hcut.out
        clear c0 c1 c2 c3 c4 c5 c6 c7 c8 c9 c10 c11 c12 c13 c14 c15 c16 c17 cf cl q0 q1 q2 q3 q4 q5 q6 q7 qf hsz
        obtain ⟨c0, c1, c2, c3, c4, c5, c6, c7, c8, c9, c10, c11, c12, c13, c14, c15, c16, c17, cf, cl⟩ := hma.cells
        obtain ⟨q0, q1, q2, q3, q4, q5, q6, q7⟩ := hla.cells
        have ql := hla.lt
        have HC := Lib.hid (fun q => Pp.pask_any (reqP m s) m.host (wc.drewN q) HP.out HH.out)
        have HBW := Lib.hid hbw
        have HW : Hid (∀ q, Below V.heap.size V (wc.drewN q) ∧ (wc.drewN q).heap.size = wc.heap.size) := Lib.hid (fun q => ⟨below_drw HBW.out q, rfl⟩)
        unfold Pp.leV Pp.leA at HC
        clear hla hma hbw
        go_upto_region 5 with (fail)
        go_region_with (go_at_call 43; (refine (HC.out _).mono ?_; rintro e W2 ⟨u, rfl, ho, hb2⟩; have HF := Lib.hid (HL.out _ W2 u _ (HBW.out.size) ((HW.out _).1.trans (hb2.mono HBW.out.size)) (Pp.paskR_bd _ _ HP.out HH.out) ho); rw [← HR.out] at HF; clear ho hb2))
        all_goals go_wp2
        all_goals go_ret
        all_goals exact HF.out
end
end Go.Proofs.Ytfaekiopmfnpkaa.Mp
