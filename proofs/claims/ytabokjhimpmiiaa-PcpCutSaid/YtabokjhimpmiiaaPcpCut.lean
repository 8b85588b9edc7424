/-
  PcpCut: a request, or an answer, cut off, or with a byte behind, or with another version, is none. Conditions: none.
-/
import Derived.Test.YtabokjhimpmiiaaPawk
import Derived.Test.YtabokjhimpmiiaaRows
import Derived.WalkKit
import Derived.ProofKit
import Derived.OpenShut
import Derived.ShutString
import Derived.ChangeOld
import Derived.Below
namespace Go.Proofs.Ytabokjhimpmiiaa.pcpCut
open Go.ChangeShapes Go.WideShapes Go.ChangeAt Go.RowKit
open Go.ChangeMaps (open_string shut_string)
set_option linter.unusedVariables false

theorem own : ownKnob Try.prog.godebug = none := by kernel_rfl
theorem laidOut : laidOutB Try.prog = true := by kernel_rfl

attribute [local go_sem] Oper.semAt_some
def Of (zs : List Int) : Prop := (∃ l c, PAskOf zs l c) ∨ (∃ l, PAnsOf zs l)
theorem of_len {zs : List Int} (h : Of zs) : zs.length = 60 ∧ zs.getD 0 0 = 2 := by
  rcases h with ⟨l, c, h⟩ | ⟨l, h⟩
  · exact ⟨h.len, h.snd.2⟩
  · exact ⟨h.len, h.snd.2⟩
theorem of_take {zs : List Int} (h : Of zs) (r : Nat) (hr : r < zs.length) : ¬ Of (zs.take r) := by
  intro h2
  have a := (of_len h).1
  have b := (of_len h2).1
  rw [List.length_take] at b
  omega
theorem of_app {zs : List Int} (h : Of zs) (z : Int) : ¬ Of (zs ++ [z]) := by
  intro h2
  have a := (of_len h).1
  have b := (of_len h2).1
  rw [List.length_append, List.length_singleton] at b
  omega
theorem of_set {zs : List Int} (h : Of zs) (y : Int) (hy : y ≠ 2) : ¬ Of (zs.set 0 y) := by
  intro h2
  have a := (of_len h).1
  have b := (of_len h2).2
  have : (zs.set 0 y).getD 0 0 = y := by
    cases zs with
    | nil => simp at a
    | cons x xs => simp
  omega
theorem no26 {V : Value} {zs : List Int} (h : ¬ Of zs) (W : World) (hr : Row W V zs) : Calls Try.prog 26 #[V] W fun e w' => e = .returned (paT zeroL 0 3) ∧ Below W.heap.size W w' := by
  have := pread_ask hr
  rwa [paR_no hr.bd (fun l c hz => h (.inl ⟨l, c, hz⟩))] at this
theorem no27 {V : Value} {zs : List Int} (h : ¬ Of zs) (W : World) (hr : Row W V zs) : Calls Try.prog 27 #[V] W fun e w' => e = .returned (pbT zeroL 3) ∧ Below W.heap.size W w' := by
  have := pread_ans hr
  rwa [pbR_no hr.bd (fun l hz => h (.inr ⟨l, hz⟩))] at this
theorem xor2 : ∀ k : Fin 200, (0 ≤ bits .xor .u8 2 (1 + (k.val : Int)) ∧ bits .xor .u8 2 (1 + (k.val : Int)) ≤ 255) ∧ bits .xor .u8 2 (1 + (k.val : Int)) ≠ 2 := by decide +kernel
theorem mem_set_bd {zs : List Int} {y : Int} (h : ∀ z ∈ zs, 0 ≤ z ∧ z ≤ 255) (hy : 0 ≤ y ∧ y ≤ 255) (k : Nat) : ∀ z ∈ zs.set k y, 0 ≤ z ∧ z ≤ 255 := by
  intro z hz
  rcases List.mem_or_eq_of_mem_set hz with h1 | rfl
  · exact h z h1
  · exact hy
/-- what stands in each round -/
structure Rnd (w W : World) (l : Le) (gb : Nat) (V2 V3 : Value) (z2 z3 : List Int) : Prop where
  st : St w W l
  r2 : Row W V2 z2
  r3 : Row W V3 z3
  c2 : W.cell? ⟨gb, 0, none⟩ = some V2
  c3 : W.cell? ⟨gb, 1, none⟩ = some V3
theorem Rnd.below {w W W' : World} {l : Le} {gb : Nat} {V2 V3 : Value} {z2 z3 : List Int} (h : Rnd w W l gb V2 V3 z2 z3) (hb : Below W.heap.size W W') : Rnd w W' l gb V2 V3 z2 z3 :=
  ⟨h.st.below hb, h.r2.below hb, h.r3.below hb, (hb.cell (p := ⟨gb, 0, none⟩) (lt_of_cell h.c2)).trans h.c2, (hb.cell (p := ⟨gb, 1, none⟩) (lt_of_cell h.c3)).trans h.c3⟩
theorem Rnd.at {w W : World} {l : Le} {gb : Nat} {V2 V3 : Value} {z2 z3 : List Int} (h : Rnd w W l gb V2 V3 z2 z3) (k : Nat) (hk : k < 2) : ∃ V zs, W.cell? ⟨gb, k, none⟩ = some V ∧ Row W V zs ∧ (zs = z2 ∨ zs = z3) := by
  match k, hk with
  | 0, _ => exact ⟨V2, z2, h.c2, h.r2, .inl rfl⟩
  | 1, _ => exact ⟨V3, z3, h.c3, h.r3, .inr rfl⟩

/-- the inner loop's three rows -/
structure In3 (w W : World) (l : Le) (gb : Nat) (V2 V3 : Value) (z2 z3 : List Int) (g : Nat) (VX : Value) (zx : List Int) (Va Vb Vc : Value) (za zb zc : List Int) : Prop where
  rnd : Rnd w W l gb V2 V3 z2 z3
  rx : Row W VX zx
  ra : Row W Va za
  rb : Row W Vb zb
  rc : Row W Vc zc
  c0 : W.cell? ⟨g, 0, none⟩ = some Va
  c1 : W.cell? ⟨g, 1, none⟩ = some Vb
  c2 : W.cell? ⟨g, 2, none⟩ = some Vc
theorem In3.below {w W W' : World} {l : Le} {gb : Nat} {V2 V3 : Value} {z2 z3 : List Int} {g : Nat} {VX : Value} {zx : List Int} {Va Vb Vc : Value} {za zb zc : List Int} (h : In3 w W l gb V2 V3 z2 z3 g VX zx Va Vb Vc za zb zc) (hb : Below W.heap.size W W') : In3 w W' l gb V2 V3 z2 z3 g VX zx Va Vb Vc za zb zc :=
  ⟨h.rnd.below hb, h.rx.below hb, h.ra.below hb, h.rb.below hb, h.rc.below hb, (hb.cell (p := ⟨g, 0, none⟩) (lt_of_cell h.c0)).trans h.c0, (hb.cell (p := ⟨g, 1, none⟩) (lt_of_cell h.c1)).trans h.c1, (hb.cell (p := ⟨g, 2, none⟩) (lt_of_cell h.c2)).trans h.c2⟩
theorem In3.at {w W : World} {l : Le} {gb : Nat} {V2 V3 : Value} {z2 z3 : List Int} {g : Nat} {VX : Value} {zx : List Int} {Va Vb Vc : Value} {za zb zc : List Int} (h : In3 w W l gb V2 V3 z2 z3 g VX zx Va Vb Vc za zb zc) (ha : ¬ Of za) (hb : ¬ Of zb) (hc : ¬ Of zc) (k : Nat) (hk : k < 3) : ∃ V zs, W.cell? ⟨g, k, none⟩ = some V ∧ Row W V zs ∧ ¬ Of zs := by
  match k, hk with
  | 0, _ => exact ⟨Va, za, h.c0, h.ra, ha⟩
  | 1, _ => exact ⟨Vb, zb, h.c1, h.rb, hb⟩
  | 2, _ => exact ⟨Vc, zc, h.c2, h.rc, hc⟩
theorem In3.start {w W : World} {l : Le} {gb : Nat} {V2 V3 : Value} {z2 z3 : List Int} {VX : Value} {zx : List Int} {Va Vb Vc : Value} {za zb zc : List Int} (h : Rnd w W l gb V2 V3 z2 z3) (rx : Row W VX zx) (ra : Row W Va za) (rb : Row W Vb zb) (rc : Row W Vc zc) : In3 w (W.alloc (.cells #[Va, Vb, Vc] 27)) l gb V2 V3 z2 z3 W.heap.size VX zx Va Vb Vc za zb zc := by
  have hb : Below W.heap.size W (W.alloc (.cells #[Va, Vb, Vc] 27)) := (Below.refl _ _).alloc (Nat.le_refl _) _
  have n4 : (W.alloc (.cells #[Va, Vb, Vc] 27)).heap[W.heap.size]? = some (.cells #[Va, Vb, Vc] 27 (0, 0)) := by
    show (W.heap.push _)[W.heap.size]? = _
    simp
  exact ⟨h.below hb, rx.below hb, ra.below hb, rb.below hb, rc.below hb, (cells_of n4 0).1, (cells_of n4 1).1, (cells_of n4 2).1⟩
/-- an append in a region that draws its order -/
theorem step_bts {W : World} {base n m c : Nat} {V : Value} {xs zs : List Int} {ops : Array Oper} {o : Oper} {a : Act} {K : Act → World → Prop} {Q : Exit → Act → World → Prop} {E : Prop} (hf : o.guard = none) (s x : Operand)
    (ho : o.op = .call { callee := .builtin .append, args := #[s, x], argTypes := #[27, 27] }) (hs : a.eval s = V) (hown : W.ownsRow base 5 1 V n (B xs)) {A : Addr} (hx : a.eval x = .slice (some A) m c) (hb : Bts W (some A) m zs) (hl : n + m ≤ 1000) (hbase : base ≤ W.heap.size)
    (hK : ∀ V' W', W'.ownsRow base 5 1 V' (n + m) (B (xs ++ zs)) → W.grownBy W' V.ownBlock → K (a.put o.dst V') W') :
    if Region.wanted o (yielded ops a.tmps) = true then Oper.wp Try.prog o a W K Q else E := by
  obtain ⟨i0, hi0, hz0, hz1, hz2⟩ := info_parts u8_info
  obtain ⟨v', w', hrun, r1, r2, _, r3⟩ := run_append_own_at (P := Try.prog) (w := W) base 27 o.type 5 i0 (.int .u8 0) 1 1 Try.underlying27 hi0 hz0 hz1 hz2 rfl (by decide) V n (B xs) hown A m c (B zs) (by rw [B_length, hb.len]; omega) hb.news (B_one zs)
    (by unfold maxLen; omega) (by omega) hbase
  rw [if_pos (by simp [Region.wanted, hf])]
  unfold Oper.wp execOp
  simp only [ho, resolve, invoke, builtin, Sem.run_bind, Sem.run_pure, Result.andThen_ok, List.map_toArray, List.map_cons, List.map_nil, hs, hx, hrun]
  refine hK _ _ ?_ r2
  rw [← B_append] at r1
  exact r1

structure St9 (wd W : World) (V : Value) (n : Nat) (xs : List Int) : Prop where
  low : Below wd.heap.size wd W
  own : W.ownsRow wd.heap.size 5 1 V n (B xs)
theorem St9.start {wd W : World} (h : Below wd.heap.size wd W) : St9 wd (W.alloc (.cells #[] 5)) (.slice (some ⟨W.heap.size, 0, none⟩) 0 0) 0 [] := ⟨h.alloc h.size _, Go.Joins.ownsRow_le (lit_own W) h.size⟩
theorem St9.lit {wd W : World} {V : Value} {n : Nat} {xs : List Int} (h : St9 wd W V n xs) (o : Obj) : St9 wd (W.alloc o) V n xs := ⟨h.low.alloc h.low.size _, h.own.alloc _⟩
theorem St9.app {wd W W' : World} {V V' : Value} {n m : Nat} {xs ys : List Int} (h : St9 wd W V n xs) (ho : W'.ownsRow wd.heap.size 5 1 V' m (B ys)) (hg : W.grownBy W' V.ownBlock) : St9 wd W' V' m ys := ⟨h.low.trans (own_grown h.own hg (Nat.le_refl _) h.low.size), ho⟩
theorem bts_other {W W' : World} {g n : Nat} {V : Value} {zs : List Int} (h : Bts W (some ⟨g, 0, none⟩) n zs) (hg : W.grownBy W' V.ownBlock) (hne : V.ownBlock ≠ some g) : Bts W' (some ⟨g, 0, none⟩) n zs := by
  obtain ⟨h1, h2, h3⟩ := h
  refine ⟨h1, h2, fun hn => ?_⟩
  obtain ⟨b, off, e, hlt, hc⟩ := h3 hn
  cases e
  refine ⟨g, 0, rfl, Nat.lt_of_lt_of_le hlt hg.size, fun j hj => ?_⟩
  exact (World.cell?_of_block (w := W) (hg.block g hlt (fun e => hne e.symm))).trans (hc j hj)

set_option maxRecDepth 100000 in
set_option maxHeartbeats 16000000 in
theorem walk (v0 : Value) (s0 : Le) (a1 : Int) (a2 : Int) (w : World) (w0 : IsLe w v0 s0) (w1 : (Lit.int .u32 a1).wf = true) (w2 : (Lit.int .u8 a2).wf = true) :
    Calls Try.prog 10 #[v0, .int .u32 a1, .int .u8 a2] w fun e w' => e = .returned (.bool true) ∧ Below w.heap.size w w' := by
  obtain ⟨rfl, hl⟩ := w0
  have hc : 0 ≤ a1 ∧ a1 < 4294967296 := by have := bounds_u32 w1; omega
  have hu := wf_u8 w2
  clear w1 w2
  obtain ⟨U, rfl⟩ := Int.eq_ofNat_of_zero_le hu.1
  have hU : U ≤ 255 := by omega
  clear hu
  have HO2 : Hid ((paskR s0 a1).length ≠ 0 → Of (paskR s0 a1)) := Lib.hid (fun h => by
    by_cases hb : Pas s0
    · exact .inl ⟨_, _, hl, hc, hb, rfl⟩
    · rw [paskR_no a1 hb] at h; simp at h)
  have HO3 : Hid ((pansR s0).length ≠ 0 → Of (pansR s0)) := Lib.hid (fun h => by
    by_cases hb : Pan s0
    · exact .inr ⟨_, hl, hb, rfl⟩
    · rw [pansR_no hb] at h; simp at h)
  have CA := Lib.hid (fun W => ptell_ask s0 a1 W hl hc)
  have CB := Lib.hid (fun W => ptell_ans s0 W hl)
  have HS0 := Lib.hid (St.start w s0)
  clear hl hc
  unfold leV leA at CA CB ⊢
  unfold leA at HS0
  generalize hz2 : paskR s0 a1 = z2 at *
  generalize hz3 : pansR s0 = z3 at *
  clear hz2 hz3
  go_enter Try.func10, Try.ntmps10
  go_wp2_with fail
  refine (pawake_any _).mono ?_
  rintro e w1 ⟨rfl, hb⟩
  have HS1 := Lib.hid (HS0.out.below hb)
  have HS1d : Hid (St w w1.drew s0) := Lib.hid ⟨below_drewN' HS1.out.low 1, HS1.out.box⟩
  clear hb HS0
  go_wp2_with fail
  refine wp_region_held_drew (S := fun W => LeAt W w.heap.size s0) (by kernel_rfl) HS1d.out.box (fun hHeld => ?_)
  refine wpAnyH_take (i := 0) (oi := _) (v := ?_) rfl (by kernel_rfl) (by kernel_rfl) (by kernel_rfl) (fun _ _ _ h => h) (Or.inl ⟨by rfl, ?_⟩) (by assumption) ?_
  case refine_2 => intro w hSw; (try dsimp only at hSw); have hcs := LeAt.cells hSw; obtain ⟨y0, y1, y2, y3, y4, y5, y6, y7⟩ := hcs; clear hSw; go_simp; first | done | (with_reducible rfl)
  try simp only [Act.put, List.getElem_toArray, List.getElem_cons_zero, List.setIfInBounds_toArray, List.set_cons_zero, List.set_cons_succ]
  refine wpAnyH_take (i := 1) (oi := _) (v := ?_) rfl (by kernel_rfl) (by kernel_rfl) (by kernel_rfl) (fun _ _ _ h => h) (Or.inl ⟨by rfl, ?_⟩) (by assumption) ?_
  case refine_2 => intro w hSw; (try dsimp only at hSw); have hcs := LeAt.cells hSw; obtain ⟨y0, y1, y2, y3, y4, y5, y6, y7⟩ := hcs; clear hSw; go_simp; first | done | (with_reducible rfl)
  try simp only [Act.put, List.getElem_toArray, List.getElem_cons_zero, List.getElem_cons_succ, List.setIfInBounds_toArray, List.set_cons_zero, List.set_cons_succ]
  refine wpAnyH_take (i := 3) (oi := _) (v := ?_) rfl (by kernel_rfl) (by kernel_rfl) (by kernel_rfl) (fun _ _ _ h => h) (Or.inl ⟨by rfl, ?_⟩) (by assumption) ?_
  case refine_2 => intro w hSw; (try dsimp only at hSw); have hcs := LeAt.cells hSw; obtain ⟨y0, y1, y2, y3, y4, y5, y6, y7⟩ := hcs; clear hSw; go_simp; first | done | (with_reducible rfl)
  try simp only [Act.put, List.getElem_toArray, List.getElem_cons_zero, List.getElem_cons_succ, List.setIfInBounds_toArray, List.set_cons_zero, List.set_cons_succ]
  refine wpAnyH_take (i := 7) (oi := _) (v := ?_) rfl (by kernel_rfl) (by kernel_rfl) (by kernel_rfl) (fun _ _ _ h => h) (Or.inl ⟨by rfl, ?_⟩) (by assumption) ?_
  case refine_2 => intro w hSw; (try dsimp only at hSw); have hcs := LeAt.cells hSw; obtain ⟨y0, y1, y2, y3, y4, y5, y6, y7⟩ := hcs; clear hSw; go_simp; first | done | (with_reducible rfl)
  try simp only [Act.put, List.getElem_toArray, List.getElem_cons_zero, List.getElem_cons_succ, List.setIfInBounds_toArray, List.set_cons_zero, List.set_cons_succ]
  refine wpAnyH_ready (rs := [2]) (by kernel_rfl) (by simp) ?_
  refine AllReadyH.cons rfl (fun K hK => ?_) AllReadyH.nil
  go_simp
  go_at_call 22
  refine (CA.out _).mono ?_
  rintro e w2 ⟨V2, rfl, hr, hb⟩
  have HS2 := Lib.hid (HS1d.out.below hb)
  have HR2 := Lib.hid hr
  clear hb hr
  refine hK.out _ _ HS2.out.box (fun hHeld => ?_)
  clear hK K
  try simp only [Act.put, List.getElem_toArray, List.getElem_cons_zero, List.getElem_cons_succ, List.setIfInBounds_toArray, List.set_cons_zero, List.set_cons_succ]
  refine wpAnyH_ready (rs := [4]) (by kernel_rfl) (by simp) ?_
  refine AllReadyH.cons rfl (fun K hK => ?_) AllReadyH.nil
  go_simp
  go_at_call 23
  refine (CB.out _).mono ?_
  rintro e w3 ⟨V3, rfl, hr, hb⟩
  have HS3 := Lib.hid (HS2.out.below hb)
  have HA3 := Lib.hid (HR2.out.below hb)
  have HR3 := Lib.hid hr
  clear hb hr HR2
  obtain ⟨A2, c2, e2, _⟩ := HA3.out
  obtain ⟨A3, c3, e3, _⟩ := HR3.out
  subst e2
  subst e3
  refine hK.out _ _ HS3.out.box (fun hHeld => ?_)
  clear hK K
  try simp only [Act.put, List.getElem_toArray, List.getElem_cons_zero, List.getElem_cons_succ, List.setIfInBounds_toArray, List.set_cons_zero, List.set_cons_succ]
  refine wpAnyH_ready (rs := [5]) (by kernel_rfl) (by simp) ?_
  refine AllReadyH.cons rfl (fun K hK => ?_) AllReadyH.nil
  go_simp
  have HRN : Hid (Rnd w (w3.alloc (.cells #[.slice A2 z2.length c2, .slice A3 z3.length c3] 27)) s0 w3.heap.size (.slice A2 z2.length c2) (.slice A3 z3.length c3) z2 z3) := Lib.hid (by
    have hb : Below w3.heap.size w3 (w3.alloc (.cells #[.slice A2 z2.length c2, .slice A3 z3.length c3] 27)) := (Below.refl _ _).alloc (Nat.le_refl _) _
    have n4 : (w3.alloc (.cells #[.slice A2 z2.length c2, .slice A3 z3.length c3] 27)).heap[w3.heap.size]? = some (.cells #[.slice A2 z2.length c2, .slice A3 z3.length c3] 27 (0, 0)) := by
      show (w3.heap.push _)[w3.heap.size]? = _
      simp
    exact ⟨HS3.out.below hb, HA3.out.below hb, HR3.out.below hb, (cells_of n4 0).1, (cells_of n4 1).1⟩)
  refine hK.out _ _ HRN.out.st.box (fun hHeld => ?_)
  clear hK K
  try simp only [Act.put, List.getElem_toArray, List.getElem_cons_zero, List.getElem_cons_succ, List.setIfInBounds_toArray, List.set_cons_zero, List.set_cons_succ]
  refine wpAnyH_take (i := 6) (oi := _) (v := ?_) rfl (by kernel_rfl) (by kernel_rfl) (by kernel_rfl) (fun _ _ _ h => h) (Or.inl ⟨by rfl, ?_⟩) (by assumption) ?_
  case refine_2 => intro w hSw; (try dsimp only at hSw); have hcs := LeAt.cells hSw; obtain ⟨y0, y1, y2, y3, y4, y5, y6, y7⟩ := hcs; clear hSw; go_simp; first | done | (with_reducible rfl)
  try simp only [Act.put, List.getElem_toArray, List.getElem_cons_zero, List.getElem_cons_succ, List.setIfInBounds_toArray, List.set_cons_zero, List.set_cons_succ]
  refine wpAnyH_done (by kernel_rfl) ?_ _
  have hlt3 : w3.heap.size < w3.heap.size + 1 := by omega
  clear HS3 HA3 HR3 CA CB
  go_wp2
  go_loopw [26] (fun i wr => ∃ k : Nat, k ≤ 2 ∧ i = .int .i64 (k : Int) ∧ Rnd w wr s0 w3.heap.size (.slice A2 z2.length c2) (.slice A3 z3.length c3) z2 z3) (fun i _ => 2 - (intOf i).toNat)
  case atStart => exact ⟨0, by omega, rfl, HRN.out⟩
  case round =>
    obtain ⟨k, hk, rfl, hrn⟩ := hrel
    have HR := Lib.hid hrn
    clear hrn HRN
    generalize w3.heap.size = gb at *
    by_cases hk2 : k < 2
    · obtain ⟨V, zs, hcell, hrow, hor⟩ := HR.out.at k hk2
      have HOF : Hid (zs.length ≠ 0 → Of zs) := Lib.hid (by rcases hor with rfl | rfl; exact HO2.out; exact HO3.out)
      obtain ⟨A, c, rfl, bt, cc, cm, cn⟩ := hrow
      have HW : Hid (Row wr (.slice A zs.length c) zs) := Lib.hid ⟨A, c, rfl, bt, cc, cm, cn⟩
      have HBT := Lib.hid bt
      have HCN := Lib.hid cn
      unfold maxLen at cm
      clear hor bt cn
      obtain ⟨n, hn⟩ : ∃ n, zs.length = n := ⟨_, rfl⟩
      have HN := Lib.hid hn
      rw [hn] at hcell cc HBT HW HOF HCN
      clear hn
      by_cases hn0 : n = 0
      · subst hn0
        go_wp2
        go_roundw
        case rel => exact ⟨k + 1, by omega, by go_num, HR.out⟩
        case measure => simp [intOf]; omega
      · have tn : ((n : Int) == 0) = false := by simp; omega
        have hOf := HOF.out hn0
        obtain ⟨h60, hv2⟩ := of_len hOf
        have e60 : n = 60 := by have := HN.out; omega
        subst e60
        obtain ⟨ad, rfl⟩ := HBT.out.some_of (by omega)
        obtain ⟨r, hr⟩ : ∃ r, U % 60 = r := ⟨_, rfl⟩
        have hrn : r < 60 := by omega
        have m1 : (U : Int) % 60 = (r : Int) := by omega
        have m2 : Int.tmod (U : Int) 60 = (r : Int) := by rw [Int.tmod_eq_emod_of_nonneg (by omega)]; exact m1
        have hrc : (r : Int) ≤ (c : Int) := by omega
        have hwU : IntKind.i64.wrap (U : Int) = (U : Int) := by rw [IntKind.wrap_i64]; omega
        obtain ⟨t, ht⟩ : ∃ t, U % 200 = t := ⟨_, rfl⟩
        have q1 : (U : Int) % 200 = (t : Int) := by omega
        have q2 : Int.tmod (U : Int) 200 = (t : Int) := by rw [Int.tmod_eq_emod_of_nonneg (by omega)]; exact q1
        have ht2 : t < 200 := by omega
        obtain ⟨⟨y1, y2⟩, y3⟩ := xor2 ⟨t, ht2⟩
        dsimp only at y1 y2 y3
        obtain ⟨yv, hyv⟩ : ∃ y, bits .xor .u8 2 (1 + (t : Int)) = y := ⟨_, rfl⟩
        rw [hyv] at y1 y2 y3
        have HNC := Lib.hid (of_take hOf r (by omega))
        have HND := Lib.hid (of_app hOf (U : Int))
        have HNV := Lib.hid (of_set hOf yv y3)
        have HV2 := Lib.hid hv2
        clear hr hOf HOF h60 ht hv2
        obtain ⟨bo, off, ea, _, hcs⟩ := HBT.out.2.2 (by decide)
        cases ea
        clear hcs
        go_wp2_with (at_builtin; refine wpList_append_bts rfl (.tmp 33) (.tmp 34) rfl wr.heap.size _ 0 [] rfl (lit_own wr) _ 60 c zs rfl (HBT.out.alloc _) HCN.out (by omega) (by simp) ?_; intro v5 w5 ho5 hg5; rw [List.nil_append, Nat.zero_add] at ho5; have HB5 := Lib.hid (own_grown_below (lit_own wr) ((Below.refl wr.heap.size wr).alloc (Nat.le_refl _) _) (Nat.le_refl _) hg5); clear hg5; obtain ⟨g7, c7, rfl, hg7, hc7, hm7⟩ := own_some ho5 (by decide); have hcell7 := ho5.cellAt 0 (by omega); have hfr7 := ho5.frozenAt 0; rw [B_at _ 0 (by have := HN.out; omega), HV2.out] at hcell7; have HO5 := Lib.hid ho5; clear ho5)
        obtain ⟨w8, hw8⟩ : ∃ w8, w5.setCell ⟨g7, 0, none⟩ (.int .u8 yv) = w8 := ⟨_, rfl⟩
        have HBr : Hid (Below wr.heap.size wr w8) := Lib.hid (by rw [← hw8]; exact HB5.out.setCell (p := ⟨g7, 0, none⟩) hg7 _)
        have HV : Hid (Row w8 (.slice (some ⟨g7, 0, none⟩) 60 c7) (zs.set 0 yv)) := Lib.hid (by
          have := stored_own HO5.out 0 yv
          rw [hw8] at this
          have hl : (zs.set 0 yv).length = 60 := by rw [List.length_set]; exact HN.out
          refine Row.own (b := wr.heap.size) ?_ (mem_set_bd HBT.out.bd ⟨y1, y2⟩ 0)
          rw [hl]
          exact this)
        have HC : Hid (Row w8 (.slice (some ⟨bo, off, none⟩) r c) (zs.take r)) := Lib.hid (by
          have h1 := HBT.out.cut (r := r) (by omega)
          have hl := h1.len
          refine Row.below (w := wr) ⟨some ⟨bo, off, none⟩, c, by rw [hl], by rw [hl]; exact h1, by omega, by unfold maxLen; omega, by intro hh; cases hh⟩ HBr.out)
        have HR8 := Lib.hid (HR.out.below HBr.out)
        have HW8 := Lib.hid (HW.out.below HBr.out)
        have HB8 := Lib.hid (HBT.out.below HBr.out)
        rw [hw8]
        clear hw8 HB5 HO5 HBr hcell7 hfr7 HW HR
        have D8 : Hid (Rnd w w8.drew s0 gb (.slice A2 z2.length c2) (.slice A3 z3.length c3) z2 z3) := Lib.hid (HR8.out.below (below_drewN' (Below.refl _ _) 1))
        have DW := Lib.hid (HW8.out.drew 1)
        have DC := Lib.hid (HC.out.drew 1)
        have DV := Lib.hid (HV.out.drew 1)
        have DB := Lib.hid (HB8.out.drewN 1)
        obtain ⟨wd, hwd⟩ : ∃ W, w8.drew = W := ⟨_, rfl⟩
        change Hid (Row w8.drew _ _) at DW DC DV
        change Hid (Bts w8.drew _ _ _) at DB
        rw [hwd] at D8 DW DC DV DB
        clear HR8 HW8 HC HV HB8
        go_wp2_with fail
        refine wp_region_held_drew (S := fun _ => True) (by kernel_rfl) trivial (fun hHeld => ?_)
        refine wpAnyH_take (i := 0) (oi := _) (v := ?_) rfl (by kernel_rfl) (by kernel_rfl) (by kernel_rfl) (fun _ _ _ h => h) (Or.inl ⟨by rfl, ?_⟩) (by assumption) ?_
        case refine_2 => intro w hSw; (try dsimp only at hSw); go_simp; first | done | (with_reducible rfl)
        try simp only [Act.put, List.getElem_toArray, List.getElem_cons_zero, List.setIfInBounds_toArray, List.set_cons_zero, List.set_cons_succ]
        refine wpAnyH_take (i := 1) (oi := _) (v := ?_) rfl (by kernel_rfl) (by kernel_rfl) (by kernel_rfl) (fun _ _ _ h => h) (Or.inl ⟨by rfl, ?_⟩) (by assumption) ?_
        case refine_2 => intro w hSw; (try dsimp only at hSw); go_simp; first | done | (with_reducible rfl)
        try simp only [Act.put, List.getElem_toArray, List.getElem_cons_zero, List.getElem_cons_succ, List.setIfInBounds_toArray, List.set_cons_zero, List.set_cons_succ]
        refine wpAnyH_take (i := 2) (oi := _) (v := ?_) rfl (by kernel_rfl) (by kernel_rfl) (by kernel_rfl) (fun _ _ _ h => h) (Or.inl ⟨by rfl, ?_⟩) (by assumption) ?_
        case refine_2 => intro w hSw; (try dsimp only at hSw); go_simp; first | done | (with_reducible rfl)
        try simp only [Act.put, List.getElem_toArray, List.getElem_cons_zero, List.getElem_cons_succ, List.setIfInBounds_toArray, List.set_cons_zero, List.set_cons_succ]
        refine wpAnyH_take (i := 3) (oi := _) (v := ?_) rfl (by kernel_rfl) (by kernel_rfl) (by kernel_rfl) (fun _ _ _ h => h) (Or.inl ⟨by rfl, ?_⟩) (by assumption) ?_
        case refine_2 => intro w hSw; (try dsimp only at hSw); go_simp; first | done | (with_reducible rfl)
        try simp only [Act.put, List.getElem_toArray, List.getElem_cons_zero, List.getElem_cons_succ, List.setIfInBounds_toArray, List.set_cons_zero, List.set_cons_succ]
        refine wpAnyH_take (i := 4) (oi := _) (v := ?_) rfl (by kernel_rfl) (by kernel_rfl) (by kernel_rfl) (fun _ _ _ h => h) (Or.inl ⟨by rfl, ?_⟩) (by assumption) ?_
        case refine_2 => intro w hSw; (try dsimp only at hSw); go_simp; first | done | (with_reducible rfl)
        try simp only [Act.put, List.getElem_toArray, List.getElem_cons_zero, List.getElem_cons_succ, List.setIfInBounds_toArray, List.set_cons_zero, List.set_cons_succ]
        refine wpAnyH_take (i := 6) (oi := _) (v := ?_) rfl (by kernel_rfl) (by kernel_rfl) (by kernel_rfl) (fun _ _ _ h => h) (Or.inl ⟨by rfl, ?_⟩) (by assumption) ?_
        case refine_2 => intro w hSw; (try dsimp only at hSw); go_simp; first | done | (with_reducible rfl)
        try simp only [Act.put, List.getElem_toArray, List.getElem_cons_zero, List.getElem_cons_succ, List.setIfInBounds_toArray, List.set_cons_zero, List.set_cons_succ]
        refine wpAnyH_take (i := 8) (oi := _) (v := ?_) rfl (by kernel_rfl) (by kernel_rfl) (by kernel_rfl) (fun _ _ _ h => h) (Or.inl ⟨by rfl, ?_⟩) (by assumption) ?_
        case refine_2 => intro w hSw; (try dsimp only at hSw); go_simp; first | done | (with_reducible rfl)
        try simp only [Act.put, List.getElem_toArray, List.getElem_cons_zero, List.getElem_cons_succ, List.setIfInBounds_toArray, List.set_cons_zero, List.set_cons_succ]
        refine wpAnyH_take (i := 11) (oi := _) (v := ?_) rfl (by kernel_rfl) (by kernel_rfl) (by kernel_rfl) (fun _ _ _ h => h) (Or.inl ⟨by rfl, ?_⟩) (by assumption) ?_
        case refine_2 => intro w hSw; (try dsimp only at hSw); go_simp; first | done | (with_reducible rfl)
        try simp only [Act.put, List.getElem_toArray, List.getElem_cons_zero, List.getElem_cons_succ, List.setIfInBounds_toArray, List.set_cons_zero, List.set_cons_succ]
        refine wpAnyH_take (i := 14) (oi := _) (v := ?_) rfl (by kernel_rfl) (by kernel_rfl) (by kernel_rfl) (fun _ _ _ h => h) (Or.inl ⟨by rfl, ?_⟩) (by assumption) ?_
        case refine_2 => intro w hSw; (try dsimp only at hSw); go_simp; first | done | (with_reducible rfl)
        try simp only [Act.put, List.getElem_toArray, List.getElem_cons_zero, List.getElem_cons_succ, List.setIfInBounds_toArray, List.set_cons_zero, List.set_cons_succ]
        rw [hwd]
        refine wpAnyH_ready (rs := [5, 9]) (by kernel_rfl) (by simp) ?_
        refine AllReadyH.cons rfl (fun K hK => ?_) (AllReadyH.cons rfl (fun K hK => ?_) AllReadyH.nil)
        · go_simp
          have HE := Lib.hid (St9.start (wd := wd) (Below.refl _ wd))
          refine hK.out _ _ trivial (fun hHeld => ?_)
          clear hK K
          try simp only [Act.put, List.getElem_toArray, List.getElem_cons_zero, List.getElem_cons_succ, List.setIfInBounds_toArray, List.set_cons_zero, List.set_cons_succ]
          refine wpAnyH_ready (rs := [7, 9]) (by kernel_rfl) (by simp) ?_
          refine AllReadyH.cons rfl (fun K hK => ?_) (AllReadyH.cons rfl (fun K hK => ?_) AllReadyH.nil)
          · refine step_bts (n := 0) (xs := []) rfl (.tmp 50) (.tmp 51) rfl rfl HE.out.own rfl (DB.out.below HE.out.low) (by omega) HE.out.low.size ?_
            intro V7 w7 ho hg
            rw [List.nil_append, Nat.zero_add] at ho
            have HE7 := Lib.hid (HE.out.app ho hg)
            clear ho hg
            refine hK.out _ _ trivial (fun hHeld => ?_)
            clear hK K
            try simp only [Act.put, List.getElem_toArray, List.getElem_cons_zero, List.getElem_cons_succ, List.setIfInBounds_toArray, List.set_cons_zero, List.set_cons_succ]
            refine wpAnyH_ready (rs := [9]) (by kernel_rfl) (by simp) ?_
            refine AllReadyH.cons rfl (fun K hK => ?_) AllReadyH.nil
            go_simp
            have HU := Lib.hid (lit1 w7 (U : Int) (by omega))
            have HE9 := Lib.hid (HE7.out.lit (.cells #[.int .u8 (U : Int)] 5))
            refine hK.out _ _ trivial (fun hHeld => ?_)
            clear hK K
            try simp only [Act.put, List.getElem_toArray, List.getElem_cons_zero, List.getElem_cons_succ, List.setIfInBounds_toArray, List.set_cons_zero, List.set_cons_succ]
            refine wpAnyH_ready (rs := [10]) (by kernel_rfl) (by simp) ?_
            refine AllReadyH.cons rfl (fun K hK => ?_) AllReadyH.nil
            refine step_bts (n := 60) (xs := zs) rfl (.tmp 52) (.tmp 54) rfl rfl HE9.out.own rfl HU.out (by omega) HE9.out.low.size ?_
            intro VD w10 ho hg
            have HE10 : Hid (St9 wd w10 VD 61 (zs ++ [(U : Int)])) := Lib.hid (HE9.out.app ho hg)
            clear ho hg
            refine hK.out _ _ trivial (fun hHeld => ?_)
            clear hK K
            try simp only [Act.put, List.getElem_toArray, List.getElem_cons_zero, List.getElem_cons_succ, List.setIfInBounds_toArray, List.set_cons_zero, List.set_cons_succ]
            obtain ⟨gd, cd, rfl, _⟩ := own_some HE10.out.own (by decide)
            have D8z := Lib.hid (D8.out.below HE10.out.low)
            have DWz := Lib.hid (DW.out.below HE10.out.low)
            have DCz := Lib.hid (DC.out.below HE10.out.low)
            have DVz := Lib.hid (DV.out.below HE10.out.low)
            have DDz : Hid (Row w10 (.slice (some ⟨gd, 0, none⟩) 61 cd) (zs ++ [(U : Int)])) := Lib.hid (by
              refine Row.own (b := wd.heap.size) ?_ (mem_append_bd HBT.out.bd (by intro z hz; simp at hz; omega))
              have := HE10.out.own
              have hl : (zs ++ [(U : Int)]).length = 61 := by rw [List.length_append, HN.out]; rfl
              rw [hl]
              exact this)
            clear HE10
            refine wpAnyH_ready (rs := [12]) (by kernel_rfl) (by simp) ?_
            refine AllReadyH.cons rfl (fun K hK => ?_) AllReadyH.nil
            go_simp
            have HI := Lib.hid (In3.start D8z.out DWz.out DCz.out DDz.out DVz.out)
            refine hK.out _ _ trivial (fun hHeld => ?_)
            clear hK K
            try simp only [Act.put, List.getElem_toArray, List.getElem_cons_zero, List.getElem_cons_succ, List.setIfInBounds_toArray, List.set_cons_zero, List.set_cons_succ]
            refine wpAnyH_take (i := 13) (oi := _) (v := ?_) rfl (by kernel_rfl) (by kernel_rfl) (by kernel_rfl) (fun _ _ _ h => h) (Or.inl ⟨by rfl, ?_⟩) (by assumption) ?_
            case refine_2 => intro w hSw; (try dsimp only at hSw); go_simp; first | done | (with_reducible rfl)
            try simp only [Act.put, List.getElem_toArray, List.getElem_cons_zero, List.getElem_cons_succ, List.setIfInBounds_toArray, List.set_cons_zero, List.set_cons_succ]
            refine wpAnyH_done (by kernel_rfl) ?_ _
            have A1 := Lib.hid (fun V zs (hz : ¬ Of zs) W hr => no26 hz (V := V) W hr)
            have A4 := Lib.hid (fun V zs (hz : ¬ Of zs) W hr => no27 hz (V := V) W hr)
            unfold paT leV leA zeroL at A1
            unfold pbT leV leA zeroL at A4
            dsimp only at A1 A4
            clear DW DC DV DB D8 DWz DCz DVz D8z DDz
            generalize w10.heap.size = g3 at *
            go_wp2
            go_loopw [59] (fun i wq => ∃ j : Nat, j ≤ 3 ∧ i = .int .i64 (j : Int) ∧ In3 w wq s0 gb (.slice A2 z2.length c2) (.slice A3 z3.length c3) z2 z3 g3 (.slice (some ⟨bo, off, none⟩) 60 c) zs (.slice (some ⟨bo, off, none⟩) r c) (.slice (some ⟨gd, 0, none⟩) 61 cd) (.slice (some ⟨g7, 0, none⟩) 60 c7) (zs.take r) (zs ++ [(U : Int)]) (zs.set 0 yv)) (fun i _ => 3 - (intOf i).toNat)
            case atStart => exact ⟨0, by omega, rfl, HI.out⟩
            case round =>
              obtain ⟨j, hj, rfl, hin⟩ := hrel
              have HIN := Lib.hid hin
              clear hin HI
              by_cases hj3 : j < 3
              · obtain ⟨Vy, zy, hcy, hry, hny⟩ := HIN.out.at HNC.out HND.out HNV.out j hj3
                have HRY := Lib.hid hry
                obtain ⟨Ay, cy, rfl, _⟩ := HRY.out
                have HNY := Lib.hid hny
                clear hry hny
                go_wp2_with fail
                refine (A1.out _ _ HNY.out _ HRY.out).mono ?_
                rintro e wa ⟨rfl, hb⟩
                obtain ⟨k1, _⟩ := lay wa zeroL
                have HIa := Lib.hid ((HIN.out.below hb).below k1)
                have HRa := Lib.hid ((HRY.out.below hb).below k1)
                unfold leA zeroL at HIa HRa
                dsimp only at HIa HRa
                clear hb k1 hcy
                go_wp2_with fail
                refine (A4.out _ _ HNY.out _ HRa.out).mono ?_
                rintro e wb ⟨rfl, hb⟩
                obtain ⟨k1, _⟩ := lay wb zeroL
                have HIb := Lib.hid ((HIa.out.below hb).below k1)
                unfold leA zeroL at HIb
                dsimp only at HIb
                clear hb k1
                go_wp2
                go_roundw
                case rel => exact ⟨j + 1, by omega, by go_num, HIb.out⟩
                case measure => simp [intOf]; omega
              · have hrx := HIN.out.rx
                have CVx := Lib.hid (pversion hrx)
                rw [HN.out, HV2.out] at CVx
                clear hrx
                go_wp2_with fail
                refine CVx.out.mono ?_
                rintro e wv ⟨rfl, rfl⟩
                go_wp2
                go_roundw
                case rel => exact ⟨k + 1, by omega, by go_num, HIN.out.rnd⟩
                case measure => simp [intOf]; omega
          · go_simp
            have HU := Lib.hid (lit1 (wd.alloc (.cells #[] 5)) (U : Int) (by omega))
            have HE9 := Lib.hid (HE.out.lit (.cells #[.int .u8 (U : Int)] 5))
            rw [World.size_alloc] at HU
            refine hK.out _ _ trivial (fun hHeld => ?_)
            clear hK K
            try simp only [Act.put, List.getElem_toArray, List.getElem_cons_zero, List.getElem_cons_succ, List.setIfInBounds_toArray, List.set_cons_zero, List.set_cons_succ]
            refine wpAnyH_ready (rs := [7]) (by kernel_rfl) (by simp) ?_
            refine AllReadyH.cons rfl (fun K hK => ?_) AllReadyH.nil
            refine step_bts (n := 0) (xs := []) rfl (.tmp 50) (.tmp 51) rfl rfl HE9.out.own rfl (DB.out.below HE9.out.low) (by omega) HE9.out.low.size ?_
            intro V7 w7 ho hg
            rw [List.nil_append, Nat.zero_add] at ho
            have HE7 := Lib.hid (HE9.out.app ho hg)
            have HU7 := Lib.hid (bts_other HU.out hg (by show some _ ≠ some _; simp))
            clear ho hg
            refine hK.out _ _ trivial (fun hHeld => ?_)
            clear hK K
            try simp only [Act.put, List.getElem_toArray, List.getElem_cons_zero, List.getElem_cons_succ, List.setIfInBounds_toArray, List.set_cons_zero, List.set_cons_succ]
            refine wpAnyH_ready (rs := [10]) (by kernel_rfl) (by simp) ?_
            refine AllReadyH.cons rfl (fun K hK => ?_) AllReadyH.nil
            refine step_bts (n := 60) (xs := zs) rfl (.tmp 52) (.tmp 54) rfl rfl HE7.out.own rfl HU7.out (by omega) HE7.out.low.size ?_
            intro VD w10 ho hg
            have HE10 : Hid (St9 wd w10 VD 61 (zs ++ [(U : Int)])) := Lib.hid (HE7.out.app ho hg)
            clear ho hg
            refine hK.out _ _ trivial (fun hHeld => ?_)
            clear hK K
            try simp only [Act.put, List.getElem_toArray, List.getElem_cons_zero, List.getElem_cons_succ, List.setIfInBounds_toArray, List.set_cons_zero, List.set_cons_succ]
            obtain ⟨gd, cd, rfl, _⟩ := own_some HE10.out.own (by decide)
            have D8z := Lib.hid (D8.out.below HE10.out.low)
            have DWz := Lib.hid (DW.out.below HE10.out.low)
            have DCz := Lib.hid (DC.out.below HE10.out.low)
            have DVz := Lib.hid (DV.out.below HE10.out.low)
            have DDz : Hid (Row w10 (.slice (some ⟨gd, 0, none⟩) 61 cd) (zs ++ [(U : Int)])) := Lib.hid (by
              refine Row.own (b := wd.heap.size) ?_ (mem_append_bd HBT.out.bd (by intro z hz; simp at hz; omega))
              have := HE10.out.own
              have hl : (zs ++ [(U : Int)]).length = 61 := by rw [List.length_append, HN.out]; rfl
              rw [hl]
              exact this)
            clear HE10
            refine wpAnyH_ready (rs := [12]) (by kernel_rfl) (by simp) ?_
            refine AllReadyH.cons rfl (fun K hK => ?_) AllReadyH.nil
            go_simp
            have HI := Lib.hid (In3.start D8z.out DWz.out DCz.out DDz.out DVz.out)
            refine hK.out _ _ trivial (fun hHeld => ?_)
            clear hK K
            try simp only [Act.put, List.getElem_toArray, List.getElem_cons_zero, List.getElem_cons_succ, List.setIfInBounds_toArray, List.set_cons_zero, List.set_cons_succ]
            refine wpAnyH_take (i := 13) (oi := _) (v := ?_) rfl (by kernel_rfl) (by kernel_rfl) (by kernel_rfl) (fun _ _ _ h => h) (Or.inl ⟨by rfl, ?_⟩) (by assumption) ?_
            case refine_2 => intro w hSw; (try dsimp only at hSw); go_simp; first | done | (with_reducible rfl)
            try simp only [Act.put, List.getElem_toArray, List.getElem_cons_zero, List.getElem_cons_succ, List.setIfInBounds_toArray, List.set_cons_zero, List.set_cons_succ]
            refine wpAnyH_done (by kernel_rfl) ?_ _
            have A1 := Lib.hid (fun V zs (hz : ¬ Of zs) W hr => no26 hz (V := V) W hr)
            have A4 := Lib.hid (fun V zs (hz : ¬ Of zs) W hr => no27 hz (V := V) W hr)
            unfold paT leV leA zeroL at A1
            unfold pbT leV leA zeroL at A4
            dsimp only at A1 A4
            clear DW DC DV DB D8 DWz DCz DVz D8z DDz
            generalize w10.heap.size = g3 at *
            go_wp2
            go_loopw [59] (fun i wq => ∃ j : Nat, j ≤ 3 ∧ i = .int .i64 (j : Int) ∧ In3 w wq s0 gb (.slice A2 z2.length c2) (.slice A3 z3.length c3) z2 z3 g3 (.slice (some ⟨bo, off, none⟩) 60 c) zs (.slice (some ⟨bo, off, none⟩) r c) (.slice (some ⟨gd, 0, none⟩) 61 cd) (.slice (some ⟨g7, 0, none⟩) 60 c7) (zs.take r) (zs ++ [(U : Int)]) (zs.set 0 yv)) (fun i _ => 3 - (intOf i).toNat)
            case atStart => exact ⟨0, by omega, rfl, HI.out⟩
            case round =>
              obtain ⟨j, hj, rfl, hin⟩ := hrel
              have HIN := Lib.hid hin
              clear hin HI
              by_cases hj3 : j < 3
              · obtain ⟨Vy, zy, hcy, hry, hny⟩ := HIN.out.at HNC.out HND.out HNV.out j hj3
                have HRY := Lib.hid hry
                obtain ⟨Ay, cy, rfl, _⟩ := HRY.out
                have HNY := Lib.hid hny
                clear hry hny
                go_wp2_with fail
                refine (A1.out _ _ HNY.out _ HRY.out).mono ?_
                rintro e wa ⟨rfl, hb⟩
                obtain ⟨k1, _⟩ := lay wa zeroL
                have HIa := Lib.hid ((HIN.out.below hb).below k1)
                have HRa := Lib.hid ((HRY.out.below hb).below k1)
                unfold leA zeroL at HIa HRa
                dsimp only at HIa HRa
                clear hb k1 hcy
                go_wp2_with fail
                refine (A4.out _ _ HNY.out _ HRa.out).mono ?_
                rintro e wb ⟨rfl, hb⟩
                obtain ⟨k1, _⟩ := lay wb zeroL
                have HIb := Lib.hid ((HIa.out.below hb).below k1)
                unfold leA zeroL at HIb
                dsimp only at HIb
                clear hb k1
                go_wp2
                go_roundw
                case rel => exact ⟨j + 1, by omega, by go_num, HIb.out⟩
                case measure => simp [intOf]; omega
              · have hrx := HIN.out.rx
                have CVx := Lib.hid (pversion hrx)
                rw [HN.out, HV2.out] at CVx
                clear hrx
                go_wp2_with fail
                refine CVx.out.mono ?_
                rintro e wv ⟨rfl, rfl⟩
                go_wp2
                go_roundw
                case rel => exact ⟨k + 1, by omega, by go_num, HIN.out.rnd⟩
                case measure => simp [intOf]; omega
        · go_simp
          have HU := Lib.hid (lit1 wd (U : Int) (by omega))
          refine hK.out _ _ trivial (fun hHeld => ?_)
          clear hK K
          try simp only [Act.put, List.getElem_toArray, List.getElem_cons_zero, List.getElem_cons_succ, List.setIfInBounds_toArray, List.set_cons_zero, List.set_cons_succ]
          refine wpAnyH_ready (rs := [5]) (by kernel_rfl) (by simp) ?_
          refine AllReadyH.cons rfl (fun K hK => ?_) AllReadyH.nil
          go_simp
          have HE := Lib.hid (St9.start (wd := wd) ((Below.refl _ wd).alloc (Nat.le_refl _) (.cells #[.int .u8 (U : Int)] 5)))
          rw [World.size_alloc] at HE
          have HU5 := Lib.hid (HU.out.alloc (.cells #[] 5))
          refine hK.out _ _ trivial (fun hHeld => ?_)
          clear hK K
          try simp only [Act.put, List.getElem_toArray, List.getElem_cons_zero, List.getElem_cons_succ, List.setIfInBounds_toArray, List.set_cons_zero, List.set_cons_succ]
          refine wpAnyH_ready (rs := [7]) (by kernel_rfl) (by simp) ?_
          refine AllReadyH.cons rfl (fun K hK => ?_) AllReadyH.nil
          refine step_bts (n := 0) (xs := []) rfl (.tmp 50) (.tmp 51) rfl rfl HE.out.own rfl (DB.out.below HE.out.low) (by omega) HE.out.low.size ?_
          intro V7 w7 ho hg
          rw [List.nil_append, Nat.zero_add] at ho
          have HE7 := Lib.hid (HE.out.app ho hg)
          have HU7 := Lib.hid (bts_other HU5.out hg (by show some _ ≠ some _; simp))
          clear ho hg
          refine hK.out _ _ trivial (fun hHeld => ?_)
          clear hK K
          try simp only [Act.put, List.getElem_toArray, List.getElem_cons_zero, List.getElem_cons_succ, List.setIfInBounds_toArray, List.set_cons_zero, List.set_cons_succ]
          refine wpAnyH_ready (rs := [10]) (by kernel_rfl) (by simp) ?_
          refine AllReadyH.cons rfl (fun K hK => ?_) AllReadyH.nil
          refine step_bts (n := 60) (xs := zs) rfl (.tmp 52) (.tmp 54) rfl rfl HE7.out.own rfl HU7.out (by omega) HE7.out.low.size ?_
          intro VD w10 ho hg
          have HE10 : Hid (St9 wd w10 VD 61 (zs ++ [(U : Int)])) := Lib.hid (HE7.out.app ho hg)
          clear ho hg
          refine hK.out _ _ trivial (fun hHeld => ?_)
          clear hK K
          try simp only [Act.put, List.getElem_toArray, List.getElem_cons_zero, List.getElem_cons_succ, List.setIfInBounds_toArray, List.set_cons_zero, List.set_cons_succ]
          obtain ⟨gd, cd, rfl, _⟩ := own_some HE10.out.own (by decide)
          have D8z := Lib.hid (D8.out.below HE10.out.low)
          have DWz := Lib.hid (DW.out.below HE10.out.low)
          have DCz := Lib.hid (DC.out.below HE10.out.low)
          have DVz := Lib.hid (DV.out.below HE10.out.low)
          have DDz : Hid (Row w10 (.slice (some ⟨gd, 0, none⟩) 61 cd) (zs ++ [(U : Int)])) := Lib.hid (by
            refine Row.own (b := wd.heap.size) ?_ (mem_append_bd HBT.out.bd (by intro z hz; simp at hz; omega))
            have := HE10.out.own
            have hl : (zs ++ [(U : Int)]).length = 61 := by rw [List.length_append, HN.out]; rfl
            rw [hl]
            exact this)
          clear HE10
          refine wpAnyH_ready (rs := [12]) (by kernel_rfl) (by simp) ?_
          refine AllReadyH.cons rfl (fun K hK => ?_) AllReadyH.nil
          go_simp
          have HI := Lib.hid (In3.start D8z.out DWz.out DCz.out DDz.out DVz.out)
          refine hK.out _ _ trivial (fun hHeld => ?_)
          clear hK K
          try simp only [Act.put, List.getElem_toArray, List.getElem_cons_zero, List.getElem_cons_succ, List.setIfInBounds_toArray, List.set_cons_zero, List.set_cons_succ]
          refine wpAnyH_take (i := 13) (oi := _) (v := ?_) rfl (by kernel_rfl) (by kernel_rfl) (by kernel_rfl) (fun _ _ _ h => h) (Or.inl ⟨by rfl, ?_⟩) (by assumption) ?_
          case refine_2 => intro w hSw; (try dsimp only at hSw); go_simp; first | done | (with_reducible rfl)
          try simp only [Act.put, List.getElem_toArray, List.getElem_cons_zero, List.getElem_cons_succ, List.setIfInBounds_toArray, List.set_cons_zero, List.set_cons_succ]
          refine wpAnyH_done (by kernel_rfl) ?_ _
          have A1 := Lib.hid (fun V zs (hz : ¬ Of zs) W hr => no26 hz (V := V) W hr)
          have A4 := Lib.hid (fun V zs (hz : ¬ Of zs) W hr => no27 hz (V := V) W hr)
          unfold paT leV leA zeroL at A1
          unfold pbT leV leA zeroL at A4
          dsimp only at A1 A4
          clear DW DC DV DB D8 DWz DCz DVz D8z DDz
          generalize w10.heap.size = g3 at *
          go_wp2
          go_loopw [59] (fun i wq => ∃ j : Nat, j ≤ 3 ∧ i = .int .i64 (j : Int) ∧ In3 w wq s0 gb (.slice A2 z2.length c2) (.slice A3 z3.length c3) z2 z3 g3 (.slice (some ⟨bo, off, none⟩) 60 c) zs (.slice (some ⟨bo, off, none⟩) r c) (.slice (some ⟨gd, 0, none⟩) 61 cd) (.slice (some ⟨g7, 0, none⟩) 60 c7) (zs.take r) (zs ++ [(U : Int)]) (zs.set 0 yv)) (fun i _ => 3 - (intOf i).toNat)
          case atStart => exact ⟨0, by omega, rfl, HI.out⟩
          case round =>
            obtain ⟨j, hj, rfl, hin⟩ := hrel
            have HIN := Lib.hid hin
            clear hin HI
            by_cases hj3 : j < 3
            · obtain ⟨Vy, zy, hcy, hry, hny⟩ := HIN.out.at HNC.out HND.out HNV.out j hj3
              have HRY := Lib.hid hry
              obtain ⟨Ay, cy, rfl, _⟩ := HRY.out
              have HNY := Lib.hid hny
              clear hry hny
              go_wp2_with fail
              refine (A1.out _ _ HNY.out _ HRY.out).mono ?_
              rintro e wa ⟨rfl, hb⟩
              obtain ⟨k1, _⟩ := lay wa zeroL
              have HIa := Lib.hid ((HIN.out.below hb).below k1)
              have HRa := Lib.hid ((HRY.out.below hb).below k1)
              unfold leA zeroL at HIa HRa
              dsimp only at HIa HRa
              clear hb k1 hcy
              go_wp2_with fail
              refine (A4.out _ _ HNY.out _ HRa.out).mono ?_
              rintro e wb ⟨rfl, hb⟩
              obtain ⟨k1, _⟩ := lay wb zeroL
              have HIb := Lib.hid ((HIa.out.below hb).below k1)
              unfold leA zeroL at HIb
              dsimp only at HIb
              clear hb k1
              go_wp2
              go_roundw
              case rel => exact ⟨j + 1, by omega, by go_num, HIb.out⟩
              case measure => simp [intOf]; omega
            · have hrx := HIN.out.rx
              have CVx := Lib.hid (pversion hrx)
              rw [HN.out, HV2.out] at CVx
              clear hrx
              go_wp2_with fail
              refine CVx.out.mono ?_
              rintro e wv ⟨rfl, rfl⟩
              go_wp2
              go_roundw
              case rel => exact ⟨k + 1, by omega, by go_num, HIN.out.rnd⟩
              case measure => simp [intOf]; omega
    · obtain rfl : k = 2 := by omega
      have HF := Lib.hid HR.out.st.low
      go_wp2
      go_ret
      exact ⟨rfl, HF.out⟩

/-! ### THE ROW's STEP: WRITTEN OUT: LEAVE IT -/
set_option maxRecDepth 100000 in
theorem lifted (os : Os) (started : os.Started) (H : Type) (enc : TypeId × Value → H) :
    ReturnsInHanded {} Try.checked os 10 .any (Rows.pcpCutSpec.pre6 enc Try.prog Try.f10 Rows.pcpCutRow.domain false) (Rows.pcpCutSpec.post enc Try.prog Try.f10 false true false false) := by
  refine returnsInHanded_of_change (C := Try.checked) own started (by kernel_rfl) Try.func10
    (ChangeSpec.witness6 (enc := enc) (C := Try.checked) false ⟨#[], #[.agg #[.int .i64 0, .int .i64 0, .int .i64 0, .int .i64 0, .int .u64 0, .int .i64 0, .int .i64 0, .int .u32 0], .int .u32 0, .int .u8 0], []⟩ 8 (by kernel_rfl) (by kernel_rfl) (by kernel_rfl) (by kernel_rfl)) ?_
  intro W base args ds gs before hval0 hW hcnd _
  have hval : ∀ (j : Nat) t v, Try.f10.params[j]? = some t → args[j]? = some v → Value.okWide Try.prog W .any base t v := hval0
  have hW' := hW
  obtain ⟨p, q, hA0, hV, rfl, hfz, hnd⟩ := hW
  have hA : DataW.TrodAll enc Try.prog W 0 (fun _ => true) true Try.f10.params.toList args.toList ds p := hA0
  rw [Try.params10] at hA hval
  obtain ⟨v0, vs0, d0, ds0, p0, q0, hargs, rfl, rfl, h0, r0⟩ := trodAll_cons hA
  obtain ⟨v1, vs1, d1, ds1, p1, q1, rfl, rfl, rfl, h1, r1⟩ := trodAll_cons r0
  obtain ⟨v2, vs2, d2, ds2, p2, q2, rfl, rfl, rfl, h2, r2⟩ := trodAll_cons r1
  obtain ⟨rfl, rfl, rfl⟩ := trodAll_nil r2
  obtain rfl : args = #[v0, v1, v2] := by cases args; simp_all
  obtain ⟨rfl, rfl⟩ := trodVars_none hV
  have k0 := h0
  have lt0 : ∀ x ∈ p0, x.block < W.heap.size := by obtain ⟨m, hm⟩ := k0; exact DataW.trod_lt m _ _ _ hm
  obtain ⟨s0, w0⟩ := open_le (hval 0 25 v0 rfl rfl) h0
  obtain ⟨a1, rfl, rfl, rfl, w1⟩ := open_int Try.underlying23 (hval 1 23 v1 rfl rfl) h1
  obtain ⟨a2, rfl, rfl, rfl, w2⟩ := open_int Try.underlying5 (hval 2 5 v2 rfl rfl) h2
  clear hA0 hval0
  refine (walk v0 s0 a1 a2 W w0 w1 w2).mono fun e W' ⟨he, bel⟩ => ?_
  subst he
  exact ⟨_, rfl, _, _, _, [], _, [], hW', trodAll_mk1 (shut_bool Try.underlying4 _), (trodAll_cons_mk (Below.trod laidOut (by kernel_rfl) (of_decide_eq_true (by kernel_rfl)) k0 bel lt0) (trodAll_cons_mk (shut_int Try.underlying23 w1) (trodAll_cons_mk (shut_int Try.underlying5 w2) trodAll_mk0))), rfl, bel.frame _, fun h => by cases h⟩

theorem over : Rows.pcpCutRow.holds Try.pinned (OpenSpec.ofChange Rows.pcpCutSpec) :=
  OpenClaim.holds_of_wide 10 Try.f10 rfl rfl rfl rfl rfl rfl rfl ⟨rfl, rfl, rfl, rfl, rfl⟩ rfl rfl rfl rfl rfl (by kernel_rfl) Try.func10 (by kernel_rfl)
    (of_decide_eq_true (by kernel_rfl)) (by unfold Func.isWrapper; first | (rw [if_pos (by decide +kernel)]; kernel_rfl) | (rw [if_neg (by decide +kernel)]; exact ⟨rfl, rfl⟩))
    (fun os started H enc _ => lifted os started H enc)

/-- ████ THE STATEMENT ████ -/
theorem proved : Rows.PcpCutSaid := over
#print axioms proved
end Go.Proofs.Ytabokjhimpmiiaa.pcpCut
