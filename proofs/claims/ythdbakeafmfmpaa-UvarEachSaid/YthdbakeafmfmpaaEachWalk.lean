/-
  The walk of the statement UvarEach: for whatever bytes, numbers and stop it answers true, and writes nothing that was there. Conditions: the slices read as bytes and as numbers.
-/
import Derived.Test.YthdbakeafmfmpaaRowWalk
import Derived.Deep.RegionLaw
namespace Go.Proofs.Ythdbakeafmfmpaa
open Go.RowKit Go.Shelf
attribute [local go_sem] Oper.semAt_some
set_option linter.unusedVariables false

theorem Vs_at {l : List (Nat × Int)} {p : Nat} {y : Nat × Int} (h : l[p]? = some y) : (Vs l)[p]? = some (.int .u64 y.2) := by simp [Vs, h]
theorem Ps_at {l : List (Nat × Int)} {p : Nat} {y : Nat × Int} (h : l[p]? = some y) : (Ps l)[p]? = some (.int .i64 (y.1 : Int)) := by simp [Ps, h]

/-- what a call that makes memory and an append to a row of bytes do to a box and another row -/
theorem rel_b' {W1 wa w2 w3 : World} {g k m n : Nat} {t e : TypeId} {vat vb vb' : Value} {xs : List Value} {zs ys : List Int} (ht : t ≠ 5) (hee : 5 ≠ e) (bx : Boxed wa g t vat) (ho3 : wa.ownsRow W1.heap.size e 1 vat k xs) (ho5 : wa.ownsRow W1.heap.size 5 1 vb m (B zs))
    (hbel : Below W1.heap.size W1 wa) (hb : Below wa.heap.size wa w2) (hg : w2.grownBy w3 vb.ownBlock) (ho5' : w3.ownsRow W1.heap.size 5 1 vb' n (B ys)) :
    Boxed w3 g t vat ∧ w3.ownsRow W1.heap.size e 1 vat k xs ∧ Below W1.heap.size W1 w3 := by
  have ho52 := own_below ho5 hb
  have ho32 := own_below' ho3 hb
  have bx2 := Boxed.below bx hb bx.lt
  have hb2 := hbel.trans (hb.mono hbel.size)
  exact ⟨box_grown bx2 ho52 ht hg, other_kept ho52 ho32 hee hg, hb2.grown hg hb2.size (fun g h => (ho52.lt g h).1)⟩
/-- what an append to a row in a box, and the store of what it gives, do to a row of bytes -/
theorem rel_at' {W1 wr w1 : World} {g k k' m : Nat} {t e : TypeId} {vat vat' vb : Value} {xs ys : List Value} {zs : List Int} {o : Obj} (ht5 : t ≠ 5) (hte : t ≠ e) (hee : e ≠ 5) (hgl : W1.heap.size ≤ g) (bx : Boxed wr g t vat) (ho3 : wr.ownsRow W1.heap.size e 1 vat k xs) (ho5 : wr.ownsRow W1.heap.size 5 1 vb m (B zs))
    (hbel : Below W1.heap.size W1 wr) (hg : (wr.alloc o).grownBy w1 vat.ownBlock) (ho3' : w1.ownsRow W1.heap.size e 1 vat' k' ys) :
    Boxed w1 g t vat ∧ Below W1.heap.size W1 w1 ∧ Boxed (w1.setCell ⟨g, 0, none⟩ vat') g t vat' ∧ (w1.setCell ⟨g, 0, none⟩ vat').ownsRow W1.heap.size e 1 vat' k' ys ∧
      (w1.setCell ⟨g, 0, none⟩ vat').ownsRow W1.heap.size 5 1 vb m (B zs) ∧ Below W1.heap.size W1 (w1.setCell ⟨g, 0, none⟩ vat') := by
  have bx1 := box_grown (bx.alloc _) (ho3.alloc _) hte hg
  have hb1 : Below W1.heap.size W1 w1 := (hbel.alloc hbel.size o).grown hg (by have := hbel.size; simp; omega) (fun g h => (ho3.lt g h).1)
  have ho5' := other_kept (ho3.alloc _) (ho5.alloc _) hee hg
  exact ⟨bx1, hb1, bx1.set _, own_set_box bx1 ho3' hte _, own_set_box bx1 ho5' ht5 _, hb1.setCell (p := ⟨g, 0, none⟩) hgl _⟩

def U64 (ns : List Nat) : List Value := ns.map fun (v : Nat) => .int .u64 (v : Int)
def small (v : Nat) : Bool := decide (v < 9223372036854775808)
def alls (vs : List Nat) (k : Nat) : List Nat := (vs.take k).filter small
theorem alls_le (vs : List Nat) (k : Nat) : (alls vs k).length ≤ k := by
  unfold alls
  exact Nat.le_trans (List.length_filter_le _ _) (List.length_take_le _ _)
theorem alls_yes (vs : List Nat) (k : Nat) (h : k < vs.length) (hs : vs.getD k 0 < 9223372036854775808) : alls vs (k + 1) = alls vs k ++ [vs.getD k 0] := by
  unfold alls
  rw [List.take_succ_eq_append_getElem h, List.filter_append]
  simp only [List.getD, List.getElem?_eq_getElem h, Option.getD_some] at hs ⊢
  simp [small, hs]
theorem alls_no (vs : List Nat) (k : Nat) (h : k < vs.length) (hs : ¬ vs.getD k 0 < 9223372036854775808) : alls vs (k + 1) = alls vs k := by
  unfold alls
  rw [List.take_succ_eq_append_getElem h, List.filter_append]
  simp only [List.getD, List.getElem?_eq_getElem h, Option.getD_some] at hs
  simp [small, hs]
theorem flat_filter : ∀ vs : List Nat, Uv.flat (vs.filter small) = Uv.flat vs
  | [] => rfl
  | v :: vs => by
    by_cases h : v < 9223372036854775808
    · simp [small, h, Uv.flat]
      exact flat_filter vs
    · simp [small, h, Uv.flat, Uv.enc_big v h]
      exact flat_filter vs
theorem small_all (vs : List Nat) : ∀ v ∈ vs.filter small, v < 9223372036854775808 := by
  intro v hv
  simpa [small] using (List.mem_filter.1 hv).2
theorem each_all (vs : List Nat) : Uv.each 0 (Uv.flat vs) = Uv.places 0 (vs.filter small) := by
  have := Uv.each_flat 0 (vs.filter small) [] (small_all vs)
  rw [List.append_nil, flat_filter, Uv.each_nil, List.append_nil] at this
  exact this
theorem U64_at (ns : List Nat) (p : Nat) (h : p < ns.length) : (U64 ns)[p]? = some (.int .u64 ((ns.getD p 0 : Nat) : Int)) := by
  simp [U64, List.getD, h]

theorem nts_ne {w : World} {A : Option Addr} {n b : Nat} {vs : List Nat} (h : Nts w A n vs) (hb : w.heap.size ≤ b) : 0 < n → ∀ ad, A = some ad → ad.block ≠ b := by
  rintro hn ad e
  obtain ⟨g, off, e', hlt, _⟩ := h.2.2 hn
  rw [e] at e'
  injection e' with e'
  subst e'
  show g ≠ b
  omega
theorem Nts.but {A W : World} {b n : Nat} {Av : Option Addr} {vs : List Nat} (h : Nts A Av n vs) (hg : A.grownBy W (some b)) (hb : 0 < n → ∀ ad, Av = some ad → ad.block ≠ b) : Nts W Av n vs := by
  obtain ⟨h1, h2, h3⟩ := h
  refine ⟨h1, h2, fun hn => ?_⟩
  obtain ⟨g, off, rfl, hlt, hc⟩ := h3 hn
  exact ⟨g, off, rfl, Nat.lt_of_lt_of_le hlt hg.size, fun j hj => grown_cell hg (hc j hj) (show g ≠ b from hb hn ⟨g, off, none⟩ rfl)⟩

/-- append onto a row of the call's own, as one step of a region that draws its order -/
theorem step_append_own {P : Program} (w : World) {ops : Array Oper} {o : Oper} {a : Act} {K : Act → World → Prop} {Q : Exit → Act → World → Prop} {F : Prop} (hgd : o.guard = none) (s x : Operand) (t : TypeId)
    (ho : o.op = .call { callee := .builtin .append, args := #[s, x], argTypes := #[t, t] })
    (base : Nat) (e : TypeId) (i : TypeInfo) (z : Value) (size bytes : Nat) (ht : P.underlying t = some (.slice e)) (hi : P.info? e = some i) (hz : i.zero = some z)
    (hsize : i.size = size) (hby : i.bytes = bytes) (hzs : z.cells.size = size) (hsz : 0 < size)
    (v : Value) (n : Nat) (xs : List Value) (hs : a.eval s = v) (hown : w.ownsRow base e size v n xs)
    (ad : Addr) (m c : Nat) (news : List Value) (hx : a.eval x = .slice (some ad) m c) (hl : news.length = m * size) (hnews : ∀ j u, news[j]? = some u → w.cell? (ad.add j) = some u) (h1 : ∀ u ∈ news, u.oneCell' = true)
    (h63 : n + m ≤ maxLen) (hbytes : (n + m) * bytes ≤ 140737488355328) (hbase : base ≤ w.heap.size)
    (h : ∀ v' w', w'.ownsRow base e size v' (n + m) (xs ++ news) → w.grownBy w' v.ownBlock → K (a.put o.dst v') w') :
    if Region.wanted o (yielded ops a.tmps) = true then Oper.wp P o a w K Q else F := by
  have hw : Region.wanted o (yielded ops a.tmps) = true := by simp [Region.wanted, hgd]
  rw [if_pos hw]
  exact wp_append_own w s x t ho base e i z size bytes ht hi hz hsize hby hzs hsz v n xs hs hown ad m c news hx hl hnews h1 h63 hbytes hbase fun v' w' h2 h3 _ => h v' w' h2 h3

/-- left in the plain way alone -/
def Only (Q : Exit → Act → World → Prop) : Exit → Act → World → Prop
  | .normal, a, w => Q .normal a w
  | _, _, _ => False
theorem Only.all {Q : Exit → Act → World → Prop} : ∀ e a w, Only Q e a w → Q e a w
  | .normal, _, _, h => h
  | .exit _, _, _, h => h.elim
  | .goto _, _, _, h => h.elim
  | .ret, _, _, h => h.elim
  | .panic _, _, _, h => h.elim
  | .outgrown, _, _, h => h.elim

def RelE (W : World) (vs : List Nat) (k : Nat) (vr : Value) (wr : World) : Prop :=
  ∃ vall, Boxed wr W.heap.size 33 vall ∧ wr.ownsRow W.heap.size 22 1 vall (alls vs k).length (U64 (alls vs k)) ∧ wr.ownsRow W.heap.size 5 1 vr (Uv.flat (vs.take k)).length (B (Uv.flat (vs.take k))) ∧ Below W.heap.size W wr

set_option maxRecDepth 100000 in
set_option maxHeartbeats 4000000 in
theorem each_walk (a0 : Option Addr) (len0 cap0 : Nat) (zs : List Int) (a1 : Option Addr) (len1 cap1 : Nat) (vs : List Nat) (t : Nat) (w : World) (h0 : Bts w a0 len0 zs) (h1 : Nts w a1 len1 vs) (ht : t ≤ 255) (hc0 : len0 ≤ cap0) (hd0 : cap0 ≤ maxLen) (hc1 : len1 ≤ cap1) (hd1 : cap1 ≤ maxLen) (hnil : a0 = none → len0 = 0 ∧ cap0 = 0) :
    Calls Try.prog 5 #[.slice a0 len0 cap0, .slice a1 len1 cap1, .int .u8 (t : Int)] w fun e w' => e = .returned (.bool true) ∧ Below w.heap.size w w' := by
  have HZ := Lib.hid h0; clear h0
  have HN := Lib.hid h1; clear h1
  have HD0 := Lib.hid hd0; clear hd0
  unfold maxLen at hd1
  have HNIL := Lib.hid hnil; clear hnil
  refine (callsIn_wide (n := 6)).1 ?_
  refine callsIn_of_wp_marks Try.func5 rfl trivial ?_ rfl
  refine wpIn_wide.2 ?_
  simp only [Try.ntmps5, List.size_toArray, List.length_cons, List.length_nil, Nat.reduceAdd, Nat.reduceSub, Array.replicate_succ, Array.replicate_zero, List.push_toArray, List.append_toArray, List.nil_append, List.cons_append]
  go_wp2_with fail
  refine (awake_any _).mono ?_
  rintro e W1 ⟨rfl, hb1⟩
  have bxS := Boxed.below ((Boxed.new w 5 (.int .u8 (t : Int))).alloc (.cells #[.bool false] 4)) hb1 (by simp; omega)
  have bxR := Boxed.below (Boxed.new (w.alloc (.cells #[.int .u8 (t : Int)] 5)) 4 (.bool false)) hb1 (by simp)
  rw [World.size_alloc] at bxR
  have HN1 := Lib.hid (((HN.out.alloc _).alloc _).below hb1)
  have HZ1 := Lib.hid (((HZ.out.alloc _).alloc _).below hb1)
  have HB1 : Hid (Below w.heap.size w W1) := Lib.hid ((((Below.refl _ w).alloc (Nat.le_refl _) _).alloc (by simp) _).trans (hb1.mono (by simp; omega)))
  clear hb1 HN HZ
  have hcR := bxR.cell
  have hfR := bxR.frozen
  have HS := Lib.hid bxS; have HR := Lib.hid bxR
  clear bxS bxR
  by_cases hlen : len0 ≤ 300 ∧ len1 ≤ 60
  · obtain ⟨hl0, hl1⟩ := hlen
    have t1 : decide ((300 : Int) < (len0 : Int)) = false := by simp; omega
    have t2 : decide ((60 : Int) < (len1 : Int)) = false := by simp; omega
    have hsz : w.heap.size + 2 ≤ W1.heap.size := HR.out.lt
    clear hcR hfR
    go_wp2_with fail
    refine (ref_each_any a0 len0 cap0 zs W1 HZ1.out hc0 HD0.out (by omega)).mono ?_
    rintro e w2 ⟨v1, v2, rfl, hoV, hoP, hbE⟩
    obtain ⟨A7, c7, rfl, hnc7, hc7⟩ := own_shape hoV
    obtain ⟨A8, c8, rfl, hnc8, hc8⟩ := own_shape hoP
    obtain ⟨E, hE⟩ : ∃ E, Uv.each 0 zs = E := ⟨_, rfl⟩
    rw [hE] at hoV hoP hnc7 hnc8 ⊢
    have hel := Uv.each_len 0 zs
    rw [hE, HZ1.out.len] at hel
    obtain ⟨cnt, hct⟩ : ∃ n, E.length = n := ⟨_, rfl⟩
    rw [hct] at hoV hoP hnc7 hnc8 hel ⊢
    have HOV := Lib.hid hoV; have HOP := Lib.hid hoP; have HBE := Lib.hid hbE; have HCT := Lib.hid hct; have HE := Lib.hid hE
    clear hoV hoP hbE hct hE hc7 hc8
    obtain ⟨Wl, hWl⟩ : ∃ Wl, ((w2.alloc (.cells #[.slice A7 cnt c7] 33)).alloc (.cells #[.slice A8 cnt c8] 34)).alloc (.cells #[.int .i64 0] 3) = Wl := ⟨_, rfl⟩
    have hWsz : Wl.heap.size = w2.heap.size + 3 := by rw [← hWl]; simp
    have HBW : Hid (Below W1.heap.size W1 Wl) := Lib.hid (by rw [← hWl]; exact ((HBE.out.alloc HBE.out.size _).alloc (by have := HBE.out.size; simp; omega) _).alloc (by have := HBE.out.size; simp; omega) _)
    have HB2W : Hid (Below w2.heap.size w2 Wl) := Lib.hid (by rw [← hWl]; exact (((Below.refl _ w2).alloc (Nat.le_refl _) _).alloc (by simp) _).alloc (by simp; omega) _)
    have F7 : Hid (Boxed Wl w2.heap.size 33 (.slice A7 cnt c7)) := Lib.hid (by rw [← hWl]; exact ((Boxed.new w2 33 _).alloc _).alloc _)
    have F8 : Hid (Boxed Wl (w2.heap.size + 1) 34 (.slice A8 cnt c8)) := Lib.hid (by rw [← hWl]; have := (Boxed.new (w2.alloc (.cells #[.slice A7 cnt c7] 33)) 34 (.slice A8 cnt c8)).alloc (.cells #[.int .i64 0] 3); rwa [World.size_alloc] at this)
    have F9 : Hid (Boxed Wl (w2.heap.size + 2) 3 (.int .i64 0)) := Lib.hid (by rw [← hWl]; have := Boxed.new ((w2.alloc (.cells #[.slice A7 cnt c7] 33)).alloc (.cells #[.slice A8 cnt c8] 34)) 3 (.int .i64 0); rwa [World.size_alloc, World.size_alloc] at this)
    have HWL := Lib.hid hWl; clear hWl
    have HWS := Lib.hid hWsz; clear hWsz
    go_wp2_with (go_at_call 17; rw [HWL.out]; refine (each_any a0 len0 cap0 zs _ (HZ1.out.below HBW.out) HNIL.out (by omega)).mono ?_; rintro e W7 ⟨g7, A9, c9, rfl, hbox7, ht7, hn7, hc7, ⟨hg7a, hg7b⟩, hA7, hb7⟩; have HBOX7 := Lib.hid hbox7; have HT7 := Lib.hid ht7; have HC7 := Lib.hid hc7; have HA7 := Lib.hid hA7; have HB7 := Lib.hid hb7; clear hbox7 ht7 hc7 hA7 hb7)
    have hlt : ∀ x ∈ blocks g7 A9, x < W7.heap.size := blocks_all hg7b (fun ad e => (HA7.out ad e).2)
    have h10 : w2.heap.size + 2 < Wl.heap.size := by have := HWS.out; omega
    have hne : ∀ x ∈ blocks g7 A9, x ≠ w2.heap.size + 2 := blocks_all (p := fun x => x ≠ w2.heap.size + 2) (by omega) (fun ad e => by have := (HA7.out ad e).1; omega)
    have hst := each_stops 5 (by omega) g7 (blocks g7 A9) A9 len0 c9 zs W7 hlt HBOX7.out (blocks_self _ _) (blocks_addr _ _) HT7.out hn7 HC7.out
    rw [HE.out] at hst
    have F9' := Lib.hid (Boxed.below F9.out HB7.out (by omega))
    have HB17 : Hid (Below W1.heap.size W1 W7) := Lib.hid (HBW.out.trans (HB7.out.mono HBW.out.size))
    have HB27 : Hid (Below w2.heap.size w2 W7) := Lib.hid (HB2W.out.trans (HB7.out.mono HB2W.out.size))
    have hw12 : W1.heap.size ≤ w2.heap.size := HBE.out.size
    have FS7 := Lib.hid (Boxed.below HS.out HB17.out (by omega))
    have FR7 := Lib.hid (Boxed.below HR.out HB17.out (by omega))
    have F77 := Lib.hid (Boxed.below F7.out HB7.out (by omega))
    have F87 := Lib.hid (Boxed.below F8.out HB7.out (by omega))
    refine (wpIn_wide (n := 6)).1 ?_
    apply wpIn_rangeFunc_ownF (F := Fence.wide) (n := 6) (gf := 20) (lb := #[.pointer (some ⟨g7, 0, none⟩)]) rfl (by omega) rfl trivial (enters_of Try.func20 (by kernel_rfl) rfl) hst SameAt.t (SameAt.b hlt) (Below.refl _ _) (fun _ => rfl)
      (fun pre W => Boxed W (w2.heap.size + 2) 3 (.int .i64 (pre.length : Int)) ∧ W7.grownBy W (some (w2.heap.size + 2)))
      (fun c pre W => (c = .ret ∧ ¬ pre <+: E) ∨ (c = .exit 0 ∧ pre.length = t ∧ Boxed W (w2.heap.size + 2) 3 (.int .i64 (pre.length : Int)) ∧ W7.grownBy W (some (w2.heap.size + 2))))
      (fun s A B row hs hg hr => ⟨hs.1.kept hg (fun e => by have := (hr _ e.symm).1; have := HB7.out.size; omega), grown_then hs.2 hg (fun r e => (hr r e).1)⟩)
      (fun c s A B row hs hg hr => hs.imp id (fun hs => ⟨hs.1, hs.2.1, hs.2.2.1.kept hg (fun e => by have := (hr _ e.symm).1; have := HB7.out.size; omega), grown_then hs.2.2.2 hg (fun r e => (hr r e).1)⟩))
      ⟨F9'.out, World.grownBy.refl _ _⟩
    case hassign =>
      intro l x W K hK
      simp only [encs]
      gi_wp2
      exact hK
    case hbody =>
      rintro l pre ⟨xi, xv⟩ W ⟨bx, hg⟩ hlen
      have hc9 := bx.cell
      have hf9 := bx.frozen
      have hcS := (grown_box hg FS7.out (by omega)).cell
      have hc7 := (grown_box hg F77.out (by omega)).cell
      have hc8 := (grown_box hg F87.out (by omega)).cell
      have bxR := grown_box hg FR7.out (by omega)
      have hcR := bxR.cell
      have hfR := bxR.frozen
      clear bxR
      obtain ⟨p, hp⟩ : ∃ p, pre.length = p := ⟨_, rfl⟩
      rw [hp] at hc9 hlen
      rw [HCT.out] at hlen
      have b1 : decide ((cnt : Int) ≤ (p : Int)) = false := by simp; omega
      obtain ⟨⟨yi, yv⟩, hy⟩ : ∃ y, E[p]? = some y := ⟨_, List.getElem?_eq_getElem (by rw [HCT.out]; exact hlen)⟩
      obtain ⟨ga, rfl, _, hga, hqa0⟩ := own_cell HOV.out hlen
      obtain ⟨gb, rfl, _, hgb, hqb0⟩ := own_cell HOP.out hlen
      rw [Vs_at hy] at hqa0
      rw [Ps_at hy] at hqb0
      have hqa := grown_cell hg ((HB27.out.cell (p := ⟨ga, p, none⟩) hga).trans hqa0) (by show ga ≠ _; omega)
      have hqb := grown_cell hg ((HB27.out.cell (p := ⟨gb, p, none⟩) hgb).trans hqb0) (by show gb ≠ _; omega)
      dsimp only at hqa hqb
      have HG := Lib.hid hg; have BX := Lib.hid bx; have HP := Lib.hid hp; have HY := Lib.hid hy
      clear hg bx hp hy hqa0 hqb0
      by_cases hxi : (xi : Int) = (yi : Int)
      · have b2 : ((xi : Int) != (yi : Int)) = false := by simp [hxi]
        clear hxi
        by_cases hxv : xv = yv
        · have b3 : (xv != yv) = false := by simp [hxv]
          clear hxv
          by_cases hpt : p + 1 = t
          · have b5 : ((p : Int) + 1 == (t : Int)) = true := by simp; omega
            have HPT := Lib.hid hpt; clear hpt
            gi_wp2
            exact ⟨KeepsOthers.setCell _ _ _, .inr ⟨rfl, by rw [List.length_append, HP.out]; exact HPT.out, by have := BX.out.set (.int .i64 ((p : Int) + 1)); rw [List.length_append, HP.out]; simpa using this, grown_set HG.out _⟩⟩
          · have b5 : ((p : Int) + 1 == (t : Int)) = false := by simp; omega
            clear hpt
            gi_wp2
            exact ⟨KeepsOthers.setCell _ _ _, same_set hne _, by have := BX.out.set (.int .i64 ((p : Int) + 1)); rw [List.length_append, HP.out]; simpa using this, grown_set HG.out _⟩
        · have b3 : (xv != yv) = true := by simp [hxv]
          have HX := Lib.hid hxv; clear hxv
          gi_wp2
          exact ⟨KeepsOthers.setCell _ _ _, .inl ⟨rfl, not_prefix (by rw [HP.out]; exact HY.out) (fun e => HX.out (by injection e))⟩⟩
      · have b2 : ((xi : Int) != (yi : Int)) = true := by simp [hxi]
        have HX := Lib.hid hxi; clear hxi
        gi_wp2
        exact ⟨KeepsOthers.setCell _ _ _, .inl ⟨rfl, not_prefix (by rw [HP.out]; exact HY.out) (fun e => HX.out (by injection e with e; rw [e]))⟩⟩
    case hdone =>
      rintro D xs W hD hxs ⟨bx, hg⟩ hK
      have hxl : xs.length = cnt := by rw [hxs, HCT.out]
      rw [hxl] at bx
      clear hxs hxl
      have hc9 := bx.cell
      have hc7 := (grown_box hg F77.out (by omega)).cell
      have hcS := (grown_box hg FS7.out (by omega)).cell
      have BXR := Lib.hid (grown_box hg FR7.out (by omega))
      have HBWW : Hid (Below w.heap.size w W) := Lib.hid ((HB1.out.trans (HB17.out.mono HB1.out.size)).grown hg (by have := HB1.out.size; have := HB17.out.size; omega) (fun g e => by injection e; have := HB1.out.size; omega))
      have HNW := Lib.hid (Nts.but (HN1.out.below HB17.out) hg (nts_ne HN1.out (by omega)))
      have HKK := Lib.hid hK
      have HG := Lib.hid hg
      obtain ⟨i22, hi22, ha0, ha1, ha2⟩ := info_parts u64_info
      clear hg bx hK
      have b6 : ((cnt : Int) != (cnt : Int)) = false := by simp
      go_wp2
      go_loopw [14, 12] (fun p vr wr => ∃ k : Nat, p = .int .i64 (k : Int) ∧ k ≤ len1 ∧ RelE W vs k vr wr) (fun p _ _ => len1 - (intOf p).toNat)
      case atStart => exact ⟨0, rfl, by omega, _, Boxed.new W 33 (.slice none 0 0), by simpa [alls, U64] using World.ownsRow_nil _ _ 22 1, by simpa [Uv.flat, B] using World.ownsRow_nil _ _ 5 1, (Below.refl _ _).alloc (Nat.le_refl _) _⟩
      case round =>
        obtain ⟨k, rfl, hk, vall, bxA, ho22, ho5, hbel⟩ := hrel
        have hszr := hbel.size
        have hfl : (Uv.flat (vs.take k)).length ≤ 540 := by
          have h1 := Uv.flat_len (vs.take k)
          have h2 : (vs.take k).length ≤ k := List.length_take_le _ _
          omega
        have hal := alls_le vs k
        generalize hm : (Uv.flat (vs.take k)).length = m at *
        have HMM := Lib.hid hm; clear hm
        have HO22 := Lib.hid ho22; have HO5 := Lib.hid ho5; have HBL := Lib.hid hbel; have BXA := Lib.hid bxA
        clear ho22 ho5 hbel bxA
        by_cases hkn : k < len1
        · obtain ⟨b0, off0, rfl, hce0, hvv⟩ := HNW.out.cell hkn
          have hb0lt := lt_of_cell hce0
          have hce := (HBL.out.cell (p := ⟨b0, off0 + k, none⟩) hb0lt).trans hce0
          obtain ⟨v0, hv0⟩ : ∃ v, vs.getD k 0 = v := ⟨_, rfl⟩
          rw [hv0] at hce hvv
          have HV0 := Lib.hid hv0; clear hv0 hce0
          by_cases hsm : v0 < 9223372036854775808
          · have b8 : decide ((v0 : Int) ≤ 9223372036854775807) = true := by simp; omega
            go_wp2_with (first
              | (go_at_call 12; refine (ref_put_any v0 _).mono ?_; rintro e w5 ⟨r, rfl, hor5, hb5⟩; obtain ⟨Ar, cr, rfl, hncr, hcr, htr⟩ := own_form hor5 (Uv.enc_mem v0); have HRN := Lib.hid (own_nil hor5); have HBT := Lib.hid htr; have HB5 := Lib.hid hb5; clear hor5 hcr htr hb5)
              | (at_builtin; refine wpList_append_bts rfl (.tmp 79) (.tmp 84) rfl W.heap.size _ m (Uv.flat (vs.take k)) rfl (own_below HO5.out HB5.out) Ar _ cr (Uv.enc v0) rfl HBT.out HRN.out (by have := enc_le9 v0; omega) (Nat.le_trans HBL.out.size HB5.out.size) ?_; intro vr' w6 ho6 hg6; obtain ⟨bx6, ho226, hb6⟩ := rel_b' (by decide) (by decide) BXA.out HO22.out HO5.out HBL.out HB5.out hg6 ho6; have BX6 := Lib.hid bx6; have HO226 := Lib.hid ho226; have HB6 := Lib.hid hb6; have HO6 := Lib.hid ho6; have hce6 := (hb6.cell (p := ⟨b0, off0 + k, none⟩) hb0lt).trans ((HBL.out.cell (p := ⟨b0, off0 + k, none⟩) hb0lt).symm.trans hce); have hcA6 := bx6.cell; have hfA6 := bx6.frozen; clear bx6 ho226 hb6 ho6 hg6))
            have hcA6b := (BX6.out.alloc (.cells #[.int .u64 (v0 : Int)] 22)).cell
            refine Code.wp_mono (Q := Only _) Only.all ?_
            go_region_law (refine step_append_own _ rfl (.tmp 91) (.tmp 96) 33 rfl W.heap.size 22 i22 (.int .u64 0) 1 8 Try.underlying33 hi22 ha0 ha1 ha2 rfl (by decide) vall (alls vs k).length (U64 (alls vs k)) rfl (HO226.out.alloc (.cells #[.int .u64 (v0 : Int)] 22)) ⟨w6.heap.size, 0, none⟩ 1 1 [.int .u64 (v0 : Int)] rfl rfl (cell_one_new w6 (.int .u64 (v0 : Int)) 22) (by simp [Value.oneCell']) (by unfold maxLen; omega) (by omega) (by have := HB6.out.size; simp; omega) ?_; intro vall' w7 ho7 hg7d; have hg7 : (w6.alloc (.cells #[.int .u64 (v0 : Int)] 22)).grownBy w7 vall.ownBlock := ⟨hg7d.os, hg7d.tape, hg7d.output, hg7d.size, hg7d.block⟩; clear hg7d; obtain ⟨g9, c9', rfl⟩ := ownsRow_succ ho7; obtain ⟨bx7, hb7', bx8, ho228, ho58, hb8⟩ := rel_at' (by decide) (by decide) (by decide) (Nat.le_refl _) BX6.out HO226.out HO6.out HB6.out hg7 ho7; have hcA7 := bx7.cell; have hfA7 := bx7.frozen; have BX8 := Lib.hid bx8; have HO228 := Lib.hid ho228; have HO58 := Lib.hid ho58; have HB8 := Lib.hid hb8; clear bx7 hb7' bx8 ho228 ho58 hb8 ho7 hg7)
            all_goals
              simp only [Only]
              go_wp2
              go_roundw
              case rel =>
                refine ⟨k + 1, by go_num, by omega, _, BX8.out, ?_, ?_, HB8.out⟩
                · rw [alls_yes vs k (by have := HNW.out.1; omega) (by rw [HV0.out]; exact hsm), HV0.out, List.length_append]
                  simpa [U64] using HO228.out
                · rw [flat_snoc vs k (by have := HNW.out.1; omega), HV0.out, List.length_append, HMM.out]
                  exact HO58.out
              case measure => simp [intOf]; omega
          · have b8 : decide ((v0 : Int) ≤ 9223372036854775807) = false := by simp; omega
            go_wp2_with (first
              | (go_at_call 12; refine (ref_put_any v0 _).mono ?_; rintro e w5 ⟨r, rfl, hor5, hb5⟩; obtain ⟨Ar, cr, rfl, hncr, hcr, htr⟩ := own_form hor5 (Uv.enc_mem v0); have HRN := Lib.hid (own_nil hor5); have HBT := Lib.hid htr; have HB5 := Lib.hid hb5; clear hor5 hcr htr hb5)
              | (at_builtin; refine wpList_append_bts rfl (.tmp 79) (.tmp 84) rfl W.heap.size _ m (Uv.flat (vs.take k)) rfl (own_below HO5.out HB5.out) Ar _ cr (Uv.enc v0) rfl HBT.out HRN.out (by have := enc_le9 v0; omega) (Nat.le_trans HBL.out.size HB5.out.size) ?_; intro vr' w6 ho6 hg6; obtain ⟨bx6, ho226, hb6⟩ := rel_b' (by decide) (by decide) BXA.out HO22.out HO5.out HBL.out HB5.out hg6 ho6; have BX6 := Lib.hid bx6; have HO226 := Lib.hid ho226; have HB6 := Lib.hid hb6; have HO6 := Lib.hid ho6; have hce6 := (hb6.cell (p := ⟨b0, off0 + k, none⟩) hb0lt).trans ((HBL.out.cell (p := ⟨b0, off0 + k, none⟩) hb0lt).symm.trans hce); clear bx6 ho226 hb6 ho6 hg6))
            go_roundw
            case rel =>
              refine ⟨k + 1, by go_num, by omega, _, BX6.out, ?_, ?_, HB6.out⟩
              · rw [alls_no vs k (by have := HNW.out.1; omega) (by rw [HV0.out]; exact hsm)]
                exact HO226.out
              · rw [flat_snoc vs k (by have := HNW.out.1; omega), HV0.out, List.length_append, HMM.out]
                exact HO6.out
            case measure => simp [intOf]; omega
        · obtain rfl : k = len1 := by omega
          have htk : vs.take k = vs := List.take_of_length_le (by have := HNW.out.1; omega)
          unfold alls at HO22 hal
          rw [htk] at HO22 HO5 HMM hal
          clear htk
          have HEA := Lib.hid (each_all vs)
          have HSA := Lib.hid (small_all vs)
          generalize vs.filter small = sm at *
          obtain ⟨Av, cv, rfl, hncv, hcv, htv⟩ := own_form HO5.out (Uv.flat_bd _)
          obtain ⟨Aa, ca, rfl, hka, hca⟩ := own_shape HO22.out
          obtain ⟨an, han⟩ : ∃ n, sm.length = n := ⟨_, rfl⟩
          rw [han] at HO22 hka hal BXA
          have HAN := Lib.hid han; clear han hca
          have HTV := Lib.hid htv; clear htv
          have HCV := Lib.hid hcv; clear hcv
          have HVN := Lib.hid (own_nil HO5.out)
          obtain ⟨Wm, hWm⟩ : ∃ Wm, wr.alloc (.cells #[.int .i64 0] 3) = Wm := ⟨_, rfl⟩
          have hWs : Wm.heap.size = wr.heap.size + 1 := by rw [← hWm]; simp
          have HBM : Hid (Below wr.heap.size wr Wm) := Lib.hid (by rw [← hWm]; exact (Below.refl _ _).alloc (Nat.le_refl _) _)
          have F15 : Hid (Boxed Wm wr.heap.size 3 (.int .i64 0)) := Lib.hid (by rw [← hWm]; exact Boxed.new wr 3 _)
          have HWM := Lib.hid hWm; clear hWm
          have HWS2 := Lib.hid hWs; clear hWs
          go_wp2_with (go_at_call 17; rw [HWM.out]; refine (each_any Av m cv (Uv.flat vs) _ (HTV.out.below HBM.out) HVN.out (by omega)).mono ?_; rintro e W9 ⟨g9, A10, c10, rfl, hbox9, ht9, hn9, hc9', ⟨hg9a, hg9b⟩, hA9, hb9⟩; have HBOX9 := Lib.hid hbox9; have HT9 := Lib.hid ht9; have HC9 := Lib.hid hc9'; have HA9 := Lib.hid hA9; have HB9 := Lib.hid hb9; clear hbox9 ht9 hc9' hA9 hb9)
          have hlt9 : ∀ x ∈ blocks g9 A10, x < W9.heap.size := blocks_all hg9b (fun ad e => (HA9.out ad e).2)
          have h15 : wr.heap.size < Wm.heap.size := by have := HWS2.out; omega
          have hne9 : ∀ x ∈ blocks g9 A10, x ≠ wr.heap.size := blocks_all (p := fun x => x ≠ wr.heap.size) (by omega) (fun ad e => by have := (HA9.out ad e).1; omega)
          have hst9 := each_stops 5 (by omega) g9 (blocks g9 A10) A10 m c10 (Uv.flat vs) W9 hlt9 HBOX9.out (blocks_self _ _) (blocks_addr _ _) HT9.out hn9 HC9.out
          rw [HEA.out] at hst9
          have F15' := Lib.hid (Boxed.below F15.out HB9.out (by omega))
          have HBr9 : Hid (Below wr.heap.size wr W9) := Lib.hid (HBM.out.trans (HB9.out.mono HBM.out.size))
          have hWlt := BXA.out.lt
          have FA9 := Lib.hid (Boxed.below BXA.out HBr9.out BXA.out.lt)
          have FR9 := Lib.hid (Boxed.below (Boxed.below BXR.out HBL.out BXR.out.lt) HBr9.out (by have := BXR.out.lt; omega))
          have hRlt := BXR.out.lt
          refine (wpIn_wide (n := 6)).1 ?_
          apply wpIn_rangeFunc_ownF (F := Fence.wide) (n := 6) (gf := 20) (lb := #[.pointer (some ⟨g9, 0, none⟩)]) rfl (by omega) rfl trivial (enters_of Try.func20 (by kernel_rfl) rfl) hst9 SameAt.t (SameAt.b hlt9) (Below.refl _ _) (fun _ => rfl)
            (fun pre V => Boxed V wr.heap.size 3 (.int .i64 (pre.length : Int)) ∧ W9.grownBy V (some wr.heap.size))
            (fun c pre _ => c = .ret ∧ ¬ pre <+: Uv.places 0 sm)
            (fun s A B row hs hg hr => ⟨hs.1.kept hg (fun e => by have := (hr _ e.symm).1; have := HB9.out.size; omega), grown_then hs.2 hg (fun r e => (hr r e).1)⟩)
            (fun c s A B row hs hg hr => hs)
            ⟨F15'.out, World.grownBy.refl _ _⟩
          case hassign =>
            intro l x V K hK
            simp only [encs]
            gi_wp2
            exact hK
          case hbody =>
            rintro l pre ⟨xi, xv⟩ V ⟨bx, hg⟩ hlen
            rw [Uv.places_length, HAN.out] at hlen
            have hc15 := bx.cell
            have hf15 := bx.frozen
            have hcA := (grown_box hg FA9.out (by omega)).cell
            have bxR := grown_box hg FR9.out (by omega)
            have hcR := bxR.cell
            have hfR := bxR.frozen
            clear bxR
            obtain ⟨p, hp⟩ : ∃ p, pre.length = p := ⟨_, rfl⟩
            rw [hp] at hc15 hlen
            have b1 : decide ((an : Int) ≤ (p : Int)) = false := by simp; omega
            have hy := Uv.places_at 0 sm p HSA.out (by have := HAN.out; omega)
            obtain ⟨ga, rfl, _, hga, hqa0⟩ := own_cell HO22.out hlen
            rw [U64_at sm p (by have := HAN.out; omega)] at hqa0
            have hqa := grown_cell hg ((HBr9.out.cell (p := ⟨ga, p, none⟩) hga).trans hqa0) (by show ga ≠ _; omega)
            generalize sm.getD p 0 = yv at hqa hy
            have HG := Lib.hid hg; have BX := Lib.hid bx; have HP := Lib.hid hp; have HY := Lib.hid hy
            clear hg bx hp hy hqa0
            by_cases hxv : xv = (yv : Int)
            · have b3 : (xv != (yv : Int)) = false := by simp [hxv]
              clear hxv
              gi_wp2
              exact ⟨KeepsOthers.setCell _ _ _, same_set hne9 _, by have := BX.out.set (.int .i64 ((p : Int) + 1)); rw [List.length_append, HP.out]; simpa using this, grown_set HG.out _⟩
            · have b3 : (xv != (yv : Int)) = true := by simp [hxv]
              have HX := Lib.hid hxv; clear hxv
              gi_wp2
              exact ⟨KeepsOthers.setCell _ _ _, rfl, not_prefix (by rw [HP.out]; exact HY.out) (fun e => HX.out (by injection e))⟩
          case hstop =>
            rintro D2 c pre V _ hpre ⟨_, hno⟩ _
            exact absurd hpre hno
          case hdone =>
            rintro D2 xs V hD2 hxs ⟨bx, hg⟩ hK2
            have hxl : xs.length = an := by rw [hxs, Uv.places_length, HAN.out]
            rw [hxl] at bx
            have hc15 := bx.cell
            have hcA := (grown_box hg FA9.out (by omega)).cell
            have BXR2 := grown_box hg FR9.out (by omega)
            have hcR := BXR2.cell
            have hfR := BXR2.frozen
            have hDW : D < W.heap.size := (Array.getElem?_eq_some_iff.1 HKK.out).1
            have hK1 : V.heap[D]? = some (.deferred (some [])) := (hg.block D (by have := HBr9.out.size; omega) (fun e => by injection e; omega)).trans ((HBr9.out.block D (by omega)).trans ((HBL.out.block D hDW).trans HKK.out))
            have HBV : Hid (Below w.heap.size w V) := Lib.hid (((HBWW.out.trans (HBL.out.mono HBWW.out.size)).trans (HBr9.out.mono (Nat.le_trans HBWW.out.size HBL.out.size))).grown hg (by have := HBWW.out.size; have := HBr9.out.size; omega) (fun g e => by injection e; have := HBWW.out.size; omega))
            have HK1 := Lib.hid hK1; have HK2 := Lib.hid hK2
            clear hxs hxl bx hg BXR2 hK1 hK2
            go_wp2
            have hle2 : w.heap.size ≤ D2 := by have := HBWW.out.size; have := HBr9.out.size; omega
            have hle1 : w.heap.size ≤ D := by have := HB1.out.size; have := HB17.out.size; omega
            have hKa : (V.setCell ⟨w.heap.size + 1, 0, none⟩ (.bool true)).heap[D2]? = some (.deferred (some [])) := (KeepsOthers.setCell V ⟨w.heap.size + 1, 0, none⟩ (.bool true)).same D2 _ HK2.out rfl
            have hKb : (V.setCell ⟨w.heap.size + 1, 0, none⟩ (.bool true)).heap[D]? = some (.deferred (some [])) := (KeepsOthers.setCell V ⟨w.heap.size + 1, 0, none⟩ (.bool true)).same D _ HK1.out rfl
            have hKc : ((V.setCell ⟨w.heap.size + 1, 0, none⟩ (.bool true)).putObj D2 (.deferred none)).heap[D]? = some (.deferred (some [])) := ((grownBy_putObj' _ D2 (.deferred none)).block D (Array.getElem?_eq_some_iff.1 hKb).1 (fun e => by injection e; have := HBr9.out.size; omega)).trans hKb
            refine ⟨by simp, .inl ⟨_, _, rfl, run_takeDeferred hKa, ?_⟩⟩
            refine ⟨by simp, .inl ⟨_, _, rfl, run_takeDeferred hKc, ?_⟩⟩
            have d1 := World.cell?_setCell_same' V ⟨w.heap.size + 1, 0, none⟩ (.bool true) (by rw [hcR]; rfl)
            have d2 := cell_kept d1 (grownBy_putObj' _ D2 (.deferred none)) (fun r e => by cases e; exact ⟨_, hKa, rfl⟩)
            have d3 := cell_kept d2 (grownBy_putObj' _ D (.deferred none)) (fun r e => by cases e; exact ⟨_, hKc, rfl⟩)
            exact ⟨.bool true, by simp [results, Try.results5, go_sem, d3], rfl, ((HBV.out.setCell (p := ⟨w.heap.size + 1, 0, none⟩) (Nat.le_succ _) _).trans (belowK_b (w := w) (Nat.le_refl _) _ D2 _ _ hle2 hKa rfl rfl)).trans (belowK_b (w := w) (Nat.le_refl _) _ D _ _ hle1 hKc rfl rfl)⟩
    case hstop =>
      rintro D c pre W hD hpre hix hK
      rcases hix with ⟨_, hno⟩ | ⟨rfl, hpt, bx, hg⟩
      · exact absurd hpre hno
      rw [hpt] at bx
      clear hpt hpre
      refine wpIn_wide.2 ?_
      have hc9 := bx.cell
      have hc7 := (grown_box hg F77.out (by omega)).cell
      have hcS := (grown_box hg FS7.out (by omega)).cell
      have BXR := Lib.hid (grown_box hg FR7.out (by omega))
      have HBWW : Hid (Below w.heap.size w W) := Lib.hid ((HB1.out.trans (HB17.out.mono HB1.out.size)).grown hg (by have := HB1.out.size; have := HB17.out.size; omega) (fun g e => by injection e; have := HB1.out.size; omega))
      have HNW := Lib.hid (Nts.but (HN1.out.below HB17.out) hg (nts_ne HN1.out (by omega)))
      have HKK := Lib.hid hK
      have HG := Lib.hid hg
      obtain ⟨i22, hi22, ha0, ha1, ha2⟩ := info_parts u64_info
      clear hg bx hK
      by_cases htc : t = cnt
      · have b6 : ((t : Int) != (cnt : Int)) = false := by simp [htc]
        clear htc
        go_wp2
        go_loopw [14, 12] (fun p vr wr => ∃ k : Nat, p = .int .i64 (k : Int) ∧ k ≤ len1 ∧ RelE W vs k vr wr) (fun p _ _ => len1 - (intOf p).toNat)
        case atStart => exact ⟨0, rfl, by omega, _, Boxed.new W 33 (.slice none 0 0), by simpa [alls, U64] using World.ownsRow_nil _ _ 22 1, by simpa [Uv.flat, B] using World.ownsRow_nil _ _ 5 1, (Below.refl _ _).alloc (Nat.le_refl _) _⟩
        case round =>
          obtain ⟨k, rfl, hk, vall, bxA, ho22, ho5, hbel⟩ := hrel
          have hszr := hbel.size
          have hfl : (Uv.flat (vs.take k)).length ≤ 540 := by
            have h1 := Uv.flat_len (vs.take k)
            have h2 : (vs.take k).length ≤ k := List.length_take_le _ _
            omega
          have hal := alls_le vs k
          generalize hm : (Uv.flat (vs.take k)).length = m at *
          have HMM := Lib.hid hm; clear hm
          have HO22 := Lib.hid ho22; have HO5 := Lib.hid ho5; have HBL := Lib.hid hbel; have BXA := Lib.hid bxA
          clear ho22 ho5 hbel bxA
          by_cases hkn : k < len1
          · obtain ⟨b0, off0, rfl, hce0, hvv⟩ := HNW.out.cell hkn
            have hb0lt := lt_of_cell hce0
            have hce := (HBL.out.cell (p := ⟨b0, off0 + k, none⟩) hb0lt).trans hce0
            obtain ⟨v0, hv0⟩ : ∃ v, vs.getD k 0 = v := ⟨_, rfl⟩
            rw [hv0] at hce hvv
            have HV0 := Lib.hid hv0; clear hv0 hce0
            by_cases hsm : v0 < 9223372036854775808
            · have b8 : decide ((v0 : Int) ≤ 9223372036854775807) = true := by simp; omega
              go_wp2_with (first
                | (go_at_call 12; refine (ref_put_any v0 _).mono ?_; rintro e w5 ⟨r, rfl, hor5, hb5⟩; obtain ⟨Ar, cr, rfl, hncr, hcr, htr⟩ := own_form hor5 (Uv.enc_mem v0); have HRN := Lib.hid (own_nil hor5); have HBT := Lib.hid htr; have HB5 := Lib.hid hb5; clear hor5 hcr htr hb5)
                | (at_builtin; refine wpList_append_bts rfl (.tmp 79) (.tmp 84) rfl W.heap.size _ m (Uv.flat (vs.take k)) rfl (own_below HO5.out HB5.out) Ar _ cr (Uv.enc v0) rfl HBT.out HRN.out (by have := enc_le9 v0; omega) (Nat.le_trans HBL.out.size HB5.out.size) ?_; intro vr' w6 ho6 hg6; obtain ⟨bx6, ho226, hb6⟩ := rel_b' (by decide) (by decide) BXA.out HO22.out HO5.out HBL.out HB5.out hg6 ho6; have BX6 := Lib.hid bx6; have HO226 := Lib.hid ho226; have HB6 := Lib.hid hb6; have HO6 := Lib.hid ho6; have hce6 := (hb6.cell (p := ⟨b0, off0 + k, none⟩) hb0lt).trans ((HBL.out.cell (p := ⟨b0, off0 + k, none⟩) hb0lt).symm.trans hce); have hcA6 := bx6.cell; have hfA6 := bx6.frozen; clear bx6 ho226 hb6 ho6 hg6))
              have hcA6b := (BX6.out.alloc (.cells #[.int .u64 (v0 : Int)] 22)).cell
              refine Code.wp_mono (Q := Only _) Only.all ?_
              go_region_law (refine step_append_own _ rfl (.tmp 91) (.tmp 96) 33 rfl W.heap.size 22 i22 (.int .u64 0) 1 8 Try.underlying33 hi22 ha0 ha1 ha2 rfl (by decide) vall (alls vs k).length (U64 (alls vs k)) rfl (HO226.out.alloc (.cells #[.int .u64 (v0 : Int)] 22)) ⟨w6.heap.size, 0, none⟩ 1 1 [.int .u64 (v0 : Int)] rfl rfl (cell_one_new w6 (.int .u64 (v0 : Int)) 22) (by simp [Value.oneCell']) (by unfold maxLen; omega) (by omega) (by have := HB6.out.size; simp; omega) ?_; intro vall' w7 ho7 hg7d; have hg7 : (w6.alloc (.cells #[.int .u64 (v0 : Int)] 22)).grownBy w7 vall.ownBlock := ⟨hg7d.os, hg7d.tape, hg7d.output, hg7d.size, hg7d.block⟩; clear hg7d; obtain ⟨g9, c9', rfl⟩ := ownsRow_succ ho7; obtain ⟨bx7, hb7', bx8, ho228, ho58, hb8⟩ := rel_at' (by decide) (by decide) (by decide) (Nat.le_refl _) BX6.out HO226.out HO6.out HB6.out hg7 ho7; have hcA7 := bx7.cell; have hfA7 := bx7.frozen; have BX8 := Lib.hid bx8; have HO228 := Lib.hid ho228; have HO58 := Lib.hid ho58; have HB8 := Lib.hid hb8; clear bx7 hb7' bx8 ho228 ho58 hb8 ho7 hg7)
              all_goals
                simp only [Only]
                go_wp2
                go_roundw
                case rel =>
                  refine ⟨k + 1, by go_num, by omega, _, BX8.out, ?_, ?_, HB8.out⟩
                  · rw [alls_yes vs k (by have := HNW.out.1; omega) (by rw [HV0.out]; exact hsm), HV0.out, List.length_append]
                    simpa [U64] using HO228.out
                  · rw [flat_snoc vs k (by have := HNW.out.1; omega), HV0.out, List.length_append, HMM.out]
                    exact HO58.out
                case measure => simp [intOf]; omega
            · have b8 : decide ((v0 : Int) ≤ 9223372036854775807) = false := by simp; omega
              go_wp2_with (first
                | (go_at_call 12; refine (ref_put_any v0 _).mono ?_; rintro e w5 ⟨r, rfl, hor5, hb5⟩; obtain ⟨Ar, cr, rfl, hncr, hcr, htr⟩ := own_form hor5 (Uv.enc_mem v0); have HRN := Lib.hid (own_nil hor5); have HBT := Lib.hid htr; have HB5 := Lib.hid hb5; clear hor5 hcr htr hb5)
                | (at_builtin; refine wpList_append_bts rfl (.tmp 79) (.tmp 84) rfl W.heap.size _ m (Uv.flat (vs.take k)) rfl (own_below HO5.out HB5.out) Ar _ cr (Uv.enc v0) rfl HBT.out HRN.out (by have := enc_le9 v0; omega) (Nat.le_trans HBL.out.size HB5.out.size) ?_; intro vr' w6 ho6 hg6; obtain ⟨bx6, ho226, hb6⟩ := rel_b' (by decide) (by decide) BXA.out HO22.out HO5.out HBL.out HB5.out hg6 ho6; have BX6 := Lib.hid bx6; have HO226 := Lib.hid ho226; have HB6 := Lib.hid hb6; have HO6 := Lib.hid ho6; have hce6 := (hb6.cell (p := ⟨b0, off0 + k, none⟩) hb0lt).trans ((HBL.out.cell (p := ⟨b0, off0 + k, none⟩) hb0lt).symm.trans hce); clear bx6 ho226 hb6 ho6 hg6))
              go_roundw
              case rel =>
                refine ⟨k + 1, by go_num, by omega, _, BX6.out, ?_, ?_, HB6.out⟩
                · rw [alls_no vs k (by have := HNW.out.1; omega) (by rw [HV0.out]; exact hsm)]
                  exact HO226.out
                · rw [flat_snoc vs k (by have := HNW.out.1; omega), HV0.out, List.length_append, HMM.out]
                  exact HO6.out
              case measure => simp [intOf]; omega
          · obtain rfl : k = len1 := by omega
            have htk : vs.take k = vs := List.take_of_length_le (by have := HNW.out.1; omega)
            unfold alls at HO22 hal
            rw [htk] at HO22 HO5 HMM hal
            clear htk
            have HEA := Lib.hid (each_all vs)
            have HSA := Lib.hid (small_all vs)
            generalize vs.filter small = sm at *
            obtain ⟨Av, cv, rfl, hncv, hcv, htv⟩ := own_form HO5.out (Uv.flat_bd _)
            obtain ⟨Aa, ca, rfl, hka, hca⟩ := own_shape HO22.out
            obtain ⟨an, han⟩ : ∃ n, sm.length = n := ⟨_, rfl⟩
            rw [han] at HO22 hka hal BXA
            have HAN := Lib.hid han; clear han hca
            have HTV := Lib.hid htv; clear htv
            have HCV := Lib.hid hcv; clear hcv
            have HVN := Lib.hid (own_nil HO5.out)
            obtain ⟨Wm, hWm⟩ : ∃ Wm, wr.alloc (.cells #[.int .i64 0] 3) = Wm := ⟨_, rfl⟩
            have hWs : Wm.heap.size = wr.heap.size + 1 := by rw [← hWm]; simp
            have HBM : Hid (Below wr.heap.size wr Wm) := Lib.hid (by rw [← hWm]; exact (Below.refl _ _).alloc (Nat.le_refl _) _)
            have F15 : Hid (Boxed Wm wr.heap.size 3 (.int .i64 0)) := Lib.hid (by rw [← hWm]; exact Boxed.new wr 3 _)
            have HWM := Lib.hid hWm; clear hWm
            have HWS2 := Lib.hid hWs; clear hWs
            go_wp2_with (go_at_call 17; rw [HWM.out]; refine (each_any Av m cv (Uv.flat vs) _ (HTV.out.below HBM.out) HVN.out (by omega)).mono ?_; rintro e W9 ⟨g9, A10, c10, rfl, hbox9, ht9, hn9, hc9', ⟨hg9a, hg9b⟩, hA9, hb9⟩; have HBOX9 := Lib.hid hbox9; have HT9 := Lib.hid ht9; have HC9 := Lib.hid hc9'; have HA9 := Lib.hid hA9; have HB9 := Lib.hid hb9; clear hbox9 ht9 hc9' hA9 hb9)
            have hlt9 : ∀ x ∈ blocks g9 A10, x < W9.heap.size := blocks_all hg9b (fun ad e => (HA9.out ad e).2)
            have h15 : wr.heap.size < Wm.heap.size := by have := HWS2.out; omega
            have hne9 : ∀ x ∈ blocks g9 A10, x ≠ wr.heap.size := blocks_all (p := fun x => x ≠ wr.heap.size) (by omega) (fun ad e => by have := (HA9.out ad e).1; omega)
            have hst9 := each_stops 5 (by omega) g9 (blocks g9 A10) A10 m c10 (Uv.flat vs) W9 hlt9 HBOX9.out (blocks_self _ _) (blocks_addr _ _) HT9.out hn9 HC9.out
            rw [HEA.out] at hst9
            have F15' := Lib.hid (Boxed.below F15.out HB9.out (by omega))
            have HBr9 : Hid (Below wr.heap.size wr W9) := Lib.hid (HBM.out.trans (HB9.out.mono HBM.out.size))
            have hWlt := BXA.out.lt
            have FA9 := Lib.hid (Boxed.below BXA.out HBr9.out BXA.out.lt)
            have FR9 := Lib.hid (Boxed.below (Boxed.below BXR.out HBL.out BXR.out.lt) HBr9.out (by have := BXR.out.lt; omega))
            have hRlt := BXR.out.lt
            refine (wpIn_wide (n := 6)).1 ?_
            apply wpIn_rangeFunc_ownF (F := Fence.wide) (n := 6) (gf := 20) (lb := #[.pointer (some ⟨g9, 0, none⟩)]) rfl (by omega) rfl trivial (enters_of Try.func20 (by kernel_rfl) rfl) hst9 SameAt.t (SameAt.b hlt9) (Below.refl _ _) (fun _ => rfl)
              (fun pre V => Boxed V wr.heap.size 3 (.int .i64 (pre.length : Int)) ∧ W9.grownBy V (some wr.heap.size))
              (fun c pre _ => c = .ret ∧ ¬ pre <+: Uv.places 0 sm)
              (fun s A B row hs hg hr => ⟨hs.1.kept hg (fun e => by have := (hr _ e.symm).1; have := HB9.out.size; omega), grown_then hs.2 hg (fun r e => (hr r e).1)⟩)
              (fun c s A B row hs hg hr => hs)
              ⟨F15'.out, World.grownBy.refl _ _⟩
            case hassign =>
              intro l x V K hK
              simp only [encs]
              gi_wp2
              exact hK
            case hbody =>
              rintro l pre ⟨xi, xv⟩ V ⟨bx, hg⟩ hlen
              rw [Uv.places_length, HAN.out] at hlen
              have hc15 := bx.cell
              have hf15 := bx.frozen
              have hcA := (grown_box hg FA9.out (by omega)).cell
              have bxR := grown_box hg FR9.out (by omega)
              have hcR := bxR.cell
              have hfR := bxR.frozen
              clear bxR
              obtain ⟨p, hp⟩ : ∃ p, pre.length = p := ⟨_, rfl⟩
              rw [hp] at hc15 hlen
              have b1 : decide ((an : Int) ≤ (p : Int)) = false := by simp; omega
              have hy := Uv.places_at 0 sm p HSA.out (by have := HAN.out; omega)
              obtain ⟨ga, rfl, _, hga, hqa0⟩ := own_cell HO22.out hlen
              rw [U64_at sm p (by have := HAN.out; omega)] at hqa0
              have hqa := grown_cell hg ((HBr9.out.cell (p := ⟨ga, p, none⟩) hga).trans hqa0) (by show ga ≠ _; omega)
              generalize sm.getD p 0 = yv at hqa hy
              have HG := Lib.hid hg; have BX := Lib.hid bx; have HP := Lib.hid hp; have HY := Lib.hid hy
              clear hg bx hp hy hqa0
              by_cases hxv : xv = (yv : Int)
              · have b3 : (xv != (yv : Int)) = false := by simp [hxv]
                clear hxv
                gi_wp2
                exact ⟨KeepsOthers.setCell _ _ _, same_set hne9 _, by have := BX.out.set (.int .i64 ((p : Int) + 1)); rw [List.length_append, HP.out]; simpa using this, grown_set HG.out _⟩
              · have b3 : (xv != (yv : Int)) = true := by simp [hxv]
                have HX := Lib.hid hxv; clear hxv
                gi_wp2
                exact ⟨KeepsOthers.setCell _ _ _, rfl, not_prefix (by rw [HP.out]; exact HY.out) (fun e => HX.out (by injection e))⟩
            case hstop =>
              rintro D2 c pre V _ hpre ⟨_, hno⟩ _
              exact absurd hpre hno
            case hdone =>
              rintro D2 xs V hD2 hxs ⟨bx, hg⟩ hK2
              have hxl : xs.length = an := by rw [hxs, Uv.places_length, HAN.out]
              rw [hxl] at bx
              have hc15 := bx.cell
              have hcA := (grown_box hg FA9.out (by omega)).cell
              have BXR2 := grown_box hg FR9.out (by omega)
              have hcR := BXR2.cell
              have hfR := BXR2.frozen
              have hDW : D < W.heap.size := (Array.getElem?_eq_some_iff.1 HKK.out).1
              have hK1 : V.heap[D]? = some (.deferred (some [])) := (hg.block D (by have := HBr9.out.size; omega) (fun e => by injection e; omega)).trans ((HBr9.out.block D (by omega)).trans ((HBL.out.block D hDW).trans HKK.out))
              have HBV : Hid (Below w.heap.size w V) := Lib.hid (((HBWW.out.trans (HBL.out.mono HBWW.out.size)).trans (HBr9.out.mono (Nat.le_trans HBWW.out.size HBL.out.size))).grown hg (by have := HBWW.out.size; have := HBr9.out.size; omega) (fun g e => by injection e; have := HBWW.out.size; omega))
              have HK1 := Lib.hid hK1; have HK2 := Lib.hid hK2
              clear hxs hxl bx hg BXR2 hK1 hK2
              go_wp2
              have hle2 : w.heap.size ≤ D2 := by have := HBWW.out.size; have := HBr9.out.size; omega
              have hle1 : w.heap.size ≤ D := by have := HB1.out.size; have := HB17.out.size; omega
              have hKa : (V.setCell ⟨w.heap.size + 1, 0, none⟩ (.bool true)).heap[D2]? = some (.deferred (some [])) := (KeepsOthers.setCell V ⟨w.heap.size + 1, 0, none⟩ (.bool true)).same D2 _ HK2.out rfl
              have hKb : (V.setCell ⟨w.heap.size + 1, 0, none⟩ (.bool true)).heap[D]? = some (.deferred (some [])) := (KeepsOthers.setCell V ⟨w.heap.size + 1, 0, none⟩ (.bool true)).same D _ HK1.out rfl
              have hKc : ((V.setCell ⟨w.heap.size + 1, 0, none⟩ (.bool true)).putObj D2 (.deferred none)).heap[D]? = some (.deferred (some [])) := ((grownBy_putObj' _ D2 (.deferred none)).block D (Array.getElem?_eq_some_iff.1 hKb).1 (fun e => by injection e; have := HBr9.out.size; omega)).trans hKb
              refine ⟨by simp, .inl ⟨_, _, rfl, run_takeDeferred hKa, ?_⟩⟩
              refine ⟨by simp, .inl ⟨_, _, rfl, run_takeDeferred hKc, ?_⟩⟩
              have d1 := World.cell?_setCell_same' V ⟨w.heap.size + 1, 0, none⟩ (.bool true) (by rw [hcR]; rfl)
              have d2 := cell_kept d1 (grownBy_putObj' _ D2 (.deferred none)) (fun r e => by cases e; exact ⟨_, hKa, rfl⟩)
              have d3 := cell_kept d2 (grownBy_putObj' _ D (.deferred none)) (fun r e => by cases e; exact ⟨_, hKc, rfl⟩)
              exact ⟨.bool true, by simp [results, Try.results5, go_sem, d3], rfl, ((HBV.out.setCell (p := ⟨w.heap.size + 1, 0, none⟩) (Nat.le_succ _) _).trans (belowK_b (w := w) (Nat.le_refl _) _ D2 _ _ hle2 hKa rfl rfl)).trans (belowK_b (w := w) (Nat.le_refl _) _ D _ _ hle1 hKc rfl rfl)⟩
      · have b6 : ((t : Int) != (cnt : Int)) = true := by rw [bne_iff_ne]; omega
        have b7 : ((t : Int) != (t : Int)) = false := by simp
        clear htc
        go_wp2
        go_loopw [14, 12] (fun p vr wr => ∃ k : Nat, p = .int .i64 (k : Int) ∧ k ≤ len1 ∧ RelE W vs k vr wr) (fun p _ _ => len1 - (intOf p).toNat)
        case atStart => exact ⟨0, rfl, by omega, _, Boxed.new W 33 (.slice none 0 0), by simpa [alls, U64] using World.ownsRow_nil _ _ 22 1, by simpa [Uv.flat, B] using World.ownsRow_nil _ _ 5 1, (Below.refl _ _).alloc (Nat.le_refl _) _⟩
        case round =>
          obtain ⟨k, rfl, hk, vall, bxA, ho22, ho5, hbel⟩ := hrel
          have hszr := hbel.size
          have hfl : (Uv.flat (vs.take k)).length ≤ 540 := by
            have h1 := Uv.flat_len (vs.take k)
            have h2 : (vs.take k).length ≤ k := List.length_take_le _ _
            omega
          have hal := alls_le vs k
          generalize hm : (Uv.flat (vs.take k)).length = m at *
          have HMM := Lib.hid hm; clear hm
          have HO22 := Lib.hid ho22; have HO5 := Lib.hid ho5; have HBL := Lib.hid hbel; have BXA := Lib.hid bxA
          clear ho22 ho5 hbel bxA
          by_cases hkn : k < len1
          · obtain ⟨b0, off0, rfl, hce0, hvv⟩ := HNW.out.cell hkn
            have hb0lt := lt_of_cell hce0
            have hce := (HBL.out.cell (p := ⟨b0, off0 + k, none⟩) hb0lt).trans hce0
            obtain ⟨v0, hv0⟩ : ∃ v, vs.getD k 0 = v := ⟨_, rfl⟩
            rw [hv0] at hce hvv
            have HV0 := Lib.hid hv0; clear hv0 hce0
            by_cases hsm : v0 < 9223372036854775808
            · have b8 : decide ((v0 : Int) ≤ 9223372036854775807) = true := by simp; omega
              go_wp2_with (first
                | (go_at_call 12; refine (ref_put_any v0 _).mono ?_; rintro e w5 ⟨r, rfl, hor5, hb5⟩; obtain ⟨Ar, cr, rfl, hncr, hcr, htr⟩ := own_form hor5 (Uv.enc_mem v0); have HRN := Lib.hid (own_nil hor5); have HBT := Lib.hid htr; have HB5 := Lib.hid hb5; clear hor5 hcr htr hb5)
                | (at_builtin; refine wpList_append_bts rfl (.tmp 79) (.tmp 84) rfl W.heap.size _ m (Uv.flat (vs.take k)) rfl (own_below HO5.out HB5.out) Ar _ cr (Uv.enc v0) rfl HBT.out HRN.out (by have := enc_le9 v0; omega) (Nat.le_trans HBL.out.size HB5.out.size) ?_; intro vr' w6 ho6 hg6; obtain ⟨bx6, ho226, hb6⟩ := rel_b' (by decide) (by decide) BXA.out HO22.out HO5.out HBL.out HB5.out hg6 ho6; have BX6 := Lib.hid bx6; have HO226 := Lib.hid ho226; have HB6 := Lib.hid hb6; have HO6 := Lib.hid ho6; have hce6 := (hb6.cell (p := ⟨b0, off0 + k, none⟩) hb0lt).trans ((HBL.out.cell (p := ⟨b0, off0 + k, none⟩) hb0lt).symm.trans hce); have hcA6 := bx6.cell; have hfA6 := bx6.frozen; clear bx6 ho226 hb6 ho6 hg6))
              have hcA6b := (BX6.out.alloc (.cells #[.int .u64 (v0 : Int)] 22)).cell
              refine Code.wp_mono (Q := Only _) Only.all ?_
              go_region_law (refine step_append_own _ rfl (.tmp 91) (.tmp 96) 33 rfl W.heap.size 22 i22 (.int .u64 0) 1 8 Try.underlying33 hi22 ha0 ha1 ha2 rfl (by decide) vall (alls vs k).length (U64 (alls vs k)) rfl (HO226.out.alloc (.cells #[.int .u64 (v0 : Int)] 22)) ⟨w6.heap.size, 0, none⟩ 1 1 [.int .u64 (v0 : Int)] rfl rfl (cell_one_new w6 (.int .u64 (v0 : Int)) 22) (by simp [Value.oneCell']) (by unfold maxLen; omega) (by omega) (by have := HB6.out.size; simp; omega) ?_; intro vall' w7 ho7 hg7d; have hg7 : (w6.alloc (.cells #[.int .u64 (v0 : Int)] 22)).grownBy w7 vall.ownBlock := ⟨hg7d.os, hg7d.tape, hg7d.output, hg7d.size, hg7d.block⟩; clear hg7d; obtain ⟨g9, c9', rfl⟩ := ownsRow_succ ho7; obtain ⟨bx7, hb7', bx8, ho228, ho58, hb8⟩ := rel_at' (by decide) (by decide) (by decide) (Nat.le_refl _) BX6.out HO226.out HO6.out HB6.out hg7 ho7; have hcA7 := bx7.cell; have hfA7 := bx7.frozen; have BX8 := Lib.hid bx8; have HO228 := Lib.hid ho228; have HO58 := Lib.hid ho58; have HB8 := Lib.hid hb8; clear bx7 hb7' bx8 ho228 ho58 hb8 ho7 hg7)
              all_goals
                simp only [Only]
                go_wp2
                go_roundw
                case rel =>
                  refine ⟨k + 1, by go_num, by omega, _, BX8.out, ?_, ?_, HB8.out⟩
                  · rw [alls_yes vs k (by have := HNW.out.1; omega) (by rw [HV0.out]; exact hsm), HV0.out, List.length_append]
                    simpa [U64] using HO228.out
                  · rw [flat_snoc vs k (by have := HNW.out.1; omega), HV0.out, List.length_append, HMM.out]
                    exact HO58.out
                case measure => simp [intOf]; omega
            · have b8 : decide ((v0 : Int) ≤ 9223372036854775807) = false := by simp; omega
              go_wp2_with (first
                | (go_at_call 12; refine (ref_put_any v0 _).mono ?_; rintro e w5 ⟨r, rfl, hor5, hb5⟩; obtain ⟨Ar, cr, rfl, hncr, hcr, htr⟩ := own_form hor5 (Uv.enc_mem v0); have HRN := Lib.hid (own_nil hor5); have HBT := Lib.hid htr; have HB5 := Lib.hid hb5; clear hor5 hcr htr hb5)
                | (at_builtin; refine wpList_append_bts rfl (.tmp 79) (.tmp 84) rfl W.heap.size _ m (Uv.flat (vs.take k)) rfl (own_below HO5.out HB5.out) Ar _ cr (Uv.enc v0) rfl HBT.out HRN.out (by have := enc_le9 v0; omega) (Nat.le_trans HBL.out.size HB5.out.size) ?_; intro vr' w6 ho6 hg6; obtain ⟨bx6, ho226, hb6⟩ := rel_b' (by decide) (by decide) BXA.out HO22.out HO5.out HBL.out HB5.out hg6 ho6; have BX6 := Lib.hid bx6; have HO226 := Lib.hid ho226; have HB6 := Lib.hid hb6; have HO6 := Lib.hid ho6; have hce6 := (hb6.cell (p := ⟨b0, off0 + k, none⟩) hb0lt).trans ((HBL.out.cell (p := ⟨b0, off0 + k, none⟩) hb0lt).symm.trans hce); clear bx6 ho226 hb6 ho6 hg6))
              go_roundw
              case rel =>
                refine ⟨k + 1, by go_num, by omega, _, BX6.out, ?_, ?_, HB6.out⟩
                · rw [alls_no vs k (by have := HNW.out.1; omega) (by rw [HV0.out]; exact hsm)]
                  exact HO226.out
                · rw [flat_snoc vs k (by have := HNW.out.1; omega), HV0.out, List.length_append, HMM.out]
                  exact HO6.out
              case measure => simp [intOf]; omega
          · obtain rfl : k = len1 := by omega
            have htk : vs.take k = vs := List.take_of_length_le (by have := HNW.out.1; omega)
            unfold alls at HO22 hal
            rw [htk] at HO22 HO5 HMM hal
            clear htk
            have HEA := Lib.hid (each_all vs)
            have HSA := Lib.hid (small_all vs)
            generalize vs.filter small = sm at *
            obtain ⟨Av, cv, rfl, hncv, hcv, htv⟩ := own_form HO5.out (Uv.flat_bd _)
            obtain ⟨Aa, ca, rfl, hka, hca⟩ := own_shape HO22.out
            obtain ⟨an, han⟩ : ∃ n, sm.length = n := ⟨_, rfl⟩
            rw [han] at HO22 hka hal BXA
            have HAN := Lib.hid han; clear han hca
            have HTV := Lib.hid htv; clear htv
            have HCV := Lib.hid hcv; clear hcv
            have HVN := Lib.hid (own_nil HO5.out)
            obtain ⟨Wm, hWm⟩ : ∃ Wm, wr.alloc (.cells #[.int .i64 0] 3) = Wm := ⟨_, rfl⟩
            have hWs : Wm.heap.size = wr.heap.size + 1 := by rw [← hWm]; simp
            have HBM : Hid (Below wr.heap.size wr Wm) := Lib.hid (by rw [← hWm]; exact (Below.refl _ _).alloc (Nat.le_refl _) _)
            have F15 : Hid (Boxed Wm wr.heap.size 3 (.int .i64 0)) := Lib.hid (by rw [← hWm]; exact Boxed.new wr 3 _)
            have HWM := Lib.hid hWm; clear hWm
            have HWS2 := Lib.hid hWs; clear hWs
            go_wp2_with (go_at_call 17; rw [HWM.out]; refine (each_any Av m cv (Uv.flat vs) _ (HTV.out.below HBM.out) HVN.out (by omega)).mono ?_; rintro e W9 ⟨g9, A10, c10, rfl, hbox9, ht9, hn9, hc9', ⟨hg9a, hg9b⟩, hA9, hb9⟩; have HBOX9 := Lib.hid hbox9; have HT9 := Lib.hid ht9; have HC9 := Lib.hid hc9'; have HA9 := Lib.hid hA9; have HB9 := Lib.hid hb9; clear hbox9 ht9 hc9' hA9 hb9)
            have hlt9 : ∀ x ∈ blocks g9 A10, x < W9.heap.size := blocks_all hg9b (fun ad e => (HA9.out ad e).2)
            have h15 : wr.heap.size < Wm.heap.size := by have := HWS2.out; omega
            have hne9 : ∀ x ∈ blocks g9 A10, x ≠ wr.heap.size := blocks_all (p := fun x => x ≠ wr.heap.size) (by omega) (fun ad e => by have := (HA9.out ad e).1; omega)
            have hst9 := each_stops 5 (by omega) g9 (blocks g9 A10) A10 m c10 (Uv.flat vs) W9 hlt9 HBOX9.out (blocks_self _ _) (blocks_addr _ _) HT9.out hn9 HC9.out
            rw [HEA.out] at hst9
            have F15' := Lib.hid (Boxed.below F15.out HB9.out (by omega))
            have HBr9 : Hid (Below wr.heap.size wr W9) := Lib.hid (HBM.out.trans (HB9.out.mono HBM.out.size))
            have hWlt := BXA.out.lt
            have FA9 := Lib.hid (Boxed.below BXA.out HBr9.out BXA.out.lt)
            have FR9 := Lib.hid (Boxed.below (Boxed.below BXR.out HBL.out BXR.out.lt) HBr9.out (by have := BXR.out.lt; omega))
            have hRlt := BXR.out.lt
            refine (wpIn_wide (n := 6)).1 ?_
            apply wpIn_rangeFunc_ownF (F := Fence.wide) (n := 6) (gf := 20) (lb := #[.pointer (some ⟨g9, 0, none⟩)]) rfl (by omega) rfl trivial (enters_of Try.func20 (by kernel_rfl) rfl) hst9 SameAt.t (SameAt.b hlt9) (Below.refl _ _) (fun _ => rfl)
              (fun pre V => Boxed V wr.heap.size 3 (.int .i64 (pre.length : Int)) ∧ W9.grownBy V (some wr.heap.size))
              (fun c pre _ => c = .ret ∧ ¬ pre <+: Uv.places 0 sm)
              (fun s A B row hs hg hr => ⟨hs.1.kept hg (fun e => by have := (hr _ e.symm).1; have := HB9.out.size; omega), grown_then hs.2 hg (fun r e => (hr r e).1)⟩)
              (fun c s A B row hs hg hr => hs)
              ⟨F15'.out, World.grownBy.refl _ _⟩
            case hassign =>
              intro l x V K hK
              simp only [encs]
              gi_wp2
              exact hK
            case hbody =>
              rintro l pre ⟨xi, xv⟩ V ⟨bx, hg⟩ hlen
              rw [Uv.places_length, HAN.out] at hlen
              have hc15 := bx.cell
              have hf15 := bx.frozen
              have hcA := (grown_box hg FA9.out (by omega)).cell
              have bxR := grown_box hg FR9.out (by omega)
              have hcR := bxR.cell
              have hfR := bxR.frozen
              clear bxR
              obtain ⟨p, hp⟩ : ∃ p, pre.length = p := ⟨_, rfl⟩
              rw [hp] at hc15 hlen
              have b1 : decide ((an : Int) ≤ (p : Int)) = false := by simp; omega
              have hy := Uv.places_at 0 sm p HSA.out (by have := HAN.out; omega)
              obtain ⟨ga, rfl, _, hga, hqa0⟩ := own_cell HO22.out hlen
              rw [U64_at sm p (by have := HAN.out; omega)] at hqa0
              have hqa := grown_cell hg ((HBr9.out.cell (p := ⟨ga, p, none⟩) hga).trans hqa0) (by show ga ≠ _; omega)
              generalize sm.getD p 0 = yv at hqa hy
              have HG := Lib.hid hg; have BX := Lib.hid bx; have HP := Lib.hid hp; have HY := Lib.hid hy
              clear hg bx hp hy hqa0
              by_cases hxv : xv = (yv : Int)
              · have b3 : (xv != (yv : Int)) = false := by simp [hxv]
                clear hxv
                gi_wp2
                exact ⟨KeepsOthers.setCell _ _ _, same_set hne9 _, by have := BX.out.set (.int .i64 ((p : Int) + 1)); rw [List.length_append, HP.out]; simpa using this, grown_set HG.out _⟩
              · have b3 : (xv != (yv : Int)) = true := by simp [hxv]
                have HX := Lib.hid hxv; clear hxv
                gi_wp2
                exact ⟨KeepsOthers.setCell _ _ _, rfl, not_prefix (by rw [HP.out]; exact HY.out) (fun e => HX.out (by injection e))⟩
            case hstop =>
              rintro D2 c pre V _ hpre ⟨_, hno⟩ _
              exact absurd hpre hno
            case hdone =>
              rintro D2 xs V hD2 hxs ⟨bx, hg⟩ hK2
              have hxl : xs.length = an := by rw [hxs, Uv.places_length, HAN.out]
              rw [hxl] at bx
              have hc15 := bx.cell
              have hcA := (grown_box hg FA9.out (by omega)).cell
              have BXR2 := grown_box hg FR9.out (by omega)
              have hcR := BXR2.cell
              have hfR := BXR2.frozen
              have hDW : D < W.heap.size := (Array.getElem?_eq_some_iff.1 HKK.out).1
              have hK1 : V.heap[D]? = some (.deferred (some [])) := (hg.block D (by have := HBr9.out.size; omega) (fun e => by injection e; omega)).trans ((HBr9.out.block D (by omega)).trans ((HBL.out.block D hDW).trans HKK.out))
              have HBV : Hid (Below w.heap.size w V) := Lib.hid (((HBWW.out.trans (HBL.out.mono HBWW.out.size)).trans (HBr9.out.mono (Nat.le_trans HBWW.out.size HBL.out.size))).grown hg (by have := HBWW.out.size; have := HBr9.out.size; omega) (fun g e => by injection e; have := HBWW.out.size; omega))
              have HK1 := Lib.hid hK1; have HK2 := Lib.hid hK2
              clear hxs hxl bx hg BXR2 hK1 hK2
              go_wp2
              have hle2 : w.heap.size ≤ D2 := by have := HBWW.out.size; have := HBr9.out.size; omega
              have hle1 : w.heap.size ≤ D := by have := HB1.out.size; have := HB17.out.size; omega
              have hKa : (V.setCell ⟨w.heap.size + 1, 0, none⟩ (.bool true)).heap[D2]? = some (.deferred (some [])) := (KeepsOthers.setCell V ⟨w.heap.size + 1, 0, none⟩ (.bool true)).same D2 _ HK2.out rfl
              have hKb : (V.setCell ⟨w.heap.size + 1, 0, none⟩ (.bool true)).heap[D]? = some (.deferred (some [])) := (KeepsOthers.setCell V ⟨w.heap.size + 1, 0, none⟩ (.bool true)).same D _ HK1.out rfl
              have hKc : ((V.setCell ⟨w.heap.size + 1, 0, none⟩ (.bool true)).putObj D2 (.deferred none)).heap[D]? = some (.deferred (some [])) := ((grownBy_putObj' _ D2 (.deferred none)).block D (Array.getElem?_eq_some_iff.1 hKb).1 (fun e => by injection e; have := HBr9.out.size; omega)).trans hKb
              refine ⟨by simp, .inl ⟨_, _, rfl, run_takeDeferred hKa, ?_⟩⟩
              refine ⟨by simp, .inl ⟨_, _, rfl, run_takeDeferred hKc, ?_⟩⟩
              have d1 := World.cell?_setCell_same' V ⟨w.heap.size + 1, 0, none⟩ (.bool true) (by rw [hcR]; rfl)
              have d2 := cell_kept d1 (grownBy_putObj' _ D2 (.deferred none)) (fun r e => by cases e; exact ⟨_, hKa, rfl⟩)
              have d3 := cell_kept d2 (grownBy_putObj' _ D (.deferred none)) (fun r e => by cases e; exact ⟨_, hKc, rfl⟩)
              exact ⟨.bool true, by simp [results, Try.results5, go_sem, d3], rfl, ((HBV.out.setCell (p := ⟨w.heap.size + 1, 0, none⟩) (Nat.le_succ _) _).trans (belowK_b (w := w) (Nat.le_refl _) _ D2 _ _ hle2 hKa rfl rfl)).trans (belowK_b (w := w) (Nat.le_refl _) _ D _ _ hle1 hKc rfl rfl)⟩
  · have hc5 : (W1.setCell ⟨w.heap.size + 1, 0, none⟩ (.bool true)).cell? ⟨w.heap.size + 1, 0, none⟩ = some (.bool true) := World.cell?_setCell_same' _ _ _ (by rw [hcR]; rfl)
    have HB2 := Lib.hid (HB1.out.setCell (p := ⟨w.heap.size + 1, 0, none⟩) (Nat.le_succ _) (.bool true))
    by_cases hl0 : len0 ≤ 300
    · have t1 : decide ((300 : Int) < (len0 : Int)) = false := by simp; omega
      have t2 : decide ((60 : Int) < (len1 : Int)) = true := by simp; omega
      go_wp2
      exact ⟨.bool true, by simp [results, Try.results5, go_sem, hc5], rfl, HB2.out⟩
    · have t1 : decide ((300 : Int) < (len0 : Int)) = true := by simp; omega
      go_wp2
      exact ⟨.bool true, by simp [results, Try.results5, go_sem, hc5], rfl, HB2.out⟩

end Go.Proofs.Ythdbakeafmfmpaa
