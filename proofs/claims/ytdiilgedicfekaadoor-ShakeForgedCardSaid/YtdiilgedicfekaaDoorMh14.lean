/-
  Check of a Hello or an Answer. Conditions: as each states.
  Hear. Conditions: as it states.
-/
import Derived.Test.YtdiilgedicfekaaDoorMh11
import Derived.Deep.RegionHeld
import Derived.Test.YtdiilgedicfekaaDoorMh12
import Derived.Test.YtdiilgedicfekaaDoorMh13
namespace Go.Proofs.YtdiilgedicfekaaDoor
open Go.RowKit Go.Maps
set_option linter.unusedVariables false
set_option maxRecDepth 100000

theorem keep7 {w W6 W W' : World} {g : Nat} {C : Array Value} {t : TypeId} {v : Value} (h1 : W.heap[w.heap.size]? = some (.cells C t (0, 0))) (h2 : W.cell? ⟨g, 0, none⟩ = some v) (h3 : g < W.heap.size) (h4 : Below W6.heap.size W6 W) (hb : Below W.heap.size W W') :
    W'.heap[w.heap.size]? = some (.cells C t (0, 0)) ∧ W'.cell? ⟨g, 0, none⟩ = some v ∧ g < W'.heap.size ∧ Below W6.heap.size W6 W' :=
  ⟨(hb.block _ (Array.getElem?_eq_some_iff.1 h1).1).trans h1, (hb.cell (p := ⟨g, 0, none⟩) h3).trans h2, Nat.lt_of_lt_of_le h3 hb.size, h4.trans (hb.mono h4.size)⟩
set_option maxHeartbeats 8000000 in
theorem scheck_kind {w0 : World} {nb : Nat} {L : List Item} {R : Option (Nat × List Item)} {os : List (Nat × Obj)} {w : World} (h : Sd w0 nb L R os w) (hL : L.length ≤ 1000000) (m : Wi.Msg) (x1 x2 x3 : Value) (hv : MsgV w x1 x2 x3 m) (hk : m.kind = 1 ∨ m.kind = 2) :
    Calls Tryd.prog 22 #[.pointer (some ⟨nb, 0, none⟩), .agg #[.int .i64 m.kind, x1, x2, x3]] w fun e w' => e = .returned (.bool (checkM L m)) ∧ Below w.heap.size w w' := by
  have hv' := hv
  obtain ⟨A1, c1, A2, c2, A3, c3, rfl, rfl, rfl⟩ := hv.forms
  have HV := Lib.hid hv
  have HS := Lib.hid h
  have HD : Hid (∀ W, Calls Tryd.prog 33 #[] W (DeedsAns W)) := Lib.hid deeds_any
  obtain ⟨fk, hfk⟩ : ∃ k, deedOf m.kind = .func (.func k) #[] #[] := by
    rcases hk with e | e
    · exact ⟨_, by rw [e]; rfl⟩
    · exact ⟨_, by rw [e]; rfl⟩
  have HO := Lib.hid hfk
  have HM : Hid (∀ W, Below w.heap.size w W → Calls Tryd.prog 36 #[.agg #[.int .i64 m.kind, .slice A1 m.nums.length c1, .slice A2 m.addrs.length c2, .slice A3 m.body.length c3]] W fun e w' => e = .returned (.bool (Wi.may m)) ∧ Below W.heap.size W w') := Lib.hid (fun W hW => may_msg m _ _ _ W (hv.below hW) (h.tbv.below hW))
  have HW : Hid (∃ W, w.alloc (.cells #[.int .i64 m.kind, .slice A1 m.nums.length c1, .slice A2 m.addrs.length c2, .slice A3 m.body.length c3] 46) = W ∧ Below w.heap.size w W ∧ W.heap[w.heap.size]? = some (.cells #[.int .i64 m.kind, .slice A1 m.nums.length c1, .slice A2 m.addrs.length c2, .slice A3 m.body.length c3] 46 (0, 0))) := Lib.hid ⟨_, rfl, (Below.refl _ w).alloc (Nat.le_refl _) _, alloc_at _ _ _⟩
  have hq := eqlD_fn fk
  have HKK := Lib.hid hk
  clear hv hv' hk h hfk
  cases hmay : Wi.may m with
  | false =>
    have HC : Hid (checkM L m = false) := Lib.hid (by simp [checkM, hmay])
    rw [hmay] at HM
    clear hmay
    go_enter Tryd.func22, Tryd.ntmps22
    go_wp2
    obtain ⟨W, hW, hB, k0⟩ := HW.out
    rw [hW]
    clear hW
    have HB := Lib.hid hB; have HK := Lib.hid k0
    clear hB k0
    refine wp_region_held_drew (S := fun W => W.heap[w.heap.size]? = some (.cells #[.int .i64 m.kind, .slice A1 m.nums.length c1, .slice A2 m.addrs.length c2, .slice A3 m.body.length c3] 46 (0, 0)) ∧ Below w.heap.size w W) (by kernel_rfl) ⟨heap_drew HK.out, below_drew HB.out⟩ (fun hHeld => ?_)
    refine wpAnyH_take (i := 1) (oi := _) (v := ?_) rfl (by kernel_rfl) (by kernel_rfl) (by kernel_rfl) (fun _ _ _ h => h) (Or.inl ⟨by rfl, ?_⟩) (by assumption) ?_
    case refine_2 => intro w hSw; (try dsimp only at hSw); obtain ⟨⟨z0, _⟩, ⟨z1, _⟩, ⟨z2, _⟩, ⟨z3, _⟩, zl⟩ := four hSw.1; go_simp; first | done | (with_reducible rfl)
    try simp only [Act.put, List.getElem_toArray, List.getElem_cons_zero, List.getElem_cons_succ, List.setIfInBounds_toArray, List.set_cons_zero, List.set_cons_succ]
    refine wpAnyH_take (i := 2) (oi := _) (v := ?_) rfl (by kernel_rfl) (by kernel_rfl) (by kernel_rfl) (fun _ _ _ h => h) (Or.inl ⟨by rfl, ?_⟩) (by assumption) ?_
    case refine_2 => intro w hSw; (try dsimp only at hSw); obtain ⟨⟨z0, _⟩, ⟨z1, _⟩, ⟨z2, _⟩, ⟨z3, _⟩, zl⟩ := four hSw.1; go_simp; first | done | (with_reducible rfl)
    try simp only [Act.put, List.getElem_toArray, List.getElem_cons_zero, List.getElem_cons_succ, List.setIfInBounds_toArray, List.set_cons_zero, List.set_cons_succ]
    refine wpAnyH_ready (rs := [0]) (by kernel_rfl) (by simp) ?_
    refine AllReadyH.cons rfl (fun K hK => ?_) AllReadyH.nil
    go_simp
    go_at_call 33
    refine (HD.out _).mono ?_
    rintro e W3 ⟨bm, rfl, hb3, hk3, _⟩
    have q3 := run_lookD W3 bm m.kind hk3
    rw [HO.out] at q3
    have HB3 := Lib.hid (hHeld.2.trans (hb3.mono hHeld.2.size))
    have HK3 := Lib.hid ((hb3.block _ (Array.getElem?_eq_some_iff.1 hHeld.1).1).trans hHeld.1)
    clear hb3 hk3
    refine hK.out _ _ ⟨HK3.out, HB3.out⟩ (fun hHeld => ?_)
    clear hK K
    try simp only [Act.put, List.getElem_toArray, List.getElem_cons_zero, List.getElem_cons_succ, List.setIfInBounds_toArray, List.set_cons_zero, List.set_cons_succ]
    refine wpAnyH_ready (rs := [3]) (by kernel_rfl) (by simp) ?_
    refine AllReadyH.cons rfl (fun K hK => ?_) AllReadyH.nil
    go_simp
    refine hK.out _ _ ⟨HK3.out, HB3.out⟩ (fun hHeld => ?_)
    clear hK K
    try simp only [Act.put, List.getElem_toArray, List.getElem_cons_zero, List.getElem_cons_succ, List.setIfInBounds_toArray, List.set_cons_zero, List.set_cons_succ]
    refine wpAnyH_take (i := 4) (oi := _) (v := ?_) rfl (by kernel_rfl) (by kernel_rfl) (by kernel_rfl) (fun _ _ _ h => h) (Or.inl ⟨by rfl, ?_⟩) (by assumption) ?_
    case refine_2 => intro w hSw; (try dsimp only at hSw); obtain ⟨⟨z0, _⟩, ⟨z1, _⟩, ⟨z2, _⟩, ⟨z3, _⟩, zl⟩ := four hSw.1; go_simp; first | done | (with_reducible rfl)
    try simp only [Act.put, List.getElem_toArray, List.getElem_cons_zero, List.getElem_cons_succ, List.setIfInBounds_toArray, List.set_cons_zero, List.set_cons_succ]
    refine wpAnyH_take (i := 5) (oi := _) (v := ?_) rfl (by kernel_rfl) (by kernel_rfl) (by kernel_rfl) (fun _ _ _ h => h) (Or.inl ⟨by rfl, ?_⟩) (by assumption) ?_
    case refine_2 => intro w hSw; (try dsimp only at hSw); obtain ⟨⟨z0, _⟩, ⟨z1, _⟩, ⟨z2, _⟩, ⟨z3, _⟩, zl⟩ := four hSw.1; go_simp; first | done | (with_reducible rfl)
    try simp only [Act.put, List.getElem_toArray, List.getElem_cons_zero, List.getElem_cons_succ, List.setIfInBounds_toArray, List.set_cons_zero, List.set_cons_succ]
    refine wpAnyH_take (i := 6) (oi := _) (v := ?_) rfl (by kernel_rfl) (by kernel_rfl) (by kernel_rfl) (fun _ _ _ h => h) (Or.inl ⟨by rfl, ?_⟩) (by assumption) ?_
    case refine_2 => intro w hSw; (try dsimp only at hSw); obtain ⟨⟨z0, _⟩, ⟨z1, _⟩, ⟨z2, _⟩, ⟨z3, _⟩, zl⟩ := four hSw.1; go_simp; first | done | (with_reducible rfl)
    try simp only [Act.put, List.getElem_toArray, List.getElem_cons_zero, List.getElem_cons_succ, List.setIfInBounds_toArray, List.set_cons_zero, List.set_cons_succ]
    refine wpAnyH_ready (rs := [7]) (by kernel_rfl) (by simp) ?_
    refine AllReadyH.cons rfl (fun K hK => ?_) AllReadyH.nil
    go_simp
    go_at_call 36
    refine (HM.out _ hHeld.2).mono ?_
    rintro e W4 ⟨rfl, hb4⟩
    have HB4 := Lib.hid (hHeld.2.trans (hb4.mono hHeld.2.size))
    have HK4 := Lib.hid ((hb4.block _ (Array.getElem?_eq_some_iff.1 hHeld.1).1).trans hHeld.1)
    clear hb4
    refine hK.out _ _ ⟨HK4.out, HB4.out⟩ (fun hHeld => ?_)
    clear hK K
    try simp only [Act.put, List.getElem_toArray, List.getElem_cons_zero, List.getElem_cons_succ, List.setIfInBounds_toArray, List.set_cons_zero, List.set_cons_succ]
    refine wpAnyH_take (i := 8) (oi := _) (v := ?_) rfl (by kernel_rfl) (by kernel_rfl) (by kernel_rfl) (fun _ _ _ h => h) (Or.inl ⟨by rfl, ?_⟩) (by assumption) ?_
    case refine_2 => intro w hSw; (try dsimp only at hSw); obtain ⟨⟨z0, _⟩, ⟨z1, _⟩, ⟨z2, _⟩, ⟨z3, _⟩, zl⟩ := four hSw.1; go_simp; first | done | (with_reducible rfl)
    try simp only [Act.put, List.getElem_toArray, List.getElem_cons_zero, List.getElem_cons_succ, List.setIfInBounds_toArray, List.set_cons_zero, List.set_cons_succ]
    refine wpAnyH_take (i := 9) (oi := _) (v := ?_) rfl (by kernel_rfl) (by kernel_rfl) (by kernel_rfl) (fun _ _ _ h => h) (Or.inl ⟨by rfl, ?_⟩) (by assumption) ?_
    case refine_2 => intro w hSw; (try dsimp only at hSw); obtain ⟨⟨z0, _⟩, ⟨z1, _⟩, ⟨z2, _⟩, ⟨z3, _⟩, zl⟩ := four hSw.1; go_simp; first | done | (with_reducible rfl)
    try simp only [Act.put, List.getElem_toArray, List.getElem_cons_zero, List.getElem_cons_succ, List.setIfInBounds_toArray, List.set_cons_zero, List.set_cons_succ]
    refine wpAnyH_done (by kernel_rfl) ?_ _
    go_wp2
    go_ret
    exact ⟨by rw [HC.out]; rfl, HB4.out⟩
  | true =>
    have hkk := HKK.out
    have hn := nums_45 hmay hkk
    have HN1 := Lib.hid hn.1
    have HN5 := Lib.hid hn.2.1
    obtain ⟨r, hr⟩ : ∃ r, checkL L ((m.nums.getD 0 0 : Nat), Wi.bytes { m with nums := setZ m.nums }) (lastN m.nums) = r := ⟨_, rfl⟩
    have HC : Hid (checkM L m = decide (r = 0)) := Lib.hid (by unfold checkM; rw [hmay, hr]; simp [hkk])
    rw [hmay] at HM
    have HOB : Hid (outB { m with nums := setZ m.nums } = Wi.bytes { m with nums := setZ m.nums }) := Lib.hid (by unfold outB; rw [if_pos (may_setZ hmay)])
    have HZ0 : Hid (m.nums.getD 0 0 < 9223372036854775808) := Lib.hid (getD_lt hmay 0)
    have HZL : Hid (lastN m.nums < 18446744073709551616) := Lib.hid (by have := getD_lt hmay (m.nums.length - 1); unfold lastN; omega)
    have HR := Lib.hid hr
    obtain ⟨b1, off1, c1', hx1, hbl1, r1, r2, hcc⟩ := ns_at HV.out.1 (by have := HN1.out; omega)
    cases hx1
    have hl1 := hcc (m.nums.length - 1) (by have := HN1.out; omega)
    obtain ⟨n, hnn⟩ : ∃ n, m.nums.length = n := ⟨_, rfl⟩
    obtain ⟨ln, hln⟩ : ∃ ln, n = ln + 1 := ⟨n - 1, by have := HN1.out; omega⟩
    have HLN := Lib.hid hln
    have HNN := Lib.hid hnn
    rw [hnn] at HW HM HN1 HN5 hl1
    rw [show n - 1 = ln by omega] at hl1
    have HV2 : Hid (MsgV w (.slice (some ⟨b1, off1, none⟩) n c1) (.slice A2 m.addrs.length c2) (.slice A3 m.body.length c3) m) := Lib.hid (by have := HV.out; rwa [hnn] at this)
    have HNS := Lib.hid HV2.out.1
    have HCL : Hid (∀ W, Below w.heap.size w W → W.cell? ⟨b1, off1 + ln, none⟩ = some (.int .u64 (lastN m.nums : Int))) := Lib.hid (fun W hW => (hW.cell (p := ⟨b1, off1 + ln, none⟩) hbl1).trans (by rw [hl1]; unfold lastN; rw [hnn, show n - 1 = ln by omega]))
    clear hl1
    have HCN : Hid (∀ W, Below w.heap.size w W → Calls Tryd.prog 40 #[.slice (some ⟨b1, off1, none⟩) n c1] W fun e W' => ∃ g c o, e = .returned (.slice (some ⟨g, 0, none⟩) n c) ∧ W'.heap[g]? = some o ∧ NumO o m.nums c ∧ W.heap.size ≤ g ∧ Below W.heap.size W W') := Lib.hid (fun W hW => (clone_n _ m.nums W (HNS.out.below hW) (by have := HN1.out; omega) (by have := HN5.out; omega)).mono fun e W' h => by
      obtain ⟨g, c, o, h1, h2, h3, h4, h5⟩ := h
      exact ⟨g, c, o, by rw [← hnn]; exact h1, h2, h3, h4, h5⟩)
    have HBY : Hid (∀ (g c : Nat) (W6 W : World), Chk w W6 g c n m (.slice A2 m.addrs.length c2) (.slice A3 m.body.length c3) → Below W6.heap.size W6 W → Calls Tryd.prog 21 #[.agg #[.int .i64 m.kind, .slice (some ⟨g, 0, none⟩) n c, .slice A2 m.addrs.length c2, .slice A3 m.body.length c3]] W fun e W' => ∃ A c', e = .returned (.slice A (Wi.bytes { m with nums := setZ m.nums }).length c') ∧ Bts W' A (Wi.bytes { m with nums := setZ m.nums }).length (Wi.bytes { m with nums := setZ m.nums }) ∧ Below W.heap.size W W') := Lib.hid (fun g c W6 W hc hW => (any_bytes { m with nums := setZ m.nums } _ _ _ W (hc.msg.below hW) (HS.out.tbv.below (hc.bel.trans (hW.mono hc.bel.size)))).mono fun e W' h => by
      obtain ⟨A, c', h1, h2, h3, h4, h5, h6⟩ := h
      rw [HOB.out] at h1 h5
      exact ⟨A, c', h1, h5, h6⟩)
    have HCH : Hid (∀ (A : Option Addr) (c' : Nat) (W : World), Below w.heap.size w W → Bts W A (Wi.bytes { m with nums := setZ m.nums }).length (Wi.bytes { m with nums := setZ m.nums }) → Calls Tryd.prog 41 #[.pointer (some ⟨nb, 0, none⟩), .int .i64 (m.nums.getD 0 0 : Nat), .slice A (Wi.bytes { m with nums := setZ m.nums }).length c', .int .u64 (lastN m.nums : Int)] W fun e W' => e = .returned (.int .i64 r) ∧ Below W.heap.size W W') := Lib.hid (fun A c' W hW hb => check_s (HS.out.below hW) _ A _ c' _ _ r hL hb HZL.out HR.out)
    have HMD : Hid (∀ (g c : Nat) (o : Obj) (W : World), Below w.heap.size w W → W.heap[w.heap.size]? = some (.cells #[.int .i64 m.kind, .slice (some ⟨b1, off1, none⟩) n c1, .slice A2 m.addrs.length c2, .slice A3 m.body.length c3] 46 (0, 0)) → W.heap[g]? = some o → NumO o m.nums c → w.heap.size < g → Chk w ((W.setCell ⟨w.heap.size, 1, none⟩ (.slice (some ⟨g, 0, none⟩) n c)).setCell ⟨g, ln, none⟩ (.int .u64 0)) g c n m (.slice A2 m.addrs.length c2) (.slice A3 m.body.length c3) ∧ ∃ C, W.heap[g]? = some (.cells C 22 (0, 0)) ∧ C[ln]? = some (.int .u64 (lastN m.nums : Int))) := Lib.hid (fun g c o W h1 h2 h3 h4 h5 => chk_mid HV2.out hnn (by have := HN1.out; omega) h1 h2 h3 h4 h5 ln (by omega))
    rw [hnn]
    rw [hnn] at r1
    have w3 : IntKind.i64.wrap ((m.nums.getD 0 0 : Nat) : Int) = ((m.nums.getD 0 0 : Nat) : Int) := by rw [IntKind.wrap_i64]; have := HZ0.out; omega
    obtain ⟨v0, hv0⟩ : ∃ v, m.nums.getD 0 0 = v := ⟨_, rfl⟩
    have HV0 := Lib.hid hv0
    rw [hv0] at w3 HCH
    clear hv0
    obtain ⟨zl, hzl⟩ : ∃ z, lastN m.nums = z := ⟨_, rfl⟩
    rw [hzl] at HCL HCH HMD
    clear hzl
    obtain ⟨zb, hzb⟩ : ∃ z, (Wi.bytes { m with nums := setZ m.nums }).length = z := ⟨_, rfl⟩
    rw [hzb] at HBY HCH
    clear hzb
    clear hmay hkk hn hr hnn hcc
    have hn4 := HN1.out
    have hn5 := HN5.out
    have w1 : IntKind.i64.wrap ((n : Int) - 1) = (ln : Int) := by rw [IntKind.wrap_i64]; omega
    have w2 : (ln : Int) < (n : Int) := by omega
    have n0 : 0 < n := by omega
    clear hln
    go_enter Tryd.func22, Tryd.ntmps22
    go_wp2
    obtain ⟨W, hW, hB, k0⟩ := HW.out
    rw [hW]
    clear hW
    have HB := Lib.hid hB; have HK := Lib.hid k0
    clear hB k0
    refine wp_region_held_drew (S := fun W => W.heap[w.heap.size]? = some (.cells #[.int .i64 m.kind, .slice (some ⟨b1, off1, none⟩) n c1, .slice A2 m.addrs.length c2, .slice A3 m.body.length c3] 46 (0, 0)) ∧ Below w.heap.size w W) (by kernel_rfl) ⟨heap_drew HK.out, below_drew HB.out⟩ (fun hHeld => ?_)
    refine wpAnyH_take (i := 1) (oi := _) (v := ?_) rfl (by kernel_rfl) (by kernel_rfl) (by kernel_rfl) (fun _ _ _ h => h) (Or.inl ⟨by rfl, ?_⟩) (by assumption) ?_
    case refine_2 => intro w hSw; (try dsimp only at hSw); obtain ⟨⟨z0, _⟩, ⟨z1, _⟩, ⟨z2, _⟩, ⟨z3, _⟩, zl⟩ := four hSw.1; go_simp; first | done | (with_reducible rfl)
    try simp only [Act.put, List.getElem_toArray, List.getElem_cons_zero, List.getElem_cons_succ, List.setIfInBounds_toArray, List.set_cons_zero, List.set_cons_succ]
    refine wpAnyH_take (i := 2) (oi := _) (v := ?_) rfl (by kernel_rfl) (by kernel_rfl) (by kernel_rfl) (fun _ _ _ h => h) (Or.inl ⟨by rfl, ?_⟩) (by assumption) ?_
    case refine_2 => intro w hSw; (try dsimp only at hSw); obtain ⟨⟨z0, _⟩, ⟨z1, _⟩, ⟨z2, _⟩, ⟨z3, _⟩, zl⟩ := four hSw.1; go_simp; first | done | (with_reducible rfl)
    try simp only [Act.put, List.getElem_toArray, List.getElem_cons_zero, List.getElem_cons_succ, List.setIfInBounds_toArray, List.set_cons_zero, List.set_cons_succ]
    refine wpAnyH_ready (rs := [0]) (by kernel_rfl) (by simp) ?_
    refine AllReadyH.cons rfl (fun K hK => ?_) AllReadyH.nil
    go_simp
    go_at_call 33
    refine (HD.out _).mono ?_
    rintro e W3 ⟨bm, rfl, hb3, hk3, _⟩
    have q3 := run_lookD W3 bm m.kind hk3
    rw [HO.out] at q3
    have HB3 := Lib.hid (hHeld.2.trans (hb3.mono hHeld.2.size))
    have HK3 := Lib.hid ((hb3.block _ (Array.getElem?_eq_some_iff.1 hHeld.1).1).trans hHeld.1)
    clear hb3 hk3
    refine hK.out _ _ ⟨HK3.out, HB3.out⟩ (fun hHeld => ?_)
    clear hK K
    try simp only [Act.put, List.getElem_toArray, List.getElem_cons_zero, List.getElem_cons_succ, List.setIfInBounds_toArray, List.set_cons_zero, List.set_cons_succ]
    refine wpAnyH_ready (rs := [3]) (by kernel_rfl) (by simp) ?_
    refine AllReadyH.cons rfl (fun K hK => ?_) AllReadyH.nil
    go_simp
    refine hK.out _ _ ⟨HK3.out, HB3.out⟩ (fun hHeld => ?_)
    clear hK K
    try simp only [Act.put, List.getElem_toArray, List.getElem_cons_zero, List.getElem_cons_succ, List.setIfInBounds_toArray, List.set_cons_zero, List.set_cons_succ]
    refine wpAnyH_take (i := 4) (oi := _) (v := ?_) rfl (by kernel_rfl) (by kernel_rfl) (by kernel_rfl) (fun _ _ _ h => h) (Or.inl ⟨by rfl, ?_⟩) (by assumption) ?_
    case refine_2 => intro w hSw; (try dsimp only at hSw); obtain ⟨⟨z0, _⟩, ⟨z1, _⟩, ⟨z2, _⟩, ⟨z3, _⟩, zl⟩ := four hSw.1; go_simp; first | done | (with_reducible rfl)
    try simp only [Act.put, List.getElem_toArray, List.getElem_cons_zero, List.getElem_cons_succ, List.setIfInBounds_toArray, List.set_cons_zero, List.set_cons_succ]
    refine wpAnyH_take (i := 5) (oi := _) (v := ?_) rfl (by kernel_rfl) (by kernel_rfl) (by kernel_rfl) (fun _ _ _ h => h) (Or.inl ⟨by rfl, ?_⟩) (by assumption) ?_
    case refine_2 => intro w hSw; (try dsimp only at hSw); obtain ⟨⟨z0, _⟩, ⟨z1, _⟩, ⟨z2, _⟩, ⟨z3, _⟩, zl⟩ := four hSw.1; go_simp; first | done | (with_reducible rfl)
    try simp only [Act.put, List.getElem_toArray, List.getElem_cons_zero, List.getElem_cons_succ, List.setIfInBounds_toArray, List.set_cons_zero, List.set_cons_succ]
    refine wpAnyH_take (i := 6) (oi := _) (v := ?_) rfl (by kernel_rfl) (by kernel_rfl) (by kernel_rfl) (fun _ _ _ h => h) (Or.inl ⟨by rfl, ?_⟩) (by assumption) ?_
    case refine_2 => intro w hSw; (try dsimp only at hSw); obtain ⟨⟨z0, _⟩, ⟨z1, _⟩, ⟨z2, _⟩, ⟨z3, _⟩, zl⟩ := four hSw.1; go_simp; first | done | (with_reducible rfl)
    try simp only [Act.put, List.getElem_toArray, List.getElem_cons_zero, List.getElem_cons_succ, List.setIfInBounds_toArray, List.set_cons_zero, List.set_cons_succ]
    refine wpAnyH_ready (rs := [7]) (by kernel_rfl) (by simp) ?_
    refine AllReadyH.cons rfl (fun K hK => ?_) AllReadyH.nil
    go_simp
    go_at_call 36
    refine (HM.out _ hHeld.2).mono ?_
    rintro e W4 ⟨rfl, hb4⟩
    have HB4 := Lib.hid (hHeld.2.trans (hb4.mono hHeld.2.size))
    have HK4 := Lib.hid ((hb4.block _ (Array.getElem?_eq_some_iff.1 hHeld.1).1).trans hHeld.1)
    clear hb4
    refine hK.out _ _ ⟨HK4.out, HB4.out⟩ (fun hHeld => ?_)
    clear hK K
    try simp only [Act.put, List.getElem_toArray, List.getElem_cons_zero, List.getElem_cons_succ, List.setIfInBounds_toArray, List.set_cons_zero, List.set_cons_succ]
    refine wpAnyH_take (i := 8) (oi := _) (v := ?_) rfl (by kernel_rfl) (by kernel_rfl) (by kernel_rfl) (fun _ _ _ h => h) (Or.inl ⟨by rfl, ?_⟩) (by assumption) ?_
    case refine_2 => intro w hSw; (try dsimp only at hSw); obtain ⟨⟨z0, _⟩, ⟨z1, _⟩, ⟨z2, _⟩, ⟨z3, _⟩, zl⟩ := four hSw.1; go_simp; first | done | (with_reducible rfl)
    try simp only [Act.put, List.getElem_toArray, List.getElem_cons_zero, List.getElem_cons_succ, List.setIfInBounds_toArray, List.set_cons_zero, List.set_cons_succ]
    refine wpAnyH_take (i := 9) (oi := _) (v := ?_) rfl (by kernel_rfl) (by kernel_rfl) (by kernel_rfl) (fun _ _ _ h => h) (Or.inl ⟨by rfl, ?_⟩) (by assumption) ?_
    case refine_2 => intro w hSw; (try dsimp only at hSw); obtain ⟨⟨z0, _⟩, ⟨z1, _⟩, ⟨z2, _⟩, ⟨z3, _⟩, zl⟩ := four hSw.1; go_simp; first | done | (with_reducible rfl)
    try simp only [Act.put, List.getElem_toArray, List.getElem_cons_zero, List.getElem_cons_succ, List.setIfInBounds_toArray, List.set_cons_zero, List.set_cons_succ]
    refine wpAnyH_done (by kernel_rfl) ?_ _
    obtain ⟨⟨y0, _⟩, ⟨y1, yf⟩, ⟨y2, _⟩, ⟨y3, _⟩, yl⟩ := four HK4.out
    have z1 := HCL.out _ HB4.out
    have zl1 := (HB4.out.size)
    have zb1 : b1 < W4.heap.size := Nat.lt_of_lt_of_le hbl1 zl1
    clear hHeld
    go_wp2_with fail
    refine (HCN.out _ HB4.out).mono ?_
    rintro e W5 ⟨g, cg, o, rfl, hg, ho, hge, hb5⟩
    have HB5 := Lib.hid (HB4.out.trans (hb5.mono HB4.out.size))
    have hk5 := (hb5.block _ yl).trans HK4.out
    obtain ⟨hck, C, hC, hCl⟩ := HMD.out g cg o W5 HB5.out hk5 hg ho (by omega)
    obtain ⟨⟨u0, _⟩, ⟨u1, uf⟩, ⟨u2, _⟩, ⟨u3, _⟩, ul⟩ := four hk5
    obtain ⟨v1, vf⟩ := cells_of hC ln
    rw [hCl] at v1
    have hne : g ≠ w.heap.size := by omega
    have hne2 : ¬ (w.heap.size = g) := by omega
    have gl : g < W5.heap.size := (Array.getElem?_eq_some_iff.1 hC).1
    have HCK := Lib.hid hck
    clear hck hg ho hb5 hk5 hC hCl z1 y0 y1 y2 y3 yf
    go_wp2
    obtain ⟨W6, hW6⟩ : ∃ W6, ((W5.setCell ⟨w.heap.size, 1, none⟩ (.slice (some ⟨g, 0, none⟩) n cg)).setCell ⟨g, ln, none⟩ (.int .u64 0)) = W6 := ⟨_, rfl⟩
    rw [hW6] at HCK ⊢
    clear hW6 u0 u1 u2 u3 uf v1 vf
    have hck := HCK.out
    have uf0 : W6.drew.cell? ⟨g, 0, none⟩ = some (.int .u64 ((v0 : Nat) : Int)) := by have := hck.fst; rw [HV0.out] at this; exact this
    have gl6 : g < W6.drew.heap.size := hck.lt
    clear hck
    refine wp_region_held_drew (S := fun W => W.heap[w.heap.size]? = some (.cells #[.int .i64 m.kind, .slice (some ⟨g, 0, none⟩) n cg, .slice A2 m.addrs.length c2, .slice A3 m.body.length c3] 46 (0, 0)) ∧ W.cell? ⟨g, 0, none⟩ = some (.int .u64 ((v0 : Nat) : Int)) ∧ g < W.heap.size ∧ Below W6.heap.size W6 W) (by kernel_rfl) ⟨heap_drew HCK.out.box, uf0, gl6, below_drew (Below.refl _ _)⟩ (fun hHeld => ?_)
    refine wpAnyH_take (i := 0) (oi := _) (v := ?_) rfl (by kernel_rfl) (by kernel_rfl) (by kernel_rfl) (fun _ _ _ h => h) (Or.inl ⟨by rfl, ?_⟩) (by assumption) ?_
    case refine_2 => intro w hSw; (try dsimp only at hSw); obtain ⟨⟨z0, _⟩, ⟨z1, _⟩, ⟨z2, _⟩, ⟨z3, _⟩, zl⟩ := four hSw.1; obtain ⟨-, y0, y1, -⟩ := hSw; go_simp; first | done | (with_reducible rfl)
    try simp only [Act.put, List.getElem_toArray, List.getElem_cons_zero, List.setIfInBounds_toArray, List.set_cons_zero, List.set_cons_succ]
    refine wpAnyH_take (i := 1) (oi := _) (v := ?_) rfl (by kernel_rfl) (by kernel_rfl) (by kernel_rfl) (fun _ _ _ h => h) (Or.inl ⟨by rfl, ?_⟩) (by assumption) ?_
    case refine_2 => intro w hSw; (try dsimp only at hSw); obtain ⟨⟨z0, _⟩, ⟨z1, _⟩, ⟨z2, _⟩, ⟨z3, _⟩, zl⟩ := four hSw.1; obtain ⟨-, y0, y1, -⟩ := hSw; go_simp; first | done | (with_reducible rfl)
    try simp only [Act.put, List.getElem_toArray, List.getElem_cons_zero, List.getElem_cons_succ, List.setIfInBounds_toArray, List.set_cons_zero, List.set_cons_succ]
    refine wpAnyH_take (i := 2) (oi := _) (v := ?_) rfl (by kernel_rfl) (by kernel_rfl) (by kernel_rfl) (fun _ _ _ h => h) (Or.inl ⟨by rfl, ?_⟩) (by assumption) ?_
    case refine_2 => intro w hSw; (try dsimp only at hSw); obtain ⟨⟨z0, _⟩, ⟨z1, _⟩, ⟨z2, _⟩, ⟨z3, _⟩, zl⟩ := four hSw.1; obtain ⟨-, y0, y1, -⟩ := hSw; go_simp; first | done | (with_reducible rfl)
    try simp only [Act.put, List.getElem_toArray, List.getElem_cons_zero, List.getElem_cons_succ, List.setIfInBounds_toArray, List.set_cons_zero, List.set_cons_succ]
    refine wpAnyH_take (i := 3) (oi := _) (v := ?_) rfl (by kernel_rfl) (by kernel_rfl) (by kernel_rfl) (fun _ _ _ h => h) (Or.inl ⟨by rfl, ?_⟩) (by assumption) ?_
    case refine_2 => intro w hSw; (try dsimp only at hSw); obtain ⟨⟨z0, _⟩, ⟨z1, _⟩, ⟨z2, _⟩, ⟨z3, _⟩, zl⟩ := four hSw.1; obtain ⟨-, y0, y1, -⟩ := hSw; go_simp; first | done | (with_reducible rfl)
    try simp only [Act.put, List.getElem_toArray, List.getElem_cons_zero, List.getElem_cons_succ, List.setIfInBounds_toArray, List.set_cons_zero, List.set_cons_succ]
    refine wpAnyH_take (i := 4) (oi := _) (v := ?_) rfl (by kernel_rfl) (by kernel_rfl) (by kernel_rfl) (fun _ _ _ h => h) (Or.inl ⟨by rfl, ?_⟩) (by assumption) ?_
    case refine_2 => intro w hSw; (try dsimp only at hSw); obtain ⟨⟨z0, _⟩, ⟨z1, _⟩, ⟨z2, _⟩, ⟨z3, _⟩, zl⟩ := four hSw.1; obtain ⟨-, y0, y1, -⟩ := hSw; go_simp; first | done | (with_reducible rfl)
    try simp only [Act.put, List.getElem_toArray, List.getElem_cons_zero, List.getElem_cons_succ, List.setIfInBounds_toArray, List.set_cons_zero, List.set_cons_succ]
    refine wpAnyH_take (i := 5) (oi := _) (v := ?_) rfl (by kernel_rfl) (by kernel_rfl) (by kernel_rfl) (fun _ _ _ h => h) (Or.inl ⟨by rfl, ?_⟩) (by assumption) ?_
    case refine_2 => intro w hSw; (try dsimp only at hSw); obtain ⟨⟨z0, _⟩, ⟨z1, _⟩, ⟨z2, _⟩, ⟨z3, _⟩, zl⟩ := four hSw.1; obtain ⟨-, y0, y1, -⟩ := hSw; go_simp; first | done | (with_reducible rfl)
    try simp only [Act.put, List.getElem_toArray, List.getElem_cons_zero, List.getElem_cons_succ, List.setIfInBounds_toArray, List.set_cons_zero, List.set_cons_succ]
    refine wpAnyH_take (i := 6) (oi := _) (v := ?_) rfl (by kernel_rfl) (by kernel_rfl) (by kernel_rfl) (fun _ _ _ h => h) (Or.inl ⟨by rfl, ?_⟩) (by assumption) ?_
    case refine_2 => intro w hSw; (try dsimp only at hSw); obtain ⟨⟨z0, _⟩, ⟨z1, _⟩, ⟨z2, _⟩, ⟨z3, _⟩, zl⟩ := four hSw.1; obtain ⟨-, y0, y1, -⟩ := hSw; go_simp; first | done | (with_reducible rfl)
    try simp only [Act.put, List.getElem_toArray, List.getElem_cons_zero, List.getElem_cons_succ, List.setIfInBounds_toArray, List.set_cons_zero, List.set_cons_succ]
    refine wpAnyH_take (i := 8) (oi := _) (v := ?_) rfl (by kernel_rfl) (by kernel_rfl) (by kernel_rfl) (fun _ _ _ h => h) (Or.inl ⟨by rfl, ?_⟩) (by assumption) ?_
    case refine_2 => intro w hSw; (try dsimp only at hSw); obtain ⟨⟨z0, _⟩, ⟨z1, _⟩, ⟨z2, _⟩, ⟨z3, _⟩, zl⟩ := four hSw.1; obtain ⟨-, y0, y1, -⟩ := hSw; go_simp; first | done | (with_reducible rfl)
    try simp only [Act.put, List.getElem_toArray, List.getElem_cons_zero, List.getElem_cons_succ, List.setIfInBounds_toArray, List.set_cons_zero, List.set_cons_succ]
    refine wpAnyH_ready (rs := [7]) (by kernel_rfl) (by simp) ?_
    refine AllReadyH.cons rfl (fun K hK => ?_) AllReadyH.nil
    go_simp
    go_at_call 21
    refine (HBY.out g cg W6 _ HCK.out hHeld.2.2.2).mono ?_
    rintro e W7 ⟨A7, c7, rfl, hb7, hbe7⟩
    have HBT := Lib.hid hb7
    have HS7 := Lib.hid (keep7 hHeld.1 hHeld.2.1 hHeld.2.2.1 hHeld.2.2.2 hbe7)
    clear hb7 hbe7
    refine hK.out _ _ HS7.out (fun hHeld => ?_)
    clear hK K
    try simp only [Act.put, List.getElem_toArray, List.getElem_cons_zero, List.getElem_cons_succ, List.setIfInBounds_toArray, List.set_cons_zero, List.set_cons_succ]
    refine wpAnyH_ready (rs := [9]) (by kernel_rfl) (by simp) ?_
    refine AllReadyH.cons rfl (fun K hK => ?_) AllReadyH.nil
    go_simp
    go_at_call 41
    refine (HCH.out A7 c7 _ (HCK.out.bel.trans (HS7.out.2.2.2.mono HCK.out.bel.size)) HBT.out).mono ?_
    rintro e W8 ⟨rfl, hb8⟩
    have HS8 := Lib.hid (keep7 HS7.out.1 HS7.out.2.1 HS7.out.2.2.1 HS7.out.2.2.2 hb8)
    clear hb8
    refine hK.out _ _ HS8.out (fun hHeld => ?_)
    clear hK K
    try simp only [Act.put, List.getElem_toArray, List.getElem_cons_zero, List.getElem_cons_succ, List.setIfInBounds_toArray, List.set_cons_zero, List.set_cons_succ]
    refine wpAnyH_take (i := 10) (oi := _) (v := ?_) rfl (by kernel_rfl) (by kernel_rfl) (by kernel_rfl) (fun _ _ _ h => h) (Or.inl ⟨by rfl, ?_⟩) (by assumption) ?_
    case refine_2 => intro w hSw; (try dsimp only at hSw); obtain ⟨⟨z0, _⟩, ⟨z1, _⟩, ⟨z2, _⟩, ⟨z3, _⟩, zl⟩ := four hSw.1; obtain ⟨-, y0, y1, -⟩ := hSw; go_simp; first | done | (with_reducible rfl)
    try simp only [Act.put, List.getElem_toArray, List.getElem_cons_zero, List.getElem_cons_succ, List.setIfInBounds_toArray, List.set_cons_zero, List.set_cons_succ]
    refine wpAnyH_take (i := 11) (oi := _) (v := ?_) rfl (by kernel_rfl) (by kernel_rfl) (by kernel_rfl) (fun _ _ _ h => h) (Or.inl ⟨by rfl, ?_⟩) (by assumption) ?_
    case refine_2 => intro w hSw; (try dsimp only at hSw); obtain ⟨⟨z0, _⟩, ⟨z1, _⟩, ⟨z2, _⟩, ⟨z3, _⟩, zl⟩ := four hSw.1; obtain ⟨-, y0, y1, -⟩ := hSw; go_simp; first | done | (with_reducible rfl)
    try simp only [Act.put, List.getElem_toArray, List.getElem_cons_zero, List.getElem_cons_succ, List.setIfInBounds_toArray, List.set_cons_zero, List.set_cons_succ]
    refine wpAnyH_done (by kernel_rfl) ?_ _
    have HB8 := Lib.hid (HCK.out.bel.trans (HS8.out.2.2.2.mono HCK.out.bel.size))
    by_cases hr0 : r = 0
    · have t0 : (r == 0) = true := by simp [hr0]
      have HR0 := Lib.hid hr0; clear hr0 hHeld
      go_wp2
      go_ret
      exact ⟨by rw [HC.out, HR0.out]; rfl, HB8.out⟩
    · have t0 : (r == 0) = false := by simp [hr0]
      have HR0 := Lib.hid hr0; clear hr0 hHeld
      go_wp2
      go_ret
      exact ⟨by rw [HC.out]; simp [HR0.out], HB8.out⟩
/-- Check of whatever message -/
theorem scheck_any {w0 : World} {nb : Nat} {L : List Item} {R : Option (Nat × List Item)} {os : List (Nat × Obj)} {w : World} (h : Sd w0 nb L R os w) (hL : L.length ≤ 1000000) (m : Wi.Msg) (x1 x2 x3 : Value) (hv : MsgV w x1 x2 x3 m) :
    Calls Tryd.prog 22 #[.pointer (some ⟨nb, 0, none⟩), .agg #[.int .i64 m.kind, x1, x2, x3]] w fun e w' => e = .returned (.bool (checkM L m)) ∧ Below w.heap.size w w' := by
  by_cases hk : m.kind = 1 ∨ m.kind = 2
  · exact scheck_kind h hL m x1 x2 x3 hv hk
  · refine (scheck_no nb m x1 x2 x3 w hv hk).mono fun e w' h' => ⟨by rw [h'.1]; simp [checkM, hk], h'.2⟩
end Go.Proofs.YtdiilgedicfekaaDoor
namespace Go.Proofs.YtdiilgedicfekaaDoor
open Go.RowKit Go.Maps
set_option linter.unusedVariables false
set_option maxRecDepth 100000

section
variable {w0 : World} {nb : Nat} {L : List Item} {R : Option (Nat × List Item)} {os : List (Nat × Obj)} {w : World}
theorem checkM_may {L : List Item} {m : Wi.Msg} (h : checkM L m = true) : (m.kind = 1 ∨ m.kind = 2) ∧ Wi.may m = true := by
  unfold checkM at h
  simp only [Bool.and_eq_true, decide_eq_true_eq] at h
  exact ⟨h.1, h.2.1⟩
set_option maxHeartbeats 8000000 in
theorem hear_s (s : Sk) (A : Option Addr) (n c : Nat) (zs : List Int) (hb : Bts w A n zs) (h1 : n ≤ c) (h2 : c ≤ maxLen) (h3 : A = none → n = 0 ∧ c = 0) (hz : zs.length ≤ 1000000) (h : Sd w0 nb L R os w) (hs : s.Ok) (hL : L.length ≤ 1000000) :
    Calls Tryd.prog 16 #[skv s, .pointer (some ⟨nb, 0, none⟩), .slice A n c] w (ShAns w0 nb R os w.heap.size (hearO s L zs)) := by
  have HOS : Hid (∀ p ∈ os, p.1 < w.heap.size) := Lib.hid (fun p hp => h.lt hp)
  have hw0 := h.low.size
  have CMY : Hid (∀ V, Calls Tryd.prog 29 #[skv s] V fun e w' => e = .returned (.bool true) ∧ Below V.heap.size V w') := Lib.hid (fun V => by have := smay_any s V; rw [hs.may] at this; exact this)
  have HOK := Lib.hid hs
  obtain ⟨st, own, oth, non, ech⟩ := s
  have HA : Hid (Sd w0 nb L R (((w.heap.size + 1), Obj.cells #[.int .i64 0, .int .i64 0, .int .i64 0, .int .u64 (0 : Int), .int .u64 (0 : Int)] 29 (0, 0)) :: (w.heap.size, Obj.cells #[.int .i64 st, .int .i64 own, .int .i64 oth, .int .u64 (non : Int), .int .u64 (ech : Int)] 29 (0, 0)) :: os) ((w.alloc (.cells #[.int .i64 st, .int .i64 own, .int .i64 oth, .int .u64 (non : Int), .int .u64 (ech : Int)] 29)).alloc (.cells #[.int .i64 0, .int .i64 0, .int .i64 0, .int .u64 (0 : Int), .int .u64 (0 : Int)] 29))) := Lib.hid ((h.box _ _ rfl).box _ _ (by simp))
  have hb2 : Below w.heap.size w ((w.alloc (.cells #[.int .i64 st, .int .i64 own, .int .i64 oth, .int .u64 (non : Int), .int .u64 (ech : Int)] 29)).alloc (.cells #[.int .i64 0, .int .i64 0, .int .i64 0, .int .u64 (0 : Int), .int .u64 (0 : Int)] 29)) := ((Below.refl _ _).alloc (Nat.le_refl _) _).alloc (by simp) _
  cases hr : Wi.read zs with
  | none =>
    have CF := Lib.hid (law_none A n c zs _ (hb.below hb2) h1 h2 h3 HA.out.tbv hz hr)
    have HE : Hid (hearO ⟨st, own, oth, non, ech⟩ L zs = ⟨⟨st, own, oth, non, ech⟩, [], L⟩) := Lib.hid (by unfold hearO; rw [hr])
    clear hb h3 h hs hr hb2 hz
    go_enter Tryd.func16, Tryd.ntmps16
    go_wp2_with fail
    refine CF.out.mono ?_
    rintro e w1 ⟨x1, x2, x3, rfl, hv, hb3⟩
    obtain ⟨A1, d1, A2, d2, A3, d3, rfl, rfl, rfl⟩ := hv.forms
    have HS3 := Lib.hid (HA.out.below hb3)
    have HS4 := Lib.hid (HS3.out.alloc (.cells #[.int .i64 0, .slice A1 noMsg.nums.length d1, .slice A2 noMsg.addrs.length d2, .slice A3 noMsg.body.length d3] 46))
    obtain ⟨n1, e1⟩ : ∃ n, noMsg.nums.length = n := ⟨_, rfl⟩
    obtain ⟨n2, e2⟩ : ∃ n, noMsg.addrs.length = n := ⟨_, rfl⟩
    obtain ⟨n3, e3⟩ : ∃ n, noMsg.body.length = n := ⟨_, rfl⟩
    rw [e1, e2, e3] at HS4 ⊢
    clear e1 e2 e3
    obtain ⟨⟨y0, yf0⟩, ⟨y1, yf1⟩, ⟨y2, yf2⟩, ⟨y3, yf3⟩, ⟨y4, yf4⟩, yl⟩ := five (HS3.out.held (w.heap.size, Obj.cells #[.int .i64 st, .int .i64 own, .int .i64 oth, .int .u64 (non : Int), .int .u64 (ech : Int)] 29 (0, 0)) (by simp))
    obtain ⟨⟨r0, rf0⟩, ⟨r1, rf1⟩, ⟨r2, rf2⟩, ⟨r3, rf3⟩, ⟨r4, rf4⟩, rl⟩ := five (HS3.out.held ((w.heap.size + 1), Obj.cells #[.int .i64 0, .int .i64 0, .int .i64 0, .int .u64 (0 : Int), .int .u64 (0 : Int)] 29 (0, 0)) (by simp))
    have zz := hb3.size
    simp at zz
    clear hv hb3
    go_wp2
    obtain ⟨W6, hW6⟩ : ∃ W6, ((((((w1).setCell ⟨(w.heap.size + 1), 0, none⟩ (.int .i64 st)).setCell ⟨(w.heap.size + 1), 1, none⟩ (.int .i64 own)).setCell ⟨(w.heap.size + 1), 2, none⟩ (.int .i64 oth)).setCell ⟨(w.heap.size + 1), 3, none⟩ (.int .u64 (non : Int))).setCell ⟨(w.heap.size + 1), 4, none⟩ (.int .u64 (ech : Int))).alloc (.cells #[.int .i64 0, .slice A1 n1 d1, .slice A2 n2 d2, .slice A3 n3 d3] 46) = W6 := ⟨_, rfl⟩
    have hk6 : W6.heap[(w.heap.size + 1)]? = some (.cells #[.int .i64 st, .int .i64 own, .int .i64 oth, .int .u64 (non : Int), .int .u64 (ech : Int)] 29 (0, 0)) := by rw [← hW6]; exact (Below.heap_alloc _ _ _ (by simp; omega)).trans (set5_heap (HS3.out.held ((w.heap.size + 1), Obj.cells #[.int .i64 0, .int .i64 0, .int .i64 0, .int .u64 (0 : Int), .int .u64 (0 : Int)] 29 (0, 0)) (by simp)))
    have HS6 : Hid (Sd w0 nb L R os W6) := Lib.hid (by rw [← hW6]; exact (HS3.out.drop ((w.heap.size + 1), Obj.cells #[.int .i64 0, .int .i64 0, .int .i64 0, .int .u64 (0 : Int), .int .u64 (0 : Int)] 29 (0, 0)) (by simp) (by simp only; omega) (keeps5 _ _ _ _ _ _ _) _ (fun p hp => ⟨by simp [hp], by have := HOS.out p hp; simp only; omega⟩)).alloc _)
    rw [hW6]
    clear hW6
    obtain ⟨⟨q0, qf0⟩, ⟨q1, qf1⟩, ⟨q2, qf2⟩, ⟨q3, qf3⟩, ⟨q4, qf4⟩, ql⟩ := five hk6
    clear hk6
    refine ⟨rfl, .tuple #[.agg #[.int .i64 st, .int .i64 own, .int .i64 oth, .int .u64 (non : Int), .int .u64 (ech : Int)], .slice none 0 0], by simp [results, Tryd.f16, go_sem, q0, q1, q2, q3, q4], ?_⟩
    unfold ShAns
    rw [HE.out]
    exact ⟨_, rfl, sent_nil HS6.out⟩
  | some m =>
    have CF := Lib.hid (law_read A n c zs m _ (hb.below hb2) h1 h2 h3 HA.out.tbv hz hr)
    have HR : Hid (hearO ⟨st, own, oth, non, ech⟩ L zs = hearM ⟨st, own, oth, non, ech⟩ L m) := Lib.hid (by unfold hearO; rw [hr])
    clear hb h3 h hs hr hb2 hz
    go_enter Tryd.func16, Tryd.ntmps16
    go_wp2_with fail
    refine CF.out.mono ?_
    rintro e w1 ⟨x1, x2, x3, rfl, hv, hb3⟩
    obtain ⟨A1, d1, A2, d2, A3, d3, rfl, rfl, rfl⟩ := hv.forms
    obtain ⟨l1, e1⟩ : ∃ n, m.nums.length = n := ⟨_, rfl⟩
    obtain ⟨l2, e2⟩ : ∃ n, m.addrs.length = n := ⟨_, rfl⟩
    obtain ⟨l3, e3⟩ : ∃ n, m.body.length = n := ⟨_, rfl⟩
    obtain ⟨kd, ek⟩ : ∃ n, m.kind = n := ⟨_, rfl⟩
    have HL1 := Lib.hid e1; have HKD := Lib.hid ek
    rw [e1, e2, e3] at hv
    rw [e1, e2, e3, ek]
    have hsd := HA.out.below hb3
    have HW : Hid (∃ W1, w1.alloc (.cells #[.int .i64 kd, .slice A1 l1 d1, .slice A2 l2 d2, .slice A3 l3 d3] 46) = W1 ∧ Sd w0 nb L R ((w1.heap.size, Obj.cells #[.int .i64 kd, .slice A1 l1 d1, .slice A2 l2 d2, .slice A3 l3 d3] 46 (0, 0)) :: ((w.heap.size + 1), Obj.cells #[.int .i64 0, .int .i64 0, .int .i64 0, .int .u64 (0 : Int), .int .u64 (0 : Int)] 29 (0, 0)) :: (w.heap.size, Obj.cells #[.int .i64 st, .int .i64 own, .int .i64 oth, .int .u64 (non : Int), .int .u64 (ech : Int)] 29 (0, 0)) :: os) W1 ∧ MsgV W1 (.slice A1 l1 d1) (.slice A2 l2 d2) (.slice A3 l3 d3) m ∧ w1.heap.size < W1.heap.size) := Lib.hid ⟨_, rfl, hsd.box _ _ rfl, hv.below ((Below.refl _ _).alloc (Nat.le_refl _) _), by simp⟩
    have zz := hb3.size
    simp at zz
    obtain ⟨⟨y0, yf0⟩, ⟨y1, yf1⟩, ⟨y2, yf2⟩, ⟨y3, yf3⟩, ⟨y4, yf4⟩, yl⟩ := five (hsd.held (w.heap.size, Obj.cells #[.int .i64 st, .int .i64 own, .int .i64 oth, .int .u64 (non : Int), .int .u64 (ech : Int)] 29 (0, 0)) (by simp))
    clear hv hb3 e1 e2 e3 ek hsd
    go_wp2_with fail
    clear y0 yf0 y1 yf1 y2 yf2 y3 yf3 y4 yf4 yl
    obtain ⟨W1, hW1, hs1, hv1, hz1⟩ := HW.out
    rw [hW1]
    clear hW1
    have HS1 := Lib.hid hs1; have HV1 := Lib.hid hv1
    clear hs1 hv1
    refine (CMY.out _).mono ?_
    rintro e W2 ⟨rfl, hb2⟩
    have HS2 := Lib.hid (HS1.out.below hb2); have HV2 := Lib.hid (HV1.out.below hb2)
    have HZ2 : Hid (w1.heap.size < W2.heap.size) := Lib.hid (Nat.lt_of_lt_of_le hz1 hb2.size)
    clear hb2
    obtain ⟨⟨y0, yf0⟩, ⟨y1, yf1⟩, ⟨y2, yf2⟩, ⟨y3, yf3⟩, ⟨y4, yf4⟩, yl⟩ := five (HS2.out.held (w.heap.size, Obj.cells #[.int .i64 st, .int .i64 own, .int .i64 oth, .int .u64 (non : Int), .int .u64 (ech : Int)] 29 (0, 0)) (by simp))
    obtain ⟨⟨b0, _⟩, ⟨b1, _⟩, ⟨b2, _⟩, ⟨b3, _⟩, bl⟩ := four (HS2.out.held (w1.heap.size, Obj.cells #[.int .i64 kd, .slice A1 l1 d1, .slice A2 l2 d2, .slice A3 l3 d3] 46 (0, 0)) (by simp))
    go_wp2_with fail
    have CC := Lib.hid (scheck_any HS2.out hL m _ _ _ HV2.out)
    rw [HKD.out] at CC
    cases hc : checkM L m with
    | false =>
      have HE : Hid (hearO ⟨st, own, oth, non, ech⟩ L zs = ⟨⟨st, own, oth, non, ech⟩, [], L⟩) := Lib.hid (by rw [HR.out]; unfold hearM; rw [hc]; simp)
      rw [hc] at CC
      clear hc
      refine CC.out.mono ?_
      rintro e W4 ⟨rfl, hb4⟩
      have HS4 := Lib.hid (HS2.out.below hb4)
      clear hb4
      clear y0 yf0 y1 yf1 y2 yf2 y3 yf3 y4 yf4 yl
      clear b0 b1 b2 b3 bl
      obtain ⟨⟨z0, zf0⟩, ⟨z1, zf1⟩, ⟨z2, zf2⟩, ⟨z3, zf3⟩, ⟨z4, zf4⟩, zl⟩ := five (HS4.out.held (w.heap.size, Obj.cells #[.int .i64 st, .int .i64 own, .int .i64 oth, .int .u64 (non : Int), .int .u64 (ech : Int)] 29 (0, 0)) (by simp))
      obtain ⟨⟨q0, qf0⟩, ⟨q1, qf1⟩, ⟨q2, qf2⟩, ⟨q3, qf3⟩, ⟨q4, qf4⟩, ql⟩ := five (HS4.out.held ((w.heap.size + 1), Obj.cells #[.int .i64 0, .int .i64 0, .int .i64 0, .int .u64 (0 : Int), .int .u64 (0 : Int)] 29 (0, 0)) (by simp))
      go_wp2
      obtain ⟨W6, hW6⟩ : ∃ W6, (((((W4).setCell ⟨(w.heap.size + 1), 0, none⟩ (.int .i64 st)).setCell ⟨(w.heap.size + 1), 1, none⟩ (.int .i64 own)).setCell ⟨(w.heap.size + 1), 2, none⟩ (.int .i64 oth)).setCell ⟨(w.heap.size + 1), 3, none⟩ (.int .u64 (non : Int))).setCell ⟨(w.heap.size + 1), 4, none⟩ (.int .u64 (ech : Int)) = W6 := ⟨_, rfl⟩
      have hk6 : W6.heap[(w.heap.size + 1)]? = some (.cells #[.int .i64 st, .int .i64 own, .int .i64 oth, .int .u64 (non : Int), .int .u64 (ech : Int)] 29 (0, 0)) := by rw [← hW6]; exact set5_heap (HS4.out.held ((w.heap.size + 1), Obj.cells #[.int .i64 0, .int .i64 0, .int .i64 0, .int .u64 (0 : Int), .int .u64 (0 : Int)] 29 (0, 0)) (by simp))
      have HS6 : Hid (Sd w0 nb L R os W6) := Lib.hid (by rw [← hW6]; exact HS4.out.drop ((w.heap.size + 1), Obj.cells #[.int .i64 0, .int .i64 0, .int .i64 0, .int .u64 (0 : Int), .int .u64 (0 : Int)] 29 (0, 0)) (by simp) (by simp only; omega) (keeps5 _ _ _ _ _ _ _) _ (fun p hp => ⟨by simp [hp], by have := HOS.out p hp; simp only; omega⟩))
      clear q0 q1 q2 q3 q4 qf0 qf1 qf2 qf3 qf4
      rw [hW6]
      clear hW6
      obtain ⟨⟨q0, qf0⟩, ⟨q1, qf1⟩, ⟨q2, qf2⟩, ⟨q3, qf3⟩, ⟨q4, qf4⟩, ql⟩ := five hk6
      clear hk6
      refine ⟨rfl, .tuple #[.agg #[.int .i64 st, .int .i64 own, .int .i64 oth, .int .u64 (non : Int), .int .u64 (ech : Int)], .slice none 0 0], by simp [results, Tryd.f16, go_sem, q0, q1, q2, q3, q4], ?_⟩
      unfold ShAns
      rw [HE.out]
      exact ⟨_, rfl, sent_nil HS6.out⟩
    | true =>
      rw [hc] at CC
      have hcm := checkM_may hc
      have hnn := nums_45 hcm.2 hcm.1
      refine CC.out.mono ?_
      rintro e W3 ⟨rfl, hb4⟩
      have HS3 := Lib.hid (HS2.out.below hb4); have HV3 := Lib.hid (HV2.out.below hb4)
      have HZ3 : Hid (w1.heap.size < W3.heap.size) := Lib.hid (Nat.lt_of_lt_of_le HZ2.out hb4.size)
      clear hb4
      clear y0 yf0 y1 yf1 y2 yf2 y3 yf3 y4 yf4 yl
      clear b0 b1 b2 b3 bl
      obtain ⟨⟨y0, yf0⟩, ⟨y1, yf1⟩, ⟨y2, yf2⟩, ⟨y3, yf3⟩, ⟨y4, yf4⟩, yl⟩ := five (HS3.out.held (w.heap.size, Obj.cells #[.int .i64 st, .int .i64 own, .int .i64 oth, .int .u64 (non : Int), .int .u64 (ech : Int)] 29 (0, 0)) (by simp))
      obtain ⟨⟨b0, _⟩, ⟨b1, _⟩, ⟨b2, _⟩, ⟨b3, _⟩, bl⟩ := four (HS3.out.held (w1.heap.size, Obj.cells #[.int .i64 kd, .slice A1 l1 d1, .slice A2 l2 d2, .slice A3 l3 d3] 46 (0, 0)) (by simp))
      have CT := Lib.hid (isToIt_any ⟨st, own, oth, non, ech⟩ m _ _ _ W3 HOK.out HV3.out (by omega))
      rw [HKD.out] at CT
      have HCM := Lib.hid hcm; have HC := Lib.hid hc; have HNN := Lib.hid hnn
      clear hcm hc hnn
      go_wp2_with fail
      cases ht : toIt ⟨st, own, oth, non, ech⟩ m with
      | false =>
        have HE : Hid (hearO ⟨st, own, oth, non, ech⟩ L zs = ⟨⟨st, own, oth, non, ech⟩, [], L⟩) := Lib.hid (by rw [HR.out]; unfold hearM; rw [ht]; simp)
        rw [ht] at CT
        clear ht
        refine CT.out.mono ?_
        rintro e W4 ⟨rfl, hb4⟩
        have HS4 := Lib.hid (HS3.out.below hb4)
        clear hb4
        clear y0 yf0 y1 yf1 y2 yf2 y3 yf3 y4 yf4 yl
        clear b0 b1 b2 b3 bl
        obtain ⟨⟨z0, zf0⟩, ⟨z1, zf1⟩, ⟨z2, zf2⟩, ⟨z3, zf3⟩, ⟨z4, zf4⟩, zl⟩ := five (HS4.out.held (w.heap.size, Obj.cells #[.int .i64 st, .int .i64 own, .int .i64 oth, .int .u64 (non : Int), .int .u64 (ech : Int)] 29 (0, 0)) (by simp))
        obtain ⟨⟨q0, qf0⟩, ⟨q1, qf1⟩, ⟨q2, qf2⟩, ⟨q3, qf3⟩, ⟨q4, qf4⟩, ql⟩ := five (HS4.out.held ((w.heap.size + 1), Obj.cells #[.int .i64 0, .int .i64 0, .int .i64 0, .int .u64 (0 : Int), .int .u64 (0 : Int)] 29 (0, 0)) (by simp))
        go_wp2
        obtain ⟨W6, hW6⟩ : ∃ W6, (((((W4).setCell ⟨(w.heap.size + 1), 0, none⟩ (.int .i64 st)).setCell ⟨(w.heap.size + 1), 1, none⟩ (.int .i64 own)).setCell ⟨(w.heap.size + 1), 2, none⟩ (.int .i64 oth)).setCell ⟨(w.heap.size + 1), 3, none⟩ (.int .u64 (non : Int))).setCell ⟨(w.heap.size + 1), 4, none⟩ (.int .u64 (ech : Int)) = W6 := ⟨_, rfl⟩
        have hk6 : W6.heap[(w.heap.size + 1)]? = some (.cells #[.int .i64 st, .int .i64 own, .int .i64 oth, .int .u64 (non : Int), .int .u64 (ech : Int)] 29 (0, 0)) := by rw [← hW6]; exact set5_heap (HS4.out.held ((w.heap.size + 1), Obj.cells #[.int .i64 0, .int .i64 0, .int .i64 0, .int .u64 (0 : Int), .int .u64 (0 : Int)] 29 (0, 0)) (by simp))
        have HS6 : Hid (Sd w0 nb L R os W6) := Lib.hid (by rw [← hW6]; exact HS4.out.drop ((w.heap.size + 1), Obj.cells #[.int .i64 0, .int .i64 0, .int .i64 0, .int .u64 (0 : Int), .int .u64 (0 : Int)] 29 (0, 0)) (by simp) (by simp only; omega) (keeps5 _ _ _ _ _ _ _) _ (fun p hp => ⟨by simp [hp], by have := HOS.out p hp; simp only; omega⟩))
        clear q0 q1 q2 q3 q4 qf0 qf1 qf2 qf3 qf4
        rw [hW6]
        clear hW6
        obtain ⟨⟨q0, qf0⟩, ⟨q1, qf1⟩, ⟨q2, qf2⟩, ⟨q3, qf3⟩, ⟨q4, qf4⟩, ql⟩ := five hk6
        clear hk6
        refine ⟨rfl, .tuple #[.agg #[.int .i64 st, .int .i64 own, .int .i64 oth, .int .u64 (non : Int), .int .u64 (ech : Int)], .slice none 0 0], by simp [results, Tryd.f16, go_sem, q0, q1, q2, q3, q4], ?_⟩
        unfold ShAns
        rw [HE.out]
        exact ⟨_, rfl, sent_nil HS6.out⟩
      | true =>
        rw [ht] at CT
        have HE0 : Hid (hearO ⟨st, own, oth, non, ech⟩ L zs = if m.kind = 1 then helloO ⟨st, own, oth, non, ech⟩ L m else answerO ⟨st, own, oth, non, ech⟩ L m) := Lib.hid (by rw [HR.out]; unfold hearM; rw [if_pos ⟨HC.out, ht⟩])
        clear ht
        refine CT.out.mono ?_
        rintro e W4 ⟨rfl, hb4⟩
        have HS4 := Lib.hid (HS3.out.below hb4); have HV4 := Lib.hid (HV3.out.below hb4)
        have HZ4 : Hid (w1.heap.size < W4.heap.size) := Lib.hid (Nat.lt_of_lt_of_le HZ3.out hb4.size)
        clear hb4
        clear y0 yf0 y1 yf1 y2 yf2 y3 yf3 y4 yf4 yl
        clear b0 b1 b2 b3 bl
        go_wp2
        have CDD : Hid (∀ V, Calls Tryd.prog 33 #[] V (DeedsAns V)) := Lib.hid deeds_any
        rcases HCM.out.1 with hk | hk
        · have hkk := HKD.out
          rw [hk] at hkk
          subst hkk
          refine wp_region_held_drew (S := fun W => W.heap[w.heap.size]? = some (.cells #[.int .i64 st, .int .i64 own, .int .i64 oth, .int .u64 (non : Int), .int .u64 (ech : Int)] 29 (0, 0)) ∧ W.heap[w1.heap.size]? = some (.cells #[.int .i64 1, .slice A1 l1 d1, .slice A2 l2 d2, .slice A3 l3 d3] 46 (0, 0))) (by kernel_rfl) ⟨HS4.out.drew.held (w.heap.size, Obj.cells #[.int .i64 st, .int .i64 own, .int .i64 oth, .int .u64 (non : Int), .int .u64 (ech : Int)] 29 (0, 0)) (by simp), HS4.out.drew.held (w1.heap.size, Obj.cells #[.int .i64 1, .slice A1 l1 d1, .slice A2 l2 d2, .slice A3 l3 d3] 46 (0, 0)) (by simp)⟩ (fun hHeld => ?_)
          refine wpAnyH_take (i := 1) (oi := _) (v := ?_) rfl (by kernel_rfl) (by kernel_rfl) (by kernel_rfl) (fun _ _ _ h => h) (Or.inl ⟨by rfl, ?_⟩) (by assumption) ?_
          case refine_2 => intro w hSw; (try dsimp only at hSw); obtain ⟨⟨z0, _⟩, ⟨z1, _⟩, ⟨z2, _⟩, ⟨z3, _⟩, ⟨z4, _⟩, zl⟩ := five hSw.1; obtain ⟨⟨u0, _⟩, ⟨u1, _⟩, ⟨u2, _⟩, ⟨u3, _⟩, ul⟩ := four hSw.2; go_simp; first | done | (with_reducible rfl)
          try simp only [Act.put, List.getElem_toArray, List.getElem_cons_zero, List.getElem_cons_succ, List.setIfInBounds_toArray, List.set_cons_zero, List.set_cons_succ]
          refine wpAnyH_take (i := 2) (oi := _) (v := ?_) rfl (by kernel_rfl) (by kernel_rfl) (by kernel_rfl) (fun _ _ _ h => h) (Or.inl ⟨by rfl, ?_⟩) (by assumption) ?_
          case refine_2 => intro w hSw; (try dsimp only at hSw); obtain ⟨⟨z0, _⟩, ⟨z1, _⟩, ⟨z2, _⟩, ⟨z3, _⟩, ⟨z4, _⟩, zl⟩ := five hSw.1; obtain ⟨⟨u0, _⟩, ⟨u1, _⟩, ⟨u2, _⟩, ⟨u3, _⟩, ul⟩ := four hSw.2; go_simp; first | done | (with_reducible rfl)
          try simp only [Act.put, List.getElem_toArray, List.getElem_cons_zero, List.getElem_cons_succ, List.setIfInBounds_toArray, List.set_cons_zero, List.set_cons_succ]
          refine wpAnyH_take (i := 4) (oi := _) (v := ?_) rfl (by kernel_rfl) (by kernel_rfl) (by kernel_rfl) (fun _ _ _ h => h) (Or.inl ⟨by rfl, ?_⟩) (by assumption) ?_
          case refine_2 => intro w hSw; (try dsimp only at hSw); obtain ⟨⟨z0, _⟩, ⟨z1, _⟩, ⟨z2, _⟩, ⟨z3, _⟩, ⟨z4, _⟩, zl⟩ := five hSw.1; obtain ⟨⟨u0, _⟩, ⟨u1, _⟩, ⟨u2, _⟩, ⟨u3, _⟩, ul⟩ := four hSw.2; go_simp; first | done | (with_reducible rfl)
          try simp only [Act.put, List.getElem_toArray, List.getElem_cons_zero, List.getElem_cons_succ, List.setIfInBounds_toArray, List.set_cons_zero, List.set_cons_succ]
          refine wpAnyH_take (i := 5) (oi := _) (v := ?_) rfl (by kernel_rfl) (by kernel_rfl) (by kernel_rfl) (fun _ _ _ h => h) (Or.inl ⟨by rfl, ?_⟩) (by assumption) ?_
          case refine_2 => intro w hSw; (try dsimp only at hSw); obtain ⟨⟨z0, _⟩, ⟨z1, _⟩, ⟨z2, _⟩, ⟨z3, _⟩, ⟨z4, _⟩, zl⟩ := five hSw.1; obtain ⟨⟨u0, _⟩, ⟨u1, _⟩, ⟨u2, _⟩, ⟨u3, _⟩, ul⟩ := four hSw.2; go_simp; first | done | (with_reducible rfl)
          try simp only [Act.put, List.getElem_toArray, List.getElem_cons_zero, List.getElem_cons_succ, List.setIfInBounds_toArray, List.set_cons_zero, List.set_cons_succ]
          refine wpAnyH_take (i := 6) (oi := _) (v := ?_) rfl (by kernel_rfl) (by kernel_rfl) (by kernel_rfl) (fun _ _ _ h => h) (Or.inl ⟨by rfl, ?_⟩) (by assumption) ?_
          case refine_2 => intro w hSw; (try dsimp only at hSw); obtain ⟨⟨z0, _⟩, ⟨z1, _⟩, ⟨z2, _⟩, ⟨z3, _⟩, ⟨z4, _⟩, zl⟩ := five hSw.1; obtain ⟨⟨u0, _⟩, ⟨u1, _⟩, ⟨u2, _⟩, ⟨u3, _⟩, ul⟩ := four hSw.2; go_simp; first | done | (with_reducible rfl)
          try simp only [Act.put, List.getElem_toArray, List.getElem_cons_zero, List.getElem_cons_succ, List.setIfInBounds_toArray, List.set_cons_zero, List.set_cons_succ]
          refine wpAnyH_ready (rs := [0]) (by kernel_rfl) (by simp) ?_
          refine AllReadyH.cons rfl (fun K hK => ?_) AllReadyH.nil
          go_simp
          go_at_call 33
          refine (CDD.out _).mono ?_
          rintro e W5 ⟨bm, rfl, hb5, hk5, _⟩
          have q3 := run_lookD W5 bm 1 hk5
          rw [show deedOf 1 = fH from rfl] at q3
          have HS5 := Lib.hid (HS4.out.drew.below hb5)
          have HV5 := Lib.hid (HV4.out.below ((below_drew (Below.refl _ _)).trans hb5))
          have HZ5 : Hid (w1.heap.size < W5.heap.size) := Lib.hid (Nat.lt_of_lt_of_le HZ4.out hb5.size)
          clear hb5 hk5
          refine hK.out _ _ ⟨HS5.out.held (w.heap.size, Obj.cells #[.int .i64 st, .int .i64 own, .int .i64 oth, .int .u64 (non : Int), .int .u64 (ech : Int)] 29 (0, 0)) (by simp), HS5.out.held (w1.heap.size, Obj.cells #[.int .i64 1, .slice A1 l1 d1, .slice A2 l2 d2, .slice A3 l3 d3] 46 (0, 0)) (by simp)⟩ (fun hHeld => ?_)
          clear hK K
          try simp only [Act.put, List.getElem_toArray, List.getElem_cons_zero, List.getElem_cons_succ, List.setIfInBounds_toArray, List.set_cons_zero, List.set_cons_succ]
          refine wpAnyH_ready (rs := [3]) (by kernel_rfl) (by simp) ?_
          refine AllReadyH.cons rfl (fun K hK => ?_) AllReadyH.nil
          go_simp
          refine hK.out _ _ ⟨HS5.out.held (w.heap.size, Obj.cells #[.int .i64 st, .int .i64 own, .int .i64 oth, .int .u64 (non : Int), .int .u64 (ech : Int)] 29 (0, 0)) (by simp), HS5.out.held (w1.heap.size, Obj.cells #[.int .i64 1, .slice A1 l1 d1, .slice A2 l2 d2, .slice A3 l3 d3] 46 (0, 0)) (by simp)⟩ (fun hHeld => ?_)
          clear hK K
          try simp only [Act.put, List.getElem_toArray, List.getElem_cons_zero, List.getElem_cons_succ, List.setIfInBounds_toArray, List.set_cons_zero, List.set_cons_succ]
          refine wpAnyH_ready (rs := [7]) (by kernel_rfl) (by simp) ?_
          refine AllReadyH.cons rfl (fun K hK => ?_) AllReadyH.nil
          have CX := Lib.hid (hearHello_s ⟨st, own, oth, non, ech⟩ m _ _ _ HS5.out HOK.out hL HV5.out HCM.out.2 (by have := HNN.out; omega))
          rw [hk] at CX
          go_simp
          go_at_call 50
          refine CX.out.mono ?_
          rintro e W7 ⟨v7, rfl, ⟨A7, c7, ho, rfl, a72, a73, a74, a75, a76, a77⟩⟩
          have HO7 : Hid (∀ p ∈ ho, w1.heap.size < p.1) := Lib.hid (fun p hp => Nat.lt_of_lt_of_le HZ5.out (a76 p hp))
          have HS7 := Lib.hid a77
          have H74 := Lib.hid a74
          have H75 := Lib.hid a75
          clear a74 a75 a76 a77
          clear CX
          obtain ⟨oo, hoo⟩ : ∃ o, helloO ⟨st, own, oth, non, ech⟩ L m = o := ⟨_, rfl⟩
          rw [hoo] at HS7 H74 H75 a72 ⊢
          have HOO := Lib.hid hoo
          clear hoo
          obtain ⟨⟨t0, t1, t2, t3, t4⟩, tz, tl⟩ := oo
          simp only at HS7 H74 H75 a72 ⊢
          obtain ⟨zl7, hzl⟩ : ∃ z, tz.length = z := ⟨_, rfl⟩
          rw [hzl] at H74 H75 a72 ⊢
          have HZ7 := Lib.hid hzl
          clear hzl
          refine hK.out _ _ ⟨HS7.out.held (w.heap.size, Obj.cells #[.int .i64 st, .int .i64 own, .int .i64 oth, .int .u64 (non : Int), .int .u64 (ech : Int)] 29 (0, 0)) (by simp), HS7.out.held (w1.heap.size, Obj.cells #[.int .i64 1, .slice A1 l1 d1, .slice A2 l2 d2, .slice A3 l3 d3] 46 (0, 0)) (by simp)⟩ (fun hHeld => ?_)
          clear hK K
          try simp only [Act.put, List.getElem_toArray, List.getElem_cons_zero, List.getElem_cons_succ, List.setIfInBounds_toArray, List.set_cons_zero, List.set_cons_succ]
          refine wpAnyH_take (i := 8) (oi := _) (v := ?_) rfl (by kernel_rfl) (by kernel_rfl) (by kernel_rfl) (fun _ _ _ h => h) (Or.inl ⟨by rfl, ?_⟩) (by assumption) ?_
          case refine_2 => intro w hSw; (try dsimp only at hSw); obtain ⟨⟨z0, _⟩, ⟨z1, _⟩, ⟨z2, _⟩, ⟨z3, _⟩, ⟨z4, _⟩, zl⟩ := five hSw.1; obtain ⟨⟨u0, _⟩, ⟨u1, _⟩, ⟨u2, _⟩, ⟨u3, _⟩, ul⟩ := four hSw.2; go_simp; first | done | (with_reducible rfl)
          try simp only [Act.put, List.getElem_toArray, List.getElem_cons_zero, List.getElem_cons_succ, List.setIfInBounds_toArray, List.set_cons_zero, List.set_cons_succ]
          refine wpAnyH_take (i := 9) (oi := _) (v := ?_) rfl (by kernel_rfl) (by kernel_rfl) (by kernel_rfl) (fun _ _ _ h => h) (Or.inl ⟨by rfl, ?_⟩) (by assumption) ?_
          case refine_2 => intro w hSw; (try dsimp only at hSw); obtain ⟨⟨z0, _⟩, ⟨z1, _⟩, ⟨z2, _⟩, ⟨z3, _⟩, ⟨z4, _⟩, zl⟩ := five hSw.1; obtain ⟨⟨u0, _⟩, ⟨u1, _⟩, ⟨u2, _⟩, ⟨u3, _⟩, ul⟩ := four hSw.2; go_simp; first | done | (with_reducible rfl)
          try simp only [Act.put, List.getElem_toArray, List.getElem_cons_zero, List.getElem_cons_succ, List.setIfInBounds_toArray, List.set_cons_zero, List.set_cons_succ]
          refine wpAnyH_ready (rs := [10]) (by kernel_rfl) (by simp) ?_
          refine AllReadyH.cons rfl (fun K hK => ?_) AllReadyH.nil
          obtain ⟨⟨q0, qf0⟩, ⟨q1, qf1⟩, ⟨q2, qf2⟩, ⟨q3, qf3⟩, ⟨q4, qf4⟩, ql⟩ := five (HS7.out.held ((w.heap.size + 1), Obj.cells #[.int .i64 0, .int .i64 0, .int .i64 0, .int .u64 (0 : Int), .int .u64 (0 : Int)] 29 (0, 0)) (by simp))
          go_simp
          refine hK.out _ _ ⟨set5_other (by omega) (HS7.out.held (w.heap.size, Obj.cells #[.int .i64 st, .int .i64 own, .int .i64 oth, .int .u64 (non : Int), .int .u64 (ech : Int)] 29 (0, 0)) (by simp)), set5_other (by omega) (HS7.out.held (w1.heap.size, Obj.cells #[.int .i64 1, .slice A1 l1 d1, .slice A2 l2 d2, .slice A3 l3 d3] 46 (0, 0)) (by simp))⟩ (fun hHeld => ?_)
          clear hK K
          try simp only [Act.put, List.getElem_toArray, List.getElem_cons_zero, List.getElem_cons_succ, List.setIfInBounds_toArray, List.set_cons_zero, List.set_cons_succ]
          refine wpAnyH_take (i := 11) (oi := _) (v := ?_) rfl (by kernel_rfl) (by kernel_rfl) (by kernel_rfl) (fun _ _ _ h => h) (Or.inl ⟨by rfl, ?_⟩) (by assumption) ?_
          case refine_2 => intro w hSw; (try dsimp only at hSw); obtain ⟨⟨z0, _⟩, ⟨z1, _⟩, ⟨z2, _⟩, ⟨z3, _⟩, ⟨z4, _⟩, zl⟩ := five hSw.1; obtain ⟨⟨u0, _⟩, ⟨u1, _⟩, ⟨u2, _⟩, ⟨u3, _⟩, ul⟩ := four hSw.2; go_simp; first | done | (with_reducible rfl)
          try simp only [Act.put, List.getElem_toArray, List.getElem_cons_zero, List.getElem_cons_succ, List.setIfInBounds_toArray, List.set_cons_zero, List.set_cons_succ]
          refine wpAnyH_done (by kernel_rfl) ?_ _
          obtain ⟨W6, hW6⟩ : ∃ W6, (((((W7).setCell ⟨(w.heap.size + 1), 0, none⟩ (.int .i64 t0)).setCell ⟨(w.heap.size + 1), 1, none⟩ (.int .i64 t1)).setCell ⟨(w.heap.size + 1), 2, none⟩ (.int .i64 t2)).setCell ⟨(w.heap.size + 1), 3, none⟩ (.int .u64 (t3 : Int))).setCell ⟨(w.heap.size + 1), 4, none⟩ (.int .u64 (t4 : Int)) = W6 := ⟨_, rfl⟩
          have hk6 : W6.heap[(w.heap.size + 1)]? = some (.cells #[.int .i64 t0, .int .i64 t1, .int .i64 t2, .int .u64 (t3 : Int), .int .u64 (t4 : Int)] 29 (0, 0)) := by rw [← hW6]; exact set5_heap (HS7.out.held ((w.heap.size + 1), Obj.cells #[.int .i64 0, .int .i64 0, .int .i64 0, .int .u64 (0 : Int), .int .u64 (0 : Int)] 29 (0, 0)) (by simp))
          have HS6 : Hid (Sd w0 nb tl R (ho ++ os) W6) := Lib.hid (by rw [← hW6]; exact HS7.out.drop ((w.heap.size + 1), Obj.cells #[.int .i64 0, .int .i64 0, .int .i64 0, .int .u64 (0 : Int), .int .u64 (0 : Int)] 29 (0, 0)) (by simp) (by simp only; omega) (keeps5 _ _ _ _ _ _ _) _ (fun p hp => by
            rcases List.mem_append.1 hp with h | h
            · exact ⟨by simp [h], by have := HO7.out p h; simp only; omega⟩
            · exact ⟨by simp [h], by have := HOS.out p h; simp only; omega⟩))
          rw [hW6]
          clear hW6 hHeld
          obtain ⟨⟨q0, qf0⟩, ⟨q1, qf1⟩, ⟨q2, qf2⟩, ⟨q3, qf3⟩, ⟨q4, qf4⟩, ql⟩ := five hk6
          clear hk6
          go_wp2
          refine ⟨rfl, .tuple #[.agg #[.int .i64 t0, .int .i64 t1, .int .i64 t2, .int .u64 (t3 : Int), .int .u64 (t4 : Int)], .slice A7 zl7 c7], by simp [results, Tryd.f16, go_sem, q0, q1, q2, q3, q4], ?_⟩
          unfold ShAns
          rw [HE0.out, if_pos hk, HOO.out]
          exact ⟨_, rfl, ⟨A7, c7, ho, by rw [HZ7.out], by rw [HZ7.out]; exact a72, a73, by rw [HZ7.out]; exact H74.out, by rw [HZ7.out]; exact H75.out, fun p hp => by have := HO7.out p hp; omega, HS6.out⟩⟩
        · have hkk := HKD.out
          rw [hk] at hkk
          subst hkk
          refine wp_region_held_drew (S := fun W => W.heap[w.heap.size]? = some (.cells #[.int .i64 st, .int .i64 own, .int .i64 oth, .int .u64 (non : Int), .int .u64 (ech : Int)] 29 (0, 0)) ∧ W.heap[w1.heap.size]? = some (.cells #[.int .i64 2, .slice A1 l1 d1, .slice A2 l2 d2, .slice A3 l3 d3] 46 (0, 0))) (by kernel_rfl) ⟨HS4.out.drew.held (w.heap.size, Obj.cells #[.int .i64 st, .int .i64 own, .int .i64 oth, .int .u64 (non : Int), .int .u64 (ech : Int)] 29 (0, 0)) (by simp), HS4.out.drew.held (w1.heap.size, Obj.cells #[.int .i64 2, .slice A1 l1 d1, .slice A2 l2 d2, .slice A3 l3 d3] 46 (0, 0)) (by simp)⟩ (fun hHeld => ?_)
          refine wpAnyH_take (i := 1) (oi := _) (v := ?_) rfl (by kernel_rfl) (by kernel_rfl) (by kernel_rfl) (fun _ _ _ h => h) (Or.inl ⟨by rfl, ?_⟩) (by assumption) ?_
          case refine_2 => intro w hSw; (try dsimp only at hSw); obtain ⟨⟨z0, _⟩, ⟨z1, _⟩, ⟨z2, _⟩, ⟨z3, _⟩, ⟨z4, _⟩, zl⟩ := five hSw.1; obtain ⟨⟨u0, _⟩, ⟨u1, _⟩, ⟨u2, _⟩, ⟨u3, _⟩, ul⟩ := four hSw.2; go_simp; first | done | (with_reducible rfl)
          try simp only [Act.put, List.getElem_toArray, List.getElem_cons_zero, List.getElem_cons_succ, List.setIfInBounds_toArray, List.set_cons_zero, List.set_cons_succ]
          refine wpAnyH_take (i := 2) (oi := _) (v := ?_) rfl (by kernel_rfl) (by kernel_rfl) (by kernel_rfl) (fun _ _ _ h => h) (Or.inl ⟨by rfl, ?_⟩) (by assumption) ?_
          case refine_2 => intro w hSw; (try dsimp only at hSw); obtain ⟨⟨z0, _⟩, ⟨z1, _⟩, ⟨z2, _⟩, ⟨z3, _⟩, ⟨z4, _⟩, zl⟩ := five hSw.1; obtain ⟨⟨u0, _⟩, ⟨u1, _⟩, ⟨u2, _⟩, ⟨u3, _⟩, ul⟩ := four hSw.2; go_simp; first | done | (with_reducible rfl)
          try simp only [Act.put, List.getElem_toArray, List.getElem_cons_zero, List.getElem_cons_succ, List.setIfInBounds_toArray, List.set_cons_zero, List.set_cons_succ]
          refine wpAnyH_take (i := 4) (oi := _) (v := ?_) rfl (by kernel_rfl) (by kernel_rfl) (by kernel_rfl) (fun _ _ _ h => h) (Or.inl ⟨by rfl, ?_⟩) (by assumption) ?_
          case refine_2 => intro w hSw; (try dsimp only at hSw); obtain ⟨⟨z0, _⟩, ⟨z1, _⟩, ⟨z2, _⟩, ⟨z3, _⟩, ⟨z4, _⟩, zl⟩ := five hSw.1; obtain ⟨⟨u0, _⟩, ⟨u1, _⟩, ⟨u2, _⟩, ⟨u3, _⟩, ul⟩ := four hSw.2; go_simp; first | done | (with_reducible rfl)
          try simp only [Act.put, List.getElem_toArray, List.getElem_cons_zero, List.getElem_cons_succ, List.setIfInBounds_toArray, List.set_cons_zero, List.set_cons_succ]
          refine wpAnyH_take (i := 5) (oi := _) (v := ?_) rfl (by kernel_rfl) (by kernel_rfl) (by kernel_rfl) (fun _ _ _ h => h) (Or.inl ⟨by rfl, ?_⟩) (by assumption) ?_
          case refine_2 => intro w hSw; (try dsimp only at hSw); obtain ⟨⟨z0, _⟩, ⟨z1, _⟩, ⟨z2, _⟩, ⟨z3, _⟩, ⟨z4, _⟩, zl⟩ := five hSw.1; obtain ⟨⟨u0, _⟩, ⟨u1, _⟩, ⟨u2, _⟩, ⟨u3, _⟩, ul⟩ := four hSw.2; go_simp; first | done | (with_reducible rfl)
          try simp only [Act.put, List.getElem_toArray, List.getElem_cons_zero, List.getElem_cons_succ, List.setIfInBounds_toArray, List.set_cons_zero, List.set_cons_succ]
          refine wpAnyH_take (i := 6) (oi := _) (v := ?_) rfl (by kernel_rfl) (by kernel_rfl) (by kernel_rfl) (fun _ _ _ h => h) (Or.inl ⟨by rfl, ?_⟩) (by assumption) ?_
          case refine_2 => intro w hSw; (try dsimp only at hSw); obtain ⟨⟨z0, _⟩, ⟨z1, _⟩, ⟨z2, _⟩, ⟨z3, _⟩, ⟨z4, _⟩, zl⟩ := five hSw.1; obtain ⟨⟨u0, _⟩, ⟨u1, _⟩, ⟨u2, _⟩, ⟨u3, _⟩, ul⟩ := four hSw.2; go_simp; first | done | (with_reducible rfl)
          try simp only [Act.put, List.getElem_toArray, List.getElem_cons_zero, List.getElem_cons_succ, List.setIfInBounds_toArray, List.set_cons_zero, List.set_cons_succ]
          refine wpAnyH_ready (rs := [0]) (by kernel_rfl) (by simp) ?_
          refine AllReadyH.cons rfl (fun K hK => ?_) AllReadyH.nil
          go_simp
          go_at_call 33
          refine (CDD.out _).mono ?_
          rintro e W5 ⟨bm, rfl, hb5, hk5, _⟩
          have q3 := run_lookD W5 bm 2 hk5
          rw [show deedOf 2 = fA from rfl] at q3
          have HS5 := Lib.hid (HS4.out.drew.below hb5)
          have HV5 := Lib.hid (HV4.out.below ((below_drew (Below.refl _ _)).trans hb5))
          have HZ5 : Hid (w1.heap.size < W5.heap.size) := Lib.hid (Nat.lt_of_lt_of_le HZ4.out hb5.size)
          clear hb5 hk5
          refine hK.out _ _ ⟨HS5.out.held (w.heap.size, Obj.cells #[.int .i64 st, .int .i64 own, .int .i64 oth, .int .u64 (non : Int), .int .u64 (ech : Int)] 29 (0, 0)) (by simp), HS5.out.held (w1.heap.size, Obj.cells #[.int .i64 2, .slice A1 l1 d1, .slice A2 l2 d2, .slice A3 l3 d3] 46 (0, 0)) (by simp)⟩ (fun hHeld => ?_)
          clear hK K
          try simp only [Act.put, List.getElem_toArray, List.getElem_cons_zero, List.getElem_cons_succ, List.setIfInBounds_toArray, List.set_cons_zero, List.set_cons_succ]
          refine wpAnyH_ready (rs := [3]) (by kernel_rfl) (by simp) ?_
          refine AllReadyH.cons rfl (fun K hK => ?_) AllReadyH.nil
          go_simp
          refine hK.out _ _ ⟨HS5.out.held (w.heap.size, Obj.cells #[.int .i64 st, .int .i64 own, .int .i64 oth, .int .u64 (non : Int), .int .u64 (ech : Int)] 29 (0, 0)) (by simp), HS5.out.held (w1.heap.size, Obj.cells #[.int .i64 2, .slice A1 l1 d1, .slice A2 l2 d2, .slice A3 l3 d3] 46 (0, 0)) (by simp)⟩ (fun hHeld => ?_)
          clear hK K
          try simp only [Act.put, List.getElem_toArray, List.getElem_cons_zero, List.getElem_cons_succ, List.setIfInBounds_toArray, List.set_cons_zero, List.set_cons_succ]
          refine wpAnyH_ready (rs := [7]) (by kernel_rfl) (by simp) ?_
          refine AllReadyH.cons rfl (fun K hK => ?_) AllReadyH.nil
          have CX := Lib.hid (hearAnswer_s ⟨st, own, oth, non, ech⟩ m _ _ _ HS5.out HOK.out hL HV5.out HCM.out.2 (by have := HNN.out; omega))
          rw [hk] at CX
          go_simp
          go_at_call 51
          refine CX.out.mono ?_
          rintro e W7 ⟨v7, rfl, ⟨A7, c7, ho, rfl, a72, a73, a74, a75, a76, a77⟩⟩
          have HO7 : Hid (∀ p ∈ ho, w1.heap.size < p.1) := Lib.hid (fun p hp => Nat.lt_of_lt_of_le HZ5.out (a76 p hp))
          have HS7 := Lib.hid a77
          have H74 := Lib.hid a74
          have H75 := Lib.hid a75
          clear a74 a75 a76 a77
          clear CX
          obtain ⟨oo, hoo⟩ : ∃ o, answerO ⟨st, own, oth, non, ech⟩ L m = o := ⟨_, rfl⟩
          rw [hoo] at HS7 H74 H75 a72 ⊢
          have HOO := Lib.hid hoo
          clear hoo
          obtain ⟨⟨t0, t1, t2, t3, t4⟩, tz, tl⟩ := oo
          simp only at HS7 H74 H75 a72 ⊢
          obtain ⟨zl7, hzl⟩ : ∃ z, tz.length = z := ⟨_, rfl⟩
          rw [hzl] at H74 H75 a72 ⊢
          have HZ7 := Lib.hid hzl
          clear hzl
          refine hK.out _ _ ⟨HS7.out.held (w.heap.size, Obj.cells #[.int .i64 st, .int .i64 own, .int .i64 oth, .int .u64 (non : Int), .int .u64 (ech : Int)] 29 (0, 0)) (by simp), HS7.out.held (w1.heap.size, Obj.cells #[.int .i64 2, .slice A1 l1 d1, .slice A2 l2 d2, .slice A3 l3 d3] 46 (0, 0)) (by simp)⟩ (fun hHeld => ?_)
          clear hK K
          try simp only [Act.put, List.getElem_toArray, List.getElem_cons_zero, List.getElem_cons_succ, List.setIfInBounds_toArray, List.set_cons_zero, List.set_cons_succ]
          refine wpAnyH_take (i := 8) (oi := _) (v := ?_) rfl (by kernel_rfl) (by kernel_rfl) (by kernel_rfl) (fun _ _ _ h => h) (Or.inl ⟨by rfl, ?_⟩) (by assumption) ?_
          case refine_2 => intro w hSw; (try dsimp only at hSw); obtain ⟨⟨z0, _⟩, ⟨z1, _⟩, ⟨z2, _⟩, ⟨z3, _⟩, ⟨z4, _⟩, zl⟩ := five hSw.1; obtain ⟨⟨u0, _⟩, ⟨u1, _⟩, ⟨u2, _⟩, ⟨u3, _⟩, ul⟩ := four hSw.2; go_simp; first | done | (with_reducible rfl)
          try simp only [Act.put, List.getElem_toArray, List.getElem_cons_zero, List.getElem_cons_succ, List.setIfInBounds_toArray, List.set_cons_zero, List.set_cons_succ]
          refine wpAnyH_take (i := 9) (oi := _) (v := ?_) rfl (by kernel_rfl) (by kernel_rfl) (by kernel_rfl) (fun _ _ _ h => h) (Or.inl ⟨by rfl, ?_⟩) (by assumption) ?_
          case refine_2 => intro w hSw; (try dsimp only at hSw); obtain ⟨⟨z0, _⟩, ⟨z1, _⟩, ⟨z2, _⟩, ⟨z3, _⟩, ⟨z4, _⟩, zl⟩ := five hSw.1; obtain ⟨⟨u0, _⟩, ⟨u1, _⟩, ⟨u2, _⟩, ⟨u3, _⟩, ul⟩ := four hSw.2; go_simp; first | done | (with_reducible rfl)
          try simp only [Act.put, List.getElem_toArray, List.getElem_cons_zero, List.getElem_cons_succ, List.setIfInBounds_toArray, List.set_cons_zero, List.set_cons_succ]
          refine wpAnyH_ready (rs := [10]) (by kernel_rfl) (by simp) ?_
          refine AllReadyH.cons rfl (fun K hK => ?_) AllReadyH.nil
          obtain ⟨⟨q0, qf0⟩, ⟨q1, qf1⟩, ⟨q2, qf2⟩, ⟨q3, qf3⟩, ⟨q4, qf4⟩, ql⟩ := five (HS7.out.held ((w.heap.size + 1), Obj.cells #[.int .i64 0, .int .i64 0, .int .i64 0, .int .u64 (0 : Int), .int .u64 (0 : Int)] 29 (0, 0)) (by simp))
          go_simp
          refine hK.out _ _ ⟨set5_other (by omega) (HS7.out.held (w.heap.size, Obj.cells #[.int .i64 st, .int .i64 own, .int .i64 oth, .int .u64 (non : Int), .int .u64 (ech : Int)] 29 (0, 0)) (by simp)), set5_other (by omega) (HS7.out.held (w1.heap.size, Obj.cells #[.int .i64 2, .slice A1 l1 d1, .slice A2 l2 d2, .slice A3 l3 d3] 46 (0, 0)) (by simp))⟩ (fun hHeld => ?_)
          clear hK K
          try simp only [Act.put, List.getElem_toArray, List.getElem_cons_zero, List.getElem_cons_succ, List.setIfInBounds_toArray, List.set_cons_zero, List.set_cons_succ]
          refine wpAnyH_take (i := 11) (oi := _) (v := ?_) rfl (by kernel_rfl) (by kernel_rfl) (by kernel_rfl) (fun _ _ _ h => h) (Or.inl ⟨by rfl, ?_⟩) (by assumption) ?_
          case refine_2 => intro w hSw; (try dsimp only at hSw); obtain ⟨⟨z0, _⟩, ⟨z1, _⟩, ⟨z2, _⟩, ⟨z3, _⟩, ⟨z4, _⟩, zl⟩ := five hSw.1; obtain ⟨⟨u0, _⟩, ⟨u1, _⟩, ⟨u2, _⟩, ⟨u3, _⟩, ul⟩ := four hSw.2; go_simp; first | done | (with_reducible rfl)
          try simp only [Act.put, List.getElem_toArray, List.getElem_cons_zero, List.getElem_cons_succ, List.setIfInBounds_toArray, List.set_cons_zero, List.set_cons_succ]
          refine wpAnyH_done (by kernel_rfl) ?_ _
          obtain ⟨W6, hW6⟩ : ∃ W6, (((((W7).setCell ⟨(w.heap.size + 1), 0, none⟩ (.int .i64 t0)).setCell ⟨(w.heap.size + 1), 1, none⟩ (.int .i64 t1)).setCell ⟨(w.heap.size + 1), 2, none⟩ (.int .i64 t2)).setCell ⟨(w.heap.size + 1), 3, none⟩ (.int .u64 (t3 : Int))).setCell ⟨(w.heap.size + 1), 4, none⟩ (.int .u64 (t4 : Int)) = W6 := ⟨_, rfl⟩
          have hk6 : W6.heap[(w.heap.size + 1)]? = some (.cells #[.int .i64 t0, .int .i64 t1, .int .i64 t2, .int .u64 (t3 : Int), .int .u64 (t4 : Int)] 29 (0, 0)) := by rw [← hW6]; exact set5_heap (HS7.out.held ((w.heap.size + 1), Obj.cells #[.int .i64 0, .int .i64 0, .int .i64 0, .int .u64 (0 : Int), .int .u64 (0 : Int)] 29 (0, 0)) (by simp))
          have HS6 : Hid (Sd w0 nb tl R (ho ++ os) W6) := Lib.hid (by rw [← hW6]; exact HS7.out.drop ((w.heap.size + 1), Obj.cells #[.int .i64 0, .int .i64 0, .int .i64 0, .int .u64 (0 : Int), .int .u64 (0 : Int)] 29 (0, 0)) (by simp) (by simp only; omega) (keeps5 _ _ _ _ _ _ _) _ (fun p hp => by
            rcases List.mem_append.1 hp with h | h
            · exact ⟨by simp [h], by have := HO7.out p h; simp only; omega⟩
            · exact ⟨by simp [h], by have := HOS.out p h; simp only; omega⟩))
          rw [hW6]
          clear hW6 hHeld
          obtain ⟨⟨q0, qf0⟩, ⟨q1, qf1⟩, ⟨q2, qf2⟩, ⟨q3, qf3⟩, ⟨q4, qf4⟩, ql⟩ := five hk6
          clear hk6
          go_wp2
          refine ⟨rfl, .tuple #[.agg #[.int .i64 t0, .int .i64 t1, .int .i64 t2, .int .u64 (t3 : Int), .int .u64 (t4 : Int)], .slice A7 zl7 c7], by simp [results, Tryd.f16, go_sem, q0, q1, q2, q3, q4], ?_⟩
          unfold ShAns
          rw [HE0.out, if_neg (by rw [hk]; decide), HOO.out]
          exact ⟨_, rfl, ⟨A7, c7, ho, by rw [HZ7.out], by rw [HZ7.out]; exact a72, a73, by rw [HZ7.out]; exact H74.out, by rw [HZ7.out]; exact H75.out, fun p hp => by have := HO7.out p hp; omega, HS6.out⟩⟩
end
end Go.Proofs.YtdiilgedicfekaaDoor
