/-
  The contract of slices.DeleteFunc at addresses, for the test that see hands over. Conditions: as each lemma states.
-/
import Derived.Test.YtidhdgcmagpkgaaSeb
namespace Go.Proofs.Ytidhdgcmagpkgaa
open Go.RowKit
set_option linter.unusedVariables false

theorem zeroCells_len (z : Array Value) (n : Nat) : (Builtin.zeroCells z n).toList.length = n * z.size := by rw [Array.length_toList, size_zeroCells]
theorem zeroCells_one {z : Array Value} {n : Nat} (hz : ∀ v ∈ z.toList, v.oneCell' = true) : ∀ v ∈ (Builtin.zeroCells z n).toList, v.oneCell' = true := by
  intro v hv
  simp only [Builtin.zeroCells, Array.toList_map, List.mem_map, Array.toList_range, List.mem_range] at hv
  obtain ⟨i, hi, rfl⟩ := hv
  rcases Nat.eq_zero_or_pos z.size with h0 | h0
  · rw [h0, Nat.mul_zero] at hi; exact absurd hi (Nat.not_lt_zero _)
  · refine hz _ ?_
    have h1 : i % z.size < z.size := Nat.mod_lt _ h0
    simp [getElem!_pos, h1]
/-- 'clear(s)', s a slice of addresses -/
theorem run_clearA (w : World) (ty : TypeId) (b o n c : Nat) (hn : 0 < n) (hc : ∀ j, j < n * 2 → (w.cell? ⟨b, o + j, none⟩).isSome = true) (hf : ∀ j, j < n * 2 → w.frozen? ⟨b, o + j, none⟩ = false) :
    (Builtin.clear_ #[73] ty #[.slice (some ⟨b, o, none⟩) n c]).run Try.prog w = .ok (.tuple #[]) (w.setCells b o (Builtin.zeroCells #[.int .u32 0, .int .i64 0] n).toList) := by
  have hl := zeroCells_len #[.int .u32 0, .int .i64 0] n
  have hst := run_storeCells_cells (P := Try.prog) b o (Builtin.zeroCells #[.int .u32 0, .int .i64 0] n).toList 0 w (by rw [hl]; simpa using hc) (by rw [hl]; simpa using hf)
    (zeroCells_one (by intro v hv; simp at hv; rcases hv with rfl | rfl <;> rfl))
  simp only [Nat.add_zero] at hst
  have hv : (zeroValue 36).run Try.prog w = .ok (.agg #[.int .u32 0, .int .i64 0]) w := by kernel_rfl
  obtain ⟨m, rfl⟩ : ∃ m, n = m + 1 := ⟨n - 1, by omega⟩
  simp [Builtin.clear_, run_underlying Try.underlying73, hv, Value.cells, hst]
def encA (a : A2) : List Value := [.int .u32 a.1, .int .i64 a.2]
theorem cellsA_flat (l : List A2) : cellsA l = l.flatMap encA := rfl

set_option maxHeartbeats 4000000 in
theorem deleteA_some (cb : Nat) (q : A2 → Bool) (g cap : Nat) (cur : Array Value) (ps : List A2) (w : World) (hg : w.heap[g]? = some (.cells cur 36 (0, 0))) (hn : ps.length ≤ cap) (hm : cap ≤ maxLen) (hsz : cur.size = cap * 2) (htake : cur.toList.take (ps.length * 2) = ps.flatMap encA) (hbig : ps.length ≤ 1000)
    (hp : TestsA 61 #[.pointer (some ⟨cb, 0, none⟩)] q (fun k => k = g) w) :
    Calls Try.prog 60 #[.slice (some ⟨g, 0, none⟩) ps.length cap, .func (.func 61) #[] #[.pointer (some ⟨cb, 0, none⟩)]] w fun e w' => ∃ n' cur', e = .returned (.slice (some ⟨g, 0, none⟩) n' cap) ∧ n' = (ps.filter (fun p => !q p)).length ∧ w'.heap[g]? = some (.cells cur' 36 (0, 0)) ∧ cur'.size = cap * 2 ∧ cur'.toList.take (n' * 2) = (ps.filter (fun p => !q p)).flatMap encA ∧ Keeps (fun k => k = g) w w' := by
  have hI := indexA50_some cb q g cap ps (fun k => k = g) w hp hbig (cellsA_in hg (by rw [htake, cellsA_flat]))
  unfold maxLen at hm
  cases hf : ps.findIdx? q with
  | none =>
    have e1 : idxP q ps = -1 := by unfold idxP; rw [hf]
    rw [e1] at hI
    have e2 : ps.filter (fun p => !q p) = ps := by
      rw [List.filter_eq_self]
      intro p hpm
      rw [List.findIdx?_eq_none_iff] at hf
      simp [hf p hpm]
    have HR : Hid (ps.filter (fun p => !q p) = ps) := Lib.hid e2
    have HG := Lib.hid hg; have HT := Lib.hid htake
    clear hg htake e2 hp hf e1
    go_enter Try.func60, Try.ntmps60
    go_wp2_with (go_at_call 69; refine hI.mono ?_; rintro e w1 ⟨rfl, hb1⟩; have HB1 := Lib.hid hb1; clear hb1)
    go_ret
    exact ⟨_, cur, rfl, by rw [HR.out], (HB1.out.block _ (Array.getElem?_eq_some_iff.1 HG.out).1).trans HG.out, hsz, by rw [HR.out]; exact HT.out, .all HB1.out⟩
  | some k0 =>
    have e1 : idxP q ps = (k0 : Int) := by unfold idxP; rw [hf]
    rw [e1] at hI
    rw [List.findIdx?_eq_some_iff_getElem] at hf
    obtain ⟨hk0, ht, hall⟩ := hf
    have hst : KI encA 2 q ps k0 (k0 + 1) cur := KI.start (x := ps[k0]) (fun t h1 y hy => by
      obtain ⟨h2, h3⟩ := List.getElem?_eq_some_iff.1 hy
      have := hall t h1
      rw [h3] at this
      simpa using this) (List.getElem?_eq_getElem hk0) ht (fun _ => rfl) htake
    have HST := Lib.hid hst
    have HP := Lib.hid hp
    have HG := Lib.hid hg
    clear hst hp hall ht htake e1 hg
    go_enter Try.func60, Try.ntmps60
    go_wp2_with (go_at_call 69; refine hI.mono ?_; rintro e w1 ⟨rfl, hb1⟩; have HB1 := Lib.hid hb1; clear hb1)
    go_loopg [5, 6, 7] ps.length (fun gg s5 s6 _ wr => ∃ (i j : Nat) (ck : Array Value), s5 = .int .i64 i ∧ s6 = .int .i64 j ∧ i < j ∧ j ≤ ps.length ∧ ps.length - j ≤ gg ∧ Hid (wr.heap[g]? = some (.cells ck 36 (0, 0))) ∧ Hid (ck.size = cap * 2) ∧ Hid (Keeps (fun k => k = g) w wr) ∧ Hid (KI encA 2 q ps i j ck))
    case atStart => exact ⟨k0, k0 + 1, cur, rfl, by go_num, by omega, by omega, by omega, Lib.hid ((HB1.out.block _ (Array.getElem?_eq_some_iff.1 HG.out).1).trans HG.out), Lib.hid hsz, Lib.hid (.all HB1.out), HST⟩
    case round =>
      obtain ⟨i, j, ck, rfl, rfl, hij, hjn, hgg, HCK, HSZ, HK, HKI⟩ := hrel
      by_cases hlt : j < ps.length
      · have hltz : (j : Int) < (ps.length : Int) := by omega
        obtain ⟨p, hpj⟩ : ∃ p, ps[j]? = some p := ⟨_, List.getElem?_eq_getElem hlt⟩
        obtain ⟨cj, cj2⟩ : wr.cell? ⟨g, j * 2, none⟩ = some (.int .u32 p.1) ∧ wr.cell? ⟨g, j * 2 + 1, none⟩ = some (.int .i64 p.2) := by
          rw [(cells_of HCK.out _).1, (cells_of HCK.out _).1, HKI.out.high (j * 2) (by omega) (by omega), HKI.out.high (j * 2 + 1) (by omega) (by omega), ← cellsA_flat]
          exact cellsA_at hpj
        have hlg : g < wr.heap.size := (Array.getElem?_eq_some_iff.1 HCK.out).1
        have hcall := fun W (hW : Below wr.heap.size wr W) => HP.out p W (HK.out.trans (.all hW))
        have HCALL := Lib.hid hcall; clear hcall
        have HPJ := Lib.hid hpj; clear hpj
        unfold adr at HCALL
        have li : i < ps.length := by omega
        cases hq : q p with
        | false =>
          rw [hq] at HCALL
          have HQ := Lib.hid hq; clear hq
          have hB0 : Below wr.heap.size wr (wr.alloc (.cells #[.int .u32 p.1, .int .i64 p.2] 36)) := (Below.refl _ _).alloc (Nat.le_refl _) _
          have HCL := Lib.hid (HCALL.out _ hB0)
          have HB0 := Lib.hid hB0
          clear hB0
          go_wp2_with fail
          refine HCL.out.mono ?_
          rintro e w2 ⟨rfl, hb2⟩
          have v0 := (hb2.cell (p := ⟨wr.heap.size, 0, none⟩) (by simp))
          have v1 := (hb2.cell (p := ⟨wr.heap.size, 1, none⟩) (by simp))
          have hb3 : Below wr.heap.size wr w2 := HB0.out.trans (hb2.mono HB0.out.size)
          have HCK2 : Hid (w2.heap[g]? = some (.cells ck 36 (0, 0))) := Lib.hid ((hb3.block g hlg).trans HCK.out)
          have HK2 : Hid (Keeps (fun k => k = g) w w2) := Lib.hid (HK.out.trans (.all hb3))
          clear hb2 hb3
          obtain ⟨u, ci⟩ : ∃ u, w2.cell? ⟨g, i * 2, none⟩ = some u := by
            rw [(cells_of HCK2.out _).1]
            exact ⟨_, Array.getElem?_eq_getElem (by have := HSZ.out; omega)⟩
          obtain ⟨u2, ci2⟩ : ∃ u, w2.cell? ⟨g, i * 2 + 1, none⟩ = some u := by
            rw [(cells_of HCK2.out _).1]
            exact ⟨_, Array.getElem?_eq_getElem (by have := HSZ.out; omega)⟩
          have fi := (cells_of HCK2.out (i * 2)).2
          have fi2 := (cells_of HCK2.out (i * 2 + 1)).2
          go_wp2
          go_roundg (ps.length - (j + 1))
          case measure => omega
          case rel =>
            refine ⟨i + 1, j + 1, (ck.setIfInBounds (i * 2) (.int .u32 p.1)).setIfInBounds (i * 2 + 1) (.int .i64 p.2), by go_num, by go_num, by omega, by omega, Nat.le_refl _, Lib.hid (heap_setCell_same _ g _ _ 36 _ (heap_setCell_same _ g _ ck 36 _ HCK2.out)), Lib.hid (by have := HSZ.out; simpa using this), Lib.hid ((HK2.out.set g _ _ rfl).set g _ _ rfl), Lib.hid ?_⟩
            refine HKI.out.keep HPJ.out HQ.out rfl (fun t ht => ?_) (fun t ht => ?_)
            · have hs := HSZ.out
              rcases (show t = 0 ∨ t = 1 by omega) with rfl | rfl
              · simp only [Nat.add_zero]; rw [Array.getElem?_setIfInBounds_ne (by omega), Array.getElem?_setIfInBounds_self, if_pos (by omega)]; rfl
              · rw [Array.getElem?_setIfInBounds_self, if_pos (by simp; omega)]; rfl
            · rw [Array.getElem?_setIfInBounds_ne (by omega), Array.getElem?_setIfInBounds_ne (by omega)]
        | true =>
          rw [hq] at HCALL
          have HQ := Lib.hid hq; clear hq
          have hB0 : Below wr.heap.size wr (wr.alloc (.cells #[.int .u32 p.1, .int .i64 p.2] 36)) := (Below.refl _ _).alloc (Nat.le_refl _) _
          have HCL := Lib.hid (HCALL.out _ hB0)
          have HB0 := Lib.hid hB0
          clear hB0
          go_wp2_with fail
          refine HCL.out.mono ?_
          rintro e w2 ⟨rfl, hb2⟩
          have v0 := (hb2.cell (p := ⟨wr.heap.size, 0, none⟩) (by simp))
          have v1 := (hb2.cell (p := ⟨wr.heap.size, 1, none⟩) (by simp))
          have hb3 : Below wr.heap.size wr w2 := HB0.out.trans (hb2.mono HB0.out.size)
          have HCK2 : Hid (w2.heap[g]? = some (.cells ck 36 (0, 0))) := Lib.hid ((hb3.block g hlg).trans HCK.out)
          have HK2 : Hid (Keeps (fun k => k = g) w w2) := Lib.hid (HK.out.trans (.all hb3))
          clear hb2 hb3
          go_wp2
          go_roundg (ps.length - (j + 1))
          case measure => omega
          case rel => exact ⟨i, j + 1, ck, rfl, by go_num, by omega, by omega, Nat.le_refl _, HCK2, HSZ, HK2, Lib.hid (HKI.out.skip HPJ.out HQ.out)⟩
      · obtain rfl : j = ps.length := by omega
        have hltz : ¬ (ps.length : Int) < (ps.length : Int) := by omega
        have hcl : ∀ ty, (Builtin.clear_ #[73] ty #[.slice (some ⟨g, i * 2, none⟩) (ps.length - i) (cap - i)]).run Try.prog wr = .ok (.tuple #[]) (wr.setCells g (i * 2) (Builtin.zeroCells #[.int .u32 0, .int .i64 0] (ps.length - i)).toList) :=
          fun ty => run_clearA wr ty g (i * 2) _ _ (by omega) (fun t ht => by rw [(cells_of HCK.out _).1, Array.getElem?_eq_getElem (by have := HSZ.out; omega)]; rfl) (fun t ht => (cells_of HCK.out _).2)
        have HEND : Hid (i = (ps.filter (fun p => !q p)).length ∧ ∃ cur', (wr.setCells g (i * 2) (Builtin.zeroCells #[.int .u32 0, .int .i64 0] (ps.length - i)).toList).heap[g]? = some (.cells cur' 36 (0, 0)) ∧ cur'.size = cap * 2 ∧ cur'.toList.take (i * 2) = (ps.filter (fun p => !q p)).flatMap encA ∧ Keeps (fun k => k = g) w (wr.setCells g (i * 2) (Builtin.zeroCells #[.int .u32 0, .int .i64 0] (ps.length - i)).toList)) := Lib.hid (by
          obtain ⟨h1, h2⟩ := HKI.out.done
          obtain ⟨C', c1, c2, c3⟩ := setCells_obj (Builtin.zeroCells #[.int .u32 0, .int .i64 0] (ps.length - i)).toList (i * 2) wr ck HCK.out
          refine ⟨h1, C', c1, c2.trans HSZ.out, ?_, HK.out.trans (setCells_keeps _ _ _)⟩
          rw [← h2]
          refine List.ext_getElem? fun t => ?_
          by_cases ht : t < i * 2
          · rw [List.getElem?_take_of_lt ht, List.getElem?_take_of_lt ht]
            simpa using c3 t (by omega)
          · rw [List.getElem?_take_eq_none (by omega), List.getElem?_take_eq_none (by omega)])
        have l1 : (i : Int) ≤ (ps.length : Int) := by omega
        have l2 : (i : Int) ≤ (cap : Int) := by omega
        have l3 : ¬ cap - i = 0 := by omega
        go_wp2
        go_ret
        exact ⟨_, rfl, HEND.out.1, HEND.out.2⟩

set_option maxHeartbeats 1000000 in
theorem deleteA_none (fv : Value) (w : World) :
    Calls Try.prog 60 #[.slice none 0 0, fv] w fun e w' => e = .returned (.slice none 0 0) ∧ w = w' := by
  go_enter Try.func60, Try.ntmps60
  go_wp2_with (go_at_call 69; refine (indexA_none _ _ _ _).mono ?_; rintro e w' ⟨rfl, rfl⟩)
  go_ret
  exact ⟨rfl, rfl⟩
theorem deleteA (cb : Nat) (q : A2 → Bool) (v : Value) (xs : List A2) (w : World) (h : w.ownsRow 0 36 2 v xs.length (cellsA xs)) (hbig : xs.length ≤ 1000)
    (hp : TestsA 61 #[.pointer (some ⟨cb, 0, none⟩)] q (fun k => v.ownBlock = some k) w) :
    Calls Try.prog 60 #[v, .func (.func 61) #[] #[.pointer (some ⟨cb, 0, none⟩)]] w fun e w' => ∃ v', e = .returned v' ∧ v'.ownBlock = v.ownBlock ∧ w'.ownsRow 0 36 2 v' (xs.filter (fun p => !q p)).length (cellsA (xs.filter (fun p => !q p))) ∧ Keeps (fun k => v.ownBlock = some k) w w' := by
  rcases h.2 with ⟨rfl, h0⟩ | ⟨g, cap, cur, rfl, hb, hg, hn, hm, hsz, htake⟩
  · obtain rfl := List.eq_nil_of_length_eq_zero h0
    refine (deleteA_none _ w).mono ?_
    rintro e w' ⟨rfl, rfl⟩
    exact ⟨_, rfl, rfl, World.ownsRow_nil _ _ _ _, Keeps.refl _ _⟩
  · have e : (fun k => Value.ownBlock (.slice (some ⟨g, 0, none⟩) xs.length cap) = some k) = (fun k => k = g) := by
      funext k; exact propext ⟨fun h => (Option.some.inj h).symm, fun h => by rw [h]; rfl⟩
    rw [e] at hp ⊢
    refine (deleteA_some cb q g cap cur xs w hg hn hm hsz (by rw [htake, cellsA_flat]) hbig hp).mono ?_
    rintro e w' ⟨n', cur', rfl, rfl, h1, h2, h3, h4⟩
    have h5 := List.length_filter_le (fun p => !q p) xs
    exact ⟨_, rfl, rfl, ⟨by rw [cellsA_len], .inr ⟨g, cap, cur', rfl, Nat.zero_le _, h1, by omega, hm, h2, by rw [h3, cellsA_flat]⟩⟩, h4⟩
end Go.Proofs.Ytidhdgcmagpkgaa
