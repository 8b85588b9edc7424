/-
  Contracts of slices.DeleteFunc at pointers to bindings. Conditions: as each lemma states.
-/
import Derived.Test.YtidhdgcmagpkgaaDel
namespace Go.Proofs.Ytidhdgcmagpkgaa
open Go.RowKit
set_option linter.unusedVariables false

set_option maxHeartbeats 1000000 in
theorem deleteP_none (fv : Value) (w : World) :
    Calls Try.prog 44 #[.slice none 0 0, fv] w fun e w' => e = .returned (.slice none 0 0) ∧ w = w' := by
  go_enter Try.func44, Try.ntmps44
  go_wp2_with (go_at_call 63; refine (indexP_none _ _ _ _).mono ?_; rintro e w' ⟨rfl, rfl⟩)
  go_ret
  exact ⟨rfl, rfl⟩

set_option maxHeartbeats 4000000 in
theorem deleteP46_some (cb : Nat) (q : Nat → Bool) (g cap : Nat) (cur : Array Value) (ps : List Nat) (w : World) (hg : w.heap[g]? = some (.cells cur 70 (0, 0))) (hn : ps.length ≤ cap) (hm : cap ≤ maxLen) (hsz : cur.size = cap) (htake : cur.toList.take (ps.length * 1) = ps.flatMap (fun p => [ptr p])) (hbig : ps.length ≤ 1000)
    (hp : Tests 33 #[.pointer (some ⟨cb, 0, none⟩)] q ps (fun k => k = g) w) :
    Calls Try.prog 44 #[.slice (some ⟨g, 0, none⟩) ps.length cap, .func (.func 33) #[] #[.pointer (some ⟨cb, 0, none⟩)]] w fun e w' => ∃ n' cur', e = .returned (.slice (some ⟨g, 0, none⟩) n' cap) ∧ n' = (ps.filter (fun p => !q p)).length ∧ w'.heap[g]? = some (.cells cur' 70 (0, 0)) ∧ cur'.size = cap ∧ cur'.toList.take (n' * 1) = (ps.filter (fun p => !q p)).flatMap (fun p => [ptr p]) ∧ Keeps (fun k => k = g) w w' := by
  have hc : ∀ j p, ps[j]? = some p → cur[j]? = some (ptr p) := fun j p hj => by
    have hjl := (List.getElem?_eq_some_iff.1 hj).1
    have h1 := cellsP_at hj
    rw [cellsP_flat, ← htake, List.getElem?_take_of_lt (by omega)] at h1
    simpa using h1
  have hI := indexP46_some cb q g cap ps (fun k => k = g) w hp hbig (fun j p hj => by rw [(cells_of hg j).1]; exact hc j p hj)
  unfold maxLen at hm
  cases hf : ps.findIdx? q with
  | none =>
    have e1 : idxP q ps = -1 := by unfold idxP; rw [hf]
    rw [e1] at hI
    have e2 : ps.filter (fun p => !q p) = ps := by
      rw [List.filter_eq_self]
      intro p hpm
      rw [List.findIdx?_eq_none_iff] at hf
      simp [hf p hpm]
    have HR : Hid (ps.filter (fun p => !q p) = ps) := Lib.hid e2
    have HG := Lib.hid hg; have HT := Lib.hid htake
    clear hg htake e2 hc hp hf e1
    go_enter Try.func44, Try.ntmps44
    go_wp2_with (go_at_call 63; refine hI.mono ?_; rintro e w' ⟨rfl, q0, rfl⟩)
    go_ret
    exact ⟨_, cur, rfl, by rw [HR.out], HG.out, hsz, by rw [HR.out]; exact HT.out, (Keeps.refl _ w).drewN q0⟩
  | some k0 =>
    have e1 : idxP q ps = (k0 : Int) := by unfold idxP; rw [hf]
    rw [e1] at hI
    rw [List.findIdx?_eq_some_iff_getElem] at hf
    obtain ⟨hk0, ht, hall⟩ := hf
    have hst : KI (fun p => [ptr p]) 1 q ps k0 (k0 + 1) cur := KI.start (x := ps[k0]) (fun t h1 y hy => by
      obtain ⟨h2, h3⟩ := List.getElem?_eq_some_iff.1 hy
      have := hall t h1
      rw [h3] at this
      simpa using this) (List.getElem?_eq_getElem hk0) ht (fun _ => rfl) htake
    have HST := Lib.hid hst
    have HP := Lib.hid hp
    have HG := Lib.hid hg
    clear hst hp hall ht htake hc e1 hg
    go_enter Try.func44, Try.ntmps44
    go_wp2_with (go_at_call 63; refine hI.mono ?_; rintro e w' ⟨rfl, q0, rfl⟩)
    have HI0 : Hid (w.heap[g]? = some (.cells cur 70 (0, 0))) := HG
    go_loopg [5, 6, 7] ps.length (fun gg s5 s6 _ wr => ∃ (i j : Nat) (ck : Array Value), s5 = .int .i64 i ∧ s6 = .int .i64 j ∧ i < j ∧ j ≤ ps.length ∧ ps.length - j ≤ gg ∧ Hid (wr.heap[g]? = some (.cells ck 70 (0, 0))) ∧ Hid (ck.size = cap) ∧ Hid (Keeps (fun k => k = g) w wr) ∧ Hid (KI (fun p => [ptr p]) 1 q ps i j ck))
    case atStart => exact ⟨k0, k0 + 1, cur, rfl, by go_num, by omega, by omega, by omega, HG, Lib.hid hsz, Lib.hid ((Keeps.refl _ w).drewN q0), HST⟩
    case round =>
      obtain ⟨i, j, ck, rfl, rfl, hij, hjn, hgg, HCK, HSZ, HK, HKI⟩ := hrel
      by_cases hlt : j < ps.length
      · have hltz : (j : Int) < (ps.length : Int) := by omega
        obtain ⟨p, hpj⟩ : ∃ p, ps[j]? = some p := ⟨_, List.getElem?_eq_getElem hlt⟩
        have cj : wr.cell? ⟨g, j, none⟩ = some (ptr p) := by
          rw [(cells_of HCK.out j).1, HKI.out.high j (by omega) (by omega), ← cellsP_flat]
          exact cellsP_at hpj
        have ci : ∃ u, wr.cell? ⟨g, i, none⟩ = some u := by
          rw [(cells_of HCK.out i).1]
          exact ⟨_, Array.getElem?_eq_getElem (by have := HSZ.out; omega)⟩
        obtain ⟨u, ci⟩ := ci
        have fi := (cells_of HCK.out i).2
        have hcall := HP.out p (List.mem_of_getElem? hpj) wr HK.out
        have HPJ := Lib.hid hpj; clear hpj
        unfold ptr at cj hcall
        have li : i < ps.length := by omega
        cases hq : q p with
        | false =>
          rw [hq] at hcall
          have HQ := Lib.hid hq; clear hq
          go_wp2_with (go_at_call 33; refine hcall.mono ?_; rintro e w' ⟨rfl, qq, rfl⟩)
          go_roundg (ps.length - (j + 1))
          case measure => omega
          case rel =>
            refine ⟨i + 1, j + 1, ck.setIfInBounds i (ptr p), by go_num, by go_num, by omega, by omega, Nat.le_refl _, Lib.hid (heap_setCell_same _ g i ck 70 _ HCK.out), Lib.hid (by have := HSZ.out; simpa using this), Lib.hid ((HK.out.drewN qq).set g i _ rfl), Lib.hid ?_⟩
            refine HKI.out.keep HPJ.out HQ.out rfl (fun t ht => ?_) (fun t ht => ?_)
            · obtain rfl : t = 0 := by omega
              rw [Nat.mul_one, Nat.add_zero, Array.getElem?_setIfInBounds_self, if_pos (by have := HSZ.out; omega)]; rfl
            · rw [Array.getElem?_setIfInBounds_ne (by omega)]
        | true =>
          rw [hq] at hcall
          have HQ := Lib.hid hq; clear hq
          go_wp2_with (go_at_call 33; refine hcall.mono ?_; rintro e w' ⟨rfl, qq, rfl⟩)
          go_roundg (ps.length - (j + 1))
          case measure => omega
          case rel => exact ⟨i, j + 1, ck, rfl, by go_num, by omega, by omega, Nat.le_refl _, HCK, HSZ, Lib.hid (HK.out.drewN qq), Lib.hid (HKI.out.skip HPJ.out HQ.out)⟩
      · obtain rfl : j = ps.length := by omega
        have hltz : ¬ (ps.length : Int) < (ps.length : Int) := by omega
        have hcl : ∀ ty, (Builtin.clear_ #[67] ty #[.slice (some ⟨g, i, none⟩) (ps.length - i) (cap - i)]).run Try.prog wr = .ok (.tuple #[]) (wr.setCells g i (List.replicate (ps.length - i) (.pointer none))) :=
          fun ty => Lib.run_clear_slice wr 67 70 ty (.pointer none) Try.underlying67 (fun w => by kernel_rfl) rfl rfl g i _ _ (by omega) (fun t ht => by rw [(cells_of HCK.out _).1, Array.getElem?_eq_getElem (by have := HSZ.out; omega)]; rfl) (fun t ht => (cells_of HCK.out _).2)
        have HEND : Hid (i = (ps.filter (fun p => !q p)).length ∧ ∃ cur', (wr.setCells g i (List.replicate (ps.length - i) (.pointer none))).heap[g]? = some (.cells cur' 70 (0, 0)) ∧ cur'.size = cap ∧ cur'.toList.take (i * 1) = (ps.filter (fun p => !q p)).flatMap (fun p => [ptr p]) ∧ Keeps (fun k => k = g) w (wr.setCells g i (List.replicate (ps.length - i) (.pointer none)))) := Lib.hid (by
          obtain ⟨h1, h2⟩ := HKI.out.done
          obtain ⟨C', c1, c2, c3⟩ := setCells_obj (List.replicate (ps.length - i) (.pointer none)) i wr ck HCK.out
          refine ⟨h1, C', c1, c2.trans HSZ.out, ?_, HK.out.trans (setCells_keeps _ _ _)⟩
          rw [← h2]
          refine List.ext_getElem? fun t => ?_
          by_cases ht : t < i * 1
          · rw [List.getElem?_take_of_lt ht, List.getElem?_take_of_lt ht]
            simpa using c3 t (by omega)
          · rw [List.getElem?_take_eq_none (by omega), List.getElem?_take_eq_none (by omega)])
        have l1 : (i : Int) ≤ (ps.length : Int) := by omega
        have l2 : (i : Int) ≤ (cap : Int) := by omega
        have l3 : ¬ cap - i = 0 := by omega
        go_wp2
        go_ret
        exact ⟨_, rfl, HEND.out.1, by simpa only [Nat.mul_one] using HEND.out.2⟩

theorem deleteP46 (cb : Nat) (q : Nat → Bool) (kv : Value) (ps : List Nat) (w : World) (h : w.ownsRow 0 70 1 kv ps.length (cellsP ps)) (hbig : ps.length ≤ 1000)
    (hp : Tests 33 #[.pointer (some ⟨cb, 0, none⟩)] q ps (fun k => kv.ownBlock = some k) w) :
    Calls Try.prog 44 #[kv, .func (.func 33) #[] #[.pointer (some ⟨cb, 0, none⟩)]] w fun e w' => ∃ kv', e = .returned kv' ∧ kv'.ownBlock = kv.ownBlock ∧ w'.ownsRow 0 70 1 kv' (ps.filter (fun p => !q p)).length (cellsP (ps.filter (fun p => !q p))) ∧ Keeps (fun k => kv.ownBlock = some k) w w' := by
  rcases h.2 with ⟨rfl, h0⟩ | ⟨g, cap, cur, rfl, hb, hg, hn, hm, hsz, htake⟩
  · obtain rfl := List.eq_nil_of_length_eq_zero h0
    refine (deleteP_none _ w).mono ?_
    rintro e w' ⟨rfl, rfl⟩
    exact ⟨_, rfl, rfl, World.ownsRow_nil _ _ _ _, Keeps.refl _ _⟩
  · have e : (fun k => Value.ownBlock (.slice (some ⟨g, 0, none⟩) ps.length cap) = some k) = (fun k => k = g) := by
      funext k; exact propext ⟨fun h => (Option.some.inj h).symm, fun h => by rw [h]; rfl⟩
    rw [e] at hp ⊢
    refine (deleteP46_some cb q g cap cur ps w hg hn hm (by omega) (by rw [htake, cellsP_flat]) hbig hp).mono ?_
    rintro e w' ⟨n', cur', rfl, rfl, h1, h2, h3, h4⟩
    have h5 := List.length_filter_le (fun p => !q p) ps
    exact ⟨_, rfl, rfl, ⟨by simp [cellsP], .inr ⟨g, cap, cur', rfl, Nat.zero_le _, h1, by omega, hm, by omega, by rw [h3, cellsP_flat]⟩⟩, h4⟩

end Go.Proofs.Ytidhdgcmagpkgaa
