/-
  Contracts of a world's small functions: isHost, isBox, Open, Outer, Box, own. Conditions: as each lemma states.
-/
import Derived.Test.YtidhdgcmagpkgaaWn
namespace Go.Proofs.Ytidhdgcmagpkgaa
open Go.RowKit
attribute [local go_sem] Oper.semAt_some
set_option linter.unusedVariables false
set_option linter.unusedSimpArgs false

def inB (h : Int) (n : Nat) : Bool := decide (0 ≤ h) && decide (h < (n : Int))
theorem inB_t {h : Int} {n : Nat} (e : inB h n = true) : ∃ k : Nat, h = k ∧ k < n := by
  unfold inB at e
  rw [Bool.and_eq_true, decide_eq_true_eq, decide_eq_true_eq] at e
  exact ⟨h.toNat, by omega, by omega⟩
theorem inB_nat (k n : Nat) : inB (k : Int) n = decide (k < n) := by
  unfold inB
  have : (0 : Int) ≤ (k : Int) := by omega
  simp [this]
theorem inB_m (n : Nat) : inB (-1) n = false := rfl
def getS (l : List St) (i : Int) : St := l[i.toNat]?.getD (0, 0)
theorem getS_at {l : List St} {k : Nat} {s : St} (h : l[k]? = some s) : getS l (k : Int) = s := by
  unfold getS
  rw [Int.toNat_natCast, h]; rfl
def openB (S : List St) (i : Int) : Bool := inB i S.length && decide ((getS S i).2 = -1)
def outerI (H : List St) (h : Int) : Int := if inB h H.length = true then (getS H h).2 else -1
def ownA (H : List St) (h p : Int) : A2 := if inB h H.length = true then ((getS H h).1, p) else (0, 0)

set_option maxHeartbeats 1000000 in
theorem isHost_raw (wb n c : Nat) (A : Option Addr) (h : Int) (V : World) (hc : V.cell? ⟨wb, 2, none⟩ = some (.slice A n c)) (hn : n ≤ 1000) :
    Calls Try.prog 20 #[.pointer (some ⟨wb, 0, none⟩), .int .i64 h] V fun e V' => e = .returned (.bool (inB h n)) ∧ V' = V := by
  go_enter Try.func20, Try.ntmps20
  by_cases h0 : 0 ≤ h
  · have e : inB h n = decide (h < (n : Int)) := by unfold inB; simp [h0]
    rw [e]
    go_wp2
    go_ret
    exact ⟨rfl, rfl⟩
  · have e : inB h n = false := by unfold inB; simp [h0]
    rw [e]
    go_wp2
    go_ret
    exact ⟨rfl, rfl⟩
set_option maxHeartbeats 1000000 in
theorem isBox_raw (wb n c : Nat) (A : Option Addr) (h : Int) (V : World) (hc : V.cell? ⟨wb, 0, none⟩ = some (.slice A n c)) (hn : n ≤ 1000) :
    Calls Try.prog 21 #[.pointer (some ⟨wb, 0, none⟩), .int .i64 h] V fun e V' => e = .returned (.bool (inB h n)) ∧ V' = V := by
  go_enter Try.func21, Try.ntmps21
  by_cases h0 : 0 ≤ h
  · have e : inB h n = decide (h < (n : Int)) := by unfold inB; simp [h0]
    rw [e]
    go_wp2
    go_ret
    exact ⟨rfl, rfl⟩
  · have e : inB h n = false := by unfold inB; simp [h0]
    rw [e]
    go_wp2
    go_ret
    exact ⟨rfl, rfl⟩
section
variable {w0 V V' : World} {wb : Nat} {bv sv hv : Value} {S H : List St} {bs : List Bp} {now now' : Int} {os : List (Nat × Obj)}
theorem Wp.sites (h : Wp w0 wb bv sv hv S H bs now os V) : (∃ A c, sv = .slice A S.length c ∧ S.length ≤ c ∧ c ≤ maxLen ∧ SAt V A S ∧ (A = none → S = [] ∧ c = 0)) ∧ ∃ A c, hv = .slice A H.length c ∧ H.length ≤ c ∧ c ≤ maxLen ∧ SAt V A H ∧ (A = none → H = [] ∧ c = 0) := by
  obtain ⟨B, h1, _⟩ := h.wo
  exact ⟨own_sat h1.sts, own_sat h1.hst⟩
theorem Wp.boxes (h : Wp w0 wb bv sv hv S H bs now os V) : ∃ A c, bv = .slice A bs.length c := by
  obtain ⟨B, h1, h2, _⟩ := h.wo
  have hl : B.length = bs.length := by rw [← h2, List.length_map]
  rcases h1.bxs.2 with ⟨rfl, h5⟩ | ⟨g, cap, cur, rfl, _⟩
  · exact ⟨none, 0, by rw [← hl, h5]⟩
  · exact ⟨_, _, by rw [hl]⟩
theorem isHost_any (h : Wp w0 wb bv sv hv S H bs now os V) (hn : H.length ≤ 16) (i : Int) : Calls Try.prog 20 #[.pointer (some ⟨wb, 0, none⟩), .int .i64 i] V fun e V' => e = .returned (.bool (inB i H.length)) ∧ V' = V := by
  obtain ⟨A, c, e, -⟩ := h.sites.2
  exact isHost_raw wb H.length c A i V (by rw [← e]; exact h.top.2.2.1) (by omega)
theorem isBox_wp (h : Wp w0 wb bv sv hv S H bs now os V) (hn : bs.length ≤ 16) (i : Int) : Calls Try.prog 21 #[.pointer (some ⟨wb, 0, none⟩), .int .i64 i] V fun e V' => e = .returned (.bool (inB i bs.length)) ∧ V' = V := by
  obtain ⟨A, c, e⟩ := h.boxes
  exact isBox_raw wb bs.length c A i V (by rw [← e]; exact h.top.1) (by omega)
set_option maxHeartbeats 1000000 in
theorem open_any (h : Wp w0 wb bv sv hv S H bs now os V) (hn : S.length ≤ 16) (hS : bs.length = S.length) (i : Int) : Calls Try.prog 27 #[.pointer (some ⟨wb, 0, none⟩), .int .i64 i] V fun e V' => e = .returned (.bool (openB S i)) ∧ V' = V := by
  have hI := isBox_wp h (by omega) i
  rw [hS] at hI
  obtain ⟨A, c, rfl, hc1, hc2, hat, -⟩ := h.sites.1
  have t1 := h.top.2.1
  obtain ⟨n, hq⟩ : ∃ n, S.length = n := ⟨_, rfl⟩
  have hOB : openB S i = (inB i n && decide ((getS S i).2 = -1)) := by unfold openB; rw [hq]
  rw [hOB]
  rw [hq] at hI t1 hc1 hn
  have HI := Lib.hid hI
  unfold maxLen at hc2
  clear hI
  cases hin : inB i n with
  | false =>
    rw [hin] at HI
    clear hat h
    go_enter Try.func27, Try.ntmps27
    go_wp2_with fail
    refine HI.out.mono ?_
    rintro e V1 ⟨rfl, rfl⟩
    go_wp2
    go_ret
    exact ⟨rfl, rfl⟩
  | true =>
    rw [hin] at HI
    obtain ⟨k, rfl, hk⟩ := inB_t hin
    obtain ⟨s, hs⟩ : ∃ s, S[k]? = some s := ⟨_, List.getElem?_eq_getElem (by omega)⟩
    obtain ⟨b, off, rfl, hb, hcell⟩ := hat (by omega)
    obtain ⟨c0, c1⟩ := hcell k s hs
    rw [getS_at hs]
    clear hq hcell hs hat h hin
    go_enter Try.func27, Try.ntmps27
    go_wp2_with fail
    refine HI.out.mono ?_
    rintro e V1 ⟨rfl, rfl⟩
    go_wp2
    go_ret
    have e9 : (s.2 == -1) = decide (s.2 = -1) := by rw [Bool.eq_iff_iff, beq_iff_eq, decide_eq_true_eq]
    exact ⟨by simp [e9], rfl⟩
set_option maxHeartbeats 1000000 in
theorem outer_any (h : Wp w0 wb bv sv hv S H bs now os V) (hn : H.length ≤ 16) (i : Int) : Calls Try.prog 10 #[.pointer (some ⟨wb, 0, none⟩), .int .i64 i] V fun e V' => e = .returned (.int .i64 (outerI H i)) ∧ V' = V := by
  have hI := isHost_any h hn i
  obtain ⟨A, c, rfl, hc1, hc2, hat, -⟩ := h.sites.2
  have t1 := h.top.2.2.1
  obtain ⟨n, hq⟩ : ∃ n, H.length = n := ⟨_, rfl⟩
  have hl1 := World.block_lt_of_cell? V _ t1
  have hOB : outerI H i = if inB i n = true then (getS H i).2 else -1 := by unfold outerI; rw [hq]
  rw [hOB]
  rw [hq] at hI t1 hc1 hn
  have HI := Lib.hid hI
  unfold maxLen at hc2
  clear hI
  cases hin : inB i n with
  | false =>
    rw [hin] at HI
    clear hat h
    go_enter Try.func10, Try.ntmps10
    go_wp2_with fail
    refine HI.out.mono ?_
    rintro e V1 ⟨rfl, rfl⟩
    go_wp2
    go_ret
    exact ⟨rfl, rfl⟩
  | true =>
    rw [hin] at HI
    obtain ⟨k, rfl, hk⟩ := inB_t hin
    obtain ⟨s, hs⟩ : ∃ s, H[k]? = some s := ⟨_, List.getElem?_eq_getElem (by omega)⟩
    obtain ⟨b, off, rfl, hb, hcell⟩ := hat (by omega)
    obtain ⟨c0, c1⟩ := hcell k s hs
    rw [getS_at hs, if_pos rfl]
    clear hq hcell hs hat h hin
    go_enter Try.func10, Try.ntmps10
    go_wp2_with fail
    refine HI.out.mono ?_
    rintro e V1 ⟨rfl, rfl⟩
    go_wp2
    go_ret
    exact ⟨rfl, rfl⟩
set_option maxHeartbeats 1000000 in
theorem own_any (h : Wp w0 wb bv sv hv S H bs now os V) (hn : H.length ≤ 16) (i p : Int) : Calls Try.prog 17 #[.pointer (some ⟨wb, 0, none⟩), .int .i64 i, .int .i64 p] V fun e V' => e = .returned (adr (ownA H i p)) ∧ Below V.heap.size V V' := by
  have hI := isHost_any (h.alloc (.cells #[.int .u32 0, .int .i64 0] 36)) hn i
  obtain ⟨A, c, rfl, hc1, hc2, hat, -⟩ := h.sites.2
  have t1 := h.top.2.2.1
  obtain ⟨n, hq⟩ : ∃ n, H.length = n := ⟨_, rfl⟩
  have hl1 := World.block_lt_of_cell? V _ t1
  have hOB : ownA H i p = if inB i n = true then ((getS H i).1, p) else (0, 0) := by unfold ownA; rw [hq]
  rw [hOB]
  rw [hq] at hI t1 hc1 hn
  have HI := Lib.hid hI
  have HB : Hid (∀ o, Below V.heap.size V (V.alloc o)) := Lib.hid (fun o => (Below.refl _ V).alloc (Nat.le_refl _) _)
  unfold maxLen at hc2
  unfold adr
  clear hI
  cases hin : inB i n with
  | false =>
    rw [hin] at HI
    clear hat h
    go_enter Try.func17, Try.ntmps17
    go_wp2_with fail
    refine HI.out.mono ?_
    rintro e V1 ⟨rfl, rfl⟩
    go_wp2
    exact ⟨rfl, .agg #[.int .u32 0, .int .i64 0], by simp [results, Try.results17, go_sem], rfl, HB.out _⟩
  | true =>
    rw [hin] at HI
    obtain ⟨k, rfl, hk⟩ := inB_t hin
    obtain ⟨s, hs⟩ : ∃ s, H[k]? = some s := ⟨_, List.getElem?_eq_getElem (by omega)⟩
    obtain ⟨b, off, rfl, hb, hcell⟩ := hat (by omega)
    obtain ⟨c0, c1⟩ := hcell k s hs
    rw [getS_at hs, if_pos rfl]
    clear hq hcell hs hat h hin
    go_enter Try.func17, Try.ntmps17
    go_wp2_with fail
    refine HI.out.mono ?_
    rintro e V1 ⟨rfl, rfl⟩
    go_wp2
    exact ⟨rfl, .agg #[.int .u32 s.1, .int .i64 p], by simp [results, Try.results17, go_sem], rfl, HB.out _⟩
set_option maxHeartbeats 1000000 in
theorem box_wp (h : Wp w0 wb bv sv hv S H bs now os V) (hn : bs.length ≤ 16) (i : Int) : Calls Try.prog 11 #[.pointer (some ⟨wb, 0, none⟩), .int .i64 i] V fun e V' => (∃ q, e = .returned (.pointer q) ∧ (inB i bs.length = false → q = none) ∧ ∀ k : Nat, i = k → k < bs.length → ∃ nb b, bs[k]? = some b ∧ q = some ⟨nb, 0, none⟩ ∧ ∃ kv L, Na V nb b.x b.now kv L ∧ L.map Nd.b = b.M) ∧ V' = V := by
  have hI := isBox_wp h (by omega) i
  have t1 := h.top.1
  have HI := Lib.hid hI
  clear hI
  cases hin : inB i bs.length with
  | false =>
    rw [hin] at HI
    have HE : Hid (∀ k : Nat, i = k → k < bs.length → False) := Lib.hid (fun k e hk => by rw [e, inB_nat] at hin; simp [hk] at hin)
    clear h hin
    go_enter Try.func11, Try.ntmps11
    go_wp2_with fail
    refine HI.out.mono ?_
    rintro e V1 ⟨rfl, rfl⟩
    go_wp2
    go_ret
    exact ⟨⟨none, rfl, fun _ => rfl, fun k e hk => (HE.out k e hk).elim⟩, rfl⟩
  | true =>
    rw [hin] at HI
    obtain ⟨k, rfl, hk⟩ := inB_t hin
    obtain ⟨s, hs⟩ : ∃ s, bs[k]? = some s := ⟨_, List.getElem?_eq_getElem hk⟩
    obtain ⟨g, c, nb, rfl, c1, c2, hg, hcell, hna⟩ := h.box_at hs
    have HE : Hid (∀ j : Nat, (k : Int) = j → ∃ b, bs[j]? = some b ∧ ∃ kv L, Na V nb b.x b.now kv L ∧ L.map Nd.b = b.M) := Lib.hid (fun j e => by
      have : j = k := by omega
      subst this
      exact ⟨s, hs, hna⟩)
    obtain ⟨n, hq⟩ : ∃ n, bs.length = n := ⟨_, rfl⟩
    rw [hq] at *
    unfold maxLen at c2
    clear hna hs h hin
    go_enter Try.func11, Try.ntmps11
    go_wp2_with fail
    refine HI.out.mono ?_
    rintro e V1 ⟨rfl, rfl⟩
    go_wp2
    go_ret
    refine ⟨⟨_, rfl, fun e => by simp at e, fun j e hj => ?_⟩, rfl⟩
    obtain ⟨b, e1, e2⟩ := HE.out j e
    exact ⟨nb, b, e1, rfl, e2⟩
end
end Go.Proofs.Ytidhdgcmagpkgaa
