/-
  small: whether the steps are small enough. Conditions: as each states.
-/
import Derived.Test.YtdiilgedicfekaaDoorMh15
namespace Go.Proofs.YtdiilgedicfekaaDoor
open Go.RowKit Go.Maps
set_option linter.unusedVariables false
set_option maxRecDepth 100000

def smallD (d : Dq) : Bool := decide (d.bytes.length ≤ 300) && (decide (d.msg.nums.length ≤ 20) && (decide (d.msg.addrs.length ≤ 20) && decide (d.msg.body.length ≤ 1100)))
def smallL (ds : List Dq) : Bool := (ds.take 60).all smallD
def SmallTo (ds : List Dq) (k : Nat) : Prop := ∀ j, j < k → smallD (ds.getD j default) = true
theorem SmallTo.zero (ds : List Dq) : SmallTo ds 0 := fun j h => by omega
theorem SmallTo.succ {ds : List Dq} {k : Nat} (h : SmallTo ds k) (hk : smallD (ds.getD k default) = true) : SmallTo ds (k + 1) := fun j hj => by
  rcases Nat.lt_or_ge j k with h' | h'
  · exact h j h'
  · obtain rfl : j = k := by omega
    exact hk
theorem small_true {ds : List Dq} {k : Nat} (h : SmallTo ds k) (hk : ds.length ≤ k ∨ 60 ≤ k) : smallL ds = true := by
  unfold smallL
  rw [List.all_eq_true]
  intro x hx
  obtain ⟨j, hj, rfl⟩ := List.getElem_of_mem hx
  have hj2 : j < 60 ∧ j < ds.length := by simp at hj; omega
  have := h j (by omega)
  simpa [List.getD, hj2.2] using this
theorem small_false {ds : List Dq} {k : Nat} (hk : k < ds.length) (h1 : k < 60) (h : smallD (ds.getD k default) = false) : smallL ds = false := by
  cases hs : smallL ds with
  | false => rfl
  | true =>
    unfold smallL at hs
    rw [List.all_eq_true] at hs
    have hm : ds.getD k default ∈ ds.take 60 := by
      have : (ds.take 60)[k]? = some (ds.getD k default) := by simp [h1, List.getD, hk]
      exact List.mem_of_getElem? this
    rw [hs _ hm] at h
    cases h
theorem small_at {ds : List Dq} (h : smallL ds = true) {k : Nat} (hk : k < ds.length) (h1 : k < 60) : smallD (ds.getD k default) = true := by
  cases hd : smallD (ds.getD k default) with
  | true => rfl
  | false => rw [small_false hk h1 hd] at h; cases h
set_option maxHeartbeats 4000000 in
theorem small_some (b off c : Nat) (ds : List Dq) (w : World) (hb : b < w.heap.size) (hc : ds.length ≤ c) (hm : c ≤ maxLen) (h : ∀ j, j < ds.length → DqAt w b (off + j * 8) (ds.getD j default)) :
    Calls Tryd.prog 10 #[.slice (some ⟨b, off, none⟩) ds.length c] w fun e w' => e = .returned (.bool (smallL ds)) ∧ w = w' := by
  unfold maxLen at hm
  have H := Lib.hid h; clear h
  go_enter Tryd.func10, Tryd.ntmps10
  go_wp2
  go_loop [3] (fun i => ∃ k : Nat, k ≤ ds.length ∧ k ≤ 60 ∧ i = .int .i64 k ∧ SmallTo ds k) (fun i => ds.length - (intOf i).toNat)
  case atStart => exact ⟨0, by omega, by omega, rfl, SmallTo.zero _⟩
  case round =>
    obtain ⟨k, hk, hk2, rfl, hS⟩ := hrel
    have HS := Lib.hid hS; clear hS
    by_cases h1 : k < ds.length
    · by_cases h2 : k < 60
      · obtain ⟨x3, x5, x6, x7, d0, d1, d2, d3, d4, d5, d6, d7, hx3, hmv, _⟩ := H.out k h1
        obtain ⟨A3, c3, rfl, _⟩ := hx3
        obtain ⟨A5, c5, A6, c6, A7, c7, rfl, rfl, rfl⟩ := hmv.forms
        obtain ⟨n3, e3⟩ : ∃ n, (ds.getD k default).bytes.length = n := ⟨_, rfl⟩
        obtain ⟨n5, e5⟩ : ∃ n, (ds.getD k default).msg.nums.length = n := ⟨_, rfl⟩
        obtain ⟨n6, e6⟩ : ∃ n, (ds.getD k default).msg.addrs.length = n := ⟨_, rfl⟩
        obtain ⟨n7, e7⟩ : ∃ n, (ds.getD k default).msg.body.length = n := ⟨_, rfl⟩
        have HD : Hid (smallD (ds.getD k default) = (decide (n3 ≤ 300) && (decide (n5 ≤ 20) && (decide (n6 ≤ 20) && decide (n7 ≤ 1100))))) := Lib.hid (by unfold smallD; rw [e3, e5, e6, e7])
        rw [e3] at d3; rw [e5] at d5; rw [e6] at d6; rw [e7] at d7
        clear e3 e5 e6 e7 hmv
        by_cases h3 : n3 ≤ 300
        · by_cases h4 : n5 ≤ 20
          · by_cases h5 : n6 ≤ 20
            · by_cases h6 : n7 ≤ 1100
              · have HE := Lib.hid (show smallD (ds.getD k default) = true by rw [HD.out]; simp [h3, h4, h5, h6])
                go_wp2
                go_round
                case rel => exact ⟨k + 1, by omega, by omega, by go_num, HS.out.succ HE.out⟩
                case measure => simp [intOf]; omega
              · have HE := Lib.hid (small_false h1 h2 (show smallD (ds.getD k default) = false by rw [HD.out]; simp [h6]))
                go_wp2
                go_ret
                exact ⟨ret_bool HE.out.symm, rfl⟩
            · have HE := Lib.hid (small_false h1 h2 (show smallD (ds.getD k default) = false by rw [HD.out]; simp [h5]))
              go_wp2
              go_ret
              exact ⟨ret_bool HE.out.symm, rfl⟩
          · have HE := Lib.hid (small_false h1 h2 (show smallD (ds.getD k default) = false by rw [HD.out]; simp [h4]))
            go_wp2
            go_ret
            exact ⟨ret_bool HE.out.symm, rfl⟩
        · have HE := Lib.hid (small_false h1 h2 (show smallD (ds.getD k default) = false by rw [HD.out]; simp [h3]))
          go_wp2
          go_ret
          exact ⟨ret_bool HE.out.symm, rfl⟩
      · have HD := Lib.hid (small_true HS.out (.inr (by omega)))
        go_wp2
        go_ret
        exact ⟨ret_bool HD.out.symm, rfl⟩
    · have HD := Lib.hid (small_true HS.out (.inl (by omega)))
      go_wp2
      go_ret
      exact ⟨ret_bool HD.out.symm, rfl⟩
set_option maxHeartbeats 400000 in
theorem small_none (A : Option Addr) (c : Nat) (w : World) :
    Calls Tryd.prog 10 #[.slice A 0 c] w fun e w' => e = .returned (.bool true) ∧ w = w' := by
  go_enter Tryd.func10, Tryd.ntmps10
  go_wp2
  refine wp_loop_rounds 1 ?_
  rw [rounds_succ]
  go_wp2
  go_ret
  exact ⟨rfl, rfl⟩
theorem small_any (v : Value) (ds : List Dq) (w : World) (h : IsDos w v ds) (r : Bool) (hr : smallL ds = r) :
    Calls Tryd.prog 10 #[v] w fun e w' => e = .returned (.bool r) ∧ w = w' := by
  subst hr
  obtain ⟨A, c, rfl, h1, h2, h3⟩ := h
  rcases Nat.eq_zero_or_pos ds.length with h0 | h0
  · obtain rfl : ds = [] := List.eq_nil_of_length_eq_zero h0
    exact small_none A c w
  · obtain ⟨b, off, rfl, h4, h5⟩ := h3 h0
    exact small_some b off c ds w h4 h1 h2 h5
/-- a handshake that may not be calls nobody -/
theorem call_no {w0 : World} {nb : Nat} {L : List Item} {R : Option (Nat × List Item)} {os : List (Nat × Obj)} {w : World} (s : Sk) (h : Sd w0 nb L R os w) (h0 : s.st = 0) (hm : s.may = false) :
    Calls Tryd.prog 14 #[skv s, .pointer (some ⟨nb, 0, none⟩)] w (ShAns w0 nb R os w.heap.size ⟨s, [], L⟩) := by
  obtain ⟨st, own, oth, non, ech⟩ := s
  simp only at h0
  subst h0
  have CM : Hid (∀ V, Calls Tryd.prog 29 #[.agg #[.int .i64 0, .int .i64 own, .int .i64 oth, .int .u64 (non : Int), .int .u64 (ech : Int)]] V fun e w' => e = .returned (.bool false) ∧ Below V.heap.size V w') := Lib.hid (fun V => by have := smay_any ⟨0, own, oth, non, ech⟩ V; rw [hm] at this; exact this)
  have HA : Hid (Sd w0 nb L R ((w.heap.size + 1, Obj.cells #[.int .i64 0, .int .i64 0, .int .i64 0, .int .u64 (0 : Int), .int .u64 (0 : Int)] 29 (0, 0)) :: (w.heap.size, Obj.cells #[.int .i64 0, .int .i64 own, .int .i64 oth, .int .u64 (non : Int), .int .u64 (ech : Int)] 29 (0, 0)) :: os)
      ((w.alloc (.cells #[.int .i64 0, .int .i64 own, .int .i64 oth, .int .u64 (non : Int), .int .u64 (ech : Int)] 29)).alloc (.cells #[.int .i64 0, .int .i64 0, .int .i64 0, .int .u64 (0 : Int), .int .u64 (0 : Int)] 29))) := Lib.hid ((h.box _ _ rfl).box _ _ (by simp))
  have HOS : Hid (∀ p ∈ os, p.1 < w.heap.size) := Lib.hid (fun p hp => h.lt hp)
  have hw0 := h.low.size
  clear h hm
  go_enter Tryd.func14, Tryd.ntmps14
  go_wp2_with fail
  refine (CM.out _).mono ?_
  rintro e W3 ⟨rfl, hb3⟩
  have HS3 := Lib.hid (HA.out.below hb3)
  have hz3 := hb3.size
  simp at hz3
  clear hb3
  obtain ⟨⟨z0, zf0⟩, ⟨z1, zf1⟩, ⟨z2, zf2⟩, ⟨z3, zf3⟩, ⟨z4, zf4⟩, zl⟩ := five (HS3.out.held (w.heap.size, Obj.cells #[.int .i64 0, .int .i64 own, .int .i64 oth, .int .u64 (non : Int), .int .u64 (ech : Int)] 29 (0, 0)) (by simp))
  obtain ⟨⟨q0, qf0⟩, ⟨q1, qf1⟩, ⟨q2, qf2⟩, ⟨q3, qf3⟩, ⟨q4, qf4⟩, ql⟩ := five (HS3.out.held (w.heap.size + 1, Obj.cells #[.int .i64 0, .int .i64 0, .int .i64 0, .int .u64 (0 : Int), .int .u64 (0 : Int)] 29 (0, 0)) (by simp))
  go_wp2
  obtain ⟨W6, hW6⟩ : ∃ W6, (((((W3.setCell ⟨w.heap.size + 1, 0, none⟩ (.int .i64 0)).setCell ⟨w.heap.size + 1, 1, none⟩ (.int .i64 own)).setCell ⟨w.heap.size + 1, 2, none⟩ (.int .i64 oth)).setCell ⟨w.heap.size + 1, 3, none⟩ (.int .u64 (non : Int))).setCell ⟨w.heap.size + 1, 4, none⟩ (.int .u64 (ech : Int))) = W6 := ⟨_, rfl⟩
  have hk6 : W6.heap[w.heap.size + 1]? = some (.cells #[.int .i64 0, .int .i64 own, .int .i64 oth, .int .u64 (non : Int), .int .u64 (ech : Int)] 29 (0, 0)) := by rw [← hW6]; exact set5_heap (HS3.out.held (w.heap.size + 1, Obj.cells #[.int .i64 0, .int .i64 0, .int .i64 0, .int .u64 (0 : Int), .int .u64 (0 : Int)] 29 (0, 0)) (by simp))
  have HS6 : Hid (Sd w0 nb L R os W6) := Lib.hid (by rw [← hW6]; exact HS3.out.drop (w.heap.size + 1, Obj.cells #[.int .i64 0, .int .i64 0, .int .i64 0, .int .u64 (0 : Int), .int .u64 (0 : Int)] 29 (0, 0)) (by simp) (by simp only; omega) (keeps5 _ _ _ _ _ _ _) _ (fun p hp => ⟨by simp [hp], by have := HOS.out p hp; simp only; omega⟩))
  clear q0 q1 q2 q3 q4 qf0 qf1 qf2 qf3 qf4
  rw [hW6]
  clear hW6
  obtain ⟨⟨q0, qf0⟩, ⟨q1, qf1⟩, ⟨q2, qf2⟩, ⟨q3, qf3⟩, ⟨q4, qf4⟩, ql⟩ := five hk6
  clear hk6
  refine ⟨rfl, .tuple #[.agg #[.int .i64 0, .int .i64 own, .int .i64 oth, .int .u64 (non : Int), .int .u64 (ech : Int)], .slice none 0 0], by simp [results, Tryd.f14, go_sem, q0, q1, q2, q3, q4], ?_⟩
  exact ⟨_, rfl, sent_nil HS6.out⟩
end Go.Proofs.YtdiilgedicfekaaDoor
