/-
  Contract of a world's Way. Conditions: as each lemma states.
-/
import Derived.Test.YtidhdgcmagpkgaaWf
namespace Go.Proofs.Ytidhdgcmagpkgaa
open Go.RowKit
attribute [local go_sem] Oper.semAt_some
set_option linter.unusedVariables false
set_option linter.unusedSimpArgs false

/-- the way, what the boxes are behind it, and the world's time -/
def wayM (S H : List St) (bs : List Bp) (now t host port : Int) (g : A2) : (Int × A2 × A2 × Int) × List Bp × Int :=
  if now ≤ t ∧ t ≤ 1099511627776 ∧ mayA (ownA H host port) = true ∧ mayA g = true then
    ((folM S H t 100 bs (ownA H host port) g (outerI H host) (-1) false).1, (folM S H t 100 bs (ownA H host port) g (outerI H host) (-1) false).2, if (folM S H t 100 bs (ownA H host port) g (outerI H host) (-1) false).1.2.2.2 = 1 then now else t)
  else (noWay 1, bs, now)
/-- hosts as they may stand -/
def OkH (S H : List St) : Prop := ∀ s ∈ H, isS s ∧ s.1 ≠ 0 ∧ (s.2 = -1 ∨ ∃ k : Nat, s.2 = k ∧ k < S.length)
theorem own_is {S H : List St} {h p : Int} (hH : OkH S H) (hp : -9223372036854775808 ≤ p ∧ p ≤ 9223372036854775807) : isA (ownA H h p) := by
  unfold ownA
  split
  · rename_i hb
    obtain ⟨k, rfl, hk⟩ := inB_t hb
    obtain ⟨s, hs⟩ : ∃ s, H[k]? = some s := ⟨_, List.getElem?_eq_getElem hk⟩
    rw [getS_at hs]
    exact ⟨(hH s (List.mem_of_getElem? hs)).1.1, hp⟩
  · exact isA_0
theorem outer_is {S H : List St} {h : Int} (hH : OkH S H) : outerI H h = -1 ∨ ∃ k : Nat, outerI H h = k ∧ k < S.length := by
  unfold outerI
  split
  · rename_i hb
    obtain ⟨k, rfl, hk⟩ := inB_t hb
    obtain ⟨s, hs⟩ : ∃ s, H[k]? = some s := ⟨_, List.getElem?_eq_getElem hk⟩
    rw [getS_at hs]
    exact (hH s (List.mem_of_getElem? hs)).2.2
  · exact .inl rfl
section
variable {w0 V V' : World} {wb : Nat} {bv sv hv : Value} {S H : List St} {bs : List Bp} {now now' : Int} {os : List (Nat × Obj)}
def osw (m n : Nat) (o g : A2) (os : List (Nat × Obj)) : List (Nat × Obj) := (m, .cells #[.int .u32 o.1, .int .i64 o.2] 36 (0, 0)) :: (n, .cells #[.int .u32 g.1, .int .i64 g.2] 36 (0, 0)) :: (n + 1, .cells #[.int .u32 0, .int .i64 0] 36 (0, 0)) :: (n + 2, .cells #[.int .u32 0, .int .i64 0] 36 (0, 0)) :: os
/-- what the two blocks of the answer hold, once they were stored -/
theorem cells6 {n : Nat} {l : List (Nat × Obj)} (h : Wp w0 wb bv sv hv S H bs now l V) (h1 : (n + 1, Obj.cells #[.int .u32 0, .int .i64 0] 36 (0, 0)) ∈ l) (h2 : (n + 2, Obj.cells #[.int .u32 0, .int .i64 0] 36 (0, 0)) ∈ l) (f1 f2 g1 g2 : Int) :
    ((V.setCell ⟨n + 1, 0, none⟩ (.int .u32 f1)).cell? ⟨n + 1, 0, none⟩ = some (.int .u32 f1) ∧ ((V.setCell ⟨n + 1, 0, none⟩ (.int .u32 f1)).setCell ⟨n + 1, 1, none⟩ (.int .i64 f2)).cell? ⟨n + 1, 1, none⟩ = some (.int .i64 f2)) ∧
    ((((V.setCell ⟨n + 1, 0, none⟩ (.int .u32 f1)).setCell ⟨n + 1, 1, none⟩ (.int .i64 f2)).setCell ⟨n + 1 + 1, 0, none⟩ (.int .u32 g1)).cell? ⟨n + 1 + 1, 0, none⟩ = some (.int .u32 g1) ∧ ((((V.setCell ⟨n + 1, 0, none⟩ (.int .u32 f1)).setCell ⟨n + 1, 1, none⟩ (.int .i64 f2)).setCell ⟨n + 1 + 1, 0, none⟩ (.int .u32 g1)).setCell ⟨n + 1 + 1, 1, none⟩ (.int .i64 g2)).cell? ⟨n + 1 + 1, 1, none⟩ = some (.int .i64 g2)) ∧
    (((((V.setCell ⟨n + 1, 0, none⟩ (.int .u32 f1)).setCell ⟨n + 1, 1, none⟩ (.int .i64 f2)).setCell ⟨n + 1 + 1, 0, none⟩ (.int .u32 g1)).setCell ⟨n + 1 + 1, 1, none⟩ (.int .i64 g2)).cell? ⟨n + 1, 0, none⟩ = some (.int .u32 f1) ∧ ((((V.setCell ⟨n + 1, 0, none⟩ (.int .u32 f1)).setCell ⟨n + 1, 1, none⟩ (.int .i64 f2)).setCell ⟨n + 1 + 1, 0, none⟩ (.int .u32 g1)).setCell ⟨n + 1 + 1, 1, none⟩ (.int .i64 g2)).cell? ⟨n + 1, 1, none⟩ = some (.int .i64 f2)) := by
  have h2 := h.held _ h2
  have h1 := h.held _ h1
  have k1 := heap_setCell_same V (n + 1) 0 _ 36 (.int .u32 f1) h1
  have k2 := heap_setCell_same _ (n + 1) 1 _ 36 (.int .i64 f2) k1
  have k3 : ((V.setCell ⟨n + 1, 0, none⟩ (.int .u32 f1)).setCell ⟨n + 1, 1, none⟩ (.int .i64 f2)).heap[n + 2]? = _ := (heap_setCell_other _ ⟨n + 1, 1, none⟩ (n + 2) _ (by simp only; omega)).trans ((heap_setCell_other V ⟨n + 1, 0, none⟩ (n + 2) _ (by simp only; omega)).trans h2)
  have j2 := heap_setCell_same _ (n + 2) 0 _ 36 (.int .u32 g1) k3
  have j3 := heap_setCell_same _ (n + 2) 1 _ 36 (.int .i64 g2) j2
  have i1 : ((((V.setCell ⟨n + 1, 0, none⟩ (.int .u32 f1)).setCell ⟨n + 1, 1, none⟩ (.int .i64 f2)).setCell ⟨n + 1 + 1, 0, none⟩ (.int .u32 g1)).setCell ⟨n + 1 + 1, 1, none⟩ (.int .i64 g2)).heap[n + 1]? = _ := (heap_setCell_other _ ⟨n + 2, 1, none⟩ (n + 1) _ (by simp only; omega)).trans ((heap_setCell_other _ ⟨n + 2, 0, none⟩ (n + 1) _ (by simp only; omega)).trans k2)
  exact ⟨⟨(cells_of k1 0).1, (cells_of k2 1).1⟩, ⟨(cells_of j2 0).1, (cells_of j3 1).1⟩, (cells_of i1 0).1, (cells_of i1 1).1⟩
theorem Wp.ends {W : World} {m n : Nat} {o g : A2} (h : Wp w0 wb bv sv hv S H bs now (osw m n o g os) W) (ho : ∀ p ∈ os, p.1 < n) (hm : n + 2 < m) (hl : w0.heap.size ≤ n) (f1 f2 g1 g2 : Int) :
    Wp w0 wb bv sv hv S H bs now os ((((W.setCell ⟨n + 1, 0, none⟩ (.int .u32 f1)).setCell ⟨n + 1, 1, none⟩ (.int .i64 f2)).setCell ⟨n + 1 + 1, 0, none⟩ (.int .u32 g1)).setCell ⟨n + 1 + 1, 1, none⟩ (.int .i64 g2)) ∧
    (Wp w0 wb bv sv hv S H bs now ([(m, Obj.cells #[.int .u32 o.1, .int .i64 o.2] 36 (0, 0)), (n, Obj.cells #[.int .u32 g.1, .int .i64 g.2] 36 (0, 0))] ++ (n + 1, Obj.cells #[.int .u32 f1, .int .i64 f2] 36 (0, 0)) :: (n + 2, Obj.cells #[.int .u32 0, .int .i64 0] 36 (0, 0)) :: os) ((W.setCell ⟨n + 1, 0, none⟩ (.int .u32 f1)).setCell ⟨n + 1, 1, none⟩ (.int .i64 f2))) ∧
    (Wp w0 wb bv sv hv S H bs now ([(m, Obj.cells #[.int .u32 o.1, .int .i64 o.2] 36 (0, 0)), (n, Obj.cells #[.int .u32 g.1, .int .i64 g.2] 36 (0, 0)), (n + 1, Obj.cells #[.int .u32 f1, .int .i64 f2] 36 (0, 0))] ++ (n + 2, Obj.cells #[.int .u32 g1, .int .i64 g2] 36 (0, 0)) :: os) ((((W.setCell ⟨n + 1, 0, none⟩ (.int .u32 f1)).setCell ⟨n + 1, 1, none⟩ (.int .i64 f2)).setCell ⟨n + 1 + 1, 0, none⟩ (.int .u32 g1)).setCell ⟨n + 1 + 1, 1, none⟩ (.int .i64 g2))) := by
  have hA := Wp.store2 (l := [(m, Obj.cells #[.int .u32 o.1, .int .i64 o.2] 36 (0, 0)), (n, Obj.cells #[.int .u32 g.1, .int .i64 g.2] 36 (0, 0))]) h (by
    intro p hp
    simp only [List.cons_append, List.nil_append, List.mem_cons] at hp
    rcases hp with rfl | rfl | rfl | hp
    · simp only; omega
    · simp only; omega
    · simp only; omega
    · have := ho p hp; omega) (by omega) (.int .u32 f1) (.int .i64 f2)
  have hB := Wp.store2 (l := [(m, Obj.cells #[.int .u32 o.1, .int .i64 o.2] 36 (0, 0)), (n, Obj.cells #[.int .u32 g.1, .int .i64 g.2] 36 (0, 0)), (n + 1, Obj.cells #[.int .u32 f1, .int .i64 f2] 36 (0, 0))]) hA (by
    intro p hp
    simp only [List.cons_append, List.nil_append, List.mem_cons] at hp
    rcases hp with rfl | rfl | rfl | hp
    · simp only; omega
    · simp only; omega
    · simp only; omega
    · have := ho p hp; omega) (by omega) (.int .u32 g1) (.int .i64 g2)
  exact ⟨hB.sub (fun p hp => by simp [hp]), hA, hB⟩
set_option maxRecDepth 100000 in
set_option maxHeartbeats 8000000 in
theorem way_wp (h : Wp w0 wb bv sv hv S H bs now os V) (hS : OkS S) (hok : ∀ b ∈ bs, OkP b) (hl : bs.length = S.length) (h16 : S.length ≤ 16) (hH16 : H.length ≤ 16) (hH : OkH S H) (t host port : Int) (g : A2) (hp : -9223372036854775808 ≤ port ∧ port ≤ 9223372036854775807) (hg : isA g) :
    Calls Try.prog 9 #[.pointer (some ⟨wb, 0, none⟩), .int .i64 t, .int .i64 host, .int .i64 port, adr g] V fun e V' => e = .returned (.tuple #[.int .i64 (wayM S H bs now t host port g).1.1, adr (wayM S H bs now t host port g).1.2.1, adr (wayM S H bs now t host port g).1.2.2.1, .int .i64 (wayM S H bs now t host port g).1.2.2.2]) ∧ Wp w0 wb bv sv hv S H (wayM S H bs now t host port g).2.1 (wayM S H bs now t host port g).2.2 os V' := by
  obtain ⟨R, hR⟩ : ∃ R, wayM S H bs now t host port g = R := ⟨_, rfl⟩
  rw [hR]
  have ho1 := own_is (h := host) hH hp
  have ho2 := outer_is (h := host) hH
  unfold wayM at hR
  obtain ⟨⟨o1, o2⟩, ho⟩ : ∃ o, ownA H host port = o := ⟨_, rfl⟩
  obtain ⟨ou, hou⟩ : ∃ ou, outerI H host = ou := ⟨_, rfl⟩
  rw [ho] at ho1 hR
  rw [hou] at ho2 hR
  have HOU := Lib.hid hou
  have HOS : Hid (∀ p ∈ os, p.1 < V.heap.size) := Lib.hid (fun p hp => h.lt hp)
  have HLO : Hid (w0.heap.size ≤ V.heap.size) := Lib.hid h.low.size
  obtain ⟨g1, g2⟩ := g
  have hb1 := ((h.box (k := V.heap.size) #[.int .u32 g1, .int .i64 g2] 36 rfl).box (k := V.heap.size + 1) #[.int .u32 0, .int .i64 0] 36 (by simp)).box (k := V.heap.size + 2) #[.int .u32 0, .int .i64 0] 36 (by simp)
  have HW0 := Lib.hid hb1
  have HOWN := Lib.hid (own_any hb1 hH16 host port)
  rw [ho] at HOWN
  have HMO := Lib.hid (fun W => may_any (o1, o2) W ho1)
  have HMG := Lib.hid (fun W => may_any (g1, g2) W hg)
  have HO1 := Lib.hid ho1; have HO2 := Lib.hid ho2; have HG := Lib.hid hg; have HOK := Lib.hid hok; have HL := Lib.hid hl; have HS := Lib.hid hS
  unfold adr at HOWN HMO HMG ⊢
  dsimp only at HOWN HMO HMG
  have HR := Lib.hid hR
  clear hR ho hou ho1 ho2 hg hok hl hS hH h hb1 hp
  go_enter Try.func9, Try.ntmps9
  go_wp2_with fail
  refine HOWN.out.mono ?_
  rintro e V1 ⟨rfl, hbv⟩
  have hsz := hbv.size
  simp only [World.size_alloc] at hsz
  have HW1 := Lib.hid ((HW0.out.below hbv).box (k := V1.heap.size) #[.int .u32 o1, .int .i64 o2] 36 rfl)
  clear hbv
  have HW : Hid (Wp w0 wb bv sv hv S H bs now (osw V1.heap.size V.heap.size (o1, o2) (g1, g2) os) _) := Lib.hid (HW1.out.sub (fun p hp => by
    unfold osw at hp
    simp only [List.mem_cons] at hp ⊢
    rcases hp with h | h | h | h | h <;> simp [h]))
  obtain ⟨W1, hW1⟩ : ∃ W1, V1.alloc (.cells #[.int .u32 o1, .int .i64 o2] 36) = W1 := ⟨_, rfl⟩
  rw [hW1] at HW
  have ht3 := HW.out.top.2.2.2.1
  obtain ⟨m0, m1, -⟩ := HW.out.c2 (k := V1.heap.size) (u := .int .u32 o1) (v := .int .i64 o2) (t := 36) (by simp [osw])
  obtain ⟨n0, n1, -⟩ := HW.out.c2 (k := V.heap.size) (u := .int .u32 g1) (v := .int .i64 g2) (t := 36) (by simp [osw])
  clear HW1 HW0 HOWN
  go_upto_region 2 with fail
  clear hW1
  by_cases q1 : t < now
  · have HRR : Hid ((noWay 1, bs, now) = R) := Lib.hid (by rw [← HR.out, if_neg (by omega)])
    have HWX := HW
    obtain ⟨u20, u21, u22, u23⟩ := HWX.out.c2 (k := V.heap.size + 1) (u := .int .u32 0) (v := .int .i64 0) (t := 36) (by simp [osw])
    obtain ⟨u30, u31, u32, u33⟩ := HWX.out.c2 (k := V.heap.size + 2) (u := .int .u32 0) (v := .int .i64 0) (t := 36) (by simp [osw])
    go_wp2
    obtain ⟨⟨b20, b21⟩, ⟨b30, b31⟩, b40, b41⟩ := cells6 (n := V.heap.size) HWX.out (by simp [osw]) (by simp [osw]) 0 0 0 0
    have he := (HWX.out.ends HOS.out (by omega) HLO.out 0 0 0 0).1
    rw [← HRR.out]
    exact ⟨rfl, .tuple #[.int .i64 0, .agg #[.int .u32 0, .int .i64 0], .agg #[.int .u32 0, .int .i64 0], .int .i64 1], by simp [results, Try.results9, go_sem, b20, b21, b30, b31, b40, b41], rfl, he⟩
  by_cases q2 : 1099511627776 < t
  · have HRR : Hid ((noWay 1, bs, now) = R) := Lib.hid (by rw [← HR.out, if_neg (by omega)])
    have HWX := HW
    obtain ⟨u20, u21, u22, u23⟩ := HWX.out.c2 (k := V.heap.size + 1) (u := .int .u32 0) (v := .int .i64 0) (t := 36) (by simp [osw])
    obtain ⟨u30, u31, u32, u33⟩ := HWX.out.c2 (k := V.heap.size + 2) (u := .int .u32 0) (v := .int .i64 0) (t := 36) (by simp [osw])
    go_wp2
    obtain ⟨⟨b20, b21⟩, ⟨b30, b31⟩, b40, b41⟩ := cells6 (n := V.heap.size) HWX.out (by simp [osw]) (by simp [osw]) 0 0 0 0
    have he := (HWX.out.ends HOS.out (by omega) HLO.out 0 0 0 0).1
    rw [← HRR.out]
    exact ⟨rfl, .tuple #[.int .i64 0, .agg #[.int .u32 0, .int .i64 0], .agg #[.int .u32 0, .int .i64 0], .int .i64 1], by simp [results, Try.results9, go_sem, b20, b21, b30, b31, b40, b41], rfl, he⟩
  cases hmo : mayA (o1, o2) with
  | false =>
    have HRR : Hid ((noWay 1, bs, now) = R) := Lib.hid (by rw [← HR.out, if_neg (by rw [hmo]; simp)])
    rw [hmo] at HMO
    clear hmo
    go_wp2_with fail
    refine (HMO.out _).mono ?_
    rintro e W2 ⟨rfl, hb2⟩
    have HWX := Lib.hid (HW.out.below hb2)
    clear hb2 m0 m1 n0 n1 ht3
    obtain ⟨u20, u21, u22, u23⟩ := HWX.out.c2 (k := V.heap.size + 1) (u := .int .u32 0) (v := .int .i64 0) (t := 36) (by simp [osw])
    obtain ⟨u30, u31, u32, u33⟩ := HWX.out.c2 (k := V.heap.size + 2) (u := .int .u32 0) (v := .int .i64 0) (t := 36) (by simp [osw])
    go_wp2
    obtain ⟨⟨b20, b21⟩, ⟨b30, b31⟩, b40, b41⟩ := cells6 (n := V.heap.size) HWX.out (by simp [osw]) (by simp [osw]) 0 0 0 0
    have he := (HWX.out.ends HOS.out (by omega) HLO.out 0 0 0 0).1
    rw [← HRR.out]
    exact ⟨rfl, .tuple #[.int .i64 0, .agg #[.int .u32 0, .int .i64 0], .agg #[.int .u32 0, .int .i64 0], .int .i64 1], by simp [results, Try.results9, go_sem, b20, b21, b30, b31, b40, b41], rfl, he⟩
  | true =>
    rw [hmo] at HMO
    go_wp2_with fail
    refine (HMO.out _).mono ?_
    rintro e W2 ⟨rfl, hb2⟩
    have HW2 := Lib.hid (HW.out.below hb2)
    clear hb2 m0 m1 n0 n1 ht3 HW
    obtain ⟨n0, n1, -⟩ := HW2.out.c2 (k := V.heap.size) (u := .int .u32 g1) (v := .int .i64 g2) (t := 36) (by simp [osw])
    cases hmg : mayA (g1, g2) with
    | false =>
      have HRR : Hid ((noWay 1, bs, now) = R) := Lib.hid (by rw [← HR.out, if_neg (by rw [hmg]; simp)])
      rw [hmg] at HMG
      clear hmg hmo
      go_wp2_with fail
      refine (HMG.out _).mono ?_
      rintro e W3 ⟨rfl, hb3⟩
      have HWX := Lib.hid (HW2.out.below hb3)
      clear hb3 n0 n1
      obtain ⟨u20, u21, u22, u23⟩ := HWX.out.c2 (k := V.heap.size + 1) (u := .int .u32 0) (v := .int .i64 0) (t := 36) (by simp [osw])
      obtain ⟨u30, u31, u32, u33⟩ := HWX.out.c2 (k := V.heap.size + 2) (u := .int .u32 0) (v := .int .i64 0) (t := 36) (by simp [osw])
      go_wp2
      obtain ⟨⟨b20, b21⟩, ⟨b30, b31⟩, b40, b41⟩ := cells6 (n := V.heap.size) HWX.out (by simp [osw]) (by simp [osw]) 0 0 0 0
      have he := (HWX.out.ends HOS.out (by omega) HLO.out 0 0 0 0).1
      rw [← HRR.out]
      exact ⟨rfl, .tuple #[.int .i64 0, .agg #[.int .u32 0, .int .i64 0], .agg #[.int .u32 0, .int .i64 0], .int .i64 1], by simp [results, Try.results9, go_sem, b20, b21, b30, b31, b40, b41], rfl, he⟩
    | true =>
      rw [hmg] at HMG
      go_wp2_with fail
      refine (HMG.out _).mono ?_
      rintro e W3 ⟨rfl, hb3⟩
      have HW := Lib.hid (HW2.out.below hb3)
      clear hb3 n0 n1 HW2
      obtain ⟨⟨⟨th, ⟨p1, p2⟩, ⟨r1, r2⟩, c⟩, bs'⟩, hF⟩ : ∃ F, folM S H t 100 bs (o1, o2) (g1, g2) ou (-1) false = F := ⟨_, rfl⟩
      have HRR : Hid ((((th, (p1, p2), (r1, r2), c), bs', if c = 1 then now else t) : (Int × A2 × A2 × Int) × List Bp × Int) = R) := Lib.hid (by
        have hc4 : now ≤ t ∧ t ≤ 1099511627776 ∧ mayA (o1, o2) = true ∧ mayA (g1, g2) = true := ⟨by omega, by omega, hmo, hmg⟩
        rw [← HR.out, if_pos hc4, hF])
      have hD := HW.out.drewN 1
      have HOUT := Lib.hid (outer_any hD hH16 host)
      rw [HOU.out] at HOUT
      have HFOL := Lib.hid (follow_any hD HS.out h16 hH16 t (o1, o2) (g1, g2) ou ⟨HOK.out, HL.out, ⟨HO1.out, hmo⟩, HG.out, HO2.out.imp (fun e => ⟨e, rfl⟩) id⟩)
      rw [hF] at HFOL
      unfold adr at HFOL
      dsimp only at HFOL
      obtain ⟨m0, m1, -⟩ := hD.c2 (k := V1.heap.size) (u := .int .u32 o1) (v := .int .i64 o2) (t := 36) (by simp [osw])
      obtain ⟨n0, n1, -⟩ := hD.c2 (k := V.heap.size) (u := .int .u32 g1) (v := .int .i64 g2) (t := 36) (by simp [osw])
      clear hF hmo hmg hD HMO HMG HR
      go_wp2_with fail
      refine wp_region_till (S := fun W => W.cell? ⟨V1.heap.size, 0, none⟩ = some (.int .u32 o1) ∧ W.cell? ⟨V1.heap.size, 1, none⟩ = some (.int .i64 o2) ∧ W.cell? ⟨V.heap.size, 0, none⟩ = some (.int .u32 g1) ∧ W.cell? ⟨V.heap.size, 1, none⟩ = some (.int .i64 g2) ∧ True) (z := 7) (by kernel_rfl) ⟨m0, m1, n0, n1, trivial⟩ (fun hHeld => ?_)
      refine till_take (i := 0) (oi := _) (v := ?_) [] rfl (by kernel_rfl) (by kernel_rfl) (by decide) (by kernel_rfl) (by kernel_rfl) (by kernel_rfl) (fun _ _ _ h => h) (Or.inl ⟨by rfl, ?_⟩) (by assumption) ?_
      case refine_2 => intro w hSw; (try dsimp only at hSw); obtain ⟨z0, z1, z2, z3, z4⟩ := hSw; go_simp; first | done | (with_reducible rfl)
      try simp only [Act.put, List.getElem_toArray, List.getElem_cons_zero, List.setIfInBounds_toArray, List.set_cons_zero, List.set_cons_succ]
      refine till_take (i := 1) (oi := _) (v := ?_) [] rfl (by kernel_rfl) (by kernel_rfl) (by decide) (by kernel_rfl) (by kernel_rfl) (by kernel_rfl) (fun _ _ _ h => h) (Or.inl ⟨by rfl, ?_⟩) (by assumption) ?_
      case refine_2 => intro w hSw; (try dsimp only at hSw); obtain ⟨z0, z1, z2, z3, z4⟩ := hSw; go_simp; first | done | (with_reducible rfl)
      try simp only [Act.put, List.getElem_toArray, List.getElem_cons_zero, List.getElem_cons_succ, List.setIfInBounds_toArray, List.set_cons_zero, List.set_cons_succ]
      refine till_take (i := 2) (oi := _) (v := ?_) [] rfl (by kernel_rfl) (by kernel_rfl) (by decide) (by kernel_rfl) (by kernel_rfl) (by kernel_rfl) (fun _ _ _ h => h) (Or.inl ⟨by rfl, ?_⟩) (by assumption) ?_
      case refine_2 => intro w hSw; (try dsimp only at hSw); obtain ⟨z0, z1, z2, z3, z4⟩ := hSw; go_simp; first | done | (with_reducible rfl)
      try simp only [Act.put, List.getElem_toArray, List.getElem_cons_zero, List.getElem_cons_succ, List.setIfInBounds_toArray, List.set_cons_zero, List.set_cons_succ]
      refine till_take (i := 3) (oi := _) (v := ?_) [] rfl (by kernel_rfl) (by kernel_rfl) (by decide) (by kernel_rfl) (by kernel_rfl) (by kernel_rfl) (fun _ _ _ h => h) (Or.inl ⟨by rfl, ?_⟩) (by assumption) ?_
      case refine_2 => intro w hSw; (try dsimp only at hSw); obtain ⟨z0, z1, z2, z3, z4⟩ := hSw; go_simp; first | done | (with_reducible rfl)
      try simp only [Act.put, List.getElem_toArray, List.getElem_cons_zero, List.getElem_cons_succ, List.setIfInBounds_toArray, List.set_cons_zero, List.set_cons_succ]
      refine till_take (i := 4) (oi := _) (v := ?_) [6] rfl (by kernel_rfl) (by kernel_rfl) (by decide) (by kernel_rfl) (by kernel_rfl) (by kernel_rfl) (fun _ _ _ h => h) (Or.inl ⟨by rfl, ?_⟩) (by assumption) ?_
      case refine_2 => intro w hSw; (try dsimp only at hSw); obtain ⟨z0, z1, z2, z3, z4⟩ := hSw; go_simp; first | done | (with_reducible rfl)
      try simp only [Act.put, List.getElem_toArray, List.getElem_cons_zero, List.getElem_cons_succ, List.setIfInBounds_toArray, List.set_cons_zero, List.set_cons_succ]
      refine till_take (i := 5) (oi := _) (v := ?_) [6] rfl (by kernel_rfl) (by kernel_rfl) (by decide) (by kernel_rfl) (by kernel_rfl) (by kernel_rfl) (fun _ _ _ h => h) (Or.inl ⟨by rfl, ?_⟩) (by assumption) ?_
      case refine_2 => intro w hSw; (try dsimp only at hSw); obtain ⟨z0, z1, z2, z3, z4⟩ := hSw; go_simp; first | done | (with_reducible rfl)
      try simp only [Act.put, List.getElem_toArray, List.getElem_cons_zero, List.getElem_cons_succ, List.setIfInBounds_toArray, List.set_cons_zero, List.set_cons_succ]
      refine till_ready (rs := [6]) (by kernel_rfl) (by simp) ?_
      refine TillReady.cons rfl (fun K hK => ?_) TillReady.nil
      go_simp
      go_at_call 10
      refine HOUT.out.mono ?_
      rintro e W9 ⟨rfl, rfl⟩
      refine hK.out _ _ hHeld (fun hHeld => ?_)
      clear hK K
      try simp only [Act.put, List.getElem_toArray, List.getElem_cons_zero, List.getElem_cons_succ, List.setIfInBounds_toArray, List.set_cons_zero, List.set_cons_succ]
      refine till_ready (rs := [7]) (by kernel_rfl) (by simp) ?_
      refine TillReady.past rfl (by kernel_rfl) (fun K hK => ?_) TillReady.nil
      go_simp
      go_at_call 19
      refine HFOL.out.mono ?_
      rintro e W4 ⟨rfl, hw4⟩
      have HW4 := Lib.hid hw4
      have HE14 := Lib.hid (Wp.store2 (l := []) hw4 (by
        intro p hp
        simp only [List.nil_append, List.mem_cons] at hp
        rcases hp with rfl | rfl | rfl | hp
        · simp only; omega
        · simp only; omega
        · simp only; omega
        · have := HOS.out p hp; omega) (by have := HLO.out; omega) (.int .u32 p1) (.int .i64 p2))
      have HE15 := Lib.hid (Wp.store2 (l := [(V1.heap.size, Obj.cells #[.int .u32 p1, .int .i64 p2] 36 (0, 0))]) HE14.out (by
        intro p hp
        simp only [List.cons_append, List.nil_append, List.mem_cons] at hp
        rcases hp with rfl | rfl | rfl | hp
        · simp only; omega
        · simp only; omega
        · simp only; omega
        · have := HOS.out p hp; omega) (by have := HLO.out; omega) (.int .u32 r1) (.int .i64 r2))
      obtain ⟨m0, m1, m2, m3⟩ := hw4.c2 (k := V1.heap.size) (u := .int .u32 o1) (v := .int .i64 o2) (t := 36) (by simp [osw])
      obtain ⟨n0, n1, n2, n3⟩ := HE14.out.c2 (k := V.heap.size) (u := .int .u32 g1) (v := .int .i64 g2) (t := 36) (by simp)
      clear hw4
      refine hK.out _ _ ?_
      clear hK K
      try simp only [Act.put, List.getElem_toArray, List.getElem_cons_zero, List.getElem_cons_succ, List.setIfInBounds_toArray, List.set_cons_zero, List.set_cons_succ]
      refine till_pure (i := 8) (oi := _) (v := ?_) rfl (by kernel_rfl) (by decide) (by kernel_rfl) (by kernel_rfl) (fun _ _ _ h => h) (Or.inl ⟨by rfl, ?_⟩) (fun h => absurd h (by decide)) ?_
      case refine_2 => intro w _; go_simp; first | done | (with_reducible rfl)
      try simp only [Act.put, List.getElem_toArray, List.getElem_cons_zero, List.getElem_cons_succ, List.setIfInBounds_toArray, List.set_cons_zero, List.set_cons_succ]
      refine till_pure (i := 9) (oi := _) (v := ?_) rfl (by kernel_rfl) (by decide) (by kernel_rfl) (by kernel_rfl) (fun _ _ _ h => h) (Or.inl ⟨by rfl, ?_⟩) (fun h => absurd h (by decide)) ?_
      case refine_2 => intro w _; go_simp; first | done | (with_reducible rfl)
      try simp only [Act.put, List.getElem_toArray, List.getElem_cons_zero, List.getElem_cons_succ, List.setIfInBounds_toArray, List.set_cons_zero, List.set_cons_succ]
      refine till_pure (i := 10) (oi := _) (v := ?_) rfl (by kernel_rfl) (by decide) (by kernel_rfl) (by kernel_rfl) (fun _ _ _ h => h) (Or.inl ⟨by rfl, ?_⟩) (fun h => absurd h (by decide)) ?_
      case refine_2 => intro w _; go_simp; first | done | (with_reducible rfl)
      try simp only [Act.put, List.getElem_toArray, List.getElem_cons_zero, List.getElem_cons_succ, List.setIfInBounds_toArray, List.set_cons_zero, List.set_cons_succ]
      refine till_pure (i := 11) (oi := _) (v := ?_) rfl (by kernel_rfl) (by decide) (by kernel_rfl) (by kernel_rfl) (fun _ _ _ h => h) (Or.inl ⟨by rfl, ?_⟩) (fun h => absurd h (by decide)) ?_
      case refine_2 => intro w _; go_simp; first | done | (with_reducible rfl)
      try simp only [Act.put, List.getElem_toArray, List.getElem_cons_zero, List.getElem_cons_succ, List.setIfInBounds_toArray, List.set_cons_zero, List.set_cons_succ]
      refine till_pure (i := 12) (oi := _) (v := ?_) rfl (by kernel_rfl) (by decide) (by kernel_rfl) (by kernel_rfl) (fun _ _ _ h => h) (Or.inl ⟨by rfl, ?_⟩) (fun h => absurd h (by decide)) ?_
      case refine_2 => intro w _; go_simp; first | done | (with_reducible rfl)
      try simp only [Act.put, List.getElem_toArray, List.getElem_cons_zero, List.getElem_cons_succ, List.setIfInBounds_toArray, List.set_cons_zero, List.set_cons_succ]
      refine till_pure (i := 13) (oi := _) (v := ?_) rfl (by kernel_rfl) (by decide) (by kernel_rfl) (by kernel_rfl) (fun _ _ _ h => h) (Or.inl ⟨by rfl, ?_⟩) (fun h => absurd h (by decide)) ?_
      case refine_2 => intro w _; go_simp; first | done | (with_reducible rfl)
      try simp only [Act.put, List.getElem_toArray, List.getElem_cons_zero, List.getElem_cons_succ, List.setIfInBounds_toArray, List.set_cons_zero, List.set_cons_succ]
      refine till_ready (rs := [14]) (by kernel_rfl) (by simp) ?_
      refine TillReady.past rfl (by kernel_rfl) (fun K hK => ?_) TillReady.nil
      go_simp
      refine hK.out _ _ ?_
      clear hK K
      try simp only [Act.put, List.getElem_toArray, List.getElem_cons_zero, List.getElem_cons_succ, List.setIfInBounds_toArray, List.set_cons_zero, List.set_cons_succ]
      refine till_ready (rs := [15]) (by kernel_rfl) (by simp) ?_
      refine TillReady.past rfl (by kernel_rfl) (fun K hK => ?_) TillReady.nil
      go_simp
      refine hK.out _ _ ?_
      clear hK K
      try simp only [Act.put, List.getElem_toArray, List.getElem_cons_zero, List.getElem_cons_succ, List.setIfInBounds_toArray, List.set_cons_zero, List.set_cons_succ]
      refine till_pure (i := 16) (oi := _) (v := ?_) rfl (by kernel_rfl) (by decide) (by kernel_rfl) (by kernel_rfl) (fun _ _ _ h => h) (Or.inl ⟨by rfl, ?_⟩) (fun h => absurd h (by decide)) ?_
      case refine_2 => intro w _; go_simp; first | done | (with_reducible rfl)
      try simp only [Act.put, List.getElem_toArray, List.getElem_cons_zero, List.getElem_cons_succ, List.setIfInBounds_toArray, List.set_cons_zero, List.set_cons_succ]
      refine till_done (by kernel_rfl) ?_ _
      have HW5 : Hid (Wp w0 wb bv sv hv S H bs' now (osw V1.heap.size V.heap.size (p1, p2) (r1, r2) os) _) := HE15
      obtain ⟨W5, hW5⟩ : ∃ W5, (((W4.setCell ⟨V1.heap.size, 0, none⟩ (.int .u32 p1)).setCell ⟨V1.heap.size, 1, none⟩ (.int .i64 p2)).setCell ⟨V.heap.size, 0, none⟩ (.int .u32 r1)).setCell ⟨V.heap.size, 1, none⟩ (.int .i64 r2) = W5 := ⟨_, rfl⟩
      rw [hW5] at HW5 ⊢
      clear hW5 HE15 HE14 m0 m1 n0 n1
      by_cases hc : c = 1
      · subst hc
        have HW6 := HW5
        clear HW5
        have HWD := Lib.hid (HW6.out.drewN 1)
        obtain ⟨m0, m1, -⟩ := HWD.out.c2 (k := V1.heap.size) (u := .int .u32 p1) (v := .int .i64 p2) (t := 36) (by simp [osw])
        obtain ⟨n0, n1, -⟩ := HWD.out.c2 (k := V.heap.size) (u := .int .u32 r1) (v := .int .i64 r2) (t := 36) (by simp [osw])
        have HEE := Lib.hid (HWD.out.ends HOS.out (by omega) HLO.out p1 p2 r1 r2)
        have y0 := HEE.out.2.1.c2 (k := V1.heap.size) (u := .int .u32 p1) (v := .int .i64 p2) (t := 36) (by simp)
        have y1 := HEE.out.2.1.c2 (k := V.heap.size) (u := .int .u32 r1) (v := .int .i64 r2) (t := 36) (by simp)
        have y2 := HEE.out.2.2.c2 (k := V1.heap.size) (u := .int .u32 p1) (v := .int .i64 p2) (t := 36) (by simp)
        have y3 := HEE.out.2.2.c2 (k := V.heap.size) (u := .int .u32 r1) (v := .int .i64 r2) (t := 36) (by simp)
        have Y0 := Lib.hid y0; have Y1 := Lib.hid y1; have Y2 := Lib.hid y2; have Y3 := Lib.hid y3
        obtain ⟨u20, u21, u22, u23⟩ := HW6.out.c2 (k := V.heap.size + 1) (u := .int .u32 0) (v := .int .i64 0) (t := 36) (by simp [osw])
        obtain ⟨u30, u31, u32, u33⟩ := HW6.out.c2 (k := V.heap.size + 2) (u := .int .u32 0) (v := .int .i64 0) (t := 36) (by simp [osw])
        clear y0 y1 y2 y3
        go_wp2_with fail
        refine wp_region_held_drew (S := fun W => W.cell? ⟨V1.heap.size, 0, none⟩ = some (.int .u32 p1) ∧ W.cell? ⟨V1.heap.size, 1, none⟩ = some (.int .i64 p2) ∧ W.cell? ⟨V.heap.size, 0, none⟩ = some (.int .u32 r1) ∧ W.cell? ⟨V.heap.size, 1, none⟩ = some (.int .i64 r2) ∧ True) (by kernel_rfl) ⟨m0, m1, n0, n1, trivial⟩ (fun hHeld => ?_)
        refine wpAnyH_take (i := 0) (oi := _) (v := ?_) rfl (by kernel_rfl) (by kernel_rfl) (by kernel_rfl) (fun _ _ _ h => h) (Or.inl ⟨by rfl, ?_⟩) (by assumption) ?_
        case refine_2 => intro w hSw; (try dsimp only at hSw); obtain ⟨z0, z1, z2, z3, z4⟩ := hSw; go_simp; first | done | (with_reducible rfl)
        try simp only [Act.put, List.getElem_toArray, List.getElem_cons_zero, List.setIfInBounds_toArray, List.set_cons_zero, List.set_cons_succ]
        refine wpAnyH_take (i := 1) (oi := _) (v := ?_) rfl (by kernel_rfl) (by kernel_rfl) (by kernel_rfl) (fun _ _ _ h => h) (Or.inl ⟨by rfl, ?_⟩) (by assumption) ?_
        case refine_2 => intro w hSw; (try dsimp only at hSw); obtain ⟨z0, z1, z2, z3, z4⟩ := hSw; go_simp; first | done | (with_reducible rfl)
        try simp only [Act.put, List.getElem_toArray, List.getElem_cons_zero, List.getElem_cons_succ, List.setIfInBounds_toArray, List.set_cons_zero, List.set_cons_succ]
        refine wpAnyH_take (i := 2) (oi := _) (v := ?_) rfl (by kernel_rfl) (by kernel_rfl) (by kernel_rfl) (fun _ _ _ h => h) (Or.inl ⟨by rfl, ?_⟩) (by assumption) ?_
        case refine_2 => intro w hSw; (try dsimp only at hSw); obtain ⟨z0, z1, z2, z3, z4⟩ := hSw; go_simp; first | done | (with_reducible rfl)
        try simp only [Act.put, List.getElem_toArray, List.getElem_cons_zero, List.getElem_cons_succ, List.setIfInBounds_toArray, List.set_cons_zero, List.set_cons_succ]
        refine wpAnyH_take (i := 3) (oi := _) (v := ?_) rfl (by kernel_rfl) (by kernel_rfl) (by kernel_rfl) (fun _ _ _ h => h) (Or.inl ⟨by rfl, ?_⟩) (by assumption) ?_
        case refine_2 => intro w hSw; (try dsimp only at hSw); obtain ⟨z0, z1, z2, z3, z4⟩ := hSw; go_simp; first | done | (with_reducible rfl)
        try simp only [Act.put, List.getElem_toArray, List.getElem_cons_zero, List.getElem_cons_succ, List.setIfInBounds_toArray, List.set_cons_zero, List.set_cons_succ]
        refine wpAnyH_take (i := 4) (oi := _) (v := ?_) rfl (by kernel_rfl) (by kernel_rfl) (by kernel_rfl) (fun _ _ _ h => h) (Or.inl ⟨by rfl, ?_⟩) (by assumption) ?_
        case refine_2 => intro w hSw; (try dsimp only at hSw); obtain ⟨z0, z1, z2, z3, z4⟩ := hSw; go_simp; first | done | (with_reducible rfl)
        try simp only [Act.put, List.getElem_toArray, List.getElem_cons_zero, List.getElem_cons_succ, List.setIfInBounds_toArray, List.set_cons_zero, List.set_cons_succ]
        refine wpAnyH_ready (rs := [5]) (by kernel_rfl) (by simp) ?_
        refine AllReadyH.cons rfl (fun K hK => ?_) AllReadyH.nil
        go_simp
        refine hK.out _ _ ⟨Y0.out.1, Y0.out.2.1, Y1.out.1, Y1.out.2.1, trivial⟩ (fun hHeld => ?_)
        clear hK K
        try simp only [Act.put, List.getElem_toArray, List.getElem_cons_zero, List.getElem_cons_succ, List.setIfInBounds_toArray, List.set_cons_zero, List.set_cons_succ]
        refine wpAnyH_ready (rs := [6]) (by kernel_rfl) (by simp) ?_
        refine AllReadyH.cons rfl (fun K hK => ?_) AllReadyH.nil
        go_simp
        refine hK.out _ _ ⟨Y2.out.1, Y2.out.2.1, Y3.out.1, Y3.out.2.1, trivial⟩ (fun hHeld => ?_)
        clear hK K
        try simp only [Act.put, List.getElem_toArray, List.getElem_cons_zero, List.getElem_cons_succ, List.setIfInBounds_toArray, List.set_cons_zero, List.set_cons_succ]
        refine wpAnyH_take (i := 7) (oi := _) (v := ?_) rfl (by kernel_rfl) (by kernel_rfl) (by kernel_rfl) (fun _ _ _ h => h) (Or.inl ⟨by rfl, ?_⟩) (by assumption) ?_
        case refine_2 => intro w hSw; (try dsimp only at hSw); obtain ⟨z0, z1, z2, z3, z4⟩ := hSw; go_simp; first | done | (with_reducible rfl)
        try simp only [Act.put, List.getElem_toArray, List.getElem_cons_zero, List.getElem_cons_succ, List.setIfInBounds_toArray, List.set_cons_zero, List.set_cons_succ]
        refine wpAnyH_done (by kernel_rfl) ?_ _
        go_wp2
        obtain ⟨⟨b20, b21⟩, ⟨b30, b31⟩, b40, b41⟩ := cells6 (n := V.heap.size) HW6.out (by simp [osw]) (by simp [osw]) p1 p2 r1 r2
        rw [← HRR.out]
        exact ⟨rfl, .tuple #[.int .i64 th, .agg #[.int .u32 p1, .int .i64 p2], .agg #[.int .u32 r1, .int .i64 r2], .int .i64 1], by simp [results, Try.results9, go_sem, b20, b21, b30, b31, b40, b41], by rfl, by exact HEE.out.1⟩
      · have hc1 : (c != 1) = true := by simpa using hc
        have HW6 : Hid (Wp w0 wb bv sv hv S H bs' t (osw V1.heap.size V.heap.size (p1, p2) (r1, r2) os) _) := Lib.hid (HW5.out.set_now (now' := t))
        have ht3 := HW5.out.top.2.2.2.1
        have hf3 := HW5.out.top.2.2.2.2 3
        rw [if_neg hc] at HRR
        clear HW5
        go_upto_region 7 with fail
        have HWD := Lib.hid (HW6.out.drewN 1)
        obtain ⟨m0, m1, -⟩ := HWD.out.c2 (k := V1.heap.size) (u := .int .u32 p1) (v := .int .i64 p2) (t := 36) (by simp [osw])
        obtain ⟨n0, n1, -⟩ := HWD.out.c2 (k := V.heap.size) (u := .int .u32 r1) (v := .int .i64 r2) (t := 36) (by simp [osw])
        have HEE := Lib.hid (HWD.out.ends HOS.out (by omega) HLO.out p1 p2 r1 r2)
        have y0 := HEE.out.2.1.c2 (k := V1.heap.size) (u := .int .u32 p1) (v := .int .i64 p2) (t := 36) (by simp)
        have y1 := HEE.out.2.1.c2 (k := V.heap.size) (u := .int .u32 r1) (v := .int .i64 r2) (t := 36) (by simp)
        have y2 := HEE.out.2.2.c2 (k := V1.heap.size) (u := .int .u32 p1) (v := .int .i64 p2) (t := 36) (by simp)
        have y3 := HEE.out.2.2.c2 (k := V.heap.size) (u := .int .u32 r1) (v := .int .i64 r2) (t := 36) (by simp)
        have Y0 := Lib.hid y0; have Y1 := Lib.hid y1; have Y2 := Lib.hid y2; have Y3 := Lib.hid y3
        obtain ⟨u20, u21, u22, u23⟩ := HW6.out.c2 (k := V.heap.size + 1) (u := .int .u32 0) (v := .int .i64 0) (t := 36) (by simp [osw])
        obtain ⟨u30, u31, u32, u33⟩ := HW6.out.c2 (k := V.heap.size + 2) (u := .int .u32 0) (v := .int .i64 0) (t := 36) (by simp [osw])
        clear y0 y1 y2 y3
        go_wp2_with fail
        refine wp_region_held_drew (S := fun W => W.cell? ⟨V1.heap.size, 0, none⟩ = some (.int .u32 p1) ∧ W.cell? ⟨V1.heap.size, 1, none⟩ = some (.int .i64 p2) ∧ W.cell? ⟨V.heap.size, 0, none⟩ = some (.int .u32 r1) ∧ W.cell? ⟨V.heap.size, 1, none⟩ = some (.int .i64 r2) ∧ True) (by kernel_rfl) ⟨m0, m1, n0, n1, trivial⟩ (fun hHeld => ?_)
        refine wpAnyH_take (i := 0) (oi := _) (v := ?_) rfl (by kernel_rfl) (by kernel_rfl) (by kernel_rfl) (fun _ _ _ h => h) (Or.inl ⟨by rfl, ?_⟩) (by assumption) ?_
        case refine_2 => intro w hSw; (try dsimp only at hSw); obtain ⟨z0, z1, z2, z3, z4⟩ := hSw; go_simp; first | done | (with_reducible rfl)
        try simp only [Act.put, List.getElem_toArray, List.getElem_cons_zero, List.setIfInBounds_toArray, List.set_cons_zero, List.set_cons_succ]
        refine wpAnyH_take (i := 1) (oi := _) (v := ?_) rfl (by kernel_rfl) (by kernel_rfl) (by kernel_rfl) (fun _ _ _ h => h) (Or.inl ⟨by rfl, ?_⟩) (by assumption) ?_
        case refine_2 => intro w hSw; (try dsimp only at hSw); obtain ⟨z0, z1, z2, z3, z4⟩ := hSw; go_simp; first | done | (with_reducible rfl)
        try simp only [Act.put, List.getElem_toArray, List.getElem_cons_zero, List.getElem_cons_succ, List.setIfInBounds_toArray, List.set_cons_zero, List.set_cons_succ]
        refine wpAnyH_take (i := 2) (oi := _) (v := ?_) rfl (by kernel_rfl) (by kernel_rfl) (by kernel_rfl) (fun _ _ _ h => h) (Or.inl ⟨by rfl, ?_⟩) (by assumption) ?_
        case refine_2 => intro w hSw; (try dsimp only at hSw); obtain ⟨z0, z1, z2, z3, z4⟩ := hSw; go_simp; first | done | (with_reducible rfl)
        try simp only [Act.put, List.getElem_toArray, List.getElem_cons_zero, List.getElem_cons_succ, List.setIfInBounds_toArray, List.set_cons_zero, List.set_cons_succ]
        refine wpAnyH_take (i := 3) (oi := _) (v := ?_) rfl (by kernel_rfl) (by kernel_rfl) (by kernel_rfl) (fun _ _ _ h => h) (Or.inl ⟨by rfl, ?_⟩) (by assumption) ?_
        case refine_2 => intro w hSw; (try dsimp only at hSw); obtain ⟨z0, z1, z2, z3, z4⟩ := hSw; go_simp; first | done | (with_reducible rfl)
        try simp only [Act.put, List.getElem_toArray, List.getElem_cons_zero, List.getElem_cons_succ, List.setIfInBounds_toArray, List.set_cons_zero, List.set_cons_succ]
        refine wpAnyH_take (i := 4) (oi := _) (v := ?_) rfl (by kernel_rfl) (by kernel_rfl) (by kernel_rfl) (fun _ _ _ h => h) (Or.inl ⟨by rfl, ?_⟩) (by assumption) ?_
        case refine_2 => intro w hSw; (try dsimp only at hSw); obtain ⟨z0, z1, z2, z3, z4⟩ := hSw; go_simp; first | done | (with_reducible rfl)
        try simp only [Act.put, List.getElem_toArray, List.getElem_cons_zero, List.getElem_cons_succ, List.setIfInBounds_toArray, List.set_cons_zero, List.set_cons_succ]
        refine wpAnyH_ready (rs := [5]) (by kernel_rfl) (by simp) ?_
        refine AllReadyH.cons rfl (fun K hK => ?_) AllReadyH.nil
        go_simp
        refine hK.out _ _ ⟨Y0.out.1, Y0.out.2.1, Y1.out.1, Y1.out.2.1, trivial⟩ (fun hHeld => ?_)
        clear hK K
        try simp only [Act.put, List.getElem_toArray, List.getElem_cons_zero, List.getElem_cons_succ, List.setIfInBounds_toArray, List.set_cons_zero, List.set_cons_succ]
        refine wpAnyH_ready (rs := [6]) (by kernel_rfl) (by simp) ?_
        refine AllReadyH.cons rfl (fun K hK => ?_) AllReadyH.nil
        go_simp
        refine hK.out _ _ ⟨Y2.out.1, Y2.out.2.1, Y3.out.1, Y3.out.2.1, trivial⟩ (fun hHeld => ?_)
        clear hK K
        try simp only [Act.put, List.getElem_toArray, List.getElem_cons_zero, List.getElem_cons_succ, List.setIfInBounds_toArray, List.set_cons_zero, List.set_cons_succ]
        refine wpAnyH_take (i := 7) (oi := _) (v := ?_) rfl (by kernel_rfl) (by kernel_rfl) (by kernel_rfl) (fun _ _ _ h => h) (Or.inl ⟨by rfl, ?_⟩) (by assumption) ?_
        case refine_2 => intro w hSw; (try dsimp only at hSw); obtain ⟨z0, z1, z2, z3, z4⟩ := hSw; go_simp; first | done | (with_reducible rfl)
        try simp only [Act.put, List.getElem_toArray, List.getElem_cons_zero, List.getElem_cons_succ, List.setIfInBounds_toArray, List.set_cons_zero, List.set_cons_succ]
        refine wpAnyH_done (by kernel_rfl) ?_ _
        go_wp2
        obtain ⟨⟨b20, b21⟩, ⟨b30, b31⟩, b40, b41⟩ := cells6 (n := V.heap.size) HW6.out (by simp [osw]) (by simp [osw]) p1 p2 r1 r2
        rw [← HRR.out]
        exact ⟨rfl, .tuple #[.int .i64 th, .agg #[.int .u32 p1, .int .i64 p2], .agg #[.int .u32 r1, .int .i64 r2], .int .i64 c], by simp [results, Try.results9, go_sem, b20, b21, b30, b31, b40, b41], by rfl, by exact HEE.out.1⟩
end
end Go.Proofs.Ytidhdgcmagpkgaa
