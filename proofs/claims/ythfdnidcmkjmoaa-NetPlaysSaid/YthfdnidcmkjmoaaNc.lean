/-
  Contracts of the document's own Send, of net's Copy and At, and of the document's own. Conditions: as those of Send.
-/
import Derived.Test.YthfdnidcmkjmoaaNs
namespace Go.Proofs.Ythfdnidcmkjmoaa
open Go.RowKit
attribute [local go_sem] Oper.semAt_some
set_option linter.unusedVariables false
section
variable {w : World} {T nb : Nat} {last : Int} {kv : Value} {L : List Md}
theorem findN_at {no : Int} {k : Nat} (h : findN (L.map Md.d) no = some k) : ∃ m, L[k]? = some m ∧ (L.map Md.d).getD k default = m.d := by
  have hk := findN_lt h
  rw [List.length_map] at hk
  exact ⟨L[k], List.getElem?_eq_getElem hk, by simp [List.getD, hk]⟩

set_option maxRecDepth 100000 in
set_option maxHeartbeats 4000000 in
theorem copy_n (h : Na w T nb last kv L) (no : Int) (h0 : -1000 ≤ last) (h1 : last < 4611686018427387904) (hL : L.length ≤ 1000) :
    Calls Try.prog 12 #[.pointer (some ⟨nb, 0, none⟩), .int .i64 no] w (SentR w T nb kv L (copyN (L.map Md.d) last no)) := by
  have HF := Lib.hid (find_n h no)
  have H := Lib.hid h
  cases hf : findN (L.map Md.d) no with
  | none =>
    have e1 : findI (L.map Md.d) no = -1 := by unfold findI; rw [hf]
    have e2 : copyN (L.map Md.d) last no = ((0, 5), L.map Md.d, last) := by unfold copyN; rw [hf]
    rw [e1] at HF
    rw [e2]
    clear h e1 e2 hf
    go_enter Try.func12, Try.ntmps12
    go_wp2_with fail
    refine HF.out.mono ?_
    rintro e w1 ⟨rfl, hb1⟩
    have HB1 := Lib.hid hb1; clear hb1
    go_wp2
    exact ⟨rfl, twoV (0, 5), by simp [results, Try.results12, go_sem, twoV], sent_same H.out rfl HB1.out⟩
  | some k =>
    obtain ⟨m, hm, hg⟩ := findN_at hf
    have hk : k < L.length := (List.getElem?_eq_some_iff.1 hm).1
    have e1 : findI (L.map Md.d) no = (k : Int) := by unfold findI; rw [hf]
    have e2 : copyN (L.map Md.d) last no = putN (L.map Md.d) last m.d.f m.d.t m.d.b := by unfold copyN; rw [hf]; simp only; rw [hg]
    rw [e1] at HF
    rw [e2]
    obtain ⟨⟨⟨r1, r2⟩, M2, l2⟩, hR⟩ : ∃ R, putN (L.map Md.d) last m.d.f m.d.t m.d.b = R := ⟨_, rfl⟩
    rw [hR]
    have HR := Lib.hid hR; have HM := Lib.hid hm
    clear h e1 e2 hf hg hR hm
    go_enter Try.func12, Try.ntmps12
    go_wp2_with fail
    refine HF.out.mono ?_
    rintro e w1 ⟨rfl, hb1⟩
    have HB1 := Lib.hid hb1; clear hb1
    have h1w := H.out.below HB1.out
    obtain ⟨A, c, hkv, hlc, hcm, -, hat⟩ := h1w.form
    obtain ⟨g, rfl, gl, -, d0, d1, d2, d3, d4, d5⟩ := hat k m HM.out
    obtain ⟨c0, c1, -, hl⟩ := h1w.cells
    have hmA := h1w.mds m (List.mem_of_getElem? HM.out)
    have HADD := Lib.hid (add_n h1w m.d.no ⟨⟨last + 1, m.d.f, m.d.t, m.d.b⟩, m.A, m.c⟩ ⟨hmA.row, hmA.bd⟩ rfl h0 h1 hL)
    clear h1w hat hmA
    unfold maxLen at hcm
    rw [hkv] at c0
    have HKV := Lib.hid hkv; clear hkv
    unfold sentC Md.v at HADD
    unfold Md.v at d5
    dsimp only at HADD
    go_wp2_with fail
    refine HADD.out.mono ?_
    intro e w2 hans
    have HANS := Lib.hid (SentR.of_put (m := ⟨⟨last + 1, m.d.f, m.d.t, m.d.b⟩, m.A, m.c⟩) H.out HB1.out (fun g hg => .inr (.inr ⟨m, List.mem_of_getElem? HM.out, hg⟩)) rfl hans)
    dsimp only at HANS
    rw [HR.out] at HANS
    have he : e = .returned (.tuple #[.int .i64 r1, .int .i64 r2]) := HANS.out.1
    subst he
    clear hans
    go_wp2
    exact ⟨rfl, twoV (r1, r2), by simp [results, Try.results12, go_sem, twoV], HANS.out⟩

set_option maxRecDepth 100000 in
set_option maxHeartbeats 4000000 in
theorem rcopy_n (h : Na w T nb last kv L) (no : Int) (h0 : -1000 ≤ last) (h1 : last < 4611686018427387904) (hL : L.length ≤ 1000) (hS : ∀ m ∈ L, m.d.b.length ≤ 1000000) :
    Calls Try.prog 13 #[.pointer (some ⟨nb, 0, none⟩), .int .i64 no] w (SentR w T nb kv L (copyN (L.map Md.d) last no)) := by
  have HF := Lib.hid (rfind_n h no)
  have H := Lib.hid h
  cases hf : findN (L.map Md.d) no with
  | none =>
    have e1 : findI (L.map Md.d) no = -1 := by unfold findI; rw [hf]
    have e2 : copyN (L.map Md.d) last no = ((0, 5), L.map Md.d, last) := by unfold copyN; rw [hf]
    rw [e1] at HF
    rw [e2]
    clear h e1 e2 hf
    go_enter Try.func13, Try.ntmps13
    go_wp2_with fail
    refine HF.out.mono ?_
    rintro e w1 ⟨rfl, rfl⟩
    go_wp2
    exact ⟨rfl, twoV (0, 5), by simp [results, Try.results13, go_sem, twoV], sent_same H.out rfl (Below.refl _ _)⟩
  | some k =>
    obtain ⟨m, hm, hg⟩ := findN_at hf
    have hk : k < L.length := (List.getElem?_eq_some_iff.1 hm).1
    have e1 : findI (L.map Md.d) no = (k : Int) := by unfold findI; rw [hf]
    have e2 : copyN (L.map Md.d) last no = putN (L.map Md.d) last m.d.f m.d.t m.d.b := by unfold copyN; rw [hf]; simp only; rw [hg]
    rw [e1] at HF
    rw [e2]
    obtain ⟨⟨⟨r1, r2⟩, M2, l2⟩, hR⟩ : ∃ R, putN (L.map Md.d) last m.d.f m.d.t m.d.b = R := ⟨_, rfl⟩
    rw [hR]
    have HR := Lib.hid hR; have HM := Lib.hid hm
    have hsm := hS m (List.mem_of_getElem? hm)
    clear h e1 e2 hf hg hR hm hS
    go_enter Try.func13, Try.ntmps13
    go_wp2_with fail
    refine HF.out.mono ?_
    rintro e w1 ⟨rfl, rfl⟩
    obtain ⟨A, c, hkv, hlc, hcm, -, hat⟩ := H.out.form
    obtain ⟨g, rfl, gl, -, d0, d1, d2, d3, d4, d5⟩ := hat k m HM.out
    obtain ⟨c0, c1, -, hl⟩ := H.out.cells
    obtain ⟨t1, t2, t3, t4⟩ := (H.out.mds m (List.mem_of_getElem? HM.out)).bts
    have HADD := Lib.hid (put_n H.out m.d.no m.d.f m.d.t m.A m.d.b.length m.c m.d.b t1 t4 hsm h0 h1 hL)
    clear hat t1 t2 t3 t4
    unfold maxLen at hcm
    rw [hkv] at c0
    have HKV := Lib.hid hkv; clear hkv
    unfold sentC at HADD
    unfold Md.v at d5
    go_wp2_with fail
    refine HADD.out.mono ?_
    intro e w2 hans
    have HANS := Lib.hid (SentR.of_rput H.out (Below.refl _ _) hans)
    rw [HR.out] at HANS
    have he : e = .returned (.tuple #[.int .i64 r1, .int .i64 r2]) := HANS.out.1
    subst he
    clear hans
    go_wp2
    exact ⟨rfl, twoV (r1, r2), by simp [results, Try.results13, go_sem, twoV], HANS.out⟩

theorem tmod_emod (p : Int) (n : Nat) (hn : 0 < n) : (¬ Int.tmod p n < 0 → Int.tmod p n = p % n) ∧ (Int.tmod p n < 0 → Int.tmod p n + n = p % n) ∧ -(n : Int) < Int.tmod p n ∧ Int.tmod p n < n := by
  have e1 := Int.tmod_eq_emod (a := p) (b := (n : Int))
  have h1 := Int.emod_nonneg p (show (n : Int) ≠ 0 by omega)
  have h2 := Int.emod_lt_of_pos p (show (0 : Int) < n by omega)
  have hna : ((n : Int).natAbs : Int) = n := by omega
  rw [e1]
  split
  · omega
  · rw [hna] at *
    rename_i h
    rcases Int.emod_emod_of_dvd p (Int.dvd_refl (n : Int)) with _
    omega

set_option maxHeartbeats 2000000 in
theorem at_n (h : Na w T nb last kv L) (p : Int) (hp : -9223372036854775808 ≤ p ∧ p ≤ 9223372036854775807) : Calls Try.prog 14 #[.pointer (some ⟨nb, 0, none⟩), .int .i64 p] w fun e w' => e = .returned (.int .i64 (atN (L.map Md.d) p)) ∧ w' = w := by
  obtain ⟨A, c, rfl, hlc, hcm, -, hat⟩ := h.form
  obtain ⟨c0, c1, -, hl⟩ := h.cells
  unfold maxLen at hcm
  by_cases hz : L.length = 0
  · have e1 : Hid (atN (L.map Md.d) p = 0) := Lib.hid (by unfold atN; rw [List.length_map, if_pos hz])
    have hzz : ((L.length : Int) == 0) = true := by simp [hz]
    clear h hat
    go_enter Try.func14, Try.ntmps14
    go_wp2
    go_ret
    exact ⟨ret_i e1.out.symm, by first | rfl | trivial⟩
  · obtain ⟨q1, q2, q3, q4⟩ := tmod_emod p L.length (by omega)
    have hr1 := Int.emod_nonneg p (show (L.length : Int) ≠ 0 by omega)
    have hr2 := Int.emod_lt_of_pos p (show (0 : Int) < L.length by omega)
    obtain ⟨k, hk⟩ : ∃ k : Nat, p % (L.length : Int) = (k : Int) := ⟨(p % (L.length : Int)).toNat, by omega⟩
    have hkl : k < L.length := by omega
    obtain ⟨m, hm⟩ : ∃ m, L[k]? = some m := ⟨_, List.getElem?_eq_getElem hkl⟩
    have e1 : Hid (atN (L.map Md.d) p = m.d.no) := Lib.hid (by
      unfold atN
      rw [List.length_map, if_neg hz, hk]
      have : (L.map Md.d)[k]? = some m.d := by rw [List.getElem?_map, hm]; rfl
      simp [List.getD, this])
    obtain ⟨g, rfl, gl, -, d0, -⟩ := hat k m hm
    have hzz : ((L.length : Int) == 0) = false := by simpa using hz
    have hzn : ¬ L.length = 0 := hz
    rw [hk] at q1 q2
    obtain ⟨r, hr⟩ : ∃ r, Int.tmod p (L.length : Int) = r := ⟨_, rfl⟩
    rw [hr] at q1 q2 q3 q4
    clear h hat hm hk hr1 hr2
    by_cases hneg : r < 0
    · have hk2 := q2 hneg
      have hk3 : Hid (r = (k : Int) - (L.length : Int)) := Lib.hid (by omega)
      clear q1 q2 hz
      go_enter Try.func14, Try.ntmps14
      go_wp2
      go_ret
      exact ⟨ret_i e1.out.symm, by first | rfl | trivial⟩
    · have hk2 : r = (k : Int) := q1 hneg
      clear q1 q2 hz
      go_enter Try.func14, Try.ntmps14
      go_wp2
      go_ret
      exact ⟨ret_i e1.out.symm, by first | rfl | trivial⟩

set_option maxHeartbeats 2000000 in
theorem rat_n (h : Na w T nb last kv L) (p : Int) (hp : -9223372036854775808 ≤ p ∧ p ≤ 9223372036854775807) : Calls Try.prog 15 #[.pointer (some ⟨nb, 0, none⟩), .int .i64 p] w fun e w' => e = .returned (.int .i64 (atN (L.map Md.d) p)) ∧ w' = w := by
  obtain ⟨A, c, rfl, hlc, hcm, -, hat⟩ := h.form
  obtain ⟨c0, c1, -, hl⟩ := h.cells
  unfold maxLen at hcm
  by_cases hz : L.length = 0
  · have e1 : Hid (atN (L.map Md.d) p = 0) := Lib.hid (by unfold atN; rw [List.length_map, if_pos hz])
    have hzz : ((L.length : Int) == 0) = true := by simp [hz]
    clear h hat
    go_enter Try.func15, Try.ntmps15
    go_wp2
    go_ret
    exact ⟨ret_i e1.out.symm, by first | rfl | trivial⟩
  · obtain ⟨q1, q2, q3, q4⟩ := tmod_emod p L.length (by omega)
    have hr1 := Int.emod_nonneg p (show (L.length : Int) ≠ 0 by omega)
    have hr2 := Int.emod_lt_of_pos p (show (0 : Int) < L.length by omega)
    obtain ⟨k, hk⟩ : ∃ k : Nat, p % (L.length : Int) = (k : Int) := ⟨(p % (L.length : Int)).toNat, by omega⟩
    have hkl : k < L.length := by omega
    obtain ⟨m, hm⟩ : ∃ m, L[k]? = some m := ⟨_, List.getElem?_eq_getElem hkl⟩
    have e1 : Hid (atN (L.map Md.d) p = m.d.no) := Lib.hid (by
      unfold atN
      rw [List.length_map, if_neg hz, hk]
      have : (L.map Md.d)[k]? = some m.d := by rw [List.getElem?_map, hm]; rfl
      simp [List.getD, this])
    obtain ⟨g, rfl, gl, -, d0, -⟩ := hat k m hm
    have hzz : ((L.length : Int) == 0) = false := by simpa using hz
    have hzn : ¬ L.length = 0 := hz
    rw [hk] at q1 q2
    obtain ⟨r, hr⟩ : ∃ r, Int.tmod p (L.length : Int) = r := ⟨_, rfl⟩
    rw [hr] at q1 q2 q3 q4
    clear h hat hm hk hr1 hr2
    by_cases hneg : r < 0
    · have hk2 := q2 hneg
      have hk3 : Hid (r = (k : Int) - (L.length : Int)) := Lib.hid (by omega)
      clear q1 q2 hz
      go_enter Try.func15, Try.ntmps15
      go_wp2
      go_ret
      exact ⟨ret_i e1.out.symm, by first | rfl | trivial⟩
    · have hk2 : r = (k : Int) := q1 hneg
      clear q1 q2 hz
      go_enter Try.func15, Try.ntmps15
      go_wp2
      go_ret
      exact ⟨ret_i e1.out.symm, by first | rfl | trivial⟩

set_option maxRecDepth 100000 in
set_option maxHeartbeats 4000000 in
theorem rsend_n (h : Na w T nb last kv L) (f t : A2) (hf : isA f) (ht : isA t) (A : Option Addr) (n c : Nat) (b : List Int) (hb : Bts w A n b) (hnil : A = none → n = 0 ∧ c = 0) (hn : n ≤ 1000000) (h0 : -1000 ≤ last) (h1 : last < 4611686018427387904) (hL : L.length ≤ 1000) :
    Calls Try.prog 11 #[.pointer (some ⟨nb, 0, none⟩), adr f, adr t, .slice A n c] w (SentR w T nb kv L (sendN (L.map Md.d) last f t b)) := by
  have HM : Hid (∀ (a : A2) (W : World), isA a → Calls Try.prog 25 #[adr a] W fun e w' => e = .returned (.bool (mayA a)) ∧ Below W.heap.size W w') := Lib.hid (fun a W ha => may33 a W ha)
  have HF := Lib.hid hf; have HT := Lib.hid ht; have H := Lib.hid h; have HB := Lib.hid hb; have HN := Lib.hid hnil
  have hlt := h.lt
  have HX : Hid (Below w.heap.size w ((w.alloc (.cells #[.int .u32 f.1, .int .i64 f.2] 33)).alloc (.cells #[.int .u32 t.1, .int .i64 t.2] 33))) := Lib.hid (((Below.refl _ w).alloc (Nat.le_refl _) _).alloc (by simp) _)
  have HC0 : Hid (((w.alloc (.cells #[.int .u32 f.1, .int .i64 f.2] 33)).alloc (.cells #[.int .u32 t.1, .int .i64 t.2] 33)).heap[w.heap.size]? = some (.cells #[.int .u32 f.1, .int .i64 f.2] 33 (0, 0))) := Lib.hid (by
    rw [Below.heap_alloc _ _ _ (by simp)]; exact World.alloc_heap_new w _)
  have HC1 : Hid (((w.alloc (.cells #[.int .u32 f.1, .int .i64 f.2] 33)).alloc (.cells #[.int .u32 t.1, .int .i64 t.2] 33)).heap[w.heap.size + 1]? = some (.cells #[.int .u32 t.1, .int .i64 t.2] 33 (0, 0))) := Lib.hid (by
    have := World.alloc_heap_new (w.alloc (.cells #[.int .u32 f.1, .int .i64 f.2] 33)) (.cells #[.int .u32 t.1, .int .i64 t.2] 33)
    rwa [World.size_alloc] at this)
  have HE0 : Hid (∀ a : Int × Int, ¬ (mayA f = true ∧ mayA t = true ∧ b.length ≤ 1200) → sendN (L.map Md.d) last f t b = ((0, 1), L.map Md.d, last)) := Lib.hid (fun a hc => by unfold sendN; rw [if_neg hc])
  have hbl := hb.len
  have HE1 : Hid ((mayA f = true ∧ mayA t = true ∧ b.length ≤ 1200) → sendN (L.map Md.d) last f t b = putN (L.map Md.d) last f t b) := Lib.hid (fun hc => by unfold sendN; rw [if_pos hc])
  have HTP : Hid (∀ k, Top nb kv k → k < w.heap.size) := Lib.hid (fun k hk => h.foot_lt (.inl hk))
  have HKP : Hid (∀ (m : Md) (w3 w4 : World) (e : Ending) (o1 o2 : Obj), PutR w3 T nb last kv L m e w4 → w3.heap[w.heap.size]? = some o1 ∧ w3.heap[w.heap.size + 1]? = some o2 → w4.heap[w.heap.size]? = some o1 ∧ w4.heap[w.heap.size + 1]? = some o2) := Lib.hid (fun m w3 w4 e o1 o2 hp hc =>
    ⟨(hp.keeps.block _ (Array.getElem?_eq_some_iff.1 hc.1).1 (fun e => by have := HTP.out _ e; omega)).trans hc.1, (hp.keeps.block _ (Array.getElem?_eq_some_iff.1 hc.2).1 (fun e => by have := HTP.out _ e; omega)).trans hc.2⟩)
  clear h hb hnil hf ht
  obtain ⟨R, hR⟩ : ∃ R, sendN (L.map Md.d) last f t b = R := ⟨_, rfl⟩
  rw [hR]
  have HR := Lib.hid hR; clear hR
  obtain ⟨⟨r1, r2⟩, M2, l2⟩ := R
  unfold adr at *
  cases hmf : mayA f with
  | false =>
    have HV := Lib.hid hmf; clear hmf
    have HMF : Hid (∀ W, Calls Try.prog 25 #[.agg #[.int .u32 f.1, .int .i64 f.2]] W fun e w' => e = .returned (.bool false) ∧ Below W.heap.size W w') := Lib.hid (fun W => by have := HM.out f W HF.out; rwa [HV.out] at this)
    go_enter Try.func11, Try.ntmps11
    go_wp2_with fail
    refine (HMF.out _).mono ?_
    rintro e w1 ⟨rfl, hb1⟩
    have HB1 := Lib.hid hb1; clear hb1
    have HX1 := Lib.hid (HX.out.trans (HB1.out.mono HX.out.size))
    have HC10 := Lib.hid ((HB1.out.block w.heap.size (by simp; omega)).trans HC0.out)
    have HC11 := Lib.hid ((HB1.out.block (w.heap.size + 1) (by simp)).trans HC1.out)
    have p0 := (cells_of HC11.out 0).1; have p1 := (cells_of HC11.out 1).1
    simp at p0 p1
    have HXX := Lib.hid HX1.out
    go_wp2
    exact ⟨rfl, twoV (0, 1), by simp [results, Try.results11, go_sem, twoV], by rw [← HR.out, HE0.out (0, 0) (by rintro ⟨h1, h2, h3⟩; first | omega | (rw [HV.out] at h1; cases h1) | (rw [HV.out] at h2; cases h2))]; exact sent_same H.out rfl HXX.out⟩
  | true =>
    have HV1 := Lib.hid hmf; clear hmf
    have HMF : Hid (∀ W, Calls Try.prog 25 #[.agg #[.int .u32 f.1, .int .i64 f.2]] W fun e w' => e = .returned (.bool true) ∧ Below W.heap.size W w') := Lib.hid (fun W => by have := HM.out f W HF.out; rwa [HV1.out] at this)
    cases hmt : mayA t with
    | false =>
      have HV := Lib.hid hmt; clear hmt
      have HMT : Hid (∀ W, Calls Try.prog 25 #[.agg #[.int .u32 t.1, .int .i64 t.2]] W fun e w' => e = .returned (.bool false) ∧ Below W.heap.size W w') := Lib.hid (fun W => by have := HM.out t W HT.out; rwa [HV.out] at this)
      go_enter Try.func11, Try.ntmps11
      go_wp2_with fail
      refine (HMF.out _).mono ?_
      rintro e w1 ⟨rfl, hb1⟩
      have HB1 := Lib.hid hb1; clear hb1
      have HX1 := Lib.hid (HX.out.trans (HB1.out.mono HX.out.size))
      have HC10 := Lib.hid ((HB1.out.block w.heap.size (by simp; omega)).trans HC0.out)
      have HC11 := Lib.hid ((HB1.out.block (w.heap.size + 1) (by simp)).trans HC1.out)
      have p0 := (cells_of HC11.out 0).1; have p1 := (cells_of HC11.out 1).1
      simp at p0 p1
      go_wp2_with fail
      refine (HMT.out _).mono ?_
      rintro e w2 ⟨rfl, hb2⟩
      have HB2 := Lib.hid hb2; clear hb2
      have HX2 := Lib.hid (HX1.out.trans (HB2.out.mono HX1.out.size))
      have HC20 := Lib.hid ((HB2.out.block w.heap.size (Array.getElem?_eq_some_iff.1 HC10.out).1).trans HC10.out)
      have HC21 := Lib.hid ((HB2.out.block (w.heap.size + 1) (Array.getElem?_eq_some_iff.1 HC11.out).1).trans HC11.out)
      have HXX := Lib.hid HX2.out
      go_wp2
      exact ⟨rfl, twoV (0, 1), by simp [results, Try.results11, go_sem, twoV], by rw [← HR.out, HE0.out (0, 0) (by rintro ⟨h1, h2, h3⟩; first | omega | (rw [HV.out] at h1; cases h1) | (rw [HV.out] at h2; cases h2))]; exact sent_same H.out rfl HXX.out⟩
    | true =>
      have HV2 := Lib.hid hmt; clear hmt
      have HMT : Hid (∀ W, Calls Try.prog 25 #[.agg #[.int .u32 t.1, .int .i64 t.2]] W fun e w' => e = .returned (.bool true) ∧ Below W.heap.size W w') := Lib.hid (fun W => by have := HM.out t W HT.out; rwa [HV2.out] at this)
      by_cases hbig : n ≤ 1200
      · have HK9 : Hid (sendN (L.map Md.d) last f t b = putN (L.map Md.d) last f t b) := Lib.hid (HE1.out ⟨HV1.out, HV2.out, by omega⟩)
        go_enter Try.func11, Try.ntmps11
        go_wp2_with fail
        refine (HMF.out _).mono ?_
        rintro e w1 ⟨rfl, hb1⟩
        have HB1 := Lib.hid hb1; clear hb1
        have HX1 := Lib.hid (HX.out.trans (HB1.out.mono HX.out.size))
        have HC10 := Lib.hid ((HB1.out.block w.heap.size (by simp; omega)).trans HC0.out)
        have HC11 := Lib.hid ((HB1.out.block (w.heap.size + 1) (by simp)).trans HC1.out)
        have p0 := (cells_of HC11.out 0).1; have p1 := (cells_of HC11.out 1).1
        simp at p0 p1
        go_wp2_with fail
        refine (HMT.out _).mono ?_
        rintro e w2 ⟨rfl, hb2⟩
        have HB2 := Lib.hid hb2; clear hb2
        have HX2 := Lib.hid (HX1.out.trans (HB2.out.mono HX1.out.size))
        have HC20 := Lib.hid ((HB2.out.block w.heap.size (Array.getElem?_eq_some_iff.1 HC10.out).1).trans HC10.out)
        have HC21 := Lib.hid ((HB2.out.block (w.heap.size + 1) (Array.getElem?_eq_some_iff.1 HC11.out).1).trans HC11.out)
        have HPUT := Lib.hid (put_n (H.out.below HX2.out) 0 f t A n c b (HB.out.below HX2.out) HN.out (by omega) h0 h1 hL)
        have y0 := (cells_of HC20.out 0).1; have y1 := (cells_of HC20.out 1).1; have y2 := (cells_of HC21.out 0).1; have y3 := (cells_of HC21.out 1).1
        simp at y0 y1 y2 y3
        unfold sentC at HPUT
        go_wp2_with fail
        refine HPUT.out.mono ?_
        intro e w3 hans
        have HANS := Lib.hid (SentR.of_rput H.out HX2.out hans)
        rw [← HK9.out, HR.out] at HANS
        have he : e = .returned (.tuple #[.int .i64 r1, .int .i64 r2]) := HANS.out.1
        subst he
        clear hans
        go_wp2
        exact ⟨rfl, twoV (r1, r2), by simp [results, Try.results11, go_sem, twoV], HANS.out⟩
      · have hbz : ¬ (n : Int) ≤ 1200 := by omega
        have HV := Lib.hid HV2.out
        go_enter Try.func11, Try.ntmps11
        go_wp2_with fail
        refine (HMF.out _).mono ?_
        rintro e w1 ⟨rfl, hb1⟩
        have HB1 := Lib.hid hb1; clear hb1
        have HX1 := Lib.hid (HX.out.trans (HB1.out.mono HX.out.size))
        have HC10 := Lib.hid ((HB1.out.block w.heap.size (by simp; omega)).trans HC0.out)
        have HC11 := Lib.hid ((HB1.out.block (w.heap.size + 1) (by simp)).trans HC1.out)
        have p0 := (cells_of HC11.out 0).1; have p1 := (cells_of HC11.out 1).1
        simp at p0 p1
        go_wp2_with fail
        refine (HMT.out _).mono ?_
        rintro e w2 ⟨rfl, hb2⟩
        have HB2 := Lib.hid hb2; clear hb2
        have HX2 := Lib.hid (HX1.out.trans (HB2.out.mono HX1.out.size))
        have HC20 := Lib.hid ((HB2.out.block w.heap.size (Array.getElem?_eq_some_iff.1 HC10.out).1).trans HC10.out)
        have HC21 := Lib.hid ((HB2.out.block (w.heap.size + 1) (Array.getElem?_eq_some_iff.1 HC11.out).1).trans HC11.out)
        have HXX := Lib.hid HX2.out
        go_wp2
        exact ⟨rfl, twoV (0, 1), by simp [results, Try.results11, go_sem, twoV], by rw [← HR.out, HE0.out (0, 0) (by rintro ⟨h1, h2, h3⟩; first | omega | (rw [HV.out] at h1; cases h1) | (rw [HV.out] at h2; cases h2))]; exact sent_same H.out rfl HXX.out⟩
end
end Go.Proofs.Ythfdnidcmkjmoaa
