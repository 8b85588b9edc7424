/-
  Contracts of net's Send, Copy and At, and of the document's own. Conditions: the net lies in memory; its last number is not near the greatest one; at most 1000 datagrams; the addresses' numbers are such; the bytes lie in memory, apart from what a net writes on.
-/
import Derived.Test.YthfdnidcmkjmoaaNz
import Derived.Deep.RegionHeld
namespace Go.Proofs.Ythfdnidcmkjmoaa
open Go.RowKit
attribute [local go_sem] Oper.semAt_some
set_option linter.unusedVariables false

theorem may33 (a : A2) (w : World) (ha : isA a) : Calls Try.prog 25 #[adr a] w fun e w' => e = .returned (.bool (mayA a)) ∧ Below w.heap.size w w' := by
  obtain ⟨a1, a2⟩ := a
  obtain ⟨⟨h0, _⟩, _⟩ := ha
  dsimp only at h0
  have HB : Hid (∀ C : Obj, Below w.heap.size w (w.alloc C)) := Lib.hid (fun C => (Below.refl _ w).alloc (Nat.le_refl _) _)
  unfold adr
  dsimp only
  by_cases h1 : 0 < a1
  · by_cases h2 : 0 < a2
    · by_cases h3 : a2 < 65536
      · have e : mayA (a1, a2) = true := mayA_t (by simp only; omega) (by simp only; omega) (by simp only; omega)
        rw [e]
        clear e h0
        go_enter Try.func25, Try.ntmps25
        go_wp2
        go_ret
        exact ⟨rfl, HB.out _⟩
      · have e : mayA (a1, a2) = false := mayA_f (by simp only; omega)
        rw [e]
        clear e h0
        go_enter Try.func25, Try.ntmps25
        go_wp2
        go_ret
        exact ⟨rfl, HB.out _⟩
    · have e : mayA (a1, a2) = false := mayA_f (by simp only; omega)
      rw [e]
      clear e h0
      go_enter Try.func25, Try.ntmps25
      go_wp2
      go_ret
      exact ⟨rfl, HB.out _⟩
  · have e : mayA (a1, a2) = false := mayA_f (by simp only; omega)
    rw [e]
    clear e h0
    go_enter Try.func25, Try.ntmps25
    go_wp2
    go_ret
    exact ⟨rfl, HB.out _⟩

/-- what a Send, or a Copy, leaves: S is what putN, sendN or copyN says -/
def SentR (w : World) (T nb : Nat) (kv : Value) (L : List Md) (S : (Int × Int) × List Dg × Int) : Ending → World → Prop := fun e w' =>
  e = .returned (twoV S.1) ∧ ∃ kv' L', MvN w T nb kv L w' S.2.2 kv' L' ∧ L'.map Md.d = S.2.1
section
variable {w : World} {T nb : Nat} {last : Int} {kv : Value} {L : List Md}
theorem sent_same (h : Na w T nb last kv L) {e : Ending} {w' : World} {a : Int × Int} (he : e = .returned (twoV a)) (hb : Below w.heap.size w w') : SentR w T nb kv L (a, L.map Md.d, last) e w' := ⟨he, kv, L, .same h hb, rfl⟩
theorem PutR.keeps {m : Md} {e : Ending} {w' : World} (hp : PutR w T nb last kv L m e w') : Keeps (Top nb kv) w w' := by
  unfold PutR at hp
  by_cases hr : L.length < 300
  · rw [if_pos hr] at hp
    obtain ⟨kv', e1, n1, f1, k1⟩ := hp
    exact k1
  · rw [if_neg hr] at hp
    exact .all hp.2
/-- the pointers' row, and what a Send reads -/
theorem SentR.of_put {e : Ending} {w1 w' : World} {m : Md} (h : Na w T nb last kv L) (hb : Below w.heap.size w w1) (hm : ∀ g, m.v.ownBlock = some g → w.heap.size ≤ g ∨ FootN nb kv L g) (hno : m.d.no = last + 1) (hp : PutR w1 T nb last kv L m e w') :
    SentR w T nb kv L (putN (L.map Md.d) last m.d.f m.d.t m.d.b) e w' := by
  unfold PutR at hp
  unfold putN
  rw [List.length_map]
  by_cases hr : L.length < 300
  · rw [if_pos hr] at hp ⊢
    obtain ⟨kv', e1, n1, f1, k1⟩ := hp
    refine ⟨e1, kv', L ++ [m], ⟨n1, fun k hk => ?_, (Keeps.all hb).trans k1⟩, ?_⟩
    · rcases f1 k hk with e | e | e
      · exact .inl e
      · exact .inr (Nat.le_trans hb.size e)
      · exact (hm k e).symm
    · rw [List.map_append, List.map_singleton]
      congr 1
      rw [← hno]
  · rw [if_neg hr] at hp ⊢
    exact sent_same h hp.1 (hb.trans (hp.2.mono hb.size))
theorem SentR.of_rput {e : Ending} {w1 w' : World} {f t : A2} {b : List Int} (h : Na w T nb last kv L) (hb : Below w.heap.size w w1) (hp : RPutR w1 T nb last kv L f t b e w') :
    SentR w T nb kv L (putN (L.map Md.d) last f t b) e w' := by
  unfold RPutR at hp
  unfold putN
  rw [List.length_map]
  by_cases hr : L.length < 300
  · rw [if_pos hr] at hp ⊢
    obtain ⟨m, kv', e0, e1, n1, f1, k1⟩ := hp
    refine ⟨e1, kv', L ++ [m], ⟨n1, fun k hk => ?_, (Keeps.all hb).trans k1⟩, ?_⟩
    · exact (f1 k hk).imp id (fun e => Nat.le_trans hb.size e)
    · rw [List.map_append, List.map_singleton, e0]
  · rw [if_neg hr] at hp ⊢
    exact sent_same h hp.1 (hb.trans (hp.2.mono hb.size))

set_option maxRecDepth 100000 in
set_option maxHeartbeats 4000000 in
theorem send_n (h : Na w T nb last kv L) (f t : A2) (hf : isA f) (ht : isA t) (A : Option Addr) (n c : Nat) (b : List Int) (hb : Bts w A n b) (hnil : A = none → n = 0 ∧ c = 0) (hn : n ≤ 1000000) (h0 : -1000 ≤ last) (h1 : last < 4611686018427387904) (hL : L.length ≤ 1000) :
    Calls Try.prog 10 #[.pointer (some ⟨nb, 0, none⟩), adr f, adr t, .slice A n c] w (SentR w T nb kv L (sendN (L.map Md.d) last f t b)) := by
  have HM : Hid (∀ (a : A2) (W : World), isA a → Calls Try.prog 22 #[adr a] W fun e w' => e = .returned (.bool (mayA a)) ∧ Below W.heap.size W w') := Lib.hid (fun a W ha => may_any a W ha)
  have HF := Lib.hid hf; have HT := Lib.hid ht; have H := Lib.hid h; have HB := Lib.hid hb; have HN := Lib.hid hnil
  have hlt := h.lt
  have HX : Hid (Below w.heap.size w ((w.alloc (.cells #[.int .u32 f.1, .int .i64 f.2] 33)).alloc (.cells #[.int .u32 t.1, .int .i64 t.2] 33))) := Lib.hid (((Below.refl _ w).alloc (Nat.le_refl _) _).alloc (by simp) _)
  have HC0 : Hid (((w.alloc (.cells #[.int .u32 f.1, .int .i64 f.2] 33)).alloc (.cells #[.int .u32 t.1, .int .i64 t.2] 33)).heap[w.heap.size]? = some (.cells #[.int .u32 f.1, .int .i64 f.2] 33 (0, 0))) := Lib.hid (by
    rw [Below.heap_alloc _ _ _ (by simp)]; exact World.alloc_heap_new w _)
  have HC1 : Hid (((w.alloc (.cells #[.int .u32 f.1, .int .i64 f.2] 33)).alloc (.cells #[.int .u32 t.1, .int .i64 t.2] 33)).heap[w.heap.size + 1]? = some (.cells #[.int .u32 t.1, .int .i64 t.2] 33 (0, 0))) := Lib.hid (by
    have := World.alloc_heap_new (w.alloc (.cells #[.int .u32 f.1, .int .i64 f.2] 33)) (.cells #[.int .u32 t.1, .int .i64 t.2] 33)
    rwa [World.size_alloc] at this)
  have HE0 : Hid (∀ a : Int × Int, ¬ (mayA f = true ∧ mayA t = true ∧ b.length ≤ 1200) → sendN (L.map Md.d) last f t b = ((0, 1), L.map Md.d, last)) := Lib.hid (fun a hc => by unfold sendN; rw [if_neg hc])
  have hbl := hb.len
  have HE1 : Hid ((mayA f = true ∧ mayA t = true ∧ b.length ≤ 1200) → sendN (L.map Md.d) last f t b = putN (L.map Md.d) last f t b) := Lib.hid (fun hc => by unfold sendN; rw [if_pos hc])
  have HTP : Hid (∀ k, Top nb kv k → k < w.heap.size) := Lib.hid (fun k hk => h.foot_lt (.inl hk))
  have HKP : Hid (∀ (m : Md) (w3 w4 : World) (e : Ending) (o1 o2 : Obj), PutR w3 T nb last kv L m e w4 → w3.heap[w.heap.size]? = some o1 ∧ w3.heap[w.heap.size + 1]? = some o2 → w4.heap[w.heap.size]? = some o1 ∧ w4.heap[w.heap.size + 1]? = some o2) := Lib.hid (fun m w3 w4 e o1 o2 hp hc =>
    ⟨(hp.keeps.block _ (Array.getElem?_eq_some_iff.1 hc.1).1 (fun e => by have := HTP.out _ e; omega)).trans hc.1, (hp.keeps.block _ (Array.getElem?_eq_some_iff.1 hc.2).1 (fun e => by have := HTP.out _ e; omega)).trans hc.2⟩)
  clear h hb hnil hf ht
  obtain ⟨R, hR⟩ : ∃ R, sendN (L.map Md.d) last f t b = R := ⟨_, rfl⟩
  rw [hR]
  have HR := Lib.hid hR; clear hR
  obtain ⟨⟨r1, r2⟩, M2, l2⟩ := R
  unfold adr at *
  cases hmf : mayA f with
  | false =>
    have HV := Lib.hid hmf; clear hmf
    have HMF : Hid (∀ W, Calls Try.prog 22 #[.agg #[.int .u32 f.1, .int .i64 f.2]] W fun e w' => e = .returned (.bool false) ∧ Below W.heap.size W w') := Lib.hid (fun W => by have := HM.out f W HF.out; rwa [HV.out] at this)
    go_enter Try.func10, Try.ntmps10
    go_wp2_with fail
    refine (HMF.out _).mono ?_
    rintro e w1 ⟨rfl, hb1⟩
    have HB1 := Lib.hid hb1; clear hb1
    have HX1 := Lib.hid (HX.out.trans (HB1.out.mono HX.out.size))
    have HC10 := Lib.hid ((HB1.out.block w.heap.size (by simp; omega)).trans HC0.out)
    have HC11 := Lib.hid ((HB1.out.block (w.heap.size + 1) (by simp)).trans HC1.out)
    have p0 := (cells_of HC11.out 0).1; have p1 := (cells_of HC11.out 1).1
    simp at p0 p1
    have HXX := Lib.hid HX1.out
    go_wp2
    exact ⟨rfl, twoV (0, 1), by simp [results, Try.results10, go_sem, twoV], by rw [← HR.out, HE0.out (0, 0) (by rintro ⟨h1, h2, h3⟩; first | omega | (rw [HV.out] at h1; cases h1) | (rw [HV.out] at h2; cases h2))]; exact sent_same H.out rfl HXX.out⟩
  | true =>
    have HV1 := Lib.hid hmf; clear hmf
    have HMF : Hid (∀ W, Calls Try.prog 22 #[.agg #[.int .u32 f.1, .int .i64 f.2]] W fun e w' => e = .returned (.bool true) ∧ Below W.heap.size W w') := Lib.hid (fun W => by have := HM.out f W HF.out; rwa [HV1.out] at this)
    cases hmt : mayA t with
    | false =>
      have HV := Lib.hid hmt; clear hmt
      have HMT : Hid (∀ W, Calls Try.prog 22 #[.agg #[.int .u32 t.1, .int .i64 t.2]] W fun e w' => e = .returned (.bool false) ∧ Below W.heap.size W w') := Lib.hid (fun W => by have := HM.out t W HT.out; rwa [HV.out] at this)
      go_enter Try.func10, Try.ntmps10
      go_wp2_with fail
      refine (HMF.out _).mono ?_
      rintro e w1 ⟨rfl, hb1⟩
      have HB1 := Lib.hid hb1; clear hb1
      have HX1 := Lib.hid (HX.out.trans (HB1.out.mono HX.out.size))
      have HC10 := Lib.hid ((HB1.out.block w.heap.size (by simp; omega)).trans HC0.out)
      have HC11 := Lib.hid ((HB1.out.block (w.heap.size + 1) (by simp)).trans HC1.out)
      have p0 := (cells_of HC11.out 0).1; have p1 := (cells_of HC11.out 1).1
      simp at p0 p1
      go_wp2_with fail
      refine (HMT.out _).mono ?_
      rintro e w2 ⟨rfl, hb2⟩
      have HB2 := Lib.hid hb2; clear hb2
      have HX2 := Lib.hid (HX1.out.trans (HB2.out.mono HX1.out.size))
      have HC20 := Lib.hid ((HB2.out.block w.heap.size (Array.getElem?_eq_some_iff.1 HC10.out).1).trans HC10.out)
      have HC21 := Lib.hid ((HB2.out.block (w.heap.size + 1) (Array.getElem?_eq_some_iff.1 HC11.out).1).trans HC11.out)
      have HXX := Lib.hid HX2.out
      go_wp2
      exact ⟨rfl, twoV (0, 1), by simp [results, Try.results10, go_sem, twoV], by rw [← HR.out, HE0.out (0, 0) (by rintro ⟨h1, h2, h3⟩; first | omega | (rw [HV.out] at h1; cases h1) | (rw [HV.out] at h2; cases h2))]; exact sent_same H.out rfl HXX.out⟩
    | true =>
      have HV2 := Lib.hid hmt; clear hmt
      have HMT : Hid (∀ W, Calls Try.prog 22 #[.agg #[.int .u32 t.1, .int .i64 t.2]] W fun e w' => e = .returned (.bool true) ∧ Below W.heap.size W w') := Lib.hid (fun W => by have := HM.out t W HT.out; rwa [HV2.out] at this)
      by_cases hbig : n ≤ 1200
      · have HK9 : Hid (sendN (L.map Md.d) last f t b = putN (L.map Md.d) last f t b) := Lib.hid (HE1.out ⟨HV1.out, HV2.out, by omega⟩)
        go_enter Try.func10, Try.ntmps10
        go_wp2_with fail
        refine (HMF.out _).mono ?_
        rintro e w1 ⟨rfl, hb1⟩
        have HB1 := Lib.hid hb1; clear hb1
        have HX1 := Lib.hid (HX.out.trans (HB1.out.mono HX.out.size))
        have HC10 := Lib.hid ((HB1.out.block w.heap.size (by simp; omega)).trans HC0.out)
        have HC11 := Lib.hid ((HB1.out.block (w.heap.size + 1) (by simp)).trans HC1.out)
        have p0 := (cells_of HC11.out 0).1; have p1 := (cells_of HC11.out 1).1
        simp at p0 p1
        go_wp2_with fail
        refine (HMT.out _).mono ?_
        rintro e w2 ⟨rfl, hb2⟩
        have HB2 := Lib.hid hb2; clear hb2
        have HX2 := Lib.hid (HX1.out.trans (HB2.out.mono HX1.out.size))
        have HC20 := Lib.hid ((HB2.out.block w.heap.size (Array.getElem?_eq_some_iff.1 HC10.out).1).trans HC10.out)
        have HC21 := Lib.hid ((HB2.out.block (w.heap.size + 1) (Array.getElem?_eq_some_iff.1 HC11.out).1).trans HC11.out)
        go_wp2_with fail
        refine wp_region_held_drew (S := fun W => W.heap[w.heap.size]? = some (.cells #[.int .u32 f.1, .int .i64 f.2] 33 (0, 0)) ∧ W.heap[w.heap.size + 1]? = some (.cells #[.int .u32 t.1, .int .i64 t.2] 33 (0, 0))) (by kernel_rfl) ⟨HC20.out, HC21.out⟩ (fun hHeld => ?_)
        refine wpAnyH_take (i := 0) (oi := _) (v := ?_) rfl (by kernel_rfl) (by kernel_rfl) (by kernel_rfl) (fun _ _ _ h => h) (Or.inl ⟨by rfl, ?_⟩) (by assumption) ?_
        case refine_2 => intro w hSw; (try dsimp only at hSw); obtain ⟨hS1, hS2⟩ := hSw; have rlt := (Array.getElem?_eq_some_iff.1 hS1).1; have blt := (Array.getElem?_eq_some_iff.1 hS2).1; have r0 := (cells_of hS1 0).1; have r1 := (cells_of hS1 1).1; have j0 := (cells_of hS2 0).1; have j1 := (cells_of hS2 1).1; clear hS1 hS2; simp only [List.getElem?_toArray, List.getElem?_cons_zero, List.getElem?_cons_succ] at r0 r1 j0 j1; go_simp; first | done | (with_reducible rfl)
        try simp only [Act.put, List.getElem_toArray, List.getElem_cons_zero, List.setIfInBounds_toArray, List.set_cons_zero, List.set_cons_succ]
        refine wpAnyH_take (i := 1) (oi := _) (v := ?_) rfl (by kernel_rfl) (by kernel_rfl) (by kernel_rfl) (fun _ _ _ h => h) (Or.inl ⟨by rfl, ?_⟩) (by assumption) ?_
        case refine_2 => intro w hSw; (try dsimp only at hSw); obtain ⟨hS1, hS2⟩ := hSw; have rlt := (Array.getElem?_eq_some_iff.1 hS1).1; have blt := (Array.getElem?_eq_some_iff.1 hS2).1; have r0 := (cells_of hS1 0).1; have r1 := (cells_of hS1 1).1; have j0 := (cells_of hS2 0).1; have j1 := (cells_of hS2 1).1; clear hS1 hS2; simp only [List.getElem?_toArray, List.getElem?_cons_zero, List.getElem?_cons_succ] at r0 r1 j0 j1; go_simp; first | done | (with_reducible rfl)
        try simp only [Act.put, List.getElem_toArray, List.getElem_cons_zero, List.getElem_cons_succ, List.setIfInBounds_toArray, List.set_cons_zero, List.set_cons_succ]
        refine wpAnyH_take (i := 2) (oi := _) (v := ?_) rfl (by kernel_rfl) (by kernel_rfl) (by kernel_rfl) (fun _ _ _ h => h) (Or.inl ⟨by rfl, ?_⟩) (by assumption) ?_
        case refine_2 => intro w hSw; (try dsimp only at hSw); obtain ⟨hS1, hS2⟩ := hSw; have rlt := (Array.getElem?_eq_some_iff.1 hS1).1; have blt := (Array.getElem?_eq_some_iff.1 hS2).1; have r0 := (cells_of hS1 0).1; have r1 := (cells_of hS1 1).1; have j0 := (cells_of hS2 0).1; have j1 := (cells_of hS2 1).1; clear hS1 hS2; simp only [List.getElem?_toArray, List.getElem?_cons_zero, List.getElem?_cons_succ] at r0 r1 j0 j1; go_simp; first | done | (with_reducible rfl)
        try simp only [Act.put, List.getElem_toArray, List.getElem_cons_zero, List.getElem_cons_succ, List.setIfInBounds_toArray, List.set_cons_zero, List.set_cons_succ]
        refine wpAnyH_take (i := 3) (oi := _) (v := ?_) rfl (by kernel_rfl) (by kernel_rfl) (by kernel_rfl) (fun _ _ _ h => h) (Or.inl ⟨by rfl, ?_⟩) (by assumption) ?_
        case refine_2 => intro w hSw; (try dsimp only at hSw); obtain ⟨hS1, hS2⟩ := hSw; have rlt := (Array.getElem?_eq_some_iff.1 hS1).1; have blt := (Array.getElem?_eq_some_iff.1 hS2).1; have r0 := (cells_of hS1 0).1; have r1 := (cells_of hS1 1).1; have j0 := (cells_of hS2 0).1; have j1 := (cells_of hS2 1).1; clear hS1 hS2; simp only [List.getElem?_toArray, List.getElem?_cons_zero, List.getElem?_cons_succ] at r0 r1 j0 j1; go_simp; first | done | (with_reducible rfl)
        try simp only [Act.put, List.getElem_toArray, List.getElem_cons_zero, List.getElem_cons_succ, List.setIfInBounds_toArray, List.set_cons_zero, List.set_cons_succ]
        refine wpAnyH_ready (rs := [4]) (by kernel_rfl) (by simp) ?_
        refine AllReadyH.cons rfl (fun K hK => ?_) AllReadyH.nil
        go_simp
        go_at_call 24
        refine (clone_any A n c b _ (HB.out.below (below_drw HX2.out 1)) HN.out (by omega)).mono ?_
        rintro e w3 ⟨A5, c5, rfl, ho, hb3⟩
        have HO := Lib.hid ho; have HB3 := Lib.hid (HX2.out.trans ((below_drw (Below.refl _ w2) 1).trans hb3 |>.mono HX2.out.size))
        have HC3 := Lib.hid (And.intro ((hb3.block w.heap.size (Array.getElem?_eq_some_iff.1 HC20.out).1).trans HC20.out) ((hb3.block (w.heap.size + 1) (Array.getElem?_eq_some_iff.1 HC21.out).1).trans HC21.out))
        have HS2 := Lib.hid hb3.size
        clear ho hb3
        refine hK.out _ _ HC3.out (fun hHeld => ?_)
        clear hK K
        try simp only [Act.put, List.getElem_toArray, List.getElem_cons_zero, List.getElem_cons_succ, List.setIfInBounds_toArray, List.set_cons_zero, List.set_cons_succ]
        refine wpAnyH_take (i := 5) (oi := _) (v := ?_) rfl (by kernel_rfl) (by kernel_rfl) (by kernel_rfl) (fun _ _ _ h => h) (Or.inl ⟨by rfl, ?_⟩) (by assumption) ?_
        case refine_2 => intro w hSw; (try dsimp only at hSw); obtain ⟨hS1, hS2⟩ := hSw; have rlt := (Array.getElem?_eq_some_iff.1 hS1).1; have blt := (Array.getElem?_eq_some_iff.1 hS2).1; have r0 := (cells_of hS1 0).1; have r1 := (cells_of hS1 1).1; have j0 := (cells_of hS2 0).1; have j1 := (cells_of hS2 1).1; clear hS1 hS2; simp only [List.getElem?_toArray, List.getElem?_cons_zero, List.getElem?_cons_succ] at r0 r1 j0 j1; go_simp; first | done | (with_reducible rfl)
        try simp only [Act.put, List.getElem_toArray, List.getElem_cons_zero, List.getElem_cons_succ, List.setIfInBounds_toArray, List.set_cons_zero, List.set_cons_succ]
        refine wpAnyH_ready (rs := [6]) (by kernel_rfl) (by simp) ?_
        refine AllReadyH.cons rfl (fun K hK => ?_) AllReadyH.nil
        obtain ⟨m, hmd, hmv⟩ : ∃ m : Md, m.d = ⟨last + 1, f, t, b⟩ ∧ m.v = .slice A5 n c5 := ⟨⟨⟨last + 1, f, t, b⟩, A5, c5⟩, rfl, by show Value.slice A5 b.length c5 = _; rw [hbl]⟩
        have HMB : Hid (∀ g, m.v.ownBlock = some g → w.heap.size ≤ g) := Lib.hid (fun g hg => by rw [hmv] at hg; have := (HO.out.lt g hg).1; have h9 := HX2.out.size; simp at this; omega)
        have HMA : Hid (MdAt w3 m) := Lib.hid ⟨by rw [hmd, hmv]; show World.ownsRow _ 0 5 1 (.slice A5 n c5) b.length (B b); rw [hbl]; exact ⟨HO.out.1, HO.out.2.imp id (fun ⟨g, cap, cur, e1, e2, e3⟩ => ⟨g, cap, cur, e1, Nat.zero_le _, e3⟩)⟩, by rw [hmd]; exact HB.out.bd⟩
        have HADD := Lib.hid (add_n (H.out.below HB3.out) 0 m HMA.out (by rw [hmd]) h0 h1 hL)
        have HMD := Lib.hid hmd
        unfold sentC at HADD
        rw [hmd, hmv] at HADD
        clear hmd hmv
        go_simp
        go_at_call 23
        refine HADD.out.mono ?_
        intro e w4 hans
        have HANS := Lib.hid (SentR.of_put H.out HB3.out (fun g hg => .inl (HMB.out g hg)) (by rw [HMD.out]) hans)
        rw [HMD.out] at HANS
        dsimp only at HANS
        rw [← HK9.out, HR.out] at HANS
        have HC4 : Hid (w4.heap[w.heap.size]? = some (.cells #[.int .u32 f.1, .int .i64 f.2] 33 (0, 0)) ∧ w4.heap[w.heap.size + 1]? = some (.cells #[.int .u32 t.1, .int .i64 t.2] 33 (0, 0))) := Lib.hid (HKP.out _ _ _ _ _ _ hans HC3.out)
        have he : e = .returned (.tuple #[.int .i64 r1, .int .i64 r2]) := HANS.out.1
        subst he
        clear hans
        refine hK.out _ _ HC4.out (fun hHeld => ?_)
        clear hK K
        try simp only [Act.put, List.getElem_toArray, List.getElem_cons_zero, List.getElem_cons_succ, List.setIfInBounds_toArray, List.set_cons_zero, List.set_cons_succ]
        refine wpAnyH_take (i := 7) (oi := _) (v := ?_) rfl (by kernel_rfl) (by kernel_rfl) (by kernel_rfl) (fun _ _ _ h => h) (Or.inl ⟨by rfl, ?_⟩) (by assumption) ?_
        case refine_2 => intro w hSw; (try dsimp only at hSw); obtain ⟨hS1, hS2⟩ := hSw; have rlt := (Array.getElem?_eq_some_iff.1 hS1).1; have blt := (Array.getElem?_eq_some_iff.1 hS2).1; have r0 := (cells_of hS1 0).1; have r1 := (cells_of hS1 1).1; have j0 := (cells_of hS2 0).1; have j1 := (cells_of hS2 1).1; clear hS1 hS2; simp only [List.getElem?_toArray, List.getElem?_cons_zero, List.getElem?_cons_succ] at r0 r1 j0 j1; go_simp; first | done | (with_reducible rfl)
        try simp only [Act.put, List.getElem_toArray, List.getElem_cons_zero, List.getElem_cons_succ, List.setIfInBounds_toArray, List.set_cons_zero, List.set_cons_succ]
        refine wpAnyH_take (i := 8) (oi := _) (v := ?_) rfl (by kernel_rfl) (by kernel_rfl) (by kernel_rfl) (fun _ _ _ h => h) (Or.inl ⟨by rfl, ?_⟩) (by assumption) ?_
        case refine_2 => intro w hSw; (try dsimp only at hSw); obtain ⟨hS1, hS2⟩ := hSw; have rlt := (Array.getElem?_eq_some_iff.1 hS1).1; have blt := (Array.getElem?_eq_some_iff.1 hS2).1; have r0 := (cells_of hS1 0).1; have r1 := (cells_of hS1 1).1; have j0 := (cells_of hS2 0).1; have j1 := (cells_of hS2 1).1; clear hS1 hS2; simp only [List.getElem?_toArray, List.getElem?_cons_zero, List.getElem?_cons_succ] at r0 r1 j0 j1; go_simp; first | done | (with_reducible rfl)
        try simp only [Act.put, List.getElem_toArray, List.getElem_cons_zero, List.getElem_cons_succ, List.setIfInBounds_toArray, List.set_cons_zero, List.set_cons_succ]
        refine wpAnyH_take (i := 9) (oi := _) (v := ?_) rfl (by kernel_rfl) (by kernel_rfl) (by kernel_rfl) (fun _ _ _ h => h) (Or.inl ⟨by rfl, ?_⟩) (by assumption) ?_
        case refine_2 => intro w hSw; (try dsimp only at hSw); obtain ⟨hS1, hS2⟩ := hSw; have rlt := (Array.getElem?_eq_some_iff.1 hS1).1; have blt := (Array.getElem?_eq_some_iff.1 hS2).1; have r0 := (cells_of hS1 0).1; have r1 := (cells_of hS1 1).1; have j0 := (cells_of hS2 0).1; have j1 := (cells_of hS2 1).1; clear hS1 hS2; simp only [List.getElem?_toArray, List.getElem?_cons_zero, List.getElem?_cons_succ] at r0 r1 j0 j1; go_simp; first | done | (with_reducible rfl)
        try simp only [Act.put, List.getElem_toArray, List.getElem_cons_zero, List.getElem_cons_succ, List.setIfInBounds_toArray, List.set_cons_zero, List.set_cons_succ]
        refine wpAnyH_take (i := 10) (oi := _) (v := ?_) rfl (by kernel_rfl) (by kernel_rfl) (by kernel_rfl) (fun _ _ _ h => h) (Or.inl ⟨by rfl, ?_⟩) (by assumption) ?_
        case refine_2 => intro w hSw; (try dsimp only at hSw); obtain ⟨hS1, hS2⟩ := hSw; have rlt := (Array.getElem?_eq_some_iff.1 hS1).1; have blt := (Array.getElem?_eq_some_iff.1 hS2).1; have r0 := (cells_of hS1 0).1; have r1 := (cells_of hS1 1).1; have j0 := (cells_of hS2 0).1; have j1 := (cells_of hS2 1).1; clear hS1 hS2; simp only [List.getElem?_toArray, List.getElem?_cons_zero, List.getElem?_cons_succ] at r0 r1 j0 j1; go_simp; first | done | (with_reducible rfl)
        try simp only [Act.put, List.getElem_toArray, List.getElem_cons_zero, List.getElem_cons_succ, List.setIfInBounds_toArray, List.set_cons_zero, List.set_cons_succ]
        refine wpAnyH_done (by kernel_rfl) ?_ _
        go_wp2
        exact ⟨rfl, twoV (r1, r2), by simp [results, Try.results10, go_sem, twoV], HANS.out⟩
      · have hbz : ¬ (n : Int) ≤ 1200 := by omega
        have HV := Lib.hid HV2.out
        go_enter Try.func10, Try.ntmps10
        go_wp2_with fail
        refine (HMF.out _).mono ?_
        rintro e w1 ⟨rfl, hb1⟩
        have HB1 := Lib.hid hb1; clear hb1
        have HX1 := Lib.hid (HX.out.trans (HB1.out.mono HX.out.size))
        have HC10 := Lib.hid ((HB1.out.block w.heap.size (by simp; omega)).trans HC0.out)
        have HC11 := Lib.hid ((HB1.out.block (w.heap.size + 1) (by simp)).trans HC1.out)
        have p0 := (cells_of HC11.out 0).1; have p1 := (cells_of HC11.out 1).1
        simp at p0 p1
        go_wp2_with fail
        refine (HMT.out _).mono ?_
        rintro e w2 ⟨rfl, hb2⟩
        have HB2 := Lib.hid hb2; clear hb2
        have HX2 := Lib.hid (HX1.out.trans (HB2.out.mono HX1.out.size))
        have HC20 := Lib.hid ((HB2.out.block w.heap.size (Array.getElem?_eq_some_iff.1 HC10.out).1).trans HC10.out)
        have HC21 := Lib.hid ((HB2.out.block (w.heap.size + 1) (Array.getElem?_eq_some_iff.1 HC11.out).1).trans HC11.out)
        have HXX := Lib.hid HX2.out
        go_wp2
        exact ⟨rfl, twoV (0, 1), by simp [results, Try.results10, go_sem, twoV], by rw [← HR.out, HE0.out (0, 0) (by rintro ⟨h1, h2, h3⟩; first | omega | (rw [HV.out] at h1; cases h1) | (rw [HV.out] at h2; cases h2))]; exact sent_same H.out rfl HXX.out⟩
end
end Go.Proofs.Ythfdnidcmkjmoaa
