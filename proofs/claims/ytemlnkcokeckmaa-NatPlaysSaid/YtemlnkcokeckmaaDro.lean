/-
  The contract of nat's Drop. Conditions: the box lies in memory; at most 100 bindings.
-/
import Derived.Test.YtemlnkcokeckmaaPlb
namespace Go.Proofs.Ytemlnkcokeckmaa
open Go.RowKit
attribute [local go_sem] Oper.semAt_some
set_option linter.unusedVariables false

/-- the first of which it holds is struck -/
def dropM (M : List Bn) (a : A2) : List Bn := M.eraseP (askF a)
theorem filter_one {L : List Nd} (hs : L.Pairwise Apart) (o : Option Nd) (f : Nd → Bool) (ho : L.find? f = o) :
    L.filter (fun d => !decide (o.map Nd.p = some d.p)) = L.eraseP f := by
  subst ho
  induction L with
  | nil => rfl
  | cons d L ih =>
    obtain ⟨h1, h2⟩ := List.pairwise_cons.1 hs
    cases hf : f d with
    | true =>
      rw [List.find?_cons_of_pos hf, List.eraseP_cons_of_pos hf, List.filter_cons_of_neg (by simp)]
      rw [List.filter_eq_self]
      intro e he
      have := (h1 e he).1
      simp [this]
    | false =>
      have hn : ¬ f d = true := by simp [hf]
      rw [List.find?_cons_of_neg hn, List.eraseP_cons_of_neg hn, List.filter_cons_of_pos ?_]
      · rw [ih h2]
      · cases hx : L.find? f with
        | none => simp
        | some e =>
          have := (h1 e (List.mem_of_find?_eq_some hx)).1
          simp [Ne.symm this]
/-- what Drop leaves -/
def DropR (w : World) (nb : Nat) (x : Bx) (now : Int) (kv : Value) (L : List Nd) (t : Int) (a : A2) : Ending → World → Prop := fun e w' =>
  if goes now t = true then ∃ kv' L', e = .returned (.bool ((liveM (L.map Nd.b) t).any (askF a))) ∧ Mvd nb x kv L w t kv' L' w' ∧ L'.map Nd.b = dropM (liveM (L.map Nd.b) t) a
  else e = .returned (.bool false) ∧ Mvd nb x kv L w now kv L w'

set_option maxRecDepth 100000 in
set_option maxHeartbeats 8000000 in
theorem drop_any (nb : Nat) (x : Bx) (now : Int) (kv : Value) (L : List Nd) (t : Int) (a : A2) (w : World) (h : Na w nb x now kv L) (hL : OkL L) :
    Calls Try.prog 23 #[.pointer (some ⟨nb, 0, none⟩), .int .i64 t, adr a] w (DropR w nb x now kv L t a) := by
  have H := Lib.hid h; have HL := Lib.hid hL
  have hlt := h.lt
  clear h hL
  unfold adr
  go_enter Try.func23, Try.ntmps23
  go_wp2_with fail
  obtain ⟨V0, hV⟩ : ∃ V0, (w.alloc (.cells #[.int .u32 a.1, .int .i64 a.2] 38)) = V0 := ⟨_, rfl⟩
  rw [hV]
  have hvs : V0.heap.size = w.heap.size + 1 := by rw [← hV]; simp
  have HBV : Hid (Below w.heap.size w V0) := Lib.hid (by rw [← hV]; exact (Below.refl _ w).alloc (Nat.le_refl _) _)
  have HXS : Hid (V0.heap[w.heap.size]? = some (.cells #[.int .u32 a.1, .int .i64 a.2] 38 (0, 0))) := Lib.hid (by rw [← hV]; exact World.alloc_heap_new w _)
  clear hV
  have HM0 : Hid (Mvd nb x kv L w now kv L V0) := Lib.hid (Mvd.same H.out HBV.out)
  have HFT : Hid (∀ k, Foot nb kv L k → k < w.heap.size) := Lib.hid (fun k hk => H.out.foot_lt hk)
  have HBX : Hid (∀ nw kv1 L1 W, Mvd nb x kv L V0 nw kv1 L1 W → (W.cell? ⟨w.heap.size, 0, none⟩ = some (.int .u32 a.1) ∧ W.cell? ⟨w.heap.size, 1, none⟩ = some (.int .i64 a.2)) ∧ Mvd nb x kv L w nw kv1 L1 W) := Lib.hid (fun nw kv1 L1 W hm => by
    have h1 := (hm.keeps.block w.heap.size (by omega) (fun hf => by have := HFT.out _ hf; omega)).trans HXS.out
    exact ⟨⟨(cells_of h1 0).1, (cells_of h1 1).1⟩, HM0.out.trans hm⟩)
  have HG := Lib.hid (goesOn_any nb x now t kv L V0 (H.out.below HBV.out) (by have := HL.out.len; omega))
  have HNV := Lib.hid (H.out.below HBV.out)
  refine HG.out.mono ?_
  intro e w1 hw1
  obtain rfl := hw1.1
  cases hg : goes now t with
  | false =>
    have hm1 : Mvd nb x kv L V0 now kv L w1 := Mvd.same HNV.out (by have := hw1.2; rw [hg, if_neg (by simp)] at this; exact this)
    have HE := Lib.hid (HM0.out.trans hm1)
    have HGG := Lib.hid hg
    clear hm1 hw1 hg
    go_wp2
    go_ret
    unfold DropR
    rw [HGG.out, if_neg (by simp)]
    exact ⟨rfl, HE.out⟩
  | true =>
    obtain ⟨kv1, hm1⟩ := Mvd.went HNV.out hw1 hg
    have HL1 := Lib.hid (HL.out.live t)
    have HLM : Hid ((liveN L t).map Nd.b = liveM (L.map Nd.b) t) := Lib.hid (live_map L t)
    have HRES : Hid (∀ r kv' L' w', r = (liveM (L.map Nd.b) t).any (askF a) → Mvd nb x kv L w t kv' L' w' → L'.map Nd.b = dropM (liveM (L.map Nd.b) t) a → DropR w nb x now kv L t a (.returned (.bool r)) w') := Lib.hid (fun r kv' L' w' h1 h2 h3 => by
      unfold DropR
      rw [if_pos hg]
      exact ⟨kv', L', by rw [h1], h2, h3⟩)
    clear hw1 hg
    generalize liveN L t = L1 at *
    generalize liveM (L.map Nd.b) t = M1 at *
    have HM1 := Lib.hid hm1
    obtain ⟨⟨q0, q1⟩, -⟩ := HBX.out _ _ _ _ hm1
    have HASK := Lib.hid (asked_any nb x t kv1 L1 a w1 hm1.na (by have := HL1.out.len; omega))
    unfold adr at HASK
    clear hm1
    go_wp2_with fail
    refine HASK.out.mono ?_
    rintro e w2 ⟨rfl, hb2⟩
    have hm2 := HM1.out.trans (.same HM1.out.na hb2)
    have HM2 := Lib.hid hm2
    obtain ⟨o, ho⟩ : ∃ o, o = L1.find? (fun d => inF a d && d.b.asked) := ⟨_, rfl⟩
    rw [← ho]
    have HO := Lib.hid ho
    clear hb2 hm2 q0 q1 ho
    unfold ptrO
    have HNA : Hid (Na (w2.alloc (.cells #[.pointer (o.map fun d => ⟨d.p, 0, none⟩)] 93)) nb x t kv1 L1) := Lib.hid (HM2.out.na.below ((Below.refl _ w2).alloc (Nat.le_refl _) _))
    have HAL : Hid (Below w2.heap.size w2 (w2.alloc (.cells #[.pointer (o.map fun d => ⟨d.p, 0, none⟩)] 93))) := Lib.hid ((Below.refl _ w2).alloc (Nat.le_refl _) _)
    have HCC : Hid ((w2.alloc (.cells #[.pointer (o.map fun d => ⟨d.p, 0, none⟩)] 93)).cell? ⟨w2.heap.size, 0, none⟩ = some (.pointer ((o.map Nd.p).map fun k => ⟨k, 0, none⟩))) := Lib.hid (by
      rw [(cells_of (World.alloc_heap_new w2 _) 0).1, Option.map_map]; rfl)
    have HMEM : Hid (∀ k, o.map Nd.p = some k → ∃ d ∈ L1, d.p = k) := Lib.hid (fun k hk => by
      rw [HO.out] at hk
      obtain ⟨d, hd, rfl⟩ := Option.map_eq_some_iff.1 hk
      exact ⟨d, List.mem_of_find?_eq_some hd, rfl⟩)
    go_wp2_with fail
    have HNC : Hid (kv1.ownBlock ≠ some w2.heap.size) := Lib.hid (fun e => by have := HM2.out.na.foot_lt (.inr (.inl e)); omega)
    have HF := Lib.hid (forget41 w2.heap.size nb x t kv1 L1 (fun d => decide (o.map Nd.p = some d.p)) _ HNA.out (by have := HL1.out.len; omega) (isHad_tests (o.map Nd.p) HNA.out HCC.out HNC.out HMEM.out))
    have HFLT : Hid ((L1.filter (fun d => !decide (o.map Nd.p = some d.p))).map Nd.b = dropM M1 a) := Lib.hid (by
      rw [filter_one HM2.out.na.sep o (fun d => inF a d && d.b.asked) HO.out.symm, ← HLM.out]
      unfold dropM
      rw [List.eraseP_map]
      rfl)
    have HFT2 := Lib.hid (fun k (hk : Foot nb kv1 L1 k) => HM2.out.na.foot_lt hk)
    have HANY : Hid (o.isSome = M1.any (askF a)) := Lib.hid (by
      rw [HO.out, ← HLM.out, List.any_map, Bool.eq_iff_iff, List.find?_isSome, List.any_eq_true]
      rfl)
    have HCK : Hid (∀ W, Keeps (fun k => k = nb ∨ kv1.ownBlock = some k) (w2.alloc (.cells #[.pointer (o.map fun d => ⟨d.p, 0, none⟩)] 93)) W → W.cell? ⟨w2.heap.size, 0, none⟩ = some (.pointer (o.map fun d => ⟨d.p, 0, none⟩))) := Lib.hid (fun W hk => by
      have h1 := World.alloc_heap_new w2 (.cells #[.pointer (o.map fun d => ⟨d.p, 0, none⟩)] 93)
      have h2 := (hk.block w2.heap.size (Array.getElem?_eq_some_iff.1 h1).1 (fun hs => by
        rcases hs with e | e
        · have := HFT2.out w2.heap.size (.inl e); omega
        · exact HNC.out e)).trans h1
      exact (cells_of h2 0).1)
    refine HF.out.mono ?_
    rintro e w3 ⟨rfl, kv', hn, hob, hk⟩
    have c0 := HCK.out _ hk
    have hm3 : Mvd nb x kv1 L1 w2 t kv' (L1.filter (fun d => !decide (o.map Nd.p = some d.p))) w3 := by
      refine ⟨hn, fun k hf => .inl ?_, ?_⟩
      · rcases hf with rfl | e | ⟨d, hd, e⟩
        · exact .inl rfl
        · exact .inr (.inl (by rw [← hob]; exact e))
        · exact .inr (.inr ⟨d, (List.mem_filter.1 hd).1, e⟩)
      · exact (Keeps.all HAL.out).trans (hk.mono (fun k _ hk => hk.elim .inl (fun e => .inr (.inl e))))
    have HE := Lib.hid (HRES.out _ kv' _ w3 HANY.out (HBX.out _ _ _ _ (HM2.out.trans hm3)).2 HFLT.out)
    clear hn hob hk hm3 HF
    cases o with
    | none =>
      dsimp only [Option.map, Option.isSome] at *
      go_wp2
      go_ret
      exact HE.out
    | some d =>
      dsimp only [Option.map, Option.isSome] at *
      go_wp2
      go_ret
      exact HE.out
/-- what Drop answers and leaves, at any time -/
def dropS (now : Int) (M : List Bn) (t : Int) (a : A2) : Bool × Int × List Bn :=
  if goes now t = true then ((liveM M t).any (askF a), t, dropM (liveM M t) a) else (false, now, M)
theorem drop_pl {w0 V : World} {nb : Nat} {x : Bx} {now : Int} {M : List Bn} {os : List (Nat × Obj)} (h : Pl w0 nb x now M os V) (hM : OkM M) (t : Int) (a : A2) :
    Calls Try.prog 23 #[.pointer (some ⟨nb, 0, none⟩), .int .i64 t, adr a] V fun e V' => e = .returned (.bool (dropS now M t a).1) ∧ Pl w0 nb x (dropS now M t a).2.1 (dropS now M t a).2.2 os V' := by
  obtain ⟨kv, L, h1, h2, h3, h4⟩ := h.bo
  subst h2
  refine (drop_any nb x now kv L t a V h1 hM.ofL).mono fun e V' hr => ?_
  unfold DropR at hr
  unfold dropS
  by_cases hg : goes now t = true
  · rw [if_pos hg] at hr ⊢
    obtain ⟨kv', L', g1, g2, g3⟩ := hr
    refine ⟨g1, ⟨kv', L', g2.na, g3, fun k hk => (g2.foot k hk).elim (h3 k) (fun e => Nat.le_trans h.low.size e), fun p hp hf => ?_⟩, fun p hp => ?_, h.low.trans (g2.keeps.below h3 h.low.size)⟩
    · exact (g2.foot _ hf).elim (h4 p hp) (fun e => by have := h.lt hp; omega)
    · exact (g2.keeps.block _ (h.lt hp) (h4 p hp)).trans (h.held p hp)
  · rw [if_neg hg] at hr ⊢
    obtain ⟨g1, g2⟩ := hr
    refine ⟨g1, ⟨kv, L, g2.na, rfl, fun k hk => (g2.foot k hk).elim (h3 k) (fun e => Nat.le_trans h.low.size e), fun p hp hf => ?_⟩, fun p hp => ?_, h.low.trans (g2.keeps.below h3 h.low.size)⟩
    · exact (g2.foot _ hf).elim (h4 p hp) (fun e => by have := h.lt hp; omega)
    · exact (g2.keeps.block _ (h.lt hp) (h4 p hp)).trans (h.held p hp)
end Go.Proofs.Ytemlnkcokeckmaa
