/-
  The contract of nat's Out. Conditions: the box may be made so, and lies in memory; at most 100 bindings, each with at most sixteen seen ones.
-/
import Derived.Test.YtidhdgcmagpkgaaMvd
import Derived.Test.YtidhdgcmagpkgaaSew
import Derived.Test.YtidhdgcmagpkgaaTil
import Derived.Deep.QuietTactic
import Derived.BigQuiet
namespace Go.Proofs.Ytidhdgcmagpkgaa
open Go.RowKit
attribute [local go_sem] Oper.semAt_some
set_option linter.unusedVariables false

/-- the three boxes of Out: whose, towards whom, the answer -/
structure Bxs (B : Nat) (a b : A2) (W : World) : Prop where
  c0 : W.heap[B]? = some (.cells #[.int .u32 a.1, .int .i64 a.2] 36 (0, 0))
  c1 : W.heap[B + 1]? = some (.cells #[.int .u32 b.1, .int .i64 b.2] 36 (0, 0))
  c2 : W.heap[B + 2]? = some (.cells #[.int .u32 0, .int .i64 0] 36 (0, 0))
theorem Bxs.keeps {B : Nat} {a b : A2} {W W' : World} {S : Nat → Prop} (h : Bxs B a b W) (k : Keeps S W W') (hs : ∀ i, S i → i < B) : Bxs B a b W' := by
  have hl := fun i (hi : i < W.heap.size) (hb : B ≤ i) => k.block i hi (fun e => by have := hs i e; omega)
  have l0 := (Array.getElem?_eq_some_iff.1 h.c0).1
  have l1 := (Array.getElem?_eq_some_iff.1 h.c1).1
  have l2 := (Array.getElem?_eq_some_iff.1 h.c2).1
  exact ⟨(hl _ l0 (Nat.le_refl _)).trans h.c0, (hl _ l1 (by omega)).trans h.c1, (hl _ l2 (by omega)).trans h.c2⟩
theorem Bxs.cells {B : Nat} {a b : A2} {W : World} (h : Bxs B a b W) : W.cell? ⟨B, 0, none⟩ = some (.int .u32 a.1) ∧ W.cell? ⟨B, 1, none⟩ = some (.int .i64 a.2) ∧ W.cell? ⟨B + 1, 0, none⟩ = some (.int .u32 b.1) ∧ W.cell? ⟨B + 1, 1, none⟩ = some (.int .i64 b.2) ∧ W.cell? ⟨B + 2, 0, none⟩ = some (.int .u32 0) ∧ W.cell? ⟨B + 2, 1, none⟩ = some (.int .i64 0) ∧ W.frozen? ⟨B + 2, 0, none⟩ = false ∧ W.frozen? ⟨B + 2, 1, none⟩ = false :=
  ⟨(cells_of h.c0 0).1, (cells_of h.c0 1).1, (cells_of h.c1 0).1, (cells_of h.c1 1).1, (cells_of h.c2 0).1, (cells_of h.c2 1).1, (cells_of h.c2 0).2, (cells_of h.c2 1).2⟩
section
variable {nb B : Nat} {x : Bx} {kv kv1 : Value} {L L1 : List Nd} {w w1 w2 : World} {now1 : Int}
/-- a box of the call's own is turned -/
theorem Mvd.fresh (h : Mvd nb x kv L w now1 kv1 L1 w1) (k : Keeps (fun k => k = B) w1 w2) (hB : w.heap.size ≤ B) (hf : ¬ Foot nb kv1 L1 B) : Mvd nb x kv L w now1 kv1 L1 w2 :=
  ⟨h.na.keeps k (fun i hi e => hf (e ▸ hi)), h.foot, h.keeps.then k (fun i hi e => by omega)⟩
theorem set_until {d : Nd} {v : Int} (h : NdAt w d) : NdAt (w.setCell ⟨d.p, 5, none⟩ (.int .i64 v)) { d with b := { d.b with until_ := v } } := by
  refine ⟨heap_setCell_same w d.p 5 _ 75 _ h.own, own_at h.row (fun g hg => heap_setCell_other w ⟨d.p, 5, none⟩ g _ (fun e => ?_))⟩
  have e2 : g = d.p := e
  obtain ⟨C, hC⟩ := own_obj h.row hg
  rw [e2] at hC
  exact clash h.own hC (by decide)
end
/-- a box that may be made so, as numbers -/
structure OkB (x : Bx) : Prop where
  lo : 1 ≤ x.lo
  lh : x.lo ≤ x.hi
  hi : x.hi ≤ 65535
  life0 : 1 ≤ x.life
  life1 : x.life ≤ 1099511627776
/-- bindings that a box may hold -/
structure OkL (L : List Nd) : Prop where
  len : L.length ≤ 100
  seen : ∀ d ∈ L, d.b.seen.length ≤ 16
theorem OkL.live {L : List Nd} (h : OkL L) (t : Int) : OkL (liveN L t) := ⟨Nat.le_trans (List.length_filter_le _ _) h.len, fun d hd => h.seen d (List.mem_filter.1 hd).1⟩
/-- what Out leaves -/
def OutR (w : World) (nb : Nat) (x : Bx) (now : Int) (kv : Value) (L : List Nd) (t : Int) (a b : A2) : Ending → World → Prop := fun e w' =>
  if goes now t = true then ∃ kv' L', e = .returned (ansA (outM x (liveM (L.map Nd.b) t) t a b).1 (outM x (liveM (L.map Nd.b) t) t a b).2.1) ∧ Mvd nb x kv L w t kv' L' w' ∧ L'.map Nd.b = (outM x (liveM (L.map Nd.b) t) t a b).2.2
  else e = .returned (ansA (0, 0) 1) ∧ Mvd nb x kv L w now kv L w'

set_option maxRecDepth 100000 in
set_option maxHeartbeats 8000000 in
theorem out_any (nb : Nat) (x : Bx) (now : Int) (kv : Value) (L : List Nd) (t : Int) (a b : A2) (w : World) (h : Na w nb x now kv L) (hx : OkB x) (hL : OkL L) (ha : isA a) (hb : isA b) (h0 : 0 ≤ now) :
    Calls Try.prog 31 #[.pointer (some ⟨nb, 0, none⟩), .int .i64 t, adr a, adr b] w (OutR w nb x now kv L t a b) := by
  have H := Lib.hid h; have HX := Lib.hid hx; have HL := Lib.hid hL; have HA := Lib.hid ha; have HB := Lib.hid hb
  have hlt := h.lt
  clear h hx hL ha hb
  unfold adr
  go_enter Try.func31, Try.ntmps31
  go_wp2_with fail
  obtain ⟨V0, hV⟩ : ∃ V0, (((w.alloc (.cells #[.int .u32 a.1, .int .i64 a.2] 36)).alloc (.cells #[.int .u32 b.1, .int .i64 b.2] 36)).alloc (.cells #[.int .u32 0, .int .i64 0] 36)) = V0 := ⟨_, rfl⟩
  rw [hV]
  have hvs : V0.heap.size = w.heap.size + 3 := by rw [← hV]; simp
  have HBV : Hid (Below w.heap.size w V0) := Lib.hid (by rw [← hV]; exact (((Below.refl _ w).alloc (Nat.le_refl _) _).alloc (by simp) _).alloc (by simp; omega) _)
  have HXS : Hid (Bxs w.heap.size a b V0) := Lib.hid (by
    rw [← hV]
    refine ⟨?_, ?_, ?_⟩
    · exact (Below.heap_alloc _ _ _ (by simp; omega)).trans ((Below.heap_alloc _ _ _ (by simp)).trans (World.alloc_heap_new w _))
    · have := World.alloc_heap_new (w.alloc (.cells #[.int .u32 a.1, .int .i64 a.2] 36)) (.cells #[.int .u32 b.1, .int .i64 b.2] 36)
      rw [World.size_alloc] at this
      exact (Below.heap_alloc _ _ _ (by simp)).trans this
    · have := World.alloc_heap_new ((w.alloc (.cells #[.int .u32 a.1, .int .i64 a.2] 36)).alloc (.cells #[.int .u32 b.1, .int .i64 b.2] 36)) (.cells #[.int .u32 0, .int .i64 0] 36)
      rwa [World.size_alloc, World.size_alloc] at this)
  clear hV
  have HM0 : Hid (Mvd nb x kv L w now kv L V0) := Lib.hid (Mvd.same H.out HBV.out)
  have HFT : Hid (∀ k, Foot nb kv L k → k < w.heap.size) := Lib.hid (fun k hk => H.out.foot_lt hk)
  -- a moved box keeps the boxes
  have HBX : Hid (∀ nw kv1 L1 W, Mvd nb x kv L V0 nw kv1 L1 W → Bxs w.heap.size a b W ∧ ¬ Foot nb kv1 L1 (w.heap.size + 2) ∧ Mvd nb x kv L w nw kv1 L1 W) := Lib.hid (fun nw kv1 L1 W hm => ⟨HXS.out.keeps hm.keeps (fun i hi => HFT.out i hi), fun hf => (hm.foot _ hf).elim (fun e => by have := HFT.out _ e; omega) (fun e => by omega), HM0.out.trans hm⟩)
  have HEND : Hid (∀ nw kv1 L1 W u v, Mvd nb x kv L V0 nw kv1 L1 W → Mvd nb x kv L w nw kv1 L1 ((W.setCell ⟨w.heap.size + 2, 0, none⟩ u).setCell ⟨w.heap.size + 2, 1, none⟩ v) ∧ ((W.setCell ⟨w.heap.size + 2, 0, none⟩ u).setCell ⟨w.heap.size + 2, 1, none⟩ v).heap[w.heap.size + 2]? = some (.cells #[u, v] 36 (0, 0))) := Lib.hid (fun nw kv1 L1 W u v hm => by
    obtain ⟨h1, h2, h3⟩ := HBX.out _ _ _ _ hm
    exact ⟨h3.fresh (B := w.heap.size + 2) (Keeps.set (S := fun k => k = w.heap.size + 2) (Keeps.set (S := fun k => k = w.heap.size + 2) (Keeps.refl _ _) _ 0 u rfl) _ 1 v rfl) (by omega) h2, heap_setCell_same _ _ 1 _ 36 v (heap_setCell_same _ _ 0 _ 36 u h1.c2)⟩)
  have HG := Lib.hid (goesOn_any nb x now t kv L V0 (H.out.below HBV.out) (by have := HL.out.len; omega))
  have HNV := Lib.hid (H.out.below HBV.out)
  refine HG.out.mono ?_
  intro e w1 hw1
  obtain rfl := hw1.1
  cases hg : goes now t with
  | false =>
    have hm1 : Mvd nb x kv L V0 now kv L w1 := Mvd.same HNV.out (by have := hw1.2; rw [hg, if_neg (by simp)] at this; exact this)
    have hE := HEND.out _ _ _ w1 (.int .u32 0) (.int .i64 0) hm1
    obtain ⟨-, -, -, -, q4, q5, q6, q7⟩ := (HBX.out _ _ _ _ hm1).1.cells
    have e0 := (cells_of hE.2 0).1
    have e1 := (cells_of hE.2 1).1
    have HE := Lib.hid hE
    have HGG := Lib.hid hg
    clear hE hm1 hw1 hg
    go_wp2
    refine ⟨rfl, ansA (0, 0) 1, by simp [results, Try.results31, go_sem, ansA, adr, e0, e1], ?_⟩
    unfold OutR
    rw [HGG.out, if_neg (by simp)]
    exact ⟨rfl, HE.out.1⟩
  | true =>
    obtain ⟨kv1, hm1⟩ := Mvd.went HNV.out hw1 hg
    have HL1 := Lib.hid (HL.out.live t)
    have HLM : Hid ((liveN L t).map Nd.b = liveM (L.map Nd.b) t) := Lib.hid (live_map L t)
    have ht0 : 0 ≤ t ∧ t ≤ 1099511627776 := by
      unfold goes at hg
      simp only [Bool.and_eq_true, decide_eq_true_eq] at hg
      omega
    have HRES : Hid (∀ kv' L' w' r, outM x (liveM (L.map Nd.b) t) t a b = r → Mvd nb x kv L w t kv' L' w' → L'.map Nd.b = r.2.2 → OutR w nb x now kv L t a b (.returned (ansA r.1 r.2.1)) w') := Lib.hid (fun kv' L' w' r hr hm hl => by
      unfold OutR
      rw [if_pos hg]
      exact ⟨kv', L', by rw [hr], hm, by rw [hr]; exact hl⟩)
    clear hw1 hg
    generalize liveN L t = L1 at *
    generalize liveM (L.map Nd.b) t = M1 at *
    have HM1 := Lib.hid hm1
    obtain ⟨q0, q1, q2, q3, q4, q5, q6, q7⟩ := (HBX.out _ _ _ _ hm1).1.cells
    have HMA := Lib.hid (fun W => may_any a W HA.out)
    have HMB := Lib.hid (fun W => may_any b W HB.out)
    unfold adr at HMA HMB
    have HARG : Hid (¬ (mayA a = true ∧ mayA b = true) → outM x M1 t a b = ((0, 0), 1, M1)) := Lib.hid (fun hn => by unfold outM; rw [if_neg hn])
    clear hm1
    cases hma : mayA a with
    | false =>
      rw [hma] at HMA
      have HAR := Lib.hid (HARG.out (by simp [hma]))
      clear hma
      go_wp2_with fail
      refine (HMA.out _).mono ?_
      rintro e w2 ⟨rfl, hb2⟩
      have hm2 := HM1.out.trans (.same HM1.out.na hb2)
      have hE := HEND.out _ _ _ w2 (.int .u32 0) (.int .i64 0) hm2
      obtain ⟨-, -, -, -, r4, r5, r6, r7⟩ := (HBX.out _ _ _ _ hm2).1.cells
      have e0 := (cells_of hE.2 0).1
      have e1 := (cells_of hE.2 1).1
      have HE := Lib.hid hE
      clear hE hm2 hb2 q4 q5 q6 q7
      go_wp2
      exact ⟨rfl, ansA (0, 0) 1, by simp [results, Try.results31, go_sem, ansA, adr, e0, e1], HRES.out _ _ _ _ HAR.out HE.out.1 HLM.out⟩
    | true =>
      rw [hma] at HMA
      go_wp2_with fail
      refine (HMA.out _).mono ?_
      rintro e w2 ⟨rfl, hb2⟩
      have hm2 := HM1.out.trans (.same HM1.out.na hb2)
      have HM2 := Lib.hid hm2
      obtain ⟨r0, r1, r2, r3, r4, r5, r6, r7⟩ := (HBX.out _ _ _ _ hm2).1.cells
      clear q0 q1 q2 q3 q4 q5 q6 q7 hb2 hm2
      go_wp2_with fail
      refine (HMB.out _).mono ?_
      rintro e w3 ⟨rfl, hb3⟩
      have hm3 := HM2.out.trans (.same HM2.out.na hb3)
      have HM3 := Lib.hid hm3
      obtain ⟨q0, q1, q2, q3, q4, q5, q6, q7⟩ := (HBX.out _ _ _ _ hm3).1.cells
      clear r0 r1 r2 r3 r4 r5 r6 r7 hb3 hm3
      cases hmb : mayA b with
      | false =>
        have HAR := Lib.hid (HARG.out (by simp [hmb]))
        clear hma hmb
        have hE := HEND.out _ _ _ w3 (.int .u32 0) (.int .i64 0) HM3.out
        have e0 := (cells_of hE.2 0).1
        have e1 := (cells_of hE.2 1).1
        have HE := Lib.hid hE
        clear hE
        go_wp2
        exact ⟨rfl, ansA (0, 0) 1, by simp [results, Try.results31, go_sem, ansA, adr, e0, e1], HRES.out _ _ _ _ HAR.out HE.out.1 HLM.out⟩
      | true =>
        have HMAB := Lib.hid (And.intro hma hmb)
        clear hma hmb
        have HWAY := Lib.hid (way_any nb x t kv1 L1 a b w3 HM3.out.na (by have := HL1.out.len; omega))
        unfold adr at HWAY
        go_wp2_with fail
        refine HWAY.out.mono ?_
        rintro e w4 ⟨rfl, hb4⟩
        have hm4 := HM3.out.trans (.same HM3.out.na hb4)
        have HM4 := Lib.hid hm4
        obtain ⟨r0, r1, r2, r3, r4, r5, r6, r7⟩ := (HBX.out _ _ _ _ hm4).1.cells
        clear q0 q1 q2 q3 q4 q5 q6 q7 hb4 hm4
        cases hf : wayN x L1 a b with
        | some d =>
          rw [wayN_eq] at hf
          obtain ⟨hfd, ls, rs, rfl, hfl⟩ := List.find?_eq_some_iff_append.1 hf
          have hfl2 : ∀ c ∈ ls, wayF x M1 a b c.b = false := fun c hc => by have := hfl c hc; rw [HLM.out] at this; simpa using this
          rw [HLM.out] at hfd
          have hseen := HL1.out.seen d (by simp)
          have HFIN : Hid (∀ sv', outM x M1 t a b = ((x.host, d.b.port), 0, (ls ++ (⟨d.p, sentB x t b d.b, sv'⟩ : Nd) :: rs).map Nd.b)) := Lib.hid (fun sv' => by
            unfold outM
            rw [if_pos HMAB.out]
            have hM : M1 = ls.map Nd.b ++ d.b :: rs.map Nd.b := by rw [← HLM.out]; simp
            have h1 : M1.find? (wayF x M1 a b) = some d.b := by
              conv => lhs; arg 2; rw [hM]
              rw [List.find?_append, List.find?_cons_of_pos hfd]
              have : (ls.map Nd.b).find? (wayF x M1 a b) = none := by
                rw [List.find?_eq_none]
                intro c hc
                obtain ⟨e, he, rfl⟩ := List.mem_map.1 hc
                simp [hfl2 e he]
              rw [this]; rfl
            have h2 : updF (wayF x M1 a b) (sentB x t b) M1 = (ls ++ (⟨d.p, sentB x t b d.b, sv'⟩ : Nd) :: rs).map Nd.b := by
              conv => lhs; arg 3; rw [hM]
              rw [updF_at (fun c hc => by obtain ⟨e, he, rfl⟩ := List.mem_map.1 hc; exact hfl2 e he) hfd]
              simp
            rw [h1]
            simp only [h2])
          clear hf hfl hfl2 hfd
          unfold ptrO
          dsimp only [Option.map]
          cases hask : d.b.asked with
          | true =>
            have hdd : d ∈ ls ++ d :: rs := by simp
            have c6 := (HM4.out.na.nds _ hdd).cells.1.2.2.2.2.2.2
            rw [hask] at c6
            have HSB : Hid (sentB x t b d.b = { d.b with until_ := d.b.until_, seen := seeL d.b.seen b }) := Lib.hid (by unfold sentB; rw [if_pos hask])
            have hdm : d ∈ ls ++ d :: rs := by simp
            have HSEE := Lib.hid (see_any d b _ (HM4.out.na.nds _ hdm) hseen)
            unfold ptr adr at HSEE
            try dsimp only at HSEE
            go_wp2_with fail
            refine HSEE.out.mono ?_
            rintro e w6 ⟨rfl, sv6, s1, s2, s3⟩
            have hm6 := HM4.out.trans (Mvd.turn (d' := ⟨d.p, { d.b with seen := seeL d.b.seen b }, sv6⟩) HM4.out.na rfl s1 s2 s3)
            have g0 := hm6.na.cells.1.1
            have g4 := s1.cells.1.2.2.2.2.1
            obtain ⟨p0, p1, p2, p3, p4, p5, p6, p7⟩ := (HBX.out _ _ _ _ hm6).1.cells
            have hE := HEND.out _ _ _ _ (.int .u32 x.host) (.int .i64 d.b.port) hm6
            have hE2 := hE.1.trans (.same hE.1.na (below_drw (Below.refl _ _) 1))
            have e0 := (cells_of (heap_setCell_same w6 (w.heap.size + 2) 0 _ 36 (.int .u32 x.host) (HBX.out _ _ _ _ hm6).1.c2) 0).1
            have e1 := (cells_of hE.2 1).1
            have HE : Hid (OutR w nb x now kv L t a b (.returned (ansA (x.host, d.b.port) 0)) (((w6.setCell ⟨w.heap.size + 2, 0, none⟩ (.int .u32 x.host)).setCell ⟨w.heap.size + 2, 1, none⟩ (.int .i64 d.b.port)).drewN 1)) := Lib.hid (HRES.out _ _ _ _ (HFIN.out sv6) hE2 (by simp only [List.map_append, List.map_cons]; rw [← HSB.out]))
            have hn6 := hm6.na.lt
            have hd6 := s1.lt
            have hz6 : w.heap.size + 2 < w6.heap.size := (Array.getElem?_eq_some_iff.1 (HBX.out _ _ _ _ hm6).1.c2).1
            clear s1 s2 s3 hm6 hE hE2 r0 r1 r2 r3 r4 r5 r6 r7
            go_wp2
            go_region
            all_goals
              go_wp2
              exact ⟨rfl, ansA (x.host, d.b.port) 0, by simp [results, Try.results31, go_sem, ansA, adr, e0, e1], HE.out⟩
          | false =>
            have hdd : d ∈ ls ++ d :: rs := by simp
            have c6 := (HM4.out.na.nds _ hdd).cells.1.2.2.2.2.2.2
            have c5 := (HM4.out.na.nds _ hdd).cells.1.2.2.2.2.2.1
            have f5 := (HM4.out.na.nds _ hdd).cells.2.2 5
            have n5 := HM4.out.na.cells.1.2.2.2.2.2.1
            rw [hask] at c6
            have hl0 := HX.out.life0
            have hl1 := HX.out.life1
            have hMU : ∀ v : Int, Mvd nb x kv L V0 t kv1 (ls ++ ({ d with b := { d.b with until_ := v } } : Nd) :: rs) (w4.setCell ⟨d.p, 5, none⟩ (.int .i64 v)) := fun v => HM4.out.trans (Mvd.turn (d' := { d with b := { d.b with until_ := v } }) HM4.out.na rfl (set_until (HM4.out.na.nds _ hdd)) (fun g hg => .inl hg) (Keeps.set (Keeps.refl _ _) d.p 5 _ (.inl rfl)))
            have HMU := Lib.hid hMU
            clear hMU
            have hdp : d.p < w4.heap.size := (HM4.out.na.nds _ hdd).lt
            have HSB : Hid (sentB x t b d.b = { d.b with until_ := min (t + x.life) 1099511627776, seen := seeL d.b.seen b }) := Lib.hid (by unfold sentB; rw [if_neg (by rw [hask]; simp)])
            have HMV2 := Lib.hid (HMU.out (min (t + x.life) 1099511627776))
            clear HMU
            obtain ⟨p0, p1, p2, p3, p4, p5, p6, p7⟩ := (HBX.out _ _ _ _ HMV2.out).1.cells

            have hdm : ({ d with b := { d.b with until_ := min (t + x.life) 1099511627776 } } : Nd) ∈ ls ++ ({ d with b := { d.b with until_ := min (t + x.life) 1099511627776 } } : Nd) :: rs := by simp
            have HSEE := Lib.hid (see_any ({ d with b := { d.b with until_ := min (t + x.life) 1099511627776 } } : Nd) b (w4.setCell ⟨d.p, 5, none⟩ (.int .i64 (min (t + x.life) 1099511627776))) (HMV2.out.na.nds _ hdm) hseen)
            unfold ptr adr at HSEE
            try dsimp only at HSEE
            go_wp2_with fail
            refine HSEE.out.mono ?_
            rintro e w6 ⟨rfl, sv6, s1, s2, s3⟩
            have hm6 := HMV2.out.trans (Mvd.turn (d' := ⟨({ d with b := { d.b with until_ := min (t + x.life) 1099511627776 } } : Nd).p, { ({ d with b := { d.b with until_ := min (t + x.life) 1099511627776 } } : Nd).b with seen := seeL ({ d with b := { d.b with until_ := min (t + x.life) 1099511627776 } } : Nd).b.seen b }, sv6⟩) HMV2.out.na rfl s1 s2 s3)
            have g0 := hm6.na.cells.1.1
            have g4 := s1.cells.1.2.2.2.2.1
            clear p0 p1 p2 p3 p4 p5 p6 p7
            obtain ⟨p0, p1, p2, p3, p4, p5, p6, p7⟩ := (HBX.out _ _ _ _ hm6).1.cells
            have hE := HEND.out _ _ _ _ (.int .u32 x.host) (.int .i64 d.b.port) hm6
            have hE2 := hE.1.trans (.same hE.1.na (below_drw (Below.refl _ _) 1))
            have e0 := (cells_of (heap_setCell_same w6 (w.heap.size + 2) 0 _ 36 (.int .u32 x.host) (HBX.out _ _ _ _ hm6).1.c2) 0).1
            have e1 := (cells_of hE.2 1).1
            have HE : Hid (OutR w nb x now kv L t a b (.returned (ansA (x.host, d.b.port) 0)) (((w6.setCell ⟨w.heap.size + 2, 0, none⟩ (.int .u32 x.host)).setCell ⟨w.heap.size + 2, 1, none⟩ (.int .i64 d.b.port)).drewN 1)) := Lib.hid (HRES.out _ _ _ _ (HFIN.out sv6) hE2 (by simp only [List.map_append, List.map_cons]; rw [← HSB.out]))
            have hn6 := hm6.na.lt
            have hd6 := s1.lt
            have hz6 : w.heap.size + 2 < w6.heap.size := (Array.getElem?_eq_some_iff.1 (HBX.out _ _ _ _ hm6).1.c2).1
            clear s1 s2 s3 hm6 hE hE2 r0 r1 r2 r3 r4 r5 r6 r7
            go_wp2
            go_region
            all_goals
              go_wp2
              exact ⟨rfl, ansA (x.host, d.b.port) 0, by simp [results, Try.results31, go_sem, ansA, adr, e0, e1], HE.out⟩
        | none =>
          have hwn : M1.find? (wayF x M1 a b) = none := by
            rw [wayN_eq, HLM.out, List.find?_eq_none] at hf
            rw [List.find?_eq_none]
            intro c hc
            rw [← HLM.out] at hc
            obtain ⟨e, he, rfl⟩ := List.mem_map.1 hc
            exact hf e he
          have HFULL : Hid (addM x M1 a.2 = none → outM x M1 t a b = ((0, 0), 10, M1)) := Lib.hid (fun h => by unfold outM; rw [if_pos HMAB.out, hwn]; simp only [h])
          have HNEW : Hid (∀ p, addM x M1 a.2 = some p → outM x M1 t a b = ((x.host, p), 0, M1 ++ [sentB x t b (newB x a b p)])) := Lib.hid (fun p h => by unfold outM; rw [if_pos HMAB.out, hwn]; simp only [h])
          have HPART := Lib.hid (fun W => part_any b x.map W)
          unfold adr at HPART
          have HADD : Hid (∀ W, Mvd nb x kv L V0 t kv1 L1 W → Calls Try.prog 41 #[.pointer (some ⟨nb, 0, none⟩), .agg #[.int .u32 a.1, .int .i64 a.2, .int .u32 (partA b x.map).1, .int .i64 (partA b x.map).2, .int .i64 0, .int .i64 0, .bool false], .int .i64 a.2] W (Added W nb x t kv1 L1 (newB x a b 0) a.2)) := Lib.hid (fun W hm => add_any nb x t kv1 L1 (newB x a b 0) a.2 W hm.na (by have := HL1.out.len; omega) HX.out.lo HX.out.lh HX.out.hi rfl)
          have HSS : Hid (∀ W, Mvd nb x kv L V0 t kv1 L1 W → (W.cell? ⟨w.heap.size, 0, none⟩ = some (.int .u32 a.1) ∧ W.cell? ⟨w.heap.size, 1, none⟩ = some (.int .i64 a.2) ∧ W.cell? ⟨w.heap.size + 1, 0, none⟩ = some (.int .u32 b.1) ∧ W.cell? ⟨w.heap.size + 1, 1, none⟩ = some (.int .i64 b.2) ∧ W.cell? ⟨nb, 3, none⟩ = some (.int .i64 x.map) ∧ Mvd nb x kv L V0 t kv1 L1 W)) := Lib.hid (fun W hm => by
            obtain ⟨k0, k1, k2, k3, -⟩ := (HBX.out _ _ _ _ hm).1.cells
            exact ⟨k0, k1, k2, k3, hm.na.cells.1.2.2.2.1, hm⟩)
          clear hf hwn
          unfold ptrO
          dsimp only [Option.map]
          cases hadd : addM x M1 a.2 with
          | none =>
            unfold Added at HADD
            rw [HLM.out, hadd] at HADD
            go_upto_region 5 with (fail)
            refine wp_region_till (S := (fun W => W.cell? ⟨w.heap.size, 0, none⟩ = some (.int .u32 a.1) ∧ W.cell? ⟨w.heap.size, 1, none⟩ = some (.int .i64 a.2) ∧ W.cell? ⟨w.heap.size + 1, 0, none⟩ = some (.int .u32 b.1) ∧ W.cell? ⟨w.heap.size + 1, 1, none⟩ = some (.int .i64 b.2) ∧ W.cell? ⟨nb, 3, none⟩ = some (.int .i64 x.map) ∧ Mvd nb x kv L V0 t kv1 L1 W)) (z := 12) (by kernel_rfl) (HSS.out _ (HM4.out.trans (.same HM4.out.na (below_drw (Below.refl _ w4) 1)))) (fun hHeld => ?_)
            refine till_take (i := 0) (oi := _) (v := ?_) [] rfl (by kernel_rfl) (by kernel_rfl) (by decide) (by kernel_rfl) (by kernel_rfl) (by kernel_rfl) (fun _ _ _ h => h) (Or.inl ⟨by rfl, ?_⟩) (by assumption) ?_
            case refine_2 => intro w hSw; (try dsimp only at hSw); go_simp; first | done | (with_reducible rfl)
            try simp only [Act.put, List.getElem_toArray, List.getElem_cons_zero, List.setIfInBounds_toArray, List.set_cons_zero, List.set_cons_succ]
            refine till_take (i := 1) (oi := _) (v := ?_) [9] rfl (by kernel_rfl) (by kernel_rfl) (by decide) (by kernel_rfl) (by kernel_rfl) (by kernel_rfl) (fun _ _ _ h => h) (Or.inl ⟨by rfl, ?_⟩) (by assumption) ?_
            case refine_2 => intro w hSw; (try dsimp only at hSw); go_simp; first | done | (with_reducible rfl)
            try simp only [Act.put, List.getElem_toArray, List.getElem_cons_zero, List.getElem_cons_succ, List.setIfInBounds_toArray, List.set_cons_zero, List.set_cons_succ]
            refine till_take (i := 2) (oi := _) (v := ?_) [8] rfl (by kernel_rfl) (by kernel_rfl) (by decide) (by kernel_rfl) (by kernel_rfl) (by kernel_rfl) (fun _ _ _ h => h) (Or.inl ⟨by rfl, ?_⟩) (by assumption) ?_
            case refine_2 => intro w hSw; (try dsimp only at hSw); go_simp; first | done | (with_reducible rfl)
            try simp only [Act.put, List.getElem_toArray, List.getElem_cons_zero, List.getElem_cons_succ, List.setIfInBounds_toArray, List.set_cons_zero, List.set_cons_succ]
            refine till_take (i := 3) (oi := _) (v := ?_) [8, 7, 6, 5, 4] rfl (by kernel_rfl) (by kernel_rfl) (by decide) (by kernel_rfl) (by kernel_rfl) (by kernel_rfl) (fun _ _ _ h => h) (Or.inl ⟨by rfl, ?_⟩) (by assumption) ?_
            case refine_2 => intro w hSw; (try dsimp only at hSw); go_simp; first | done | (with_reducible rfl)
            try simp only [Act.put, List.getElem_toArray, List.getElem_cons_zero, List.getElem_cons_succ, List.setIfInBounds_toArray, List.set_cons_zero, List.set_cons_succ]
            refine till_take (i := 4) (oi := _) (v := ?_) [8, 7, 6, 5] rfl (by kernel_rfl) (by kernel_rfl) (by decide) (by kernel_rfl) (by kernel_rfl) (by kernel_rfl) (fun _ _ _ h => h) (Or.inl ⟨by rfl, ?_⟩) (by assumption) ?_
            case refine_2 => intro w hSw; (try dsimp only at hSw); go_simp; first | done | (with_reducible rfl)
            try simp only [Act.put, List.getElem_toArray, List.getElem_cons_zero, List.getElem_cons_succ, List.setIfInBounds_toArray, List.set_cons_zero, List.set_cons_succ]
            refine till_take (i := 5) (oi := _) (v := ?_) [8, 7, 6] rfl (by kernel_rfl) (by kernel_rfl) (by decide) (by kernel_rfl) (by kernel_rfl) (by kernel_rfl) (fun _ _ _ h => h) (Or.inl ⟨by rfl, ?_⟩) (by assumption) ?_
            case refine_2 => intro w hSw; (try dsimp only at hSw); go_simp; first | done | (with_reducible rfl)
            try simp only [Act.put, List.getElem_toArray, List.getElem_cons_zero, List.getElem_cons_succ, List.setIfInBounds_toArray, List.set_cons_zero, List.set_cons_succ]
            refine till_take (i := 6) (oi := _) (v := ?_) [8, 7] rfl (by kernel_rfl) (by kernel_rfl) (by decide) (by kernel_rfl) (by kernel_rfl) (by kernel_rfl) (fun _ _ _ h => h) (Or.inl ⟨by rfl, ?_⟩) (by assumption) ?_
            case refine_2 => intro w hSw; (try dsimp only at hSw); go_simp; first | done | (with_reducible rfl)
            try simp only [Act.put, List.getElem_toArray, List.getElem_cons_zero, List.getElem_cons_succ, List.setIfInBounds_toArray, List.set_cons_zero, List.set_cons_succ]
            refine till_take (i := 7) (oi := _) (v := ?_) [8] rfl (by kernel_rfl) (by kernel_rfl) (by decide) (by kernel_rfl) (by kernel_rfl) (by kernel_rfl) (fun _ _ _ h => h) (Or.inl ⟨by rfl, ?_⟩) (by assumption) ?_
            case refine_2 => intro w hSw; (try dsimp only at hSw); go_simp; first | done | (with_reducible rfl)
            try simp only [Act.put, List.getElem_toArray, List.getElem_cons_zero, List.getElem_cons_succ, List.setIfInBounds_toArray, List.set_cons_zero, List.set_cons_succ]
            refine till_take (i := 10) (oi := _) (v := ?_) [11] rfl (by kernel_rfl) (by kernel_rfl) (by decide) (by kernel_rfl) (by kernel_rfl) (by kernel_rfl) (fun _ _ _ h => h) (Or.inl ⟨by rfl, ?_⟩) (by assumption) ?_
            case refine_2 => intro w hSw; (try dsimp only at hSw); go_simp; first | done | (with_reducible rfl)
            try simp only [Act.put, List.getElem_toArray, List.getElem_cons_zero, List.getElem_cons_succ, List.setIfInBounds_toArray, List.set_cons_zero, List.set_cons_succ]
            refine till_take (i := 11) (oi := _) (v := ?_) [] rfl (by kernel_rfl) (by kernel_rfl) (by decide) (by kernel_rfl) (by kernel_rfl) (by kernel_rfl) (fun _ _ _ h => h) (Or.inl ⟨by rfl, ?_⟩) (by assumption) ?_
            case refine_2 => intro w hSw; (try dsimp only at hSw); go_simp; first | done | (with_reducible rfl)
            try simp only [Act.put, List.getElem_toArray, List.getElem_cons_zero, List.getElem_cons_succ, List.setIfInBounds_toArray, List.set_cons_zero, List.set_cons_succ]
            refine till_ready (rs := [8]) (by kernel_rfl) (by simp) ?_
            refine TillReady.cons rfl (fun K hK => ?_) TillReady.nil
            go_simp
            go_at_call 42
            refine (HPART.out _).mono ?_
            rintro e w9 ⟨rfl, hb9⟩
            have hS9 := HSS.out _ (hHeld.2.2.2.2.2.trans (.same hHeld.2.2.2.2.2.na hb9))
            refine hK.out _ _ hS9 (fun hHeld => ?_)
            clear hK K
            try simp only [Act.put, List.getElem_toArray, List.getElem_cons_zero, List.getElem_cons_succ, List.setIfInBounds_toArray, List.set_cons_zero, List.set_cons_succ]
            refine till_take (i := 9) (oi := _) (v := ?_) [] rfl (by kernel_rfl) (by kernel_rfl) (by decide) (by kernel_rfl) (by kernel_rfl) (by kernel_rfl) (fun _ _ _ h => h) (Or.inl ⟨by rfl, ?_⟩) (by assumption) ?_
            case refine_2 => intro w hSw; (try dsimp only at hSw); go_simp; first | done | (with_reducible rfl)
            try simp only [Act.put, List.getElem_toArray, List.getElem_cons_zero, List.getElem_cons_succ, List.setIfInBounds_toArray, List.set_cons_zero, List.set_cons_succ]
            refine till_ready (rs := [12]) (by kernel_rfl) (by simp) ?_
            refine TillReady.past rfl (by kernel_rfl) (fun K hK => ?_) TillReady.nil
            go_simp
            go_at_call 41
            have hm9 := (by assumption : _ ∧ _ ∧ _ ∧ _ ∧ _ ∧ Mvd nb x kv L V0 t kv1 L1 _).2.2.2.2.2
            refine (HADD.out _ hm9).mono ?_
            rintro e w10 ⟨rfl, hb10⟩
            refine hK.out _ _ ?_
            clear hK K
            try simp only [Act.put, List.getElem_toArray, List.getElem_cons_zero, List.getElem_cons_succ, List.setIfInBounds_toArray, List.set_cons_zero, List.set_cons_succ]
            refine till_ready (rs := [13]) (by kernel_rfl) (by simp) ?_
            refine TillReady.past rfl (by kernel_rfl) (fun K hK => ?_) TillReady.nil
            go_simp
            refine hK.out _ _ ?_
            clear hK K
            try simp only [Act.put, List.getElem_toArray, List.getElem_cons_zero, List.getElem_cons_succ, List.setIfInBounds_toArray, List.set_cons_zero, List.set_cons_succ]
            refine till_done (by kernel_rfl) ?_ _
            have hm10 := hm9.trans (.same hm9.na hb10)
            have HM10 := Lib.hid hm10
            have hE := HEND.out _ _ _ w10 (.int .u32 0) (.int .i64 0) hm10
            obtain ⟨-, -, -, -, p4, p5, p6, p7⟩ := (HBX.out _ _ _ _ hm10).1.cells
            have e0 := (cells_of hE.2 0).1
            have e1 := (cells_of hE.2 1).1
            have HE := Lib.hid hE
            have HF := Lib.hid (HFULL.out hadd)
            clear hE hm10 hm9 hb10 hHeld r0 r1 r2 r3 r4 r5 r6 r7
            go_wp2
            exact ⟨rfl, ansA (0, 0) 10, by simp [results, Try.results31, go_sem, ansA, adr, e0, e1], HRES.out _ _ _ _ HF.out HE.out.1 HLM.out⟩
          | some p =>
            unfold Added at HADD
            rw [HLM.out, hadd] at HADD
            go_upto_region 5 with (fail)
            refine wp_region_till (S := (fun W => W.cell? ⟨w.heap.size, 0, none⟩ = some (.int .u32 a.1) ∧ W.cell? ⟨w.heap.size, 1, none⟩ = some (.int .i64 a.2) ∧ W.cell? ⟨w.heap.size + 1, 0, none⟩ = some (.int .u32 b.1) ∧ W.cell? ⟨w.heap.size + 1, 1, none⟩ = some (.int .i64 b.2) ∧ W.cell? ⟨nb, 3, none⟩ = some (.int .i64 x.map) ∧ Mvd nb x kv L V0 t kv1 L1 W)) (z := 12) (by kernel_rfl) (HSS.out _ (HM4.out.trans (.same HM4.out.na (below_drw (Below.refl _ w4) 1)))) (fun hHeld => ?_)
            refine till_take (i := 0) (oi := _) (v := ?_) [] rfl (by kernel_rfl) (by kernel_rfl) (by decide) (by kernel_rfl) (by kernel_rfl) (by kernel_rfl) (fun _ _ _ h => h) (Or.inl ⟨by rfl, ?_⟩) (by assumption) ?_
            case refine_2 => intro w hSw; (try dsimp only at hSw); go_simp; first | done | (with_reducible rfl)
            try simp only [Act.put, List.getElem_toArray, List.getElem_cons_zero, List.setIfInBounds_toArray, List.set_cons_zero, List.set_cons_succ]
            refine till_take (i := 1) (oi := _) (v := ?_) [9] rfl (by kernel_rfl) (by kernel_rfl) (by decide) (by kernel_rfl) (by kernel_rfl) (by kernel_rfl) (fun _ _ _ h => h) (Or.inl ⟨by rfl, ?_⟩) (by assumption) ?_
            case refine_2 => intro w hSw; (try dsimp only at hSw); go_simp; first | done | (with_reducible rfl)
            try simp only [Act.put, List.getElem_toArray, List.getElem_cons_zero, List.getElem_cons_succ, List.setIfInBounds_toArray, List.set_cons_zero, List.set_cons_succ]
            refine till_take (i := 2) (oi := _) (v := ?_) [8] rfl (by kernel_rfl) (by kernel_rfl) (by decide) (by kernel_rfl) (by kernel_rfl) (by kernel_rfl) (fun _ _ _ h => h) (Or.inl ⟨by rfl, ?_⟩) (by assumption) ?_
            case refine_2 => intro w hSw; (try dsimp only at hSw); go_simp; first | done | (with_reducible rfl)
            try simp only [Act.put, List.getElem_toArray, List.getElem_cons_zero, List.getElem_cons_succ, List.setIfInBounds_toArray, List.set_cons_zero, List.set_cons_succ]
            refine till_take (i := 3) (oi := _) (v := ?_) [8, 7, 6, 5, 4] rfl (by kernel_rfl) (by kernel_rfl) (by decide) (by kernel_rfl) (by kernel_rfl) (by kernel_rfl) (fun _ _ _ h => h) (Or.inl ⟨by rfl, ?_⟩) (by assumption) ?_
            case refine_2 => intro w hSw; (try dsimp only at hSw); go_simp; first | done | (with_reducible rfl)
            try simp only [Act.put, List.getElem_toArray, List.getElem_cons_zero, List.getElem_cons_succ, List.setIfInBounds_toArray, List.set_cons_zero, List.set_cons_succ]
            refine till_take (i := 4) (oi := _) (v := ?_) [8, 7, 6, 5] rfl (by kernel_rfl) (by kernel_rfl) (by decide) (by kernel_rfl) (by kernel_rfl) (by kernel_rfl) (fun _ _ _ h => h) (Or.inl ⟨by rfl, ?_⟩) (by assumption) ?_
            case refine_2 => intro w hSw; (try dsimp only at hSw); go_simp; first | done | (with_reducible rfl)
            try simp only [Act.put, List.getElem_toArray, List.getElem_cons_zero, List.getElem_cons_succ, List.setIfInBounds_toArray, List.set_cons_zero, List.set_cons_succ]
            refine till_take (i := 5) (oi := _) (v := ?_) [8, 7, 6] rfl (by kernel_rfl) (by kernel_rfl) (by decide) (by kernel_rfl) (by kernel_rfl) (by kernel_rfl) (fun _ _ _ h => h) (Or.inl ⟨by rfl, ?_⟩) (by assumption) ?_
            case refine_2 => intro w hSw; (try dsimp only at hSw); go_simp; first | done | (with_reducible rfl)
            try simp only [Act.put, List.getElem_toArray, List.getElem_cons_zero, List.getElem_cons_succ, List.setIfInBounds_toArray, List.set_cons_zero, List.set_cons_succ]
            refine till_take (i := 6) (oi := _) (v := ?_) [8, 7] rfl (by kernel_rfl) (by kernel_rfl) (by decide) (by kernel_rfl) (by kernel_rfl) (by kernel_rfl) (fun _ _ _ h => h) (Or.inl ⟨by rfl, ?_⟩) (by assumption) ?_
            case refine_2 => intro w hSw; (try dsimp only at hSw); go_simp; first | done | (with_reducible rfl)
            try simp only [Act.put, List.getElem_toArray, List.getElem_cons_zero, List.getElem_cons_succ, List.setIfInBounds_toArray, List.set_cons_zero, List.set_cons_succ]
            refine till_take (i := 7) (oi := _) (v := ?_) [8] rfl (by kernel_rfl) (by kernel_rfl) (by decide) (by kernel_rfl) (by kernel_rfl) (by kernel_rfl) (fun _ _ _ h => h) (Or.inl ⟨by rfl, ?_⟩) (by assumption) ?_
            case refine_2 => intro w hSw; (try dsimp only at hSw); go_simp; first | done | (with_reducible rfl)
            try simp only [Act.put, List.getElem_toArray, List.getElem_cons_zero, List.getElem_cons_succ, List.setIfInBounds_toArray, List.set_cons_zero, List.set_cons_succ]
            refine till_take (i := 10) (oi := _) (v := ?_) [11] rfl (by kernel_rfl) (by kernel_rfl) (by decide) (by kernel_rfl) (by kernel_rfl) (by kernel_rfl) (fun _ _ _ h => h) (Or.inl ⟨by rfl, ?_⟩) (by assumption) ?_
            case refine_2 => intro w hSw; (try dsimp only at hSw); go_simp; first | done | (with_reducible rfl)
            try simp only [Act.put, List.getElem_toArray, List.getElem_cons_zero, List.getElem_cons_succ, List.setIfInBounds_toArray, List.set_cons_zero, List.set_cons_succ]
            refine till_take (i := 11) (oi := _) (v := ?_) [] rfl (by kernel_rfl) (by kernel_rfl) (by decide) (by kernel_rfl) (by kernel_rfl) (by kernel_rfl) (fun _ _ _ h => h) (Or.inl ⟨by rfl, ?_⟩) (by assumption) ?_
            case refine_2 => intro w hSw; (try dsimp only at hSw); go_simp; first | done | (with_reducible rfl)
            try simp only [Act.put, List.getElem_toArray, List.getElem_cons_zero, List.getElem_cons_succ, List.setIfInBounds_toArray, List.set_cons_zero, List.set_cons_succ]
            refine till_ready (rs := [8]) (by kernel_rfl) (by simp) ?_
            refine TillReady.cons rfl (fun K hK => ?_) TillReady.nil
            go_simp
            go_at_call 42
            refine (HPART.out _).mono ?_
            rintro e w9 ⟨rfl, hb9⟩
            have hS9 := HSS.out _ (hHeld.2.2.2.2.2.trans (.same hHeld.2.2.2.2.2.na hb9))
            refine hK.out _ _ hS9 (fun hHeld => ?_)
            clear hK K
            try simp only [Act.put, List.getElem_toArray, List.getElem_cons_zero, List.getElem_cons_succ, List.setIfInBounds_toArray, List.set_cons_zero, List.set_cons_succ]
            refine till_take (i := 9) (oi := _) (v := ?_) [] rfl (by kernel_rfl) (by kernel_rfl) (by decide) (by kernel_rfl) (by kernel_rfl) (by kernel_rfl) (fun _ _ _ h => h) (Or.inl ⟨by rfl, ?_⟩) (by assumption) ?_
            case refine_2 => intro w hSw; (try dsimp only at hSw); go_simp; first | done | (with_reducible rfl)
            try simp only [Act.put, List.getElem_toArray, List.getElem_cons_zero, List.getElem_cons_succ, List.setIfInBounds_toArray, List.set_cons_zero, List.set_cons_succ]
            refine till_ready (rs := [12]) (by kernel_rfl) (by simp) ?_
            refine TillReady.past rfl (by kernel_rfl) (fun K hK => ?_) TillReady.nil
            go_simp
            go_at_call 41
            have hm9 := (by assumption : _ ∧ _ ∧ _ ∧ _ ∧ _ ∧ Mvd nb x kv L V0 t kv1 L1 _).2.2.2.2.2
            refine (HADD.out _ hm9).mono ?_
            rintro e w10 ⟨q, kv2, rfl, hq, hn10, hf10, hk10⟩
            refine hK.out _ _ ?_
            clear hK K
            try simp only [Act.put, List.getElem_toArray, List.getElem_cons_zero, List.getElem_cons_succ, List.setIfInBounds_toArray, List.set_cons_zero, List.set_cons_succ]
            refine till_ready (rs := [13]) (by kernel_rfl) (by simp) ?_
            refine TillReady.past rfl (by kernel_rfl) (fun K hK => ?_) TillReady.nil
            go_simp
            refine hK.out _ _ ?_
            clear hK K
            try simp only [Act.put, List.getElem_toArray, List.getElem_cons_zero, List.getElem_cons_succ, List.setIfInBounds_toArray, List.set_cons_zero, List.set_cons_succ]
            refine till_done (by kernel_rfl) ?_ _
            have hm10 := hm9.trans (Mvd.added (q := 0) hn10 hq rfl hf10 hk10)
            have HM10 := Lib.hid hm10
            have HF := Lib.hid (HNEW.out p hadd)
            obtain ⟨d, hd⟩ : ∃ d : Nd, d = ⟨q, { newB x a b 0 with port := p }, .slice none 0 0⟩ := ⟨_, rfl⟩
            have hdp : q = d.p := by rw [hd]
            have hask : d.b.asked = false := by rw [hd]; rfl
            have hseen : d.b.seen.length ≤ 16 := by rw [hd]; exact Nat.zero_le _
            have hdb : d.b = newB x a b p := by rw [hd]; rfl
            rw [← hd] at HM10
            rw [hdp]
            have HFIN : Hid (∀ sv', outM x M1 t a b = ((x.host, d.b.port), 0, (L1 ++ [(⟨d.p, sentB x t b d.b, sv'⟩ : Nd)]).map Nd.b)) := Lib.hid (fun sv' => by rw [HF.out, hdb]; simp [HLM.out, newB])
            obtain ⟨ls, hls⟩ : ∃ ls, ls = L1 := ⟨_, rfl⟩
            obtain ⟨rs, hrs⟩ : ∃ rs : List Nd, rs = [] := ⟨_, rfl⟩
            have HM10 : Hid (Mvd nb x kv L V0 t kv2 (ls ++ d :: rs) w10) := by rw [hls, hrs]; exact HM10
            have HFIN : Hid (∀ sv', outM x M1 t a b = ((x.host, d.b.port), 0, (ls ++ (⟨d.p, sentB x t b d.b, sv'⟩ : Nd) :: rs).map Nd.b)) := by rw [hls, hrs]; exact HFIN
            obtain ⟨u0, u1, u2, u3, u4, u5, u6, u7⟩ := (HBX.out _ _ _ _ HM10.out).1.cells
            clear hm10 hm9 hn10 hq hf10 hk10 hHeld r0 r1 r2 r3 r4 r5 r6 r7 hdb hdp hd hls hrs
            have hdd : d ∈ ls ++ d :: rs := by simp
            have c6 := (HM10.out.na.nds _ hdd).cells.1.2.2.2.2.2.2
            have c5 := (HM10.out.na.nds _ hdd).cells.1.2.2.2.2.2.1
            have f5 := (HM10.out.na.nds _ hdd).cells.2.2 5
            have n5 := HM10.out.na.cells.1.2.2.2.2.2.1
            rw [hask] at c6
            have hl0 := HX.out.life0
            have hl1 := HX.out.life1
            have hMU : ∀ v : Int, Mvd nb x kv L V0 t kv2 (ls ++ ({ d with b := { d.b with until_ := v } } : Nd) :: rs) (w10.setCell ⟨d.p, 5, none⟩ (.int .i64 v)) := fun v => HM10.out.trans (Mvd.turn (d' := { d with b := { d.b with until_ := v } }) HM10.out.na rfl (set_until (HM10.out.na.nds _ hdd)) (fun g hg => .inl hg) (Keeps.set (Keeps.refl _ _) d.p 5 _ (.inl rfl)))
            have HMU := Lib.hid hMU
            clear hMU
            have hdp : d.p < w10.heap.size := (HM10.out.na.nds _ hdd).lt
            have HSB : Hid (sentB x t b d.b = { d.b with until_ := min (t + x.life) 1099511627776, seen := seeL d.b.seen b }) := Lib.hid (by unfold sentB; rw [if_neg (by rw [hask]; simp)])
            have HMV2 := Lib.hid (HMU.out (min (t + x.life) 1099511627776))
            clear HMU
            obtain ⟨p0, p1, p2, p3, p4, p5, p6, p7⟩ := (HBX.out _ _ _ _ HMV2.out).1.cells

            have hdm : ({ d with b := { d.b with until_ := min (t + x.life) 1099511627776 } } : Nd) ∈ ls ++ ({ d with b := { d.b with until_ := min (t + x.life) 1099511627776 } } : Nd) :: rs := by simp
            have HSEE := Lib.hid (see_any ({ d with b := { d.b with until_ := min (t + x.life) 1099511627776 } } : Nd) b (w10.setCell ⟨d.p, 5, none⟩ (.int .i64 (min (t + x.life) 1099511627776))) (HMV2.out.na.nds _ hdm) hseen)
            unfold ptr adr at HSEE
            try dsimp only at HSEE
            go_wp2_with fail
            refine HSEE.out.mono ?_
            rintro e w6 ⟨rfl, sv6, s1, s2, s3⟩
            have hm6 := HMV2.out.trans (Mvd.turn (d' := ⟨({ d with b := { d.b with until_ := min (t + x.life) 1099511627776 } } : Nd).p, { ({ d with b := { d.b with until_ := min (t + x.life) 1099511627776 } } : Nd).b with seen := seeL ({ d with b := { d.b with until_ := min (t + x.life) 1099511627776 } } : Nd).b.seen b }, sv6⟩) HMV2.out.na rfl s1 s2 s3)
            have g0 := hm6.na.cells.1.1
            have g4 := s1.cells.1.2.2.2.2.1
            clear p0 p1 p2 p3 p4 p5 p6 p7
            obtain ⟨p0, p1, p2, p3, p4, p5, p6, p7⟩ := (HBX.out _ _ _ _ hm6).1.cells
            have hE := HEND.out _ _ _ _ (.int .u32 x.host) (.int .i64 d.b.port) hm6
            have hE2 := hE.1.trans (.same hE.1.na (below_drw (Below.refl _ _) 1))
            have e0 := (cells_of (heap_setCell_same w6 (w.heap.size + 2) 0 _ 36 (.int .u32 x.host) (HBX.out _ _ _ _ hm6).1.c2) 0).1
            have e1 := (cells_of hE.2 1).1
            have HE : Hid (OutR w nb x now kv L t a b (.returned (ansA (x.host, d.b.port) 0)) (((w6.setCell ⟨w.heap.size + 2, 0, none⟩ (.int .u32 x.host)).setCell ⟨w.heap.size + 2, 1, none⟩ (.int .i64 d.b.port)).drewN 1)) := Lib.hid (HRES.out _ _ _ _ (HFIN.out sv6) hE2 (by simp only [List.map_append, List.map_cons]; rw [← HSB.out]))
            have hn6 := hm6.na.lt
            have hd6 := s1.lt
            have hz6 : w.heap.size + 2 < w6.heap.size := (Array.getElem?_eq_some_iff.1 (HBX.out _ _ _ _ hm6).1.c2).1
            clear s1 s2 s3 hm6 hE hE2 u0 u1 u2 u3 u4 u5 u6 u7
            go_wp2
            go_region
            all_goals
              go_wp2
              exact ⟨rfl, ansA (x.host, d.b.port) 0, by simp [results, Try.results31, go_sem, ansA, adr, e0, e1], HE.out⟩
end Go.Proofs.Ytidhdgcmagpkgaa
