/-
  The contract of nat's In. Conditions: the box may be made so, and lies in memory; at most 100 bindings, each with at most sixteen seen ones.
-/
import Derived.Test.YtidhdgcmagpkgaaOut
import Derived.Test.YtidhdgcmagpkgaaLet
import Derived.Lib.QuietBelow
namespace Go.Proofs.Ytidhdgcmagpkgaa
open Go.RowKit Go.Sort
attribute [local go_sem] Oper.semAt_some
set_option linter.unusedVariables false

/-- does what comes to a port from another one go by this binding? -/
def comesF (x : Bx) (p : Int) (f : A2) (d : Bn) : Bool := decide (d.port = p) && letsB d f x.filter
/-- what In answers -/
def inM (x : Bx) (M : List Bn) (p : Int) (f : A2) : A2 × Int :=
  if mayA f = true then match M.find? (comesF x p f) with
    | some d => (d.inn, 0)
    | none => ((0, 0), 8)
  else ((0, 0), 1)
/-- what In leaves -/
def InR (w : World) (nb : Nat) (x : Bx) (now : Int) (kv : Value) (L : List Nd) (t p : Int) (f : A2) : Ending → World → Prop := fun e w' =>
  if goes now t = true then ∃ kv', e = .returned (ansA (inM x (liveM (L.map Nd.b) t) p f).1 (inM x (liveM (L.map Nd.b) t) p f).2) ∧ Mvd nb x kv L w t kv' (liveN L t) w'
  else e = .returned (ansA (0, 0) 1) ∧ Mvd nb x kv L w now kv L w'
/-- the two boxes of In: from whom, the answer -/
structure Bx2 (B : Nat) (a : A2) (W : World) : Prop where
  c0 : W.heap[B]? = some (.cells #[.int .u32 a.1, .int .i64 a.2] 36 (0, 0))
  c2 : W.heap[B + 1]? = some (.cells #[.int .u32 0, .int .i64 0] 36 (0, 0))
theorem Bx2.keeps {B : Nat} {a : A2} {W W' : World} {S : Nat → Prop} (h : Bx2 B a W) (k : Keeps S W W') (hs : ∀ i, S i → i < B) : Bx2 B a W' := by
  have hl := fun i (hi : i < W.heap.size) (hb : B ≤ i) => k.block i hi (fun e => by have := hs i e; omega)
  have l0 := (Array.getElem?_eq_some_iff.1 h.c0).1
  have l2 := (Array.getElem?_eq_some_iff.1 h.c2).1
  exact ⟨(hl _ l0 (Nat.le_refl _)).trans h.c0, (hl _ l2 (by omega)).trans h.c2⟩
theorem Bx2.cells {B : Nat} {a : A2} {W : World} (h : Bx2 B a W) : W.cell? ⟨B, 0, none⟩ = some (.int .u32 a.1) ∧ W.cell? ⟨B, 1, none⟩ = some (.int .i64 a.2) ∧ W.cell? ⟨B + 1, 0, none⟩ = some (.int .u32 0) ∧ W.cell? ⟨B + 1, 1, none⟩ = some (.int .i64 0) ∧ W.frozen? ⟨B + 1, 0, none⟩ = false ∧ W.frozen? ⟨B + 1, 1, none⟩ = false :=
  ⟨(cells_of h.c0 0).1, (cells_of h.c0 1).1, (cells_of h.c2 0).1, (cells_of h.c2 1).1, (cells_of h.c2 0).2, (cells_of h.c2 1).2⟩
theorem find_hit {α : Type} {g : α → Bool} {M : List α} {k : Nat} {d : α} (hd : M[k]? = some d) (hg : g d = true) (hb : ∀ j, j < k → ∀ e, M[j]? = some e → g e = false) : M.find? g = some d := by
  obtain ⟨hk, e⟩ := List.getElem?_eq_some_iff.1 hd
  have h1 : M = M.take k ++ d :: M.drop (k + 1) := by
    have h1 := List.take_append_drop k M
    rw [List.drop_eq_getElem_cons hk, e] at h1
    exact h1.symm
  rw [h1, List.find?_append, List.find?_cons_of_pos hg]
  have : (M.take k).find? g = none := by
    rw [List.find?_eq_none]
    intro c hc
    obtain ⟨j, hj, rfl⟩ := List.getElem_of_mem hc
    rw [List.length_take] at hj
    rw [hb j (by omega) ((M.take k)[j]) (by rw [List.getElem_take]; exact List.getElem?_eq_getElem _)]
    simp
  rw [this]; rfl
theorem find_miss {α : Type} {g : α → Bool} {M : List α} (hb : ∀ j, j < M.length → ∀ e, M[j]? = some e → g e = false) : M.find? g = none := by
  rw [List.find?_eq_none]
  intro c hc
  obtain ⟨j, hj, rfl⟩ := List.getElem_of_mem hc
  rw [hb j hj _ (List.getElem?_eq_getElem hj)]
  simp

set_option maxRecDepth 100000 in
set_option maxHeartbeats 8000000 in
theorem in_any (nb : Nat) (x : Bx) (now : Int) (kv : Value) (L : List Nd) (t p : Int) (f : A2) (w : World) (h : Na w nb x now kv L) (hL : OkL L) (ha : isA f) :
    Calls Try.prog 30 #[.pointer (some ⟨nb, 0, none⟩), .int .i64 t, .int .i64 p, adr f] w (InR w nb x now kv L t p f) := by
  have H := Lib.hid h; have HL := Lib.hid hL; have HA := Lib.hid ha
  have hlt := h.lt
  clear h hL ha
  unfold adr
  go_enter Try.func30, Try.ntmps30
  go_wp2_with fail
  obtain ⟨V0, hV⟩ : ∃ V0, ((w.alloc (.cells #[.int .u32 f.1, .int .i64 f.2] 36)).alloc (.cells #[.int .u32 0, .int .i64 0] 36)) = V0 := ⟨_, rfl⟩
  rw [hV]
  have hvs : V0.heap.size = w.heap.size + 2 := by rw [← hV]; simp
  have HBV : Hid (Below w.heap.size w V0) := Lib.hid (by rw [← hV]; exact ((Below.refl _ w).alloc (Nat.le_refl _) _).alloc (by simp) _)
  have HXS : Hid (Bx2 w.heap.size f V0) := Lib.hid (by
    rw [← hV]
    refine ⟨?_, ?_⟩
    · exact (Below.heap_alloc _ _ _ (by simp)).trans (World.alloc_heap_new w _)
    · have := World.alloc_heap_new (w.alloc (.cells #[.int .u32 f.1, .int .i64 f.2] 36)) (.cells #[.int .u32 0, .int .i64 0] 36)
      rwa [World.size_alloc] at this)
  clear hV
  have HM0 : Hid (Mvd nb x kv L w now kv L V0) := Lib.hid (Mvd.same H.out HBV.out)
  have HFT : Hid (∀ k, Foot nb kv L k → k < w.heap.size) := Lib.hid (fun k hk => H.out.foot_lt hk)
  have HBX : Hid (∀ nw kv1 L1 W, Mvd nb x kv L V0 nw kv1 L1 W → Bx2 w.heap.size f W ∧ ¬ Foot nb kv1 L1 (w.heap.size + 1) ∧ Mvd nb x kv L w nw kv1 L1 W) := Lib.hid (fun nw kv1 L1 W hm => ⟨HXS.out.keeps hm.keeps (fun i hi => HFT.out i hi), fun hf => (hm.foot _ hf).elim (fun e => by have := HFT.out _ e; omega) (fun e => by omega), HM0.out.trans hm⟩)
  have HEND : Hid (∀ nw kv1 L1 W u v, Mvd nb x kv L V0 nw kv1 L1 W → Mvd nb x kv L w nw kv1 L1 ((W.setCell ⟨w.heap.size + 1, 0, none⟩ u).setCell ⟨w.heap.size + 1, 1, none⟩ v) ∧ ((W.setCell ⟨w.heap.size + 1, 0, none⟩ u).setCell ⟨w.heap.size + 1, 1, none⟩ v).heap[w.heap.size + 1]? = some (.cells #[u, v] 36 (0, 0))) := Lib.hid (fun nw kv1 L1 W u v hm => by
    obtain ⟨h1, h2, h3⟩ := HBX.out _ _ _ _ hm
    exact ⟨h3.fresh (B := w.heap.size + 1) (Keeps.set (S := fun k => k = w.heap.size + 1) (Keeps.set (S := fun k => k = w.heap.size + 1) (Keeps.refl _ _) _ 0 u rfl) _ 1 v rfl) (by omega) h2, heap_setCell_same _ _ 1 _ 36 v (heap_setCell_same _ _ 0 _ 36 u h1.c2)⟩)
  have HG := Lib.hid (goesOn_any nb x now t kv L V0 (H.out.below HBV.out) (by have := HL.out.len; omega))
  have HNV := Lib.hid (H.out.below HBV.out)
  refine HG.out.mono ?_
  intro e w1 hw1
  obtain rfl := hw1.1
  cases hg : goes now t with
  | false =>
    have hm1 : Mvd nb x kv L V0 now kv L w1 := Mvd.same HNV.out (by have := hw1.2; rw [hg, if_neg (by simp)] at this; exact this)
    have hE := HEND.out _ _ _ w1 (.int .u32 0) (.int .i64 0) hm1
    obtain ⟨-, -, q4, q5, q6, q7⟩ := (HBX.out _ _ _ _ hm1).1.cells
    have e0 := (cells_of hE.2 0).1
    have e1 := (cells_of hE.2 1).1
    have HE := Lib.hid hE
    have HGG := Lib.hid hg
    clear hE hm1 hw1 hg
    go_wp2
    refine ⟨rfl, ansA (0, 0) 1, by simp [results, Try.results30, go_sem, ansA, adr, e0, e1], ?_⟩
    unfold InR
    rw [HGG.out, if_neg (by simp)]
    exact ⟨rfl, HE.out.1⟩
  | true =>
    obtain ⟨kv1, hm1⟩ := Mvd.went HNV.out hw1 hg
    have HL1 := Lib.hid (HL.out.live t)
    have HRES : Hid (∀ kv' w' r, inM x ((liveN L t).map Nd.b) p f = r → Mvd nb x kv L w t kv' (liveN L t) w' → InR w nb x now kv L t p f (.returned (ansA r.1 r.2)) w') := Lib.hid (fun kv' w' r hr hm => by
      rw [live_map] at hr
      unfold InR
      rw [if_pos hg]
      exact ⟨kv', by rw [hr], hm⟩)
    clear hw1 hg
    generalize liveN L t = L1 at *
    have HM1 := Lib.hid hm1
    obtain ⟨q0, q1, q4, q5, q6, q7⟩ := (HBX.out _ _ _ _ hm1).1.cells
    have HMA := Lib.hid (fun W => may_any f W HA.out)
    unfold adr at HMA
    have HARG : Hid (mayA f = false → inM x (L1.map Nd.b) p f = ((0, 0), 1)) := Lib.hid (fun hn => by unfold inM; rw [if_neg (by simp [hn])])
    clear hm1
    go_wp2_with fail
    refine (HMA.out _).mono ?_
    rintro e w2 ⟨rfl, hb2⟩
    have hm2 := HM1.out.trans (.same HM1.out.na hb2)
    have HM2 := Lib.hid hm2
    obtain ⟨r0, r1, r4, r5, r6, r7⟩ := (HBX.out _ _ _ _ hm2).1.cells
    clear hm2 hb2 q0 q1 q4 q5 q6 q7
    cases hma : mayA f with
    | false =>
      have HAR := Lib.hid (HARG.out hma)
      have hE := HEND.out _ _ _ w2 (.int .u32 0) (.int .i64 0) HM2.out
      have e0 := (cells_of hE.2 0).1
      have e1 := (cells_of hE.2 1).1
      have HE := Lib.hid hE
      clear hE hma
      go_wp2
      exact ⟨rfl, ansA (0, 0) 1, by simp [results, Try.results30, go_sem, ansA, adr, e0, e1], HRES.out _ _ _ HAR.out HE.out.1⟩
    | true =>
      have HHIT : Hid (∀ (k : Nat) (d : Nd), L1[k]? = some d → comesF x p f d.b = true → (∀ j, j < k → ∀ e, L1[j]? = some e → comesF x p f e.b = false) → inM x (L1.map Nd.b) p f = (d.b.inn, 0)) := Lib.hid (fun k d hd hc hb => by
        have : (L1.map Nd.b).find? (comesF x p f) = some d.b := find_hit (k := k) (by rw [List.getElem?_map, hd]; rfl) hc (fun j hj e he => by
          rw [List.getElem?_map] at he
          cases hj2 : L1[j]? with
          | none => rw [hj2] at he; cases he
          | some e' => rw [hj2] at he; cases he; exact hb j hj e' hj2)
        unfold inM
        rw [if_pos hma, this])
      have HMISS : Hid ((∀ j, j < L1.length → ∀ e, L1[j]? = some e → comesF x p f e.b = false) → inM x (L1.map Nd.b) p f = ((0, 0), 8)) := Lib.hid (fun hb => by
        have : (L1.map Nd.b).find? (comesF x p f) = none := find_miss (fun j hj e he => by
          rw [List.length_map] at hj
          rw [List.getElem?_map, List.getElem?_eq_getElem hj] at he
          cases he
          exact hb j hj _ (List.getElem?_eq_getElem hj))
        unfold inM
        rw [if_pos hma, this])
      clear hma
      have c7 := HM2.out.na.cells.2.1
      rcases HM2.out.na.rowAt with ⟨rfl, rfl⟩ | ⟨g, cap, cur, rfl, hgg, hnc, hm3, hcs, hcell⟩
      · have HMI := Lib.hid (HMISS.out (fun j hj => by simp at hj))
        have hE := HEND.out _ _ _ w2 (.int .u32 0) (.int .i64 0) HM2.out
        have e0 := (cells_of hE.2 0).1
        have e1 := (cells_of hE.2 1).1
        have HE := Lib.hid hE
        clear hE
        go_wp2
        go_loopg [27] 0 (fun _ s27 wr => s27 = .int .i64 0 ∧ wr = w2)
        case atStart => exact ⟨rfl, rfl⟩
        case round =>
          obtain ⟨rfl, rfl⟩ := hrel
          go_wp2
          exact ⟨rfl, ansA (0, 0) 8, by simp [results, Try.results30, go_sem, ansA, adr, e0, e1], HRES.out _ _ _ HMI.out HE.out.1⟩
      · clear hcell hcs hgg
        have hl100 := HL1.out.len
        go_wp2
        go_loopg [27] L1.length (fun gg s27 wr => ∃ k : Nat, k ≤ L1.length ∧ L1.length - k ≤ gg ∧ s27 = .int .i64 k ∧ Hid (Below w2.heap.size w2 wr) ∧ Hid (∀ j, j < k → ∀ e, L1[j]? = some e → comesF x p f e.b = false))
        case atStart => exact ⟨0, by omega, by omega, rfl, Lib.hid (Below.refl _ _), Lib.hid (fun j hj => by omega)⟩
        case round =>
          obtain ⟨k, hk, hgk, rfl, HBR, HNO⟩ := hrel
          have hmr := HM2.out.trans (.same HM2.out.na HBR.out)
          have HMR := Lib.hid hmr
          obtain ⟨p0, p1, p4, p5, p6, p7⟩ := (HBX.out _ _ _ _ hmr).1.cells
          clear hmr r0 r1 r4 r5 r6 r7
          by_cases hlt2 : k < L1.length
          · have hltz : (k : Int) < (L1.length : Int) := by omega
            obtain ⟨d, hd⟩ : ∃ d, L1[k]? = some d := ⟨_, List.getElem?_eq_getElem hlt2⟩
            have hdm := List.mem_of_getElem? hd
            have HND := Lib.hid (HMR.out.na.nds d hdm)
            obtain ⟨g', cap', cur', hkv', hgg, -, -, -, hcell⟩ := (HMR.out.na.rowAt).resolve_left (by rintro ⟨h1, h2⟩; rw [h2] at hlt2; exact absurd hlt2 (Nat.not_lt_zero _))
            obtain ⟨rfl, rfl⟩ : g = g' ∧ cap = cap' := by simpa using hkv'
            have d0 : wr.cell? ⟨g, k, none⟩ = some (.pointer (some ⟨d.p, 0, none⟩)) := by rw [(cells_of hgg k).1]; exact hcell k d hd
            have d1 := HND.out.cells.1.1
            have d2 := HND.out.cells.1.2.1
            have d4 := HND.out.cells.1.2.2.2.2.1
            have d9 := HMR.out.na.cells.1.2.2.2.2.1
            have HLET := Lib.hid (fun W (hW : Below wr.heap.size wr W) => lets_any d f x.filter W (HND.out.kept (hW.block _ HND.out.lt) (fun g hg => hW.block g (HND.out.rowlt hg))) (HL1.out.seen d hdm))
            unfold ptr adr at HLET
            have HD := Lib.hid hd
            clear hkv' hgg hcell hd hdm
            by_cases hp : d.b.port = p
            · rw [hp] at d4
              have HP := Lib.hid hp
              clear hp
              have HCF : Hid (comesF x p f d.b = letsB d.b f x.filter) := Lib.hid (by unfold comesF; rw [HP.out]; simp)
              generalize letsB d.b f x.filter = r at *
              have hBE := fun V (hV : Below wr.heap.size wr V) => HBR.out.trans (hV.mono HBR.out.size)
              have HBE := Lib.hid hBE
              have k1 := cell_regrown d1; have k2 := cell_regrown d2; have k4 := cell_regrown d4; have k9 := cell_regrown d9; have k10 := cell_regrown p0; have k11 := cell_regrown p1
              have cP : ∀ dd os, Calls Try.prog 39 #[.pointer (some ⟨d.p, 0, none⟩), .agg #[.int .u32 f.1, .int .i64 f.2], .int .i64 x.filter] (grow (redrawn wr dd) os) fun e w'' => e = .returned (.bool r) ∧ ∃ p : Regrown, w'' = grow (redrawn wr p.d) p.os := fun dd os => Calls.regrown_of (HLET.out _ (below_regrown wr dd os))
              go_upto_region 6 with (fail)
              refine wp_region_quiet_below (by kernel_rfl) (by kernel_rfl) ?_
              repeat (quiet_step (first | exact cP _ _))
              refine wpQuiet_nil ?_
              intro _ hw'
              obtain ⟨⟨dq, osq⟩, hw''⟩ := hw'
              subst hw''
              have hV := below_regrown wr dq osq
              generalize grow (redrawn wr dq) osq = V at *
              have HV := Lib.hid (HBE.out V hV)
              have hmv := HM2.out.trans (.same HM2.out.na HV.out)
              have HMV := Lib.hid hmv
              have HNDV := HND.out.kept (hV.block _ HND.out.lt) (fun g hg => hV.block g (HND.out.rowlt hg))
              have v1 := HNDV.cells.1.1
              have v2 := HNDV.cells.1.2.1
              obtain ⟨-, -, y4, y5, y6, y7⟩ := (HBX.out _ _ _ _ hmv).1.cells
              clear k1 k2 k4 k9 k10 k11 cP hV hmv hBE HNDV p0 p1 p4 p5 p6 p7 d1 d2 d4 d9
              cases r with
              | true =>
                have hE := HEND.out _ _ _ V (.int .u32 d.b.inn.1) (.int .i64 d.b.inn.2) HMV.out
                have e0 := (cells_of hE.2 0).1
                have e1 := (cells_of hE.2 1).1
                have HE := Lib.hid hE
                have HR := Lib.hid (HHIT.out k d HD.out HCF.out HNO.out)
                clear hE
                go_wp2
                exact ⟨rfl, ansA d.b.inn 0, by simp [results, Try.results30, go_sem, ansA, adr, e0, e1], HRES.out _ _ _ HR.out HE.out.1⟩
              | false =>
                go_wp2
                go_roundg (L1.length - (k + 1))
                case measure => omega
                case rel => exact ⟨k + 1, by omega, by omega, by go_num, HV, Lib.hid (fun j hj e he => by
                  rcases Nat.lt_or_ge j k with h' | h'
                  · exact HNO.out j h' e he
                  · obtain rfl : j = k := by omega
                    rw [HD.out] at he; cases he; exact HCF.out)⟩
            · have HCF : Hid (comesF x p f d.b = false) := Lib.hid (by unfold comesF; simp [hp])
              have hp2 : (d.b.port == p) = false := by simpa using hp
              have HB9 := HBR
              go_upto_region 6 with (fail)
              go_quiet ((go_at_call 39; fail))
              go_wp2
              go_roundg (L1.length - (k + 1))
              case measure => omega
              case rel => exact ⟨k + 1, by omega, by omega, by go_num, Lib.hid (below_drw HBR.out _), Lib.hid (fun j hj e he => by
                rcases Nat.lt_or_ge j k with h' | h'
                · exact HNO.out j h' e he
                · obtain rfl : j = k := by omega
                  rw [HD.out] at he; cases he; exact HCF.out)⟩
          · have hltz : ¬ (k : Int) < (L1.length : Int) := by omega
            obtain rfl : k = L1.length := by omega
            have HR := Lib.hid (HMISS.out HNO.out)
            have hE := HEND.out _ _ _ wr (.int .u32 0) (.int .i64 0) HMR.out
            have e0 := (cells_of hE.2 0).1
            have e1 := (cells_of hE.2 1).1
            have HE := Lib.hid hE
            clear hE
            go_wp2
            exact ⟨rfl, ansA (0, 0) 8, by simp [results, Try.results30, go_sem, ansA, adr, e0, e1], HRES.out _ _ _ HR.out HE.out.1⟩
end Go.Proofs.Ytidhdgcmagpkgaa
