/-
  The contract of nat's Ask. Conditions: the box may be made so, and lies in memory; at most 100 bindings, each with at most sixteen seen ones.
-/
import Derived.Test.YtemlnkcokeckmaaInn
namespace Go.Proofs.Ytemlnkcokeckmaa
open Go.RowKit
attribute [local go_sem] Oper.semAt_some
set_option linter.unusedVariables false

def askB (a : A2) (p u : Int) : Bn := { inn := a, to := (0, 0), port := p, until_ := u, asked := true, seen := [] }
def tillB (u : Int) (d : Bn) : Bn := { d with until_ := u }
/-- what Ask answers: the port and the code, and the bindings that it leaves, at a time that may be -/
def askM (x : Bx) (M : List Bn) (t : Int) (a : A2) (s u : Int) : Int × Int × List Bn :=
  if mayA a = true ∧ t < u ∧ u ≤ 1099511627776 then
    match M.find? (askF a) with
    | some d => (d.port, 0, updF (askF a) (tillB u) M)
    | none => match addM x M s with
      | some p => (p, 0, M ++ [askB a p u])
      | none => (0, 10, M)
  else (0, 1, M)
def ansI (p c : Int) : Value := .tuple #[.int .i64 p, .int .i64 c]
/-- what Ask leaves -/
def AskR (w : World) (nb : Nat) (x : Bx) (now : Int) (kv : Value) (L : List Nd) (t : Int) (a : A2) (s u : Int) : Ending → World → Prop := fun e w' =>
  if goes now t = true then ∃ kv' L', e = .returned (ansI (askM x (liveM (L.map Nd.b) t) t a s u).1 (askM x (liveM (L.map Nd.b) t) t a s u).2.1) ∧ Mvd nb x kv L w t kv' L' w' ∧ L'.map Nd.b = (askM x (liveM (L.map Nd.b) t) t a s u).2.2
  else e = .returned (ansI 0 1) ∧ Mvd nb x kv L w now kv L w'

set_option maxRecDepth 100000 in
set_option maxHeartbeats 8000000 in
theorem ask_any (nb : Nat) (x : Bx) (now : Int) (kv : Value) (L : List Nd) (t : Int) (a : A2) (s u : Int) (w : World) (h : Na w nb x now kv L) (hx : OkB x) (hL : OkL L) (ha : isA a) :
    Calls Try.prog 21 #[.pointer (some ⟨nb, 0, none⟩), .int .i64 t, adr a, .int .i64 s, .int .i64 u] w (AskR w nb x now kv L t a s u) := by
  have H := Lib.hid h; have HX := Lib.hid hx; have HL := Lib.hid hL; have HA := Lib.hid ha
  have hlt := h.lt
  clear h hx hL ha
  unfold adr
  go_enter Try.func21, Try.ntmps21
  go_wp2_with fail
  obtain ⟨V0, hV⟩ : ∃ V0, (w.alloc (.cells #[.int .u32 a.1, .int .i64 a.2] 38)) = V0 := ⟨_, rfl⟩
  rw [hV]
  have hvs : V0.heap.size = w.heap.size + 1 := by rw [← hV]; simp
  have HBV : Hid (Below w.heap.size w V0) := Lib.hid (by rw [← hV]; exact (Below.refl _ w).alloc (Nat.le_refl _) _)
  have HXS : Hid (V0.heap[w.heap.size]? = some (.cells #[.int .u32 a.1, .int .i64 a.2] 38 (0, 0))) := Lib.hid (by rw [← hV]; exact World.alloc_heap_new w _)
  clear hV
  have HM0 : Hid (Mvd nb x kv L w now kv L V0) := Lib.hid (Mvd.same H.out HBV.out)
  have HFT : Hid (∀ k, Foot nb kv L k → k < w.heap.size) := Lib.hid (fun k hk => H.out.foot_lt hk)
  have HBX : Hid (∀ nw kv1 L1 W, Mvd nb x kv L V0 nw kv1 L1 W → (W.cell? ⟨w.heap.size, 0, none⟩ = some (.int .u32 a.1) ∧ W.cell? ⟨w.heap.size, 1, none⟩ = some (.int .i64 a.2)) ∧ Mvd nb x kv L w nw kv1 L1 W) := Lib.hid (fun nw kv1 L1 W hm => by
    have h1 := (hm.keeps.block w.heap.size (by omega) (fun hf => by have := HFT.out _ hf; omega)).trans HXS.out
    exact ⟨⟨(cells_of h1 0).1, (cells_of h1 1).1⟩, HM0.out.trans hm⟩)
  have HG := Lib.hid (goesOn_any nb x now t kv L V0 (H.out.below HBV.out) (by have := HL.out.len; omega))
  have HNV := Lib.hid (H.out.below HBV.out)
  refine HG.out.mono ?_
  intro e w1 hw1
  obtain rfl := hw1.1
  cases hg : goes now t with
  | false =>
    have hm1 : Mvd nb x kv L V0 now kv L w1 := Mvd.same HNV.out (by have := hw1.2; rw [hg, if_neg (by simp)] at this; exact this)
    have HE := Lib.hid (HM0.out.trans hm1)
    have HGG := Lib.hid hg
    clear hm1 hw1 hg
    go_wp2
    go_ret2
    unfold AskR
    rw [HGG.out, if_neg (by simp)]
    exact ⟨rfl, HE.out⟩
  | true =>
    obtain ⟨kv1, hm1⟩ := Mvd.went HNV.out hw1 hg
    have HL1 := Lib.hid (HL.out.live t)
    have HLM : Hid ((liveN L t).map Nd.b = liveM (L.map Nd.b) t) := Lib.hid (live_map L t)
    have ht0 : t ≤ 1099511627776 := by
      unfold goes at hg
      simp only [Bool.and_eq_true, decide_eq_true_eq] at hg
      omega
    have HRES : Hid (∀ kv' L' w' r, askM x (liveM (L.map Nd.b) t) t a s u = r → Mvd nb x kv L w t kv' L' w' → L'.map Nd.b = r.2.2 → AskR w nb x now kv L t a s u (.returned (ansI r.1 r.2.1)) w') := Lib.hid (fun kv' L' w' r hr hm hl => by
      unfold AskR
      rw [if_pos hg]
      exact ⟨kv', L', by rw [hr], hm, by rw [hr]; exact hl⟩)
    clear hw1 hg
    generalize liveN L t = L1 at *
    generalize liveM (L.map Nd.b) t = M1 at *
    have HM1 := Lib.hid hm1
    obtain ⟨⟨q0, q1⟩, -⟩ := HBX.out _ _ _ _ hm1
    have HMA := Lib.hid (fun W => may_any a W HA.out)
    unfold adr at HMA
    have HARG : Hid (¬ (mayA a = true ∧ t < u ∧ u ≤ 1099511627776) → askM x M1 t a s u = (0, 1, M1)) := Lib.hid (fun hn => by unfold askM; rw [if_neg hn])
    clear hm1
    go_wp2_with fail
    refine (HMA.out _).mono ?_
    rintro e w2 ⟨rfl, hb2⟩
    have hm2 := HM1.out.trans (.same HM1.out.na hb2)
    have HM2 := Lib.hid hm2
    obtain ⟨⟨r0, r1⟩, hmw2⟩ := HBX.out _ _ _ _ hm2
    have HMW2 := Lib.hid hmw2
    clear q0 q1 hb2 hm2 hmw2
    cases hma : mayA a with
    | false =>
      have HAR := Lib.hid (HARG.out (by simp [hma]))
      clear hma
      go_wp2
      go_ret2
      exact HRES.out _ _ _ _ HAR.out HMW2.out HLM.out
    | true =>
      by_cases hu1 : u ≤ t
      · have HAR := Lib.hid (HARG.out (fun h => by omega))
        clear hma
        go_wp2
        go_ret2
        exact HRES.out _ _ _ _ HAR.out HMW2.out HLM.out
      · by_cases hu2 : 1099511627776 < u
        · have HAR := Lib.hid (HARG.out (fun h => by omega))
          clear hma
          go_wp2
          go_ret2
          exact HRES.out _ _ _ _ HAR.out HMW2.out HLM.out
        · have HMAB : Hid (mayA a = true ∧ t < u ∧ u ≤ 1099511627776) := Lib.hid ⟨hma, by omega, by omega⟩
          clear hma
          have HASK := Lib.hid (asked_any nb x t kv1 L1 a w2 HM2.out.na (by have := HL1.out.len; omega))
          unfold adr at HASK
          go_wp2_with fail
          refine HASK.out.mono ?_
          rintro e w4 ⟨rfl, hb4⟩
          have hm4 := HM2.out.trans (.same HM2.out.na hb4)
          have HM4 := Lib.hid hm4
          obtain ⟨⟨q0, q1⟩, -⟩ := HBX.out _ _ _ _ hm4
          clear r0 r1 hb4 hm4
          cases hf : L1.find? (fun d => inF a d && d.b.asked) with
          | some d =>
            obtain ⟨hfd, ls, rs, rfl, hfl⟩ := List.find?_eq_some_iff_append.1 hf
            have hfl2 : ∀ c ∈ ls, askF a c.b = false := fun c hc => by have h3 := hfl c hc; simp only [Bool.not_eq_eq_eq_not, Bool.not_true] at h3; exact h3
            have hfd2 : askF a d.b = true := hfd
            have hdd : d ∈ ls ++ d :: rs := by simp
            have HFIN : Hid (askM x M1 t a s u = (d.b.port, 0, (ls ++ ({ d with b := tillB u d.b } : Nd) :: rs).map Nd.b)) := Lib.hid (by
              unfold askM
              rw [if_pos HMAB.out]
              have hM : M1 = ls.map Nd.b ++ d.b :: rs.map Nd.b := by rw [← HLM.out]; simp
              have h1 : M1.find? (askF a) = some d.b := by
                rw [hM, List.find?_append, List.find?_cons_of_pos hfd2]
                have : (ls.map Nd.b).find? (askF a) = none := by
                  rw [List.find?_eq_none]
                  intro c hc
                  obtain ⟨e, he, rfl⟩ := List.mem_map.1 hc
                  simp [hfl2 e he]
                rw [this]; rfl
              have h2 : updF (askF a) (tillB u) M1 = (ls ++ ({ d with b := tillB u d.b } : Nd) :: rs).map Nd.b := by
                rw [hM, updF_at (fun c hc => by obtain ⟨e, he, rfl⟩ := List.mem_map.1 hc; exact hfl2 e he) hfd2]
                simp
              rw [h1]
              simp only [h2])
            have c5 := (HM4.out.na.nds _ hdd).cells.1.2.2.2.2.2.1
            have c4 := (HM4.out.na.nds _ hdd).cells.1.2.2.2.2.1
            have f5 := (HM4.out.na.nds _ hdd).cells.2.2 5
            have hm5 := HM4.out.trans (Mvd.turn (d' := { d with b := { d.b with until_ := u } }) (w1 := w4.setCell ⟨d.p, 5, none⟩ (.int .i64 u)) HM4.out.na rfl (set_until (HM4.out.na.nds _ hdd)) (fun g hg => .inl hg) (Keeps.set (Keeps.refl _ _) d.p 5 _ (.inl rfl)))
            have HE := Lib.hid (HRES.out _ _ _ _ HFIN.out (HBX.out _ _ _ _ hm5).2 rfl)
            clear hf hfl hfl2 hfd hfd2 hm5
            unfold ptrO
            dsimp only [Option.map]
            go_wp2
            go_ret2
            exact HE.out
          | none =>
            have hwn : M1.find? (askF a) = none := by
              rw [List.find?_eq_none] at hf ⊢
              intro c hc
              rw [← HLM.out] at hc
              obtain ⟨e, he, rfl⟩ := List.mem_map.1 hc
              exact hf e he
            have HFULL : Hid (addM x M1 s = none → askM x M1 t a s u = (0, 10, M1)) := Lib.hid (fun h => by unfold askM; rw [if_pos HMAB.out, hwn]; simp only [h])
            have HNEW : Hid (∀ p, addM x M1 s = some p → askM x M1 t a s u = (p, 0, M1 ++ [askB a p u])) := Lib.hid (fun p h => by unfold askM; rw [if_pos HMAB.out, hwn]; simp only [h])
            have HADD : Hid (Calls Try.prog 43 #[.pointer (some ⟨nb, 0, none⟩), .agg #[.int .u32 a.1, .int .i64 a.2, .int .u32 0, .int .i64 0, .int .i64 0, .int .i64 0, .bool true], .int .i64 s] w4 (Added w4 nb x t kv1 L1 (askB a 0 0) s)) := Lib.hid (add_any nb x t kv1 L1 (askB a 0 0) s w4 HM4.out.na (by have := HL1.out.len; omega) HX.out.lo HX.out.lh HX.out.hi rfl)
            clear hf hwn
            unfold ptrO
            dsimp only [Option.map]
            cases hadd : addM x M1 s with
            | none =>
              have HF := Lib.hid (HFULL.out hadd)
              unfold Added at HADD
              rw [HLM.out, hadd] at HADD
              clear hadd
              go_wp2_with fail
              refine HADD.out.mono ?_
              rintro e w5 ⟨rfl, hb5⟩
              have HE := Lib.hid (HRES.out _ _ _ _ HF.out (HBX.out _ _ _ _ (HM4.out.trans (.same HM4.out.na hb5))).2 HLM.out)
              clear hb5
              go_wp2
              go_ret2
              exact HE.out
            | some p =>
              have HF := Lib.hid (HNEW.out p hadd)
              unfold Added at HADD
              rw [HLM.out, hadd] at HADD
              clear hadd
              go_wp2_with fail
              refine HADD.out.mono ?_
              rintro e w5 ⟨q, kv2, rfl, hq, hn, hfr, hk⟩
              obtain ⟨d, hd⟩ : ∃ d : Nd, d = ⟨q, { askB a 0 0 with port := p }, .slice none 0 0⟩ := ⟨_, rfl⟩
              rw [← hd] at hn
              have hdp : q = d.p := by rw [hd]
              have hsv : d.sv = .slice none 0 0 := by rw [hd]
              have hm5 := HM4.out.trans (Mvd.added (q := 0) hn (by rw [← hdp]; exact hq) hsv hfr hk)
              have hdd : d ∈ L1 ++ [d] := by simp
              have c5 := (hm5.na.nds _ hdd).cells.1.2.2.2.2.2.1
              have c4 := (hm5.na.nds _ hdd).cells.1.2.2.2.2.1
              have f5 := (hm5.na.nds _ hdd).cells.2.2 5
              have hm6 := hm5.trans (Mvd.turn (ls := L1) (rs := []) (d := d) (d' := { d with b := { d.b with until_ := u } }) (w1 := w5.setCell ⟨d.p, 5, none⟩ (.int .i64 u)) hm5.na rfl (set_until (hm5.na.nds _ hdd)) (fun g hg => .inl hg) (Keeps.set (Keeps.refl _ _) d.p 5 _ (.inl rfl)))
              have HE := Lib.hid (HRES.out _ _ _ _ HF.out (HBX.out _ _ _ _ hm6).2 (by rw [List.map_append, HLM.out, hd]; rfl))
              have hdpp : d.b.port = p := by rw [hd]
              rw [hdpp] at c4
              rw [hdp]
              clear hm5 hm6 hn hfr hk hq hd hsv hdpp
              go_wp2
              go_ret2
              exact HE.out
end Go.Proofs.Ytemlnkcokeckmaa
