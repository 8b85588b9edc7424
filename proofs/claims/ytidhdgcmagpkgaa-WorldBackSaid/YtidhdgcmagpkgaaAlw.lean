/-
  The contract of nat's All: all bindings, by rising ports. Conditions: the box lies in memory; at most 100 bindings.
-/
import Derived.Test.YtidhdgcmagpkgaaAll
import Derived.Test.YtidhdgcmagpkgaaPlb
namespace Go.Proofs.Ytidhdgcmagpkgaa
open Go.RowKit
attribute [local go_sem] Oper.semAt_some
set_option linter.unusedVariables false

/-- what All leaves -/
def AllR (w : World) (nb : Nat) (x : Bx) (now : Int) (kv : Value) (L : List Nd) (t : Int) : Ending → World → Prop := fun e w' =>
  if goes now t = true then ∃ kv' v l', e = .returned v ∧ l'.Perm (liveM (L.map Nd.b) t) ∧ RiseP l' ∧ IsBs w' v l' ∧ Mvd nb x kv L w t kv' (liveN L t) w'
  else e = .returned (.slice none 0 0) ∧ Mvd nb x kv L w now kv L w'

set_option maxRecDepth 100000 in
set_option maxHeartbeats 4000000 in
theorem all_any (nb : Nat) (x : Bx) (now : Int) (kv : Value) (L : List Nd) (t : Int) (w : World) (h : Na w nb x now kv L) (hL : OkL L) :
    Calls Try.prog 12 #[.pointer (some ⟨nb, 0, none⟩), .int .i64 t] w (AllR w nb x now kv L t) := by
  have HG := Lib.hid (goesOn_any nb x now t kv L w h (by have := hL.len; omega))
  have H := Lib.hid h; have HL := Lib.hid hL
  clear h hL
  go_enter Try.func12, Try.ntmps12
  go_wp2_with fail
  refine HG.out.mono ?_
  intro e w1 hw1
  obtain rfl := hw1.1
  cases hg : goes now t with
  | false =>
    have hb : Below w.heap.size w w1 := by have := hw1.2; rw [hg, if_neg (by simp)] at this; exact this
    have HE := Lib.hid (Mvd.same H.out hb)
    have HGG := Lib.hid hg
    clear hw1 hg hb
    go_wp2
    go_ret
    unfold AllR
    rw [HGG.out, if_neg (by simp)]
    exact ⟨rfl, HE.out⟩
  | true =>
    obtain ⟨kv1, hm1⟩ := Mvd.went H.out hw1 hg
    have HL1 := Lib.hid (HL.out.live t)
    have HRES : Hid (∀ v w' l', l'.Perm ((liveN L t).map Nd.b) → RiseP l' → IsBs w' v l' → Mvd nb x kv L w t kv1 (liveN L t) w' → AllR w nb x now kv L t (.returned v) w') := Lib.hid (fun v w' l' h1 h2 h3 h4 => by
      rw [live_map] at h1
      unfold AllR
      rw [if_pos hg]
      exact ⟨kv1, v, l', rfl, h1, h2, h3, h4⟩)
    clear hw1 hg
    generalize liveN L t = L1 at *
    have HM1 := Lib.hid hm1
    have c7 := hm1.na.cells.2.1
    have hl100 := HL1.out.len
    have HEND : Hid (∀ w', Below w1.heap.size w1 w' → Mvd nb x kv L w t kv1 L1 w') := Lib.hid (fun w' hb => HM1.out.trans (.same HM1.out.na hb))
    rcases hm1.na.rowAt with ⟨rfl, rfl⟩ | ⟨g, cap, cur, rfl, hgg, hnc, hm3, hcs, hcell⟩
    · have HS := Lib.hid (fun W => sort_list (B := W.heap.size) (w := W) (v := .slice none 0 0) (l := []) (World.ownsRow_nil _ _ _ _) (by simp) (Nat.le_refl _))
      clear hm1
      go_wp2
      go_loopg [5, 17] 0 (fun _ s5 s17 wr => s5 = .slice none 0 0 ∧ s17 = .int .i64 0 ∧ wr = w1)
      case atStart => exact ⟨rfl, rfl, rfl⟩
      case round =>
        obtain ⟨rfl, rfl, rfl⟩ := hrel
        go_wp2_with fail
        refine (HS.out _).mono ?_
        rintro e w9 ⟨rfl, hb9, l', h1, h2, h3⟩
        have HE := Lib.hid (HRES.out _ _ _ h1 h2 h3 (HEND.out _ hb9))
        clear hb9 h1 h2 h3
        go_wp2
        go_ret
        exact HE.out
    · have HCELL : Hid (∀ (j : Nat) (d : Nd), L1[j]? = some d → d ∈ L1 ∧ w1.cell? ⟨g, j, none⟩ = some (.pointer (some ⟨d.p, 0, none⟩))) := Lib.hid (fun j d hj => ⟨List.mem_of_getElem? hj, by rw [(cells_of hgg j).1]; exact hcell j d hj⟩)
      have hgl := (Array.getElem?_eq_some_iff.1 hgg).1
      clear hcell hcs hgg hm1
      go_wp2
      go_loopg [5, 17] L1.length (fun gg s5 s17 wr => ∃ k : Nat, k ≤ L1.length ∧ L1.length - k ≤ gg ∧ s17 = .int .i64 k ∧ Hid (∃ A n c, s5 = .slice A n c) ∧ Hid (wr.ownsRow w1.heap.size 72 7 s5 ((L1.take k).map Nd.b).length (cellsB ((L1.take k).map Nd.b))) ∧ Hid (Below w1.heap.size w1 wr))
      case atStart => exact ⟨0, by omega, by omega, rfl, Lib.hid ⟨_, _, _, rfl⟩, Lib.hid (World.ownsRow_nil _ _ _ _), Lib.hid (Below.refl _ _)⟩
      case round =>
        obtain ⟨k, hk, hgk, rfl, HSL, HRW, HB⟩ := hrel
        have hwr := HB.out.size
        by_cases hlt : k < L1.length
        · have hltz : (k : Int) < (L1.length : Int) := by omega
          obtain ⟨d, hd⟩ : ∃ d, L1[k]? = some d := ⟨_, List.getElem?_eq_getElem hlt⟩
          obtain ⟨hdm, k0⟩ := HCELL.out k d hd
          have hND := HM1.out.na.nds d hdm
          have hdl := hND.lt
          obtain ⟨n0, n1, n2, n3, n4, n5, n6⟩ := hND.cells.1
          have y := (HB.out.cell (p := ⟨g, k, none⟩) hgl).trans k0
          have m0 := (HB.out.cell (p := ⟨d.p, 0, none⟩) hdl).trans n0
          have m1 := (HB.out.cell (p := ⟨d.p, 1, none⟩) hdl).trans n1
          have m2 := (HB.out.cell (p := ⟨d.p, 2, none⟩) hdl).trans n2
          have m3 := (HB.out.cell (p := ⟨d.p, 3, none⟩) hdl).trans n3
          have m4 := (HB.out.cell (p := ⟨d.p, 4, none⟩) hdl).trans n4
          have m5 := (HB.out.cell (p := ⟨d.p, 5, none⟩) hdl).trans n5
          have m6 := (HB.out.cell (p := ⟨d.p, 6, none⟩) hdl).trans n6
          obtain ⟨v9, W9, t1, t2, t3, t4⟩ := row_end d.b HRW.out (by rw [List.length_map, List.length_take]; omega) hwr
          obtain ⟨A9, N9, C9, rfl⟩ := t2
          have T1 := Lib.hid t1
          have HRW9 : Hid (W9.ownsRow w1.heap.size 72 7 (.slice A9 N9 C9) ((L1.take (k + 1)).map Nd.b).length (cellsB ((L1.take (k + 1)).map Nd.b))) := Lib.hid (by
            rw [List.take_add_one, hd, List.map_append]; exact t3)
          have HB9 := Lib.hid (HB.out.trans t4)
          unfold encB Bn.cells at T1
          clear n0 n1 n2 n3 n4 n5 n6 hND t1 t3 t4 hd hdm k0
          go_wp2_with (at_builtin; refine wpList_run rfl (.tmp 21) (.tmp 26) 49 rfl rfl rfl T1.out ?_)
          go_roundg (L1.length - (k + 1))
          case measure => omega
          case rel => exact ⟨k + 1, by omega, by omega, by go_num, Lib.hid ⟨_, _, _, rfl⟩, HRW9, HB9⟩
        · have hltz : ¬ (k : Int) < (L1.length : Int) := by omega
          obtain rfl : k = L1.length := by omega
          rw [List.take_length] at HRW
          have HS := Lib.hid (sort_list HRW.out (by rw [List.length_map]; omega) hwr)
          obtain ⟨A8, N8, C8, h8⟩ := HSL.out
          rw [h8] at HS
          go_wp2_with fail
          first | rw [h8] | skip
          refine HS.out.mono ?_
          rintro e w9 ⟨rfl, hb9, l', h1, h2, h3⟩
          have HE := Lib.hid (HRES.out _ _ _ h1 h2 h3 (HEND.out _ (HB.out.trans hb9)))
          clear hb9 h1 h2 h3
          go_wp2
          go_ret
          exact HE.out
section
variable {w0 V V' : World} {nb : Nat} {x : Bx} {now now' : Int} {M M' : List Bn} {os : List (Nat × Obj)}
/-- All, where the time may go on -/
theorem all_pl (h : Pl w0 nb x now M os V) (hM : OkM M) (t : Int) (hg : goes now t = true) :
    Calls Try.prog 12 #[.pointer (some ⟨nb, 0, none⟩), .int .i64 t] V fun e V' => (∃ v l', e = .returned v ∧ l'.Perm (liveM M t) ∧ RiseP l' ∧ IsBs V' v l') ∧ Pl w0 nb x t (liveM M t) os V' := by
  obtain ⟨kv, L, h1, h2, h3, h4⟩ := h.bo
  subst h2
  refine (all_any nb x now kv L t V h1 hM.ofL).mono fun e V' hr => ?_
  unfold AllR at hr
  rw [if_pos hg] at hr
  obtain ⟨kv', v, l', rfl, p1, p2, p3, g2⟩ := hr
  refine ⟨⟨v, l', rfl, p1, p2, p3⟩, ⟨kv', _, g2.na, live_map L t, fun k hk => (g2.foot k hk).elim (h3 k) (fun e => Nat.le_trans h.low.size e), fun p hp hf => ?_⟩, fun p hp => ?_, h.low.trans (g2.keeps.below h3 h.low.size)⟩
  · exact (g2.foot _ hf).elim (h4 p hp) (fun e => by have := h.lt hp; omega)
  · exact (g2.keeps.block _ (h.lt hp) (h4 p hp)).trans (h.held p hp)
end
end Go.Proofs.Ytidhdgcmagpkgaa
