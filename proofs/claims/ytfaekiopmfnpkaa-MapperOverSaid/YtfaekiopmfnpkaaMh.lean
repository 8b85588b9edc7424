/-
  What MapperOver's walk is told: how a client is made, read as plain data; the document's own May; the answers that awake looks at. Conditions: none but those that each states.
-/
import Derived.Test.YtfaekiopmfnpkaaMg
import Derived.Test.YtfaekiopmfnpkaaQPawk
import Derived.OpenShut
import Derived.ShutString
import Derived.ChangeOld
import Derived.Lib.SmallJoins
import Derived.Deep.Slices
namespace Go.Proofs.Ytfaekiopmfnpkaa
open Go.RowKit Go.ChangeShapes
attribute [local go_sem] Oper.semAt_some
set_option linter.unusedVariables false
set_option linter.unusedSimpArgs false

/-- how a client is made -/
structure Cl where
  host : Int
  ins : Int
  secs : Int
  non : Int
def IsCli (w : World) (v : Value) (s : Cl) : Prop := v = .agg #[.int .u32 s.host, .int .i64 s.ins, .int .i64 s.secs, .int .u64 s.non] ∧ (0 ≤ s.host ∧ s.host < 4294967296) ∧ Pp.W64 s.ins ∧ Pp.W64 s.secs ∧ (0 ≤ s.non ∧ s.non ≤ 18446744073709551615)
section
variable {H : Type} {enc : TypeId × Value → H} {W : World}
set_option maxRecDepth 100000 in
theorem open_cli {r : Reach} {b0 : Nat} {v : Value} {d : DataW H} {p : List MemPlace} (hv : Value.okWide Try.prog W r b0 25 v) (h : DataW.Trod enc Try.prog W 0 (fun _ => true) true  25 v d p) : ∃ s, IsCli W v s := by
  obtain ⟨cs, rfl, hsz⟩ := Go.WideShapes.okWide_struct Try.underlying25 hv
  have hsz2 : cs.toList.length = 4 := by rw [Array.length_toList]; exact hsz.trans (by kernel_rfl)
  obtain ⟨c0, c1, c2, c3, rfl⟩ : ∃ c0 c1 c2 c3, cs = #[c0, c1, c2, c3] := by
    match h : cs.toList, hsz2 with
    | [c0, c1, c2, c3], _ => exact ⟨c0, c1, c2, c3, by rw [← Array.toArray_toList (xs := cs), h]⟩
  obtain ⟨fuel, hf⟩ := h
  obtain ⟨xs, n, _, _, hl, hlen, hx⟩ := DataW.trod_struct Try.underlying25 hf
  have k3 : Try.prog.cellsOf 3 = 1 := by kernel_rfl
  have k22 : Try.prog.cellsOf 23 = 1 := by kernel_rfl
  have k23 : Try.prog.cellsOf 22 = 1 := by kernel_rfl
  match xs, hlen with
  | [y0, y1, y2, y3], _ =>
    have h0 : DataW.trod enc Try.prog W 0 (fun _ => true) true n 22 [c0] = some y0 := by simpa [k23, Value.cells] using hx 0 _ rfl
    have h1 : DataW.trod enc Try.prog W 0 (fun _ => true) true n 3 [c1] = some y1 := by simpa [k3, Value.cells] using hx 1 _ rfl
    have h2 : DataW.trod enc Try.prog W 0 (fun _ => true) true n 3 [c2] = some y2 := by simpa [k3, Value.cells] using hx 2 _ rfl
    have h3 : DataW.trod enc Try.prog W 0 (fun _ => true) true n 23 [c3] = some y3 := by simpa [k22, Value.cells] using hx 3 _ rfl
    obtain ⟨a0, e0, _, p0⟩ := DataW.trod_int Try.underlying22 h0
    obtain ⟨a1, e1, _, p1⟩ := DataW.trod_int Try.underlying3 h1
    obtain ⟨a2, e2, _, p2⟩ := DataW.trod_int Try.underlying3 h2
    obtain ⟨a3, e3, _, p3⟩ := DataW.trod_int Try.underlying23 h3
    simp only [List.cons.injEq, and_true] at e0 e1 e2 e3
    have q0 := bounds_u32 p0
    have q1 := bounds_i64 p1
    have q2 := bounds_i64 p2
    have q3 := bounds_u64 p3
    refine ⟨⟨a0, a1, a2, a3⟩, by rw [e0, e1, e2, e3], ?_⟩
    dsimp only
    unfold Pp.W64
    omega
end
def mayC (h i s : Int) : Bool := decide (h ≠ 0) && decide (1 ≤ i) && decide (i ≤ 65535) && decide (1 ≤ s) && decide (s ≤ 4294967295)
theorem mayC_iff (h i s : Int) : mayC h i s = true ↔ h ≠ 0 ∧ 1 ≤ i ∧ i ≤ 65535 ∧ 1 ≤ s ∧ s ≤ 4294967295 := by unfold mayC; simp [and_assoc]
theorem may_yes (h i s : Int) (w : World) (hm : mayC h i s = true) : Calls Try.prog 6 #[.int .u32 h, .int .i64 i, .int .i64 s] w fun e w' => e = .returned (.bool true) ∧ w = w' := by
  obtain ⟨h0, h1, h2, h3, h4⟩ := (mayC_iff h i s).1 hm
  have hb : (h != (0 : Int)) = true := by simpa using h0
  clear hm h0
  go_enter Try.func6, Try.ntmps6
  go_wp2
  go_ret
  exact ⟨rfl, rfl⟩
theorem may_no (h i s : Int) (w : World) (hm : mayC h i s = false) : Calls Try.prog 6 #[.int .u32 h, .int .i64 i, .int .i64 s] w fun e w' => e = .returned (.bool false) ∧ w = w' := by
  have hn : ¬ (h ≠ 0 ∧ 1 ≤ i ∧ i ≤ 65535 ∧ 1 ≤ s ∧ s ≤ 4294967295) := by rw [← mayC_iff, hm]; simp
  clear hm
  by_cases h0 : h = 0
  · have hb : (h != (0 : Int)) = false := by simpa using h0
    clear hn h0
    go_enter Try.func6, Try.ntmps6
    go_wp2
    go_ret
    exact ⟨rfl, rfl⟩
  · have hb : (h != (0 : Int)) = true := by simpa using h0
    by_cases h1 : 1 ≤ i
    · by_cases h2 : i ≤ 65535
      · by_cases h3 : 1 ≤ s
        · have h4 : ¬ s ≤ 4294967295 := fun e => hn ⟨h0, h1, h2, h3, e⟩
          clear hn h0
          go_enter Try.func6, Try.ntmps6
          go_wp2
          go_ret
          exact ⟨rfl, rfl⟩
        · clear hn h0
          go_enter Try.func6, Try.ntmps6
          go_wp2
          go_ret
          exact ⟨rfl, rfl⟩
      · clear hn h0
        go_enter Try.func6, Try.ntmps6
        go_wp2
        go_ret
        exact ⟨rfl, rfl⟩
    · clear hn h0
      go_enter Try.func6, Try.ntmps6
      go_wp2
      go_ret
      exact ⟨rfl, rfl⟩
theorem st_of (a b c d e f g h : Int) (W : World) : (Instr.field 43 (.agg #[.int .i64 a, .int .i64 b, .int .i64 c, .int .u32 d, .int .i64 e, .int .i64 f, .int .i64 g, .int .i64 h]) 0).run Try.prog W = .ok (.int .i64 a) W := by kernel_rfl
theorem noGuard43 : Try.prog.eqGuardType Try.prog.depth 43 = false := by kernel_rfl
theorem noGuard41 : Try.prog.eqGuardType Try.prog.depth 41 = false := by kernel_rfl
open Mp in
theorem newM_is {host ins secs non : Int} (h0 : 0 ≤ host ∧ host < 4294967296) (h1 : 1 ≤ ins ∧ ins ≤ 65535) (h2 : 1 ≤ secs ∧ secs ≤ 4294967295) (h3 : 0 ≤ non ∧ non ≤ 18446744073709551615) : IsM (newM host ins secs non) := by
  unfold newM
  constructor <;> dsimp only [] <;> (try unfold Pp.W64) <;> omega
open Mp in
set_option maxHeartbeats 8000000 in
theorem awake_any (w : World) : Calls Try.prog 4 #[] w fun e w' => e = .returned (.bool true) ∧ Below w.heap.size w w' := by
  have HN := Lib.hid (new_ok w 5 80 60 9 (by decide) (by decide) (by decide))
  have HB := Lib.hid (fun W => new_bad W 5 0 60 9 (.inr (.inl (by decide))))
  go_enter Try.func4, Try.ntmps4
  go_wp2_with fail
  refine HN.out.mono ?_
  rintro e V1 ⟨mb, am, rfl, h1, hst1, hne, hmb, ham, hb1⟩
  have H1 := Lib.hid h1
  have HST1 := Lib.hid hst1
  have HNE := Lib.hid hne
  have HMB := Lib.hid hmb
  have HB1 := Lib.hid hb1
  clear hst1 hne hmb ham hb1
  unfold pt
  go_wp2_with fail
  refine (HB.out _).mono ?_
  rintro e V1' ⟨rfl, rfl⟩
  have hs := start_any h1 (newM_is (by decide) (by decide) (by decide) (by decide)) 0 (by decide) (by decide)
  obtain ⟨m1, hm1⟩ : ∃ m1, m1 = asked (bare { newM 5 80 60 9 with now := 0 } 2) 0 := ⟨_, rfl⟩
  have hm1' : m1 = ⟨5, 60, 9, 1, 2, 80, 0, 0, 0, 1, 1, 0, 0, 0, 0, 0, 0⟩ := by rw [hm1]; rfl
  have hrs : askRs (bare { newM 5 80 60 9 with now := 0 } 2) = [Pp.paskR ⟨2, 80, 0, 60, 9, 0, 0, 0⟩ 5] := rfl
  rw [← hm1, hrs] at hs
  have HM1 := Lib.hid hm1'
  have HS := Lib.hid hs
  clear hs hm1 hm1' hrs h1
  unfold pt at HS
  go_wp2_with fail
  refine HS.out.mono ?_
  rintro e V2 ⟨v, OB, rfl, hheld, hold, hout, h2, k2⟩
  have hnm : ∀ r ∈ OB, r.1 ≠ mb := fun r hr => by have := hold r hr; have := H1.out.lt; omega
  obtain rfl := HM1.out
  have hst2 := HST1.out.kp k2 HNE.out
  have ht := tick_do h2 hst2 HNE.out (by unfold Pp.W64; decide) 1 (by decide) (by decide) (by decide) (k := 12) (by decide) (fun W hW => probe_two hW (by constructor <;> (try unfold Pp.W64) <;> decide) 1 (by decide) (by decide) (by decide))
  obtain ⟨m2, hm2⟩ : ∃ m2 : Mpr, m2 = ⟨5, 60, 9, 1, 2, 80, 0, 0, 0, 2, 3, 0, 0, 0, 0, 0, 1⟩ := ⟨_, rfl⟩
  have em2 : asked { (⟨5, 60, 9, 1, 2, 80, 0, 0, 0, 1, 1, 0, 0, 0, 0, 0, 0⟩ : Mpr) with now := 1 } 1 = m2 := by rw [hm2]; rfl
  have hrs : askRs { (⟨5, 60, 9, 1, 2, 80, 0, 0, 0, 1, 1, 0, 0, 0, 0, 0, 0⟩ : Mpr) with now := 1 } = [Pp.paskR ⟨2, 80, 0, 60, 9, 0, 0, 0⟩ 5] := rfl
  rw [em2, hrs] at ht
  have HT := Lib.hid ht
  have HM2 := Lib.hid hm2
  have HST2 := Lib.hid hst2
  have HB2 := Lib.hid (HB1.out.trans (k2.low HMB.out HB1.out.size))
  have HHELD := Lib.hid hheld
  have HOUT := Lib.hid hout
  have HNM := Lib.hid hnm
  have hform := (hout _ hheld)
  obtain ⟨A, cc, rfl, _, _, _⟩ := hform
  clear ht hm2 em2 hrs hst2 hheld hold hout hnm h2 k2
  unfold pt at HT
  go_wp2_with fail
  refine HT.out.mono ?_
  rintro e V3 ⟨v3, OB3, rfl, hheld3, hold3, hout3, h3, k3⟩
  obtain rfl := HM2.out
  have hst3 := HST2.out.kp k3 HNE.out
  have hw := tick_wait h3 hst3 HNE.out (by unfold Pp.W64; decide) 2 (by decide) (by decide) (.inr (by decide))
  have HW := Lib.hid hw
  have HB3 := Lib.hid (HB2.out.trans (k3.low HMB.out HB2.out.size))
  obtain ⟨A3, cc3, rfl, _, _, _⟩ := hout3 _ hheld3
  obtain ⟨A', cc', e2, _, _, hrow⟩ := HOUT.out V3 (HHELD.out.kp k3 HNM.out)
  simp only [Value.slice.injEq] at e2
  obtain ⟨rfl, _, rfl⟩ := e2
  obtain ⟨g, u, rfl, hcu, hru⟩ := hrow 0 _ rfl
  obtain ⟨A4, c4, rfl⟩ := row_form hru
  rw [show (Pp.paskR ⟨2, 80, 0, 60, 9, 0, 0, 0⟩ 5).length = 60 from Pp.paskR_len _ (by unfold Pp.Pas Pp.Pan; decide)] at hcu
  have gl := World.block_lt_of_cell? V3 _ hcu
  dsimp only at gl
  clear hw hst3 hheld3 hold3 hout3 h3 k3 hrow hru HT HS
  unfold pt at HW
  go_wp2_with fail
  refine HW.out.mono ?_
  rintro e V4 ⟨rfl, h4, k4⟩
  have HSTT := Lib.hid (state_any h4)
  have HB4 := Lib.hid (HB3.out.trans (k4.low HMB.out HB3.out.size))
  clear h4 k4 hcu gl HW
  unfold pt at HSTT
  have hg43 := noGuard43
  go_wp2_with fail
  refine HSTT.out.mono ?_
  rintro e V5 ⟨rfl, hb5⟩
  have HB5 := Lib.hid (HB4.out.trans (hb5.mono HB4.out.size))
  clear hb5
  go_wp2
  go_ret
  exact ⟨rfl, HB5.out⟩
end Go.Proofs.Ytfaekiopmfnpkaa
