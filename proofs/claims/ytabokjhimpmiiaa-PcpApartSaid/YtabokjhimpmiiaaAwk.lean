/-
  Embrasurelaw09's awake; a request is never an answer; leases that came in. Conditions: as each lemma states.
-/
import Derived.Test.YtabokjhimpmiiaaWds
import Derived.ProofKit
import Derived.OpenShut
import Derived.ChangeOld
import Derived.Lib.SmallJoins
import Derived.Deep.Slices
namespace Go.Proofs.Ytabokjhimpmiiaa
open Go.RowKit Go.ChangeShapes
attribute [local go_sem] Oper.semAt_some
set_option linter.unusedVariables false
set_option linter.unusedSimpArgs false

theorem ask_snd {zs : List Int} {l : Le} {h : Bool} (hz : AskOf zs l h) : zs.getD 1 0 = if h then 0 else 1 := by
  obtain ⟨hb, rfl⟩ := hz
  unfold askR
  rw [if_pos hb]
  cases h <;> rfl
theorem ans_snd {zs : List Int} {l : Le} {h : Bool} (hz : AnsOf zs l h) : zs.getD 1 0 = if h then 128 else 129 := by
  obtain ⟨_, hb, rfl⟩ := hz
  unfold ansR
  rw [if_pos hb]
  cases h <;> rfl
theorem ask_ans {zs : List Int} {l l' : Le} {h h' : Bool} (h1 : AskOf zs l h) (h2 : AnsOf zs l' h') : False := by
  have a := ask_snd h1
  have b := ans_snd h2
  rw [a] at b
  cases h <;> cases h' <;> simp at b
def aL : Le := ⟨0, 5, 7, 60, 0, 0, 0, 0⟩
def bL : Le := ⟨0, 0, 0, 0, 0, 0, 0, 9⟩
theorem aL_is : isL aL := by constructor <;> simp [aL, W64]
theorem bL_is : isL bL := by constructor <;> simp [bL, W64]
theorem aL_row : askR aL false = [0, 1, 0, 0, 0, 5, 0, 7, 0, 0, 0, 60] := by decide +kernel
theorem bL_row : (ansR bL true).length = 12 := by decide +kernel

set_option maxRecDepth 100000 in
set_option maxHeartbeats 4000000 in
theorem awake_any (w : World) : Calls Try.prog 11 #[] w fun e w' => e = .returned (.bool true) ∧ Below w.heap.size w w' := by
  have CA := Lib.hid (fun W => tell_ask aL false W aL_is)
  have CB := Lib.hid (fun W => tell_ans bL true W bL_is)
  have CR := Lib.hid (fun V W (hr : Row W V [0, 1, 0, 0, 0, 5, 0, 7, 0, 0, 0, 60]) => read_ask_yes hr (l := aL) (h := false) ⟨by decide +kernel, aL_row.symm⟩)
  have CN := Lib.hid (fun V W (hr : Row W V [0, 1, 0, 0, 0, 5, 0, 7, 0, 0, 0, 60]) => read_ans_not hr (fun l h hz => ask_ans (l := aL) (h := false) ⟨by decide +kernel, aL_row.symm⟩ hz))
  rw [aL_row] at CA
  unfold okV noV at *
  unfold leV leA aL bL zeroL at *
  dsimp only at *
  go_enter Try.func11, Try.ntmps11
  go_wp2_with fail
  refine (CA.out _).mono ?_
  rintro e w1 ⟨V, rfl, hr, hb⟩
  have HB1 := Lib.hid hb
  have HR := Lib.hid hr
  clear hb hr
  go_wp2_with fail
  refine (CR.out _ _ HR.out).mono ?_
  rintro e w2 ⟨rfl, hb⟩
  have HB2 := Lib.hid (HB1.out.trans (hb.mono HB1.out.size))
  have HR2 := Lib.hid (HR.out.below hb)
  clear hb HR
  go_wp2_with fail
  obtain ⟨w3, hw3⟩ : ∃ w3, w2.alloc (.cells #[.int .i64 0, .int .i64 5, .int .i64 7, .int .i64 60, .int .u64 0, .int .i64 0, .int .i64 0, .int .u32 0] 25) = w3 := ⟨_, rfl⟩
  have HB3 : Hid (Below w.heap.size w w3) := Lib.hid (by rw [← hw3]; exact HB2.out.alloc HB2.out.size _)
  have HR3 : Hid (Row w3 V [0, 1, 0, 0, 0, 5, 0, 7, 0, 0, 0, 60]) := Lib.hid (by rw [← hw3]; exact HR2.out.below ((Below.refl _ _).alloc (Nat.le_refl _) _))
  have n4 : (w2.alloc (.cells #[.int .i64 0, .int .i64 5, .int .i64 7, .int .i64 60, .int .u64 0, .int .i64 0, .int .i64 0, .int .u32 0] 25)).heap[w2.heap.size]? = some (.cells #[.int .i64 0, .int .i64 5, .int .i64 7, .int .i64 60, .int .u64 0, .int .i64 0, .int .i64 0, .int .u32 0] 25 (0, 0)) := by
    show (w2.heap.push _)[w2.heap.size]? = _
    simp
  have c2 : w3.cell? ⟨w2.heap.size, 2, none⟩ = some (.int .i64 7) := by rw [← hw3]; exact (cells_of n4 2).1
  rw [hw3]
  clear n4
  have hs3 : w2.heap.size < w3.heap.size := lt_of_cell c2
  clear hw3
  refine (CN.out _ _ HR3.out).mono ?_
  rintro e w4 ⟨rfl, hb⟩
  have HB4 := Lib.hid (HB3.out.trans (hb.mono HB3.out.size))
  have HR4 := Lib.hid (HR3.out.below hb)
  have c4 := (hb.cell (p := ⟨w2.heap.size, 2, none⟩) hs3).trans c2
  have hs4 := hb.size
  have lt4 : w2.heap.size < w4.heap.size := by omega
  clear hb c2 hs3 hs4
  generalize w2.heap.size = g2 at *
  obtain ⟨A, c, rfl, v1, v2, v3, _⟩ := HR4.out
  obtain ⟨b, off, rfl, hbl, hc⟩ := v1.2.2 (by simp)
  have d1 := hc 1 (by simp)
  have d11 := hc 11 (by simp)
  simp at d1 d11
  clear HR3 HR4 HR2 hc v1
  go_wp2_with fail
  refine (CB.out _).mono ?_
  rintro e w5 ⟨V5, rfl, hr, hb⟩
  have HB5 := Lib.hid ((HB4.out.alloc HB4.out.size _).trans (hb.mono (by have := HB4.out.size; simp; omega)))
  obtain ⟨A5, c5, rfl, _⟩ := hr
  have hbl : (ansR ⟨0, 0, 0, 0, 0, 0, 0, 9⟩ true).length = 12 := bL_row
  rw [hbl]
  clear hb hbl
  go_wp2
  go_ret
  exact ⟨rfl, HB5.out⟩
end Go.Proofs.Ytabokjhimpmiiaa
