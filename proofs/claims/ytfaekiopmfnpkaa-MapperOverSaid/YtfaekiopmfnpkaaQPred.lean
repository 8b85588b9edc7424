/-
  Contracts of embrasure/pcp's readMapping, ReadAsk and ReadAnswer: what they read of bytes. Conditions: the slice reads as bytes.
-/
import Derived.Test.YtfaekiopmfnpkaaQPwds
namespace Go.Proofs.Ytfaekiopmfnpkaa.Pp
open Go.RowKit
attribute [local go_sem] Oper.semAt_some
set_option linter.unusedVariables false
set_option linter.unusedSimpArgs false

section
variable {w W : World} {b : Nat} {l : Le} {zs : List Int}
/-- the reader's next number, of up to sixteen bytes -/
theorem Rs.nextB {k : Nat} (h : Rs w W b l (zs.drop k)) (n m : Nat) (hn : n ≤ 16) (hm : k + n = m) :
    Calls Try.prog 52 #[.int .i64 (n : Int), .pointer (some ⟨w.heap.size + 2, 0, none⟩)] W fun e W' => e = .returned (.int .i64 (IntKind.i64.wrap (ncut zs k n))) ∧ Rs w W' b l (zs.drop m) := by
  refine (next_big _ b n (zs.drop k) W h.rd hn).mono ?_
  rintro e W' ⟨rfl, h1, h2⟩
  have hs := h.low.size
  rw [List.drop_drop, hm] at h1
  refine ⟨rfl, h.low.grown h2 hs (fun g hg => by cases hg; omega), (h2.block _ h.res.lt (fun e => by injection e; omega)).trans h.res, (h2.block _ h.box.lt (fun e => by injection e; omega)).trans h.box, h1, fun hz => h.old (fun e => hz ?_)⟩
  rw [← hm, ← List.drop_drop, e]; simp
theorem Rs.nextM {k : Nat} (h : Rs w W b l (zs.drop k)) (hb : Bd zs) (n m : Nat) (hn : n ≤ 7) (hm : k + n = m) :
    Calls Try.prog 52 #[.int .i64 (n : Int), .pointer (some ⟨w.heap.size + 2, 0, none⟩)] W fun e W' => e = .returned (.int .i64 (ncut zs k n)) ∧ Rs w W' b l (zs.drop m) := by
  have e : IntKind.i64.wrap (ncut zs k n) = ncut zs k n := nu_w64 (fun z hz => hb z (List.mem_of_mem_drop (List.mem_of_mem_take hz))) (by rw [List.length_take]; omega)
  have := h.nextB n m (by omega) hm
  rwa [e] at this
end
/-- what the mapping's part of the bytes says, in a lease -/
def mapL (l : Le) (zs : List Int) : Le := ⟨l.ver, ncut zs 40 2, ncut zs 42 2, l.secs, ncut zs 28 8, l.res, l.epo, ncut zs 44 16 % 4294967296⟩

set_option maxRecDepth 100000 in
set_option maxHeartbeats 8000000 in
theorem rdmap_any (w W : World) (b : Nat) (l : Le) (zs : List Int) (h : Rs w W b l (zs.drop 24)) (hb : Bd zs) :
    Calls Try.prog 47 #[.func (.func 52) #[] #[.pointer (some ⟨w.heap.size + 2, 0, none⟩)], .pointer (some ⟨w.heap.size + 1, 0, none⟩)] W fun e W' => e = .returned (.tuple #[]) ∧ Rs w W' b (mapL l zs) (zs.drop 60) := by
  have HS0 := Lib.hid h; clear h
  have HBD := Lib.hid hb
  obtain ⟨a8, ha8⟩ : ∃ a, IntKind.i64.wrap (ncut zs 28 8) = a := ⟨_, rfl⟩
  obtain ⟨a16, ha16⟩ : ∃ a, IntKind.i64.wrap (ncut zs 44 16) = a := ⟨_, rfl⟩
  have hu8 : IntKind.u64.wrap a8 = ncut zs 28 8 := by
    have := ncut_lt hb 28 8
    have e2 : (256 : Int) ^ 8 = 18446744073709551616 := by decide
    rw [e2] at this
    rw [← ha8, IntKind.wrap_i64]
    simp [IntKind.wrap, IntKind.bits, IntKind.signed]
    omega
  have hu16 : IntKind.u32.wrap a16 = ncut zs 44 16 % 4294967296 := by
    rw [← ha16, IntKind.wrap_i64]
    simp [IntKind.wrap, IntKind.bits, IntKind.signed]
    omega
  have HA8 := Lib.hid ha8
  have HA16 := Lib.hid ha16
  clear ha8 ha16 hb
  go_enter Try.func47, Try.ntmps47
  go_wp2_with fail
  refine (HS0.out.nextM HBD.out 4 28 (by decide) rfl).mono ?_
  rintro e w1 ⟨rfl, h1⟩
  have HS1 := Lib.hid h1; clear h1
  go_wp2_with fail
  refine (HS1.out.nextB 8 36 (by decide) rfl).mono ?_
  rintro e w2 ⟨rfl, h2⟩
  have HS2 := Lib.hid h2; clear h2
  rw [HA8.out]
  have hcc2 := HS2.out.cells
  obtain ⟨hl2, hf2⟩ := hcc2
  obtain ⟨x0, x1, x2, x3, x4, x5, x6, x7⟩ := HS2.out.box.cells
  have f4 := (hf2 4).1
  go_wp2_with fail
  have HS2b := Lib.hid (HS2.out.set 4 (.int .u64 (ncut zs 28 8)) ⟨l.ver, l.ins, l.prt, l.secs, ncut zs 28 8, l.res, l.epo, l.hst⟩ rfl (by decide))
  clear x0 x1 x2 x3 x4 x5 x6 x7 f4 hl2 hf2
  refine (HS2b.out.nextM HBD.out 4 40 (by decide) rfl).mono ?_
  rintro e w3 ⟨rfl, h3⟩
  have HS3 := Lib.hid h3; clear h3
  go_wp2_with fail
  refine (HS3.out.nextM HBD.out 2 42 (by decide) rfl).mono ?_
  rintro e w4 ⟨rfl, h4⟩
  have HS4 := Lib.hid h4; clear h4
  go_wp2_with fail
  refine (HS4.out.nextM HBD.out 2 44 (by decide) rfl).mono ?_
  rintro e w5 ⟨rfl, h5⟩
  have HS5 := Lib.hid h5; clear h5
  have hcc5 := HS5.out.cells
  obtain ⟨hl5, hf5⟩ := hcc5
  obtain ⟨x0, x1, x2, x3, x4, x5, x6, x7⟩ := HS5.out.box.cells
  have f1 := (hf5 1).1
  have f2 := (hf5 2).1
  go_wp2_with fail
  have HS5b := Lib.hid ((HS5.out.set 1 (.int .i64 (ncut zs 40 2)) ⟨l.ver, ncut zs 40 2, l.prt, l.secs, ncut zs 28 8, l.res, l.epo, l.hst⟩ rfl (by decide)).set 2 (.int .i64 (ncut zs 42 2)) ⟨l.ver, ncut zs 40 2, ncut zs 42 2, l.secs, ncut zs 28 8, l.res, l.epo, l.hst⟩ rfl (by decide))
  clear x0 x1 x2 x3 x4 x5 x6 x7 f1 f2 hl5 hf5
  refine (HS5b.out.nextB 16 60 (by decide) rfl).mono ?_
  rintro e w6 ⟨rfl, h6⟩
  have HS6 := Lib.hid h6; clear h6
  rw [HA16.out]
  have hcc6 := HS6.out.cells
  obtain ⟨hl6, hf6⟩ := hcc6
  obtain ⟨x0, x1, x2, x3, x4, x5, x6, x7⟩ := HS6.out.box.cells
  have f7 := (hf6 7).1
  go_wp2
  have HS7 := Lib.hid (HS6.out.set 7 (.int .u32 (ncut zs 44 16 % 4294967296)) (mapL l zs) rfl (by decide))
  clear x0 x1 x2 x3 x4 x5 x6 x7 f7 hl6 hf6
  go_end0
  exact ⟨rfl, HS7.out⟩
end Go.Proofs.Ytfaekiopmfnpkaa.Pp
