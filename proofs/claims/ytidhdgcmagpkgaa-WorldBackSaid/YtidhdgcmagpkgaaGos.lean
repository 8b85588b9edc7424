/-
  The contract of nat's goesOn. Conditions: the box lies in memory; at most 1000 bindings.
-/
import Derived.Test.YtidhdgcmagpkgaaGon
namespace Go.Proofs.Ytidhdgcmagpkgaa
open Go.RowKit
attribute [local go_sem] Oper.semAt_some
set_option linter.unusedVariables false

/-- may the time go on to t? -/
def goes (now t : Int) : Bool := decide (now ≤ t) && decide (t ≤ 1099511627776)
def dead (t : Int) (d : Nd) : Bool := decide (d.b.until_ ≤ t)
/-- those that are left at t -/
def liveN (L : List Nd) (t : Int) : List Nd := L.filter (fun d => !dead t d)
def Went (w : World) (nb : Nat) (x : Bx) (now t : Int) (kv : Value) (L : List Nd) : Ending → World → Prop := fun e w' =>
  e = .returned (.bool (goes now t)) ∧ if goes now t = true then ∃ kv', Na w' nb x t kv' (liveN L t) ∧ kv'.ownBlock = kv.ownBlock ∧ Keeps (fun k => k = nb ∨ kv.ownBlock = some k) w w' else Below w.heap.size w w'

theorem set_now {w : World} {nb : Nat} {x : Bx} {now : Int} {kv : Value} {L : List Nd} (h : Na w nb x now kv L) (t : Int) : Na (w.setCell ⟨nb, 8, none⟩ (.int .i64 t)) nb x t kv L := by
  have ho : ∀ k, k ≠ nb → (w.setCell ⟨nb, 8, none⟩ (.int .i64 t)).heap[k]? = w.heap[k]? := fun k hk => heap_setCell_other w ⟨nb, 8, none⟩ k _ hk
  refine ⟨heap_setCell_same w nb 8 _ 69 _ h.top, own_at h.row (fun g hg => ho g (fun e => by rw [e] at hg; exact h.ne_row hg)), fun d hd => (h.nds d hd).kept (ho _ (h.ne_nd hd)) (fun g hg => ho g (fun e => by rw [e] at hg; exact h.ne_seen hd hg)), h.sep⟩

theorem lt_of_cell {w : World} {a : Addr} {v : Value} (h : w.cell? a = some v) : a.block < w.heap.size := World.block_lt_of_cell? w a h
theorem tests46 {V : World} {nb cb : Nat} {x : Bx} {now t : Int} {kv : Value} {L : List Nd} (h : Na V nb x now kv L) (hc : V.cell? ⟨cb, 0, none⟩ = some (.int .i64 t)) (hcb : kv.ownBlock ≠ some cb) :
    Tests 33 #[.pointer (some ⟨cb, 0, none⟩)] (byP L (dead t)) (L.map Nd.p) (fun k => kv.ownBlock = some k) V := by
  intro p hp W hW
  obtain ⟨d, hd, rfl⟩ := List.mem_map.1 hp
  rw [byP_at h.sep _ hd]
  have hcl := lt_of_cell hc
  refine until_any cb t d W ((World.cell?_of_block (hW.block cb hcl hcb)).trans hc) ((h.nds d hd).kept (hW.block _ (h.nds d hd).lt (h.row_nd hd)) (fun g hg => hW.block g ((h.nds d hd).rowlt hg) (fun e => h.row_seen hd e hg)))
set_option maxHeartbeats 2000000 in
theorem goesOn_any (nb : Nat) (x : Bx) (now t : Int) (kv : Value) (L : List Nd) (w : World) (h : Na w nb x now kv L) (hbig : L.length ≤ 1000) :
    Calls Try.prog 22 #[.pointer (some ⟨nb, 0, none⟩), .int .i64 t] w (Went w nb x now t kv L) := by
  have c8 := h.cells.2.2.1
  have f8 := h.cells.2.2.2 8
  have hlt := h.lt
  have H := Lib.hid h; clear h
  by_cases h1 : t < now
  · have HR : Hid (goes now t = false) := Lib.hid (by have : ¬ now ≤ t := by omega
                                                      simp [goes, this])
    go_enter Try.func22, Try.ntmps22
    go_wp2
    go_quiet (fail)
    go_wp2
    go_ret
    exact ⟨ret_b HR.out.symm, by rw [HR.out, if_neg (by simp)]; exact below_drw ((Below.refl _ _).alloc (Nat.le_refl _) _) _⟩
  · by_cases h2 : 1099511627776 < t
    · have HR : Hid (goes now t = false) := Lib.hid (by have : ¬ t ≤ 1099511627776 := by omega
                                                        simp [goes, this])
      go_enter Try.func22, Try.ntmps22
      go_wp2
      go_quiet (fail)
      go_wp2
      go_ret
      exact ⟨ret_b HR.out.symm, by rw [HR.out, if_neg (by simp)]; exact below_drw ((Below.refl _ _).alloc (Nat.le_refl _) _) _⟩
    · have HR : Hid (goes now t = true) := Lib.hid (by have : now ≤ t := by omega
                                                       have h3 : t ≤ 1099511627776 := by omega
                                                       simp [goes, this, h3])
      go_enter Try.func22, Try.ntmps22
      go_wp2
      go_quiet (fail)
      go_wp2_with fail
      have hV : Below w.heap.size w ((w.alloc (.cells #[.int .i64 t] 3)).drewN nq) := below_drw ((Below.refl _ _).alloc (Nat.le_refl _) _) _
      have hc0 : ((w.alloc (.cells #[.int .i64 t] 3)).drewN nq).cell? ⟨w.heap.size, 0, none⟩ = some (.int .i64 t) := by go_simp
      have hN := set_now (H.out.below hV) t
      have hKV : Keeps (fun k => k = nb ∨ kv.ownBlock = some k) w (((w.alloc (.cells #[.int .i64 t] 3)).drewN nq).setCell ⟨nb, 8, none⟩ (.int .i64 t)) := (Keeps.all hV).set nb 8 _ (.inl rfl)
      have hc1 : (((w.alloc (.cells #[.int .i64 t] 3)).drewN nq).setCell ⟨nb, 8, none⟩ (.int .i64 t)).cell? ⟨w.heap.size, 0, none⟩ = some (.int .i64 t) :=
        (World.cell?_of_block (heap_setCell_other _ ⟨nb, 8, none⟩ w.heap.size _ (fun e => by have e2 : w.heap.size = nb := e; omega))).trans hc0
      have HN := Lib.hid hN; have HKV := Lib.hid hKV
      have hF := forget46 w.heap.size nb x t kv L (dead t) _ hN hbig (tests46 hN hc1 (fun e => by have := H.out.foot_lt (.inr (.inl e)); omega))
      clear hV hc0 hN hKV hc1
      generalize ((w.alloc (.cells #[.int .i64 t] 3)).drewN nq).setCell ⟨nb, 8, none⟩ (.int .i64 t) = V at *
      refine hF.mono ?_
      rintro e w' ⟨rfl, hg⟩
      have HG := Lib.hid hg; clear hg
      go_wp2
      go_ret
      refine ⟨ret_b HR.out.symm, ?_⟩
      rw [HR.out, if_pos rfl]
      obtain ⟨kv', g1, g2, g3⟩ := HG.out
      exact ⟨kv', g1, g2, HKV.out.trans g3⟩
end Go.Proofs.Ytidhdgcmagpkgaa
