/-
  Contracts of nat's forget and goesOn: who is struck; the time goes on. Conditions: the box lies in memory; at most 1000 bindings.
-/
import Derived.Test.YtidhdgcmagpkgaaDlp
import Derived.Test.YtidhdgcmagpkgaaPrt
import Derived.Deep.QuietTactic
import Derived.BigQuiet
import Derived.Deep.RegionHeld
import Derived.LaidEqlPtr
namespace Go.Proofs.Ytidhdgcmagpkgaa
open Go.RowKit
attribute [local go_sem] Oper.semAt_some
set_option linter.unusedVariables false

/-- a test of bindings as a test of their blocks -/
def byP (L : List Nd) (f : Nd → Bool) (p : Nat) : Bool := L.any fun d => d.p == p && f d
theorem byP_at {L : List Nd} (hs : L.Pairwise Apart) (f : Nd → Bool) {d : Nd} (hd : d ∈ L) : byP L f d.p = f d := by
  unfold byP
  rw [Bool.eq_iff_iff, List.any_eq_true]
  constructor
  · rintro ⟨e, he, h⟩
    rw [Bool.and_eq_true, beq_iff_eq] at h
    have : e = d := by
      by_cases heq : e = d
      · exact heq
      · exfalso
        obtain ⟨i, hi, rfl⟩ := List.getElem_of_mem he
        obtain ⟨j, hj, rfl⟩ := List.getElem_of_mem hd
        have hij : i ≠ j := fun e => heq (by subst e; rfl)
        rcases Nat.lt_or_ge i j with h1 | h1
        · exact (List.pairwise_iff_getElem.1 hs i j hi hj h1).1 h.1
        · exact (List.pairwise_iff_getElem.1 hs j i hj hi (by omega)).1 h.1.symm
    rw [← this]; exact h.2
  · exact fun h => ⟨d, hd, by simp [h]⟩
theorem filter_byP {L : List Nd} (hs : L.Pairwise Apart) (f : Nd → Bool) : (L.map Nd.p).filter (fun p => !byP L f p) = (L.filter (fun d => !f d)).map Nd.p := by
  rw [List.filter_map]
  congr 1
  refine List.filter_congr fun d hd => ?_
  show (!byP L f d.p) = _
  rw [byP_at hs f hd]
theorem Na.map_len {w : World} {nb : Nat} {x : Bx} {now : Int} {kv : Value} {L : List Nd} (h : Na w nb x now kv L) : w.ownsRow 0 70 1 kv (L.map Nd.p).length (cellsP (L.map Nd.p)) := by
  rw [List.length_map]; exact h.row

set_option maxHeartbeats 1000000 in
theorem until_any (cb : Nat) (t : Int) (d : Nd) (w : World) (hc : w.cell? ⟨cb, 0, none⟩ = some (.int .i64 t)) (h : NdAt w d) :
    Calls Try.prog 33 #[ptr d.p, .pointer (some ⟨cb, 0, none⟩)] w fun e w' => e = .returned (.bool (decide (d.b.until_ ≤ t))) ∧ ∃ n, w' = w.drewN n := by
  have hu := h.cells.1.2.2.2.2.2.1
  unfold ptr
  generalize d.p = p at *
  generalize d.b.until_ = u at *
  clear h
  go_enter Try.func33, Try.ntmps33
  go_wp2
  go_quiet (fail)
  go_wp2
  go_ret
  exact ⟨rfl, _, rfl⟩
theorem info72 : (Try.prog.info? 75).map (fun i => i.size) = some 8 := by kernel_rfl
theorem own_slice {w : World} {base : Nat} {e : TypeId} {k : Nat} {v : Value} {n : Nat} {xs : List Value} (h : w.ownsRow base e k v n xs) : ∃ A m c, v = .slice A m c := by
  rcases h.2 with ⟨rfl, _⟩ | ⟨g, cap, cur, rfl, _⟩
  · exact ⟨_, _, _, rfl⟩
  · exact ⟨_, _, _, rfl⟩
/-- what forget leaves: those of whom it is so are gone -/
def Gone (w : World) (nb : Nat) (x : Bx) (now : Int) (kv : Value) (L' : List Nd) : Ending → World → Prop := fun e w' =>
  e = .returned (.tuple #[]) ∧ ∃ kv', Na w' nb x now kv' L' ∧ kv'.ownBlock = kv.ownBlock ∧ Keeps (fun k => k = nb ∨ kv.ownBlock = some k) w w'
theorem gone_end {w w1 : World} {nb : Nat} {x : Bx} {now : Int} {kv kv' : Value} {L : List Nd} {f : Nd → Bool} (h : Na w nb x now kv L) (h1 : kv'.ownBlock = kv.ownBlock)
    (h2 : w1.ownsRow 0 70 1 kv' ((L.map Nd.p).filter (fun p => !byP L f p)).length (cellsP ((L.map Nd.p).filter (fun p => !byP L f p)))) (h3 : Keeps (fun k => kv.ownBlock = some k) w w1) :
    Gone w nb x now kv (L.filter (fun d => !f d)) (.returned (.tuple #[])) (w1.setCell ⟨nb, 7, none⟩ kv') := by
  rw [filter_byP h.sep] at h2
  have ht1 : w1.heap[nb]? = some (.cells (natCells x kv now) 69 (0, 0)) := (h3.block nb h.lt h.ne_row).trans h.top
  have hk : Keeps (fun k => k = nb ∨ kv.ownBlock = some k) w (w1.setCell ⟨nb, 7, none⟩ kv') := (h3.mono (fun k _ e => Or.inr e)).set nb 7 kv' (.inl rfl)
  refine ⟨rfl, kv', ⟨heap_setCell_same w1 nb 7 _ 69 kv' ht1, ?_, fun d hd => ?_, h.sep.filter _⟩, h1, hk⟩
  · rw [List.length_map] at h2
    refine own_at h2 (fun g hg => heap_setCell_other w1 ⟨nb, 7, none⟩ g kv' (fun e => ?_))
    have e2 : g = nb := e
    rw [h1] at hg
    rw [e2] at hg
    exact h.ne_row hg
  · have hd' := (List.mem_filter.1 hd).1
    refine (h.nds d hd').kept (hk.block _ (h.nds d hd').lt ?_) (fun g hg => hk.block g ((h.nds d hd').rowlt hg) ?_)
    · rintro (e | e)
      · exact h.ne_nd hd' e
      · exact h.row_nd hd' e
    · rintro (e | e)
      · rw [e] at hg; exact h.ne_seen hd' hg
      · exact h.row_seen hd' e hg

set_option maxHeartbeats 1000000 in
theorem forget46 (cb nb : Nat) (x : Bx) (now : Int) (kv : Value) (L : List Nd) (f : Nd → Bool) (w : World) (h : Na w nb x now kv L) (hbig : L.length ≤ 1000)
    (hp : Tests 33 #[.pointer (some ⟨cb, 0, none⟩)] (byP L f) (L.map Nd.p) (fun k => kv.ownBlock = some k) w) :
    Calls Try.prog 32 #[.pointer (some ⟨nb, 0, none⟩), .func (.func 33) #[] #[.pointer (some ⟨cb, 0, none⟩)]] w (Gone w nb x now kv (L.filter (fun d => !f d))) := by
  have hD := deleteP46 cb (byP L f) kv (L.map Nd.p) w h.map_len (by rw [List.length_map]; exact hbig) hp
  have c7 := h.cells.2.1
  have H := Lib.hid h
  have hlt := h.lt
  clear h hp
  generalize hv : (fun d => !f d) = ff
  subst hv
  go_enter Try.func32, Try.ntmps32
  go_wp2_with fail
  refine hD.mono ?_
  rintro e w1 ⟨kv', rfl, h1, h2, h3⟩
  obtain ⟨A, m, c, rfl⟩ := own_slice h2
  have HG := Lib.hid (gone_end H.out h1 h2 h3)
  have ct : w1.heap[nb]? = some (.cells (natCells x kv now) 69 (0, 0)) := (h3.block nb hlt H.out.ne_row).trans H.out.top
  have d7 : w1.cell? ⟨nb, 7, none⟩ = some kv := (cells_of ct 7).1
  have f7 := (cells_of ct 7).2
  clear ct h1 h2 h3
  go_wp2
  go_end0
  exact HG.out

end Go.Proofs.Ytidhdgcmagpkgaa
