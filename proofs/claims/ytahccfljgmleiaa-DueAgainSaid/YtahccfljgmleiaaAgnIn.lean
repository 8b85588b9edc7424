/-
  What DueAgain's walk is told: a name that is set twice; its loop's cells. Conditions: as each lemma states.
-/
import Derived.Test.YtahccfljgmleiaaPartsIn
import Derived.Test.YtahccfljgmleiaaNamesIn
import Derived.Deep.RegionHeld
import Derived.BigQuiet
namespace Go.Proofs.Ytahccfljgmleiaa
open Go.RowKit Go.Shelf Go.ChangeShapes
set_option linter.unusedVariables false

theorem put_congr {M N : List En} {x : Ky} (t : Int) (h : dropL M x = dropL N x) : putL M x t = putL N x t := by unfold putL; rw [h]
theorem put_put {L : List En} (h : Tbl L) (x : Ky) (s t : Int) : putL (putL L x s) x t = putL L x t := by
  refine put_congr t (sorted_ext ((sorted_put h x s).filter _) (h.drop x).sorted fun e => ?_)
  show e ∈ dropL (putL L x s) x ↔ e ∈ dropL L x
  rw [mem_dropL, mem_dropL, mem_putL]
  constructor
  · rintro ⟨rfl | ⟨h1, h2⟩, h3⟩
    · exact absurd rfl h3
    · exact ⟨h1, h2⟩
  · rintro ⟨h1, h2⟩
    exact ⟨.inr ⟨h1, h2⟩, h2⟩
section
variable {ks : List Ky} {f : Nat → Int}
theorem agn_set1 (hx : ∀ i, 0 ≤ f i ∧ f i ≤ 65535) (k : Nat) (hk : k < 60) (x : Ky) (tb bm : Nat) (W : World) (h : Du W tb bm (tabN ks f k)) :
    Calls Try.prog 11 #[.pointer (some ⟨tb, 0, none⟩), .string (str x), .int .i64 9] W (Turned W tb bm (putL (tabN ks f k) x 9) (.int .i64 0)) := by
  have := set_any tb bm _ x 9 W h
  have hp := nt (ks := ks) hx k (by omega)
  have hl := hp.len
  rwa [show setCode (tabN ks f k) x 9 = 0 by unfold setCode; rw [if_neg (by omega), if_neg (by omega)], show setL (tabN ks f k) x 9 = putL (tabN ks f k) x 9 by unfold setL; rw [if_neg (by omega), if_neg (by omega)]] at this
theorem agn_tab (hx : ∀ i, 0 ≤ f i ∧ f i ≤ 65535) (k : Nat) (hk : k < 60) (x : Ky) (hkx : ks[k]? = some x) : tabN ks f (k + 1) = putL (tabN ks f k) x (f k) := by
  have hp := nt (ks := ks) hx k (by omega)
  have hl := hp.len
  have hb := hx k
  simp only [tabN, hkx]
  unfold setL
  rw [if_neg (by omega), if_neg (by omega)]
theorem agn_set2 (hx : ∀ i, 0 ≤ f i ∧ f i ≤ 65535) (k : Nat) (hk : k < 60) (x : Ky) (hkx : ks[k]? = some x) (t : Int) (ht : f k = t) (tb bm : Nat) (W : World) (h : Du W tb bm (putL (tabN ks f k) x 9)) :
    Calls Try.prog 11 #[.pointer (some ⟨tb, 0, none⟩), .string (str x), .int .i64 t] W (Turned W tb bm (tabN ks f (k + 1)) (.int .i64 0)) := by
  subst ht
  have := set_any tb bm _ x (f k) W h
  have hp := nt (ks := ks) hx k (by omega)
  have hb := hx k
  have hin : inL (putL (tabN ks f k) x 9) x = true := by rw [inL_put]; simp
  rw [agn_tab hx k hk x hkx]
  rwa [show setCode (putL (tabN ks f k) x 9) x (f k) = 0 by unfold setCode; rw [if_neg (by omega), if_neg (by rw [hin]; simp)], show setL (putL (tabN ks f k) x 9) x (f k) = putL (tabN ks f k) x (f k) by unfold setL; rw [if_neg (by omega), if_neg (by rw [hin]; simp)]; exact put_put hp.tbl x 9 _] at this
theorem agn_at (hx : ∀ i, 0 ≤ f i ∧ f i ≤ 65535) (k : Nat) (hk : k < 60) (x : Ky) (hkx : ks[k]? = some x) (t : Int) (ht : f k = t) : timeOf (tabN ks f (k + 1)) x = t ∧ inL (tabN ks f (k + 1)) x = true := by
  subst ht
  have hp := nt (ks := ks) hx (k + 1) (by omega)
  have hm : (x, f k) ∈ tabN ks f (k + 1) := by rw [agn_tab hx k hk x hkx]; exact mem_putL.2 (.inl rfl)
  exact ⟨timeOf_mem hp.tbl hm, inL_iff.2 ⟨_, hm⟩⟩
end
theorem agn_times {ks : List Ky} {f : Nat → Int} (hx : ∀ i, 0 ≤ f i ∧ f i ≤ 65535) : ∀ i, i ≤ 60 → ∀ e ∈ tabN ks f i, e.2 ≤ 65535
  | 0, _ => by simp [tabN]
  | i + 1, hi => by
    cases hk : ks[i]? with
    | none =>
      have he : tabN ks f (i + 1) = tabN ks f i := by simp only [tabN, hk]
      rw [he]; exact agn_times hx i (by omega)
    | some y =>
      rw [agn_tab hx i (by omega) y hk]
      intro e he
      rcases mem_putL.1 he with rfl | ⟨h, _⟩
      · exact (hx i).2
      · exact agn_times hx i (by omega) e h
theorem str_beq (x y : Ky) : ((str x).toList == (str y).toList) = decide (x = y) := by
  rw [str_list, str_list, Bool.eq_iff_iff, beq_iff_eq, decide_eq_true_eq]
  exact ⟨fun h => Subtype.ext h, fun h => by rw [h]⟩
/-- the cells of DueAgain's loop -/
def Pag (w0 : World) (r g n : Nat) (G : ByteArray) (N : Nat) (d : List En) (V : World) : Prop := Boxed V r 4 (.bool false) ∧ Boxed V g 9 (.string G) ∧ Boxed V n 3 (.int .i64 ((N : Int) - (d.length : Nat))) ∧ Below w0.heap.size w0 V
theorem pag_still {w w0 : World} {r g n bm : Nat} {G : ByteArray} {N : Nat} (h1 : r ≠ bm) (h2 : g ≠ bm) (h5 : n ≠ bm) (h3 : w0.heap.size ≤ bm) (h4 : w0.heap.size ≤ w.heap.size) : Still w bm (Pag w0 r g n G N) :=
  ⟨fun d V V' B hB h hm => ⟨bx_moves h.1 hm h1, bx_moves h.2.1 hm h2, bx_moves h.2.2.1 hm h5, below_moves h.2.2.2 h.2.2.2.size hm h3 (by omega)⟩⟩
/-- left in the plain way alone -/
def Only (Q : Exit → Act → World → Prop) : Exit → Act → World → Prop
  | .normal, a, w => Q .normal a w
  | _, _, _ => False
theorem Only.all {Q : Exit → Act → World → Prop} : ∀ e a w, Only Q e a w → Q e a w
  | .normal, _, _, h => h
  | .exit _, _, _, h => h.elim
  | .goto _, _, _, h => h.elim
  | .ret, _, _, h => h.elim
  | .panic _, _, _, h => h.elim
  | .outgrown, _, _, h => h.elim
end Go.Proofs.Ytahccfljgmleiaa
