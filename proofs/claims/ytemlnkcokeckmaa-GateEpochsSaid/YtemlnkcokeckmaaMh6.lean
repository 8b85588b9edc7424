/-
  Contracts of the document's own Ask and Answer: the same bytes. Conditions: the lease's fields are of their types.
  Leases as bytes and back, in plain words: what is told of a lease that may be is read again; nothing else is read. Conditions: as each lemma states.
  Embrasurelaw09's awake; a request is never an answer; leases that came in. Conditions: as each lemma states.
  Contracts of the document's own ReadAsk and ReadAnswer. Conditions: the slice reads as bytes.
  Inputs of the laws read as plain data: a lease, a bool, two bools, bytes. Conditions: as each lemma states.
  What the laws' walks share: the input's box, leases that are laid, and what the readers answer of whatever bytes. Conditions: as each lemma states.
  Plain words on a box that turns addresses, and how it lies in memory: the box, the row of its bindings, each binding, and the row of those that it has seen. Conditions: as each lemma states.
  Contracts of addr.May, of nat's part, isWay, isBox, New, Box and Reboot. Conditions: as each lemma states.
-/
import Derived.Test.YtemlnkcokeckmaaMh4
import Derived.Test.YtemlnkcokeckmaaMh1
import Derived.Test.YtemlnkcokeckmaaMh5
import Derived.ProofKit
import Derived.OpenShut
import Derived.ChangeOld
import Derived.Lib.SmallJoins
import Derived.Deep.Slices
import Derived.ShutString
import Derived.Test.YtemlnkcokeckmaaProg
import Derived.WalkKit
import Derived.RangeFuncBox
import Derived.RangeFuncNested
import Derived.Laws.OwnMore
import Derived.Maps.AppendAt
import Derived.Lib.Hide
import Derived.Deep.Draws
import Derived.Deep.QuietTactic
import Derived.BigQuiet
namespace Go.Proofs.Ytemlnkcokeckmaa.Pp
open Go.RowKit
attribute [local go_sem] Oper.semAt_some
set_option linter.unusedVariables false
set_option linter.unusedSimpArgs false

theorem fitsB_iff (m v : Int) : fitsB m v = true ↔ 0 ≤ v ∧ v ≤ m := by simp [fitsB]
theorem beq0 (v : Int) : (v == 0) = true ↔ v = 0 := by simp
theorem askB_doc (l : Le) (h : Bool) : askB l h = (allB l && ((l.res == 0) && ((l.epo == 0) && ((l.hst == 0) && (!h || noneB l))))) := by
  rw [Bool.eq_iff_iff]
  unfold askB ansB allB noneB portB
  cases h <;> simp only [Bool.and_eq_true, fitsB_iff, beq0, Bool.not_true, Bool.not_false, Bool.false_or, Bool.true_or, if_true, and_true, Bool.false_eq_true, if_false] <;> constructor <;> intro h <;> omega
theorem ansB_doc (l : Le) (h : Bool) : ansB l h = (allB l && ((!h || noneB l) && (h || (l.hst == 0)))) := by
  rw [Bool.eq_iff_iff]
  unfold ansB allB noneB portB
  cases h <;> simp only [Bool.and_eq_true, fitsB_iff, beq0, Bool.not_true, Bool.not_false, Bool.false_or, Bool.true_or, if_true, and_true, true_and, Bool.false_eq_true, if_false] <;> constructor <;> intro h <;> omega
structure Bnd (l : Le) : Prop where
  ins : 0 ≤ l.ins ∧ l.ins < 9223372036854775808
  prt : 0 ≤ l.prt ∧ l.prt < 9223372036854775808
  secs : 0 ≤ l.secs ∧ l.secs < 9223372036854775808
  res : 0 ≤ l.res ∧ l.res < 9223372036854775808
  epo : 0 ≤ l.epo ∧ l.epo < 9223372036854775808
  hst : 0 ≤ l.hst ∧ l.hst < 9223372036854775808
theorem bnd_of {l : Le} (h : allB l = true) (hl : isL l) : Bnd l := by
  unfold allB at h
  simp only [Bool.and_eq_true, fitsB_iff, beq0] at h
  have := hl.hst
  exact ⟨by omega, by omega, by omega, by omega, by omega, by omega⟩

/-- the document's row while it is put together -/
structure Rw (w W : World) (l : Le) (V : Value) (xs : List Int) : Prop where
  low : Below w.heap.size w W
  box : LeAt W w.heap.size l
  own : W.ownsRow (w.heap.size + 1) 5 1 V xs.length (B xs)
theorem Rw.drew {w W : World} {l : Le} {V : Value} {xs : List Int} (h : Rw w W l V xs) : Rw w W.drew l V xs := ⟨below_drewN' h.low 1, h.box, h.own⟩
theorem Rw.lit {w W : World} {l : Le} {V : Value} {xs : List Int} (h : Rw w W l V xs) (zs : List Int) (n : Nat) (hn : zs.length = n) (hm : n ≤ maxLen) : Rw w (W.alloc (.cells (B zs).toArray 5)) l (.slice (some ⟨W.heap.size, 0, none⟩) n n) zs := by
  refine ⟨h.low.trans (((Below.refl _ W).alloc h.low.size _)), h.box.below ((Below.refl _ W).alloc (Nat.le_refl _) _) h.box.lt, ?_⟩
  rw [hn]
  have := World.ownsRow_lit W (e := 5) (base := w.heap.size + 1) (size := 1) (B zs).toArray n (by have := h.box.lt; omega) hm (by simp [B, hn])
  simpa using this
theorem Rw.step {w W : World} {l : Le} {V : Value} {xs : List Int} (h : Rw w W l V xs) {ops : Array Oper} {o : Oper} {a : Act} {K : Act → World → Prop} {Q : Exit → Act → World → Prop} {E : Prop} (hf : o.guard = none) (s x : Operand)
    (ho : o.op = .call { callee := .builtin .append, args := #[s, x], argTypes := #[60, 60] }) {n c : Nat} {A : Addr} {zs : List Int} (hs : a.eval s = V) (hx : a.eval x = .slice (some A) n c) (hb : Bts W (some A) n zs) (hl : xs.length + n ≤ 1000)
    (hK : ∀ V' W', Rw w W' l V' (xs ++ zs) → K (a.put o.dst V') W') :
    if Region.wanted o (yielded ops a.tmps) = true then Oper.wp Try.prog o a W K Q else E := by
  obtain ⟨i0, hi0, hz0, hz1, hz2⟩ := info_parts u8_info
  obtain ⟨v', w', hrun, r1, r2, _, r3⟩ := run_append_own_at (P := Try.prog) (w := W) (w.heap.size + 1) 60 o.type 5 i0 (.int .u8 0) 1 1 Try.underlying60 hi0 hz0 hz1 hz2 rfl (by decide) V xs.length (B xs) h.own A n c (B zs) (by rw [B_length, hb.len]; omega) hb.news (B_one zs)
    (by unfold maxLen; omega) (by omega) (by have := h.box.lt; omega)
  rw [if_pos (by simp [Region.wanted, hf])]
  unfold Oper.wp execOp
  simp only [ho, resolve, invoke, builtin, Sem.run_bind, Sem.run_pure, Result.andThen_ok, List.map_toArray, List.map_cons, List.map_nil, hs, hx, hrun]
  refine hK _ _ ⟨h.low.trans (own_grown h.own r2 (by omega) h.low.size), ?_, ?_⟩
  · refine (r2.block _ h.box.lt ?_).trans h.box
    intro e
    have := (h.own.lt _ e.symm).1
    omega
  · rw [← B_append] at r1
    rw [List.length_append, hb.len]
    exact r1

end Go.Proofs.Ytemlnkcokeckmaa.Pp
namespace Go.Proofs.Ytemlnkcokeckmaa.Pp
open Go.RowKit
set_option linter.unusedVariables false
set_option linter.unusedSimpArgs false

/-- what the document's ReadAsk reads -/
def rAskL (zs : List Int) : Le := if zs.length = 12 then ⟨0, ncut zs 4 2, ncut zs 6 2, ncut zs 8 4, 0, 0, 0, 0⟩ else zeroL
def rAskH (zs : List Int) : Bool := decide (zs.length = 2)
def rAnsL (zs : List Int) : Le := if zs.length = 12 then ⟨0, 0, 0, 0, 0, ncut zs 2 2, ncut zs 4 4, ncut zs 8 4⟩ else ⟨0, ncut zs 8 2, ncut zs 10 2, ncut zs 12 4, 0, ncut zs 2 2, ncut zs 4 4, 0⟩
def rAnsH (zs : List Int) : Bool := decide (zs.length = 12)

theorem fB (m v : Int) : fitsB m v = true ↔ 0 ≤ v ∧ v ≤ m := by simp [fitsB]
theorem askB_host {l : Le} (h : askB l true = true) : l = zeroL := by
  obtain ⟨a, b, c, d, e, f, g, i⟩ := l
  simp only [askB, ansB, noneB, Bool.and_eq_true, beq_iff_eq, fB, if_true] at h
  simp only [zeroL, Le.mk.injEq]
  omega
theorem askB_port {l : Le} (h : askB l false = true) : l = ⟨0, l.ins, l.prt, l.secs, 0, 0, 0, 0⟩ ∧ (0 ≤ l.ins ∧ l.ins ≤ 65535) ∧ (0 ≤ l.prt ∧ l.prt ≤ 65535) ∧ (0 ≤ l.secs ∧ l.secs ≤ 4294967295) := by
  obtain ⟨a, b, c, d, e, f, g, i⟩ := l
  simp only [askB, ansB, portB, Bool.and_eq_true, beq_iff_eq, fB, Bool.false_eq_true, if_false] at h
  simp only [Le.mk.injEq, true_and, and_true]
  omega
theorem ansB_host {l : Le} (h : ansB l true = true) : l = ⟨0, 0, 0, 0, 0, l.res, l.epo, l.hst⟩ ∧ (0 ≤ l.res ∧ l.res ≤ 65535) ∧ (0 ≤ l.epo ∧ l.epo ≤ 4294967295) := by
  obtain ⟨a, b, c, d, e, f, g, i⟩ := l
  simp only [ansB, noneB, Bool.and_eq_true, beq_iff_eq, fB, if_true] at h
  simp only [Le.mk.injEq, true_and, and_true]
  exact (by omega)
theorem ansB_port {l : Le} (h : ansB l false = true) : l = ⟨0, l.ins, l.prt, l.secs, 0, l.res, l.epo, 0⟩ ∧ (0 ≤ l.res ∧ l.res ≤ 65535) ∧ (0 ≤ l.epo ∧ l.epo ≤ 4294967295) ∧ (0 ≤ l.ins ∧ l.ins ≤ 65535) ∧ (0 ≤ l.prt ∧ l.prt ≤ 65535) ∧ (0 ≤ l.secs ∧ l.secs ≤ 4294967295) := by
  obtain ⟨a, b, c, d, e, f, g, i⟩ := l
  simp only [ansB, portB, Bool.and_eq_true, beq_iff_eq, fB, Bool.false_eq_true, if_false] at h
  simp only [Le.mk.injEq, true_and, and_true]
  exact (by omega)
theorem nu2 {v : Int} (h : 0 ≤ v ∧ v ≤ 65535) : nu (be 2 v) = v := nu_be 2 v h.1 (by show v < 65536; omega)
theorem nu4 {v : Int} (h : 0 ≤ v ∧ v ≤ 4294967295) : nu (be 4 v) = v := nu_be 4 v h.1 (by show v < 4294967296; omega)
theorem ncut_at (pre xs post : List Int) (k n : Nat) (hk : pre.length = k) (hn : xs.length = n) : ncut (pre ++ (xs ++ post)) k n = nu xs := by
  unfold ncut
  subst hk
  subst hn
  simp

structure Got (zs : List Int) (l l1 l2 : Le) (h h1 h2 : Bool) : Prop where
  a : l1 = l
  b : h1 = h
  c : l2 = l
  d : h2 = h
theorem back_ask {l : Le} {h : Bool} (hb : askB l h = true) : Got (askR l h) l (askL (askR l h)) (rAskL (askR l h)) h (askH (askR l h)) (rAskH (askR l h)) ∧ ((askR l h).length = 2 ∨ (askR l h).length = 12) := by
  unfold askR
  rw [if_pos hb]
  cases h with
  | true =>
    rw [if_pos rfl, askB_host hb]
    exact ⟨⟨by decide +kernel, by decide +kernel, by decide +kernel, by decide +kernel⟩, .inl rfl⟩
  | false =>
    obtain ⟨e, b1, b2, b3⟩ := askB_port hb
    rw [if_neg (by simp)]
    have c1 : ncut ([0, 1, 0, 0] ++ (be 2 l.ins ++ (be 2 l.prt ++ be 4 l.secs))) 4 2 = l.ins := (ncut_at [0, 1, 0, 0] (be 2 l.ins) _ 4 2 rfl (by simp)).trans (nu2 b1)
    have c2 : ncut ([0, 1, 0, 0] ++ (be 2 l.ins ++ (be 2 l.prt ++ be 4 l.secs))) 6 2 = l.prt := by
      have := ncut_at ([0, 1, 0, 0] ++ be 2 l.ins) (be 2 l.prt) (be 4 l.secs) 6 2 (by simp) (by simp)
      rw [List.append_assoc] at this
      exact this.trans (nu2 b2)
    have c3 : ncut ([0, 1, 0, 0] ++ (be 2 l.ins ++ (be 2 l.prt ++ be 4 l.secs))) 8 4 = l.secs := by
      have := ncut_at ([0, 1, 0, 0] ++ (be 2 l.ins ++ be 2 l.prt)) (be 4 l.secs) [] 8 4 (by simp) (by simp)
      simp only [List.append_assoc, List.append_nil] at this
      exact this.trans (nu4 b3)
    have c0 : ncut ([0, 1, 0, 0] ++ (be 2 l.ins ++ (be 2 l.prt ++ be 4 l.secs))) 0 1 = 0 := ncut_at [] [0] _ 0 1 rfl rfl
    have c4 : ncut ([0, 1, 0, 0] ++ (be 2 l.ins ++ (be 2 l.prt ++ be 4 l.secs))) 1 1 = 1 := ncut_at [0] [1] _ 1 1 rfl rfl
    have hl : ([0, 1, 0, 0] ++ (be 2 l.ins ++ (be 2 l.prt ++ be 4 l.secs))).length = 12 := by simp
    refine ⟨⟨?_, ?_, ?_, ?_⟩, .inr hl⟩
    · unfold askL
      rw [c0, c1, c2, c3, c4, if_neg (by decide)]
      exact e.symm
    · unfold askH; rw [c4]; rfl
    · unfold rAskL; rw [if_pos hl, c1, c2, c3]; exact e.symm
    · unfold rAskH; rw [hl]; rfl
theorem back_ans {l : Le} {h : Bool} (hi : isL l) (hb : ansB l h = true) : Got (ansR l h) l (ansL (ansR l h)) (rAnsL (ansR l h)) h (ansH (ansR l h)) (rAnsH (ansR l h)) ∧ ((ansR l h).length = 12 ∨ (ansR l h).length = 16) := by
  unfold ansR
  rw [if_pos hb]
  cases h with
  | true =>
    obtain ⟨e, b1, b2⟩ := ansB_host hb
    have b3 := hi.hst
    rw [if_pos rfl]
    have c0 : ncut ([0, 128] ++ (be 2 l.res ++ (be 4 l.epo ++ be 4 l.hst))) 0 1 = 0 := ncut_at [] [0] _ 0 1 rfl rfl
    have c1 : ncut ([0, 128] ++ (be 2 l.res ++ (be 4 l.epo ++ be 4 l.hst))) 1 1 = 128 := ncut_at [0] [128] _ 1 1 rfl rfl
    have c2 : ncut ([0, 128] ++ (be 2 l.res ++ (be 4 l.epo ++ be 4 l.hst))) 2 2 = l.res := (ncut_at [0, 128] (be 2 l.res) _ 2 2 rfl (by simp)).trans (nu2 b1)
    have c3 : ncut ([0, 128] ++ (be 2 l.res ++ (be 4 l.epo ++ be 4 l.hst))) 4 4 = l.epo := by
      have := ncut_at ([0, 128] ++ be 2 l.res) (be 4 l.epo) (be 4 l.hst) 4 4 (by simp) (by simp)
      rw [List.append_assoc] at this
      exact this.trans (nu4 b2)
    have c4 : ncut ([0, 128] ++ (be 2 l.res ++ (be 4 l.epo ++ be 4 l.hst))) 8 4 = l.hst := by
      have := ncut_at ([0, 128] ++ (be 2 l.res ++ be 4 l.epo)) (be 4 l.hst) [] 8 4 (by simp) (by simp)
      simp only [List.append_assoc, List.append_nil] at this
      exact this.trans (nu4 ⟨b3.1, by omega⟩)
    have hl : ([0, 128] ++ (be 2 l.res ++ (be 4 l.epo ++ be 4 l.hst))).length = 12 := by simp
    refine ⟨⟨?_, ?_, ?_, ?_⟩, .inl hl⟩
    · unfold ansL
      rw [c0, c1, c2, c3, c4, if_pos rfl]
      exact e.symm
    · unfold ansH; rw [c1]; rfl
    · unfold rAnsL; rw [if_pos hl, c2, c3, c4]; exact e.symm
    · unfold rAnsH; rw [hl]; rfl
  | false =>
    obtain ⟨e, b1, b2, b3, b4, b5⟩ := ansB_port hb
    rw [if_neg (by simp)]
    generalize hz : [0, 129] ++ (be 2 l.res ++ (be 4 l.epo ++ (be 2 l.ins ++ (be 2 l.prt ++ be 4 l.secs)))) = zs
    have c0 : ncut zs 0 1 = 0 := by rw [← hz]; exact ncut_at [] [0] _ 0 1 rfl rfl
    have c1 : ncut zs 1 1 = 129 := by rw [← hz]; exact ncut_at [0] [129] _ 1 1 rfl rfl
    have c2 : ncut zs 2 2 = l.res := by rw [← hz]; exact (ncut_at [0, 129] (be 2 l.res) _ 2 2 rfl (by simp)).trans (nu2 b1)
    have c3 : ncut zs 4 4 = l.epo := by
      have := ncut_at ([0, 129] ++ be 2 l.res) (be 4 l.epo) (be 2 l.ins ++ (be 2 l.prt ++ be 4 l.secs)) 4 4 (by simp) (by simp)
      rw [List.append_assoc, hz] at this
      exact this.trans (nu4 b2)
    have c4 : ncut zs 8 2 = l.ins := by
      have := ncut_at ([0, 129] ++ (be 2 l.res ++ be 4 l.epo)) (be 2 l.ins) (be 2 l.prt ++ be 4 l.secs) 8 2 (by simp) (by simp)
      simp only [List.append_assoc] at this
      rw [hz] at this
      exact this.trans (nu2 b3)
    have c5 : ncut zs 10 2 = l.prt := by
      have := ncut_at ([0, 129] ++ (be 2 l.res ++ (be 4 l.epo ++ be 2 l.ins))) (be 2 l.prt) (be 4 l.secs) 10 2 (by simp) (by simp)
      simp only [List.append_assoc] at this
      rw [hz] at this
      exact this.trans (nu2 b4)
    have c6 : ncut zs 12 4 = l.secs := by
      have := ncut_at ([0, 129] ++ (be 2 l.res ++ (be 4 l.epo ++ (be 2 l.ins ++ be 2 l.prt)))) (be 4 l.secs) [] 12 4 (by simp) (by simp)
      simp only [List.append_assoc, List.append_nil] at this
      rw [hz] at this
      exact this.trans (nu4 b5)
    have hl : zs.length = 16 := by rw [← hz]; simp
    refine ⟨⟨?_, ?_, ?_, ?_⟩, .inr hl⟩
    · unfold ansL
      rw [c0, c1, c2, c3, c4, c5, c6, if_neg (by decide)]
      exact e.symm
    · unfold ansH; rw [c1]; rfl
    · unfold rAnsL; rw [hl, if_neg (by decide), c2, c3, c4, c5, c6]; exact e.symm
    · unfold rAnsH; rw [hl]; rfl
theorem ask_nil : ¬ ([] : List Int) = askR (askL []) (askH []) := by decide +kernel
theorem ans_nil : ¬ ([] : List Int) = ansR (ansL []) (ansH []) := by decide +kernel
theorem ask_may {zs : List Int} (h : zs = askR (askL zs) (askH zs)) : askB (askL zs) (askH zs) = true := by
  cases hb : askB (askL zs) (askH zs) with
  | true => rfl
  | false =>
    have e : askR (askL zs) (askH zs) = [] := by unfold askR; rw [hb]; rfl
    rw [e] at h
    subst h
    exact absurd e.symm ask_nil
theorem ans_may {zs : List Int} (h : zs = ansR (ansL zs) (ansH zs)) : ansB (ansL zs) (ansH zs) = true := by
  cases hb : ansB (ansL zs) (ansH zs) with
  | true => rfl
  | false =>
    have e : ansR (ansL zs) (ansH zs) = [] := by unfold ansR; rw [hb]; rfl
    rw [e] at h
    subst h
    exact absurd e.symm ans_nil
/-- zs is a request of l, h -/
def AskOf (zs : List Int) (l : Le) (h : Bool) : Prop := askB l h = true ∧ zs = askR l h
def AnsOf (zs : List Int) (l : Le) (h : Bool) : Prop := isL l ∧ ansB l h = true ∧ zs = ansR l h
def okV (l : Le) (h : Bool) : Value := .tuple #[leV l, .bool h, .int .i64 0]
def noV : Value := .tuple #[leV zeroL, .bool false, .int .i64 3]
theorem ask_yes {zs : List Int} {l : Le} {h : Bool} (hz : AskOf zs l h) : hldT (decide (zs = askR (askL zs) (askH zs))) (askL zs) (askH zs) = okV l h := by
  obtain ⟨hb, rfl⟩ := hz
  obtain ⟨⟨a, b, _, _⟩, _⟩ := back_ask hb
  rw [a, b]
  simp [hldT, okV]
theorem ask_not {zs : List Int} (hz : ∀ l h, ¬ AskOf zs l h) : hldT (decide (zs = askR (askL zs) (askH zs))) (askL zs) (askH zs) = noV := by
  have : decide (zs = askR (askL zs) (askH zs)) = false := by
    rw [decide_eq_false_iff_not]
    intro h
    exact hz _ _ ⟨ask_may h, h⟩
  rw [this]; rfl
theorem ans_yes {zs : List Int} {l : Le} {h : Bool} (hz : AnsOf zs l h) : hldT (decide (zs = ansR (ansL zs) (ansH zs))) (ansL zs) (ansH zs) = okV l h := by
  obtain ⟨hi, hb, rfl⟩ := hz
  obtain ⟨⟨a, b, _, _⟩, _⟩ := back_ans hi hb
  rw [a, b]
  simp [hldT, okV]
theorem ans_not {zs : List Int} (hbd : Bd zs) (hz : ∀ l h, ¬ AnsOf zs l h) : hldT (decide (zs = ansR (ansL zs) (ansH zs))) (ansL zs) (ansH zs) = noV := by
  have : decide (zs = ansR (ansL zs) (ansH zs)) = false := by
    rw [decide_eq_false_iff_not]
    intro h
    exact hz _ _ ⟨ansL_is hbd, ans_may h, h⟩
  rw [this]; rfl
/-- the document's own -/
def rokA (zs : List Int) : Bool := decide (zs.length = 2 ∨ zs.length = 12) && decide (askR (rAskL zs) (rAskH zs) = zs)
def rokB (zs : List Int) : Bool := decide (zs.length = 12 ∨ zs.length = 16) && decide (ansR (rAnsL zs) (rAnsH zs) = zs)
theorem rask_yes {zs : List Int} {l : Le} {h : Bool} (hz : AskOf zs l h) : hldT (rokA zs) (rAskL zs) (rAskH zs) = okV l h := by
  obtain ⟨hb, rfl⟩ := hz
  obtain ⟨⟨_, _, a, b⟩, c⟩ := back_ask hb
  unfold rokA
  rw [a, b, decide_eq_true c]
  simp [hldT, okV]
theorem rask_not {zs : List Int} (hz : ∀ l h, ¬ AskOf zs l h) : hldT (rokA zs) (rAskL zs) (rAskH zs) = noV := by
  have : rokA zs = false := by
    unfold rokA
    rw [Bool.and_eq_false_iff, decide_eq_false_iff_not, decide_eq_false_iff_not, ← Decidable.not_and_iff_or_not]
    rintro ⟨h1, h2⟩
    refine hz _ _ ⟨?_, h2.symm⟩
    cases hb : askB (rAskL zs) (rAskH zs) with
    | true => rfl
    | false =>
      have e : askR (rAskL zs) (rAskH zs) = [] := by unfold askR; rw [hb]; rfl
      rw [e] at h2
      subst h2
      simp at h1
  rw [this]; rfl
theorem rAnsL_is {zs : List Int} (h : Bd zs) : isL (rAnsL zs) := by
  have a1 := ncut_bd h 8 2 (by decide)
  have a2 := ncut_bd h 10 2 (by decide)
  have a3 := ncut_bd h 12 4 (by decide)
  have a4 := ncut_bd h 2 2 (by decide)
  have a5 := ncut_bd h 4 4 (by decide)
  have a6 := ncut_bd h 8 4 (by decide)
  unfold rAnsL
  split <;> constructor <;> simp only [W64] <;> omega
theorem rAskL_is {zs : List Int} (h : Bd zs) : isL (rAskL zs) := by
  have a1 := ncut_bd h 4 2 (by decide)
  have a2 := ncut_bd h 6 2 (by decide)
  have a3 := ncut_bd h 8 4 (by decide)
  unfold rAskL zeroL
  split <;> constructor <;> simp only [W64] <;> omega
theorem rans_yes {zs : List Int} {l : Le} {h : Bool} (hz : AnsOf zs l h) : hldT (rokB zs) (rAnsL zs) (rAnsH zs) = okV l h := by
  obtain ⟨hi, hb, rfl⟩ := hz
  obtain ⟨⟨_, _, a, b⟩, c⟩ := back_ans hi hb
  unfold rokB
  rw [a, b, decide_eq_true c]
  simp [hldT, okV]
theorem rans_not {zs : List Int} (hbd : Bd zs) (hz : ∀ l h, ¬ AnsOf zs l h) : hldT (rokB zs) (rAnsL zs) (rAnsH zs) = noV := by
  have : rokB zs = false := by
    unfold rokB
    rw [Bool.and_eq_false_iff, decide_eq_false_iff_not, decide_eq_false_iff_not, ← Decidable.not_and_iff_or_not]
    rintro ⟨h1, h2⟩
    refine hz _ _ ⟨rAnsL_is hbd, ?_, h2.symm⟩
    cases hb : ansB (rAnsL zs) (rAnsH zs) with
    | true => rfl
    | false =>
      have e : ansR (rAnsL zs) (rAnsH zs) = [] := by unfold ansR; rw [hb]; rfl
      rw [e] at h2
      subst h2
      simp at h1
  rw [this]; rfl

/-- the value V is a slice that reads as zs -/
def Row (w : World) (V : Value) (zs : List Int) : Prop := ∃ A c, V = .slice A zs.length c ∧ Bts w A zs.length zs ∧ zs.length ≤ c ∧ c ≤ maxLen ∧ (A = none → zs.length = 0 ∧ c = 0)
theorem Row.below {w w' : World} {V : Value} {zs : List Int} (h : Row w V zs) (hb : Below w.heap.size w w') : Row w' V zs := by
  obtain ⟨A, c, e, h1, r⟩ := h
  exact ⟨A, c, e, h1.below hb, r⟩
theorem Row.bd {w : World} {V : Value} {zs : List Int} (h : Row w V zs) : Bd zs := by obtain ⟨A, c, e, h1, r⟩ := h; exact h1.bd
theorem Row.drew {w : World} {V : Value} {zs : List Int} (h : Row w V zs) (n : Nat) : Row (w.drewN n) V zs := h
theorem Row.own {w : World} {b : Nat} {V : Value} {zs : List Int} (h : w.ownsRow b 5 1 V zs.length (B zs)) (hz : ∀ z ∈ zs, 0 ≤ z ∧ z ≤ 255) : Row w V zs := by
  obtain ⟨A, c, rfl, h1, h2, h3⟩ := own_form h hz
  exact ⟨A, c, rfl, h3, h1, h2, own_nil h⟩
theorem tell_ask (l : Le) (h : Bool) (w : World) (hl : isL l) : Calls Try.prog 33 #[leV l, .bool h] w fun e w' => ∃ V, e = .returned V ∧ Row w' V (askR l h) ∧ Below w.heap.size w w' :=
  (ask_any l h w hl).mono fun e w' ⟨V, h1, h2, h3⟩ => ⟨V, h1, Row.own h2 (askR_bd l h), h3⟩
theorem tell_ans (l : Le) (h : Bool) (w : World) (hl : isL l) : Calls Try.prog 69 #[leV l, .bool h] w fun e w' => ∃ V, e = .returned V ∧ Row w' V (ansR l h) ∧ Below w.heap.size w w' :=
  (answer_any l h w hl).mono fun e w' ⟨V, h1, h2, h3⟩ => ⟨V, h1, Row.own h2 (ansR_bd l h), h3⟩
theorem read_ask_yes {V : Value} {zs : List Int} {w : World} (hr : Row w V zs) {l : Le} {h : Bool} (hz : AskOf zs l h) : Calls Try.prog 38 #[V] w fun e w' => e = .returned (okV l h) ∧ Below w.heap.size w w' := by
  obtain ⟨A, c, rfl, a1, a2, a3, a4⟩ := hr
  have := readAsk_any A _ c zs w a1 a2 a3 a4
  rwa [ask_yes hz] at this
theorem read_ask_not {V : Value} {zs : List Int} {w : World} (hr : Row w V zs) (hz : ∀ l h, ¬ AskOf zs l h) : Calls Try.prog 38 #[V] w fun e w' => e = .returned noV ∧ Below w.heap.size w w' := by
  obtain ⟨A, c, rfl, a1, a2, a3, a4⟩ := hr
  have := readAsk_any A _ c zs w a1 a2 a3 a4
  rwa [ask_not hz] at this
theorem read_ans_yes {V : Value} {zs : List Int} {w : World} (hr : Row w V zs) {l : Le} {h : Bool} (hz : AnsOf zs l h) : Calls Try.prog 34 #[V] w fun e w' => e = .returned (okV l h) ∧ Below w.heap.size w w' := by
  obtain ⟨A, c, rfl, a1, a2, a3, a4⟩ := hr
  have := readAns_any A _ c zs w a1 a2 a3 a4
  rwa [ans_yes hz] at this
theorem read_ans_not {V : Value} {zs : List Int} {w : World} (hr : Row w V zs) (hz : ∀ l h, ¬ AnsOf zs l h) : Calls Try.prog 34 #[V] w fun e w' => e = .returned noV ∧ Below w.heap.size w w' := by
  obtain ⟨A, c, rfl, a1, a2, a3, a4⟩ := hr
  have := readAns_any A _ c zs w a1 a2 a3 a4
  rwa [ans_not a1.bd hz] at this
end Go.Proofs.Ytemlnkcokeckmaa.Pp
namespace Go.Proofs.Ytemlnkcokeckmaa.Pp
open Go.RowKit Go.ChangeShapes
attribute [local go_sem] Oper.semAt_some
set_option linter.unusedVariables false
set_option linter.unusedSimpArgs false

theorem ask_snd {zs : List Int} {l : Le} {h : Bool} (hz : AskOf zs l h) : zs.getD 1 0 = if h then 0 else 1 := by
  obtain ⟨hb, rfl⟩ := hz
  unfold askR
  rw [if_pos hb]
  cases h <;> rfl
theorem ans_snd {zs : List Int} {l : Le} {h : Bool} (hz : AnsOf zs l h) : zs.getD 1 0 = if h then 128 else 129 := by
  obtain ⟨_, hb, rfl⟩ := hz
  unfold ansR
  rw [if_pos hb]
  cases h <;> rfl
theorem ask_ans {zs : List Int} {l l' : Le} {h h' : Bool} (h1 : AskOf zs l h) (h2 : AnsOf zs l' h') : False := by
  have a := ask_snd h1
  have b := ans_snd h2
  rw [a] at b
  cases h <;> cases h' <;> simp at b
def aL : Le := ⟨0, 5, 7, 60, 0, 0, 0, 0⟩
def bL : Le := ⟨0, 0, 0, 0, 0, 0, 0, 9⟩
theorem aL_is : isL aL := by constructor <;> simp [aL, W64]
theorem bL_is : isL bL := by constructor <;> simp [bL, W64]
theorem aL_row : askR aL false = [0, 1, 0, 0, 0, 5, 0, 7, 0, 0, 0, 60] := by decide +kernel
theorem bL_row : (ansR bL true).length = 12 := by decide +kernel

end Go.Proofs.Ytemlnkcokeckmaa.Pp
namespace Go.Proofs.Ytemlnkcokeckmaa.Pp
open Go.RowKit
attribute [local go_sem] Oper.semAt_some
set_option linter.unusedVariables false
set_option linter.unusedSimpArgs false

theorem Bts.mid {w : World} {b off n : Nat} {zs : List Int} (h : Bts w (some ⟨b, off, none⟩) n zs) (k m : Nat) (hk : k + m ≤ n) (hm : 0 < m) : Bts w (some ⟨b, off + k, none⟩) m ((zs.drop k).take m) := by
  obtain ⟨h1, h2, h3⟩ := h
  refine ⟨by simp; omega, fun z hz => h2 z (List.mem_of_mem_drop (List.mem_of_mem_take hz)), fun hn => ?_⟩
  obtain ⟨b', off', e, hlt, hc⟩ := h3 (by omega)
  cases e
  refine ⟨b, off + k, rfl, hlt, fun j hj => ?_⟩
  rw [Nat.add_assoc, hc (k + j) (by omega)]
  simp [List.getD, hj]
/-- the answer's cell and the lease's -/
structure Dn (w W : World) (l : Le) : Prop where
  low : Below w.heap.size w W
  res : LeAt W w.heap.size zeroL
  box : LeAt W (w.heap.size + 1) l
theorem Dn.start (w : World) : Dn w ((w.alloc (.cells (leA zeroL) 64)).alloc (.cells (leA zeroL) 64)) zeroL := by
  have a1 : Below w.heap.size w (w.alloc (.cells (leA zeroL) 64)) := (Below.refl _ w).alloc (Nat.le_refl _) _
  have b2 : Below (w.heap.size + 1) (w.alloc (.cells (leA zeroL) 64)) ((w.alloc (.cells (leA zeroL) 64)).alloc (.cells (leA zeroL) 64)) := (Below.refl _ _).alloc (by simp) _
  have n2 := LeAt.new (w.alloc (.cells (leA zeroL) 64)) zeroL
  rw [World.size_alloc] at n2
  exact ⟨a1.alloc (by simp) _, (LeAt.new w zeroL).below b2 (by omega), n2⟩
theorem Dn.start2 (w : World) (l : Le) : Dn w ((w.alloc (.cells (leA zeroL) 64)).alloc (.cells (leA l) 64)) l := by
  have a1 : Below w.heap.size w (w.alloc (.cells (leA zeroL) 64)) := (Below.refl _ w).alloc (Nat.le_refl _) _
  have b2 : Below (w.heap.size + 1) (w.alloc (.cells (leA zeroL) 64)) ((w.alloc (.cells (leA zeroL) 64)).alloc (.cells (leA l) 64)) := (Below.refl _ _).alloc (by simp) _
  have n2 := LeAt.new (w.alloc (.cells (leA zeroL) 64)) l
  rw [World.size_alloc] at n2
  exact ⟨a1.alloc (by simp) _, (LeAt.new w zeroL).below b2 (by omega), n2⟩
theorem Dn.start3 (w : World) (l : Le) : Dn w ((w.alloc (.cells (leA zeroL) 64)).drew.alloc (.cells (leA l) 64)) l := by
  have a1 : Below w.heap.size w (w.alloc (.cells (leA zeroL) 64)).drew := below_drewN' ((Below.refl _ w).alloc (Nat.le_refl _) _) 1
  have b2 : Below (w.heap.size + 1) (w.alloc (.cells (leA zeroL) 64)).drew ((w.alloc (.cells (leA zeroL) 64)).drew.alloc (.cells (leA l) 64)) := (Below.refl _ _).alloc (by show w.heap.size + 1 ≤ (w.alloc (.cells (leA zeroL) 64)).heap.size; simp) _
  have n2 := LeAt.new (w.alloc (.cells (leA zeroL) 64)).drew l
  have e : (w.alloc (.cells (leA zeroL) 64)).drew.heap.size = w.heap.size + 1 := by show (w.alloc (.cells (leA zeroL) 64)).heap.size = _; simp
  rw [e] at n2
  exact ⟨a1.alloc (by rw [e]; omega) _, LeAt.below (w := (w.alloc (.cells (leA zeroL) 64)).drew) (LeAt.new w zeroL) b2 (by omega), n2⟩
theorem Dn.drewN {w W : World} {l : Le} (h : Dn w W l) (q : Nat) : Dn w (W.drewN q) l := ⟨below_drewN' h.low q, h.res, h.box⟩
theorem Dn.drew {w W : World} {l : Le} (h : Dn w W l) : Dn w W.drew l := ⟨below_drewN' h.low 1, h.res, h.box⟩
theorem Dn.below {w W W' : World} {l : Le} (h : Dn w W l) (hb : Below W.heap.size W W') : Dn w W' l := ⟨h.low.trans (hb.mono h.low.size), h.res.below hb h.res.lt, h.box.below hb h.box.lt⟩
theorem Dn.put {w W : World} {l : Le} (h : Dn w W l) (l' : Le) : Dn w (put8 W (w.heap.size + 1) l') l' := ⟨put8_below h.low (by omega), (put8_other (by omega)).trans h.res, put8_res h.box⟩
theorem Dn.set {w W : World} {l : Le} (h : Dn w W l) (k : Nat) (v : Value) (l' : Le) (hl : (leA l).setIfInBounds k v = leA l') (hk : k < 8) : Dn w (W.setCell ⟨w.heap.size + 1, k, none⟩ v) l' := by
  refine ⟨h.low.setCell (p := ⟨w.heap.size + 1, k, none⟩) (by show w.heap.size ≤ w.heap.size + 1; omega) _, (Below.heap_setCell _ _ _ _ (by show w.heap.size ≠ w.heap.size + 1; omega)).trans h.res, ?_⟩
  have := heap_mod h.box (k := k) (by exact hk) v
  rw [hl] at this
  exact this
theorem Dn.fin {w W : World} {l : Le} (h : Dn w W l) (l' : Le) : Below w.heap.size w (put8 W w.heap.size l') ∧ LeAt (put8 W w.heap.size l') w.heap.size l' := ⟨put8_below h.low (Nat.le_refl _), put8_res h.res⟩
theorem Dn.cells {w W : World} {l : Le} (h : Dn w W l) : w.heap.size + 1 < W.heap.size ∧ ∀ k, W.frozen? ⟨w.heap.size + 1, k, none⟩ = false ∧ W.frozen? ⟨w.heap.size, k, none⟩ = false := ⟨h.box.lt, fun k => ⟨(cells_of h.box k).2, (cells_of h.res k).2⟩⟩

end Go.Proofs.Ytemlnkcokeckmaa.Pp
namespace Go.Proofs.Ytemlnkcokeckmaa.Pp
open Go.RowKit Go.ChangeShapes
set_option linter.unusedVariables false

def IsLe (w : World) (v : Value) (l : Le) : Prop := v = leV l ∧ isL l
def IsTxt (w : World) (v : Value) (zs : List Int) : Prop := Row w v zs
def IsFlag (w : World) (v : Value) (b : Bool) : Prop := v = .bool b
def IsFlags (w : World) (v : Value) (b : Bool × Bool) : Prop := v = .agg #[.bool b.1, .bool b.2]
section
variable {H : Type} {enc : TypeId × Value → H} {W : World}
set_option maxRecDepth 100000 in
theorem open_flag {r : Reach} {b0 : Nat} {v : Value} {d : DataW H} {p : List MemPlace} (hv : Value.okWide Try.prog W r b0 4 v) (h : DataW.Trod enc Try.prog W 0 (fun _ => true) true 4 v d p) : ∃ s, IsFlag W v s := by
  obtain ⟨b, rfl, _⟩ := open_bool Try.underlying4 hv h
  exact ⟨b, rfl⟩
set_option maxRecDepth 100000 in
set_option maxHeartbeats 1000000 in
theorem open_le {r : Reach} {b0 : Nat} {v : Value} {d : DataW H} {p : List MemPlace} (hv : Value.okWide Try.prog W r b0 64 v) (h : DataW.Trod enc Try.prog W 0 (fun _ => true) true  64 v d p) : ∃ s, IsLe W v s := by
  obtain ⟨cs, rfl, hsz⟩ := Go.WideShapes.okWide_struct Try.underlying64 hv
  have hsz2 : cs.toList.length = 8 := by rw [Array.length_toList]; exact hsz.trans (by kernel_rfl)
  obtain ⟨c0, c1, c2, c3, c4, c5, c6, c7, rfl⟩ : ∃ c0 c1 c2 c3 c4 c5 c6 c7, cs = #[c0, c1, c2, c3, c4, c5, c6, c7] := by
    match h : cs.toList, hsz2 with
    | [c0, c1, c2, c3, c4, c5, c6, c7], _ => exact ⟨c0, c1, c2, c3, c4, c5, c6, c7, by rw [← Array.toArray_toList (xs := cs), h]⟩
  obtain ⟨fuel, hf⟩ := h
  obtain ⟨xs, n, _, _, hl, hlen, hx⟩ := DataW.trod_struct Try.underlying64 hf
  have k3 : Try.prog.cellsOf 3 = 1 := by kernel_rfl
  have k22 : Try.prog.cellsOf 62 = 1 := by kernel_rfl
  have k23 : Try.prog.cellsOf 22 = 1 := by kernel_rfl
  match xs, hlen with
  | [y0, y1, y2, y3, y4, y5, y6, y7], _ =>
    have h0 : DataW.trod enc Try.prog W 0 (fun _ => true) true n 3 [c0] = some y0 := by simpa [k3, Value.cells] using hx 0 _ rfl
    have h1 : DataW.trod enc Try.prog W 0 (fun _ => true) true n 3 [c1] = some y1 := by simpa [k3, Value.cells] using hx 1 _ rfl
    have h2 : DataW.trod enc Try.prog W 0 (fun _ => true) true n 3 [c2] = some y2 := by simpa [k3, Value.cells] using hx 2 _ rfl
    have h3 : DataW.trod enc Try.prog W 0 (fun _ => true) true n 3 [c3] = some y3 := by simpa [k3, Value.cells] using hx 3 _ rfl
    have h4 : DataW.trod enc Try.prog W 0 (fun _ => true) true n 62 [c4] = some y4 := by simpa [k22, Value.cells] using hx 4 _ rfl
    have h5 : DataW.trod enc Try.prog W 0 (fun _ => true) true n 3 [c5] = some y5 := by simpa [k3, Value.cells] using hx 5 _ rfl
    have h6 : DataW.trod enc Try.prog W 0 (fun _ => true) true n 3 [c6] = some y6 := by simpa [k3, Value.cells] using hx 6 _ rfl
    have h7 : DataW.trod enc Try.prog W 0 (fun _ => true) true n 22 [c7] = some y7 := by simpa [k23, Value.cells] using hx 7 _ rfl
    obtain ⟨a0, e0, _, p0⟩ := DataW.trod_int Try.underlying3 h0
    obtain ⟨a1, e1, _, p1⟩ := DataW.trod_int Try.underlying3 h1
    obtain ⟨a2, e2, _, p2⟩ := DataW.trod_int Try.underlying3 h2
    obtain ⟨a3, e3, _, p3⟩ := DataW.trod_int Try.underlying3 h3
    obtain ⟨a4, e4, _, p4⟩ := DataW.trod_int Try.underlying62 h4
    obtain ⟨a5, e5, _, p5⟩ := DataW.trod_int Try.underlying3 h5
    obtain ⟨a6, e6, _, p6⟩ := DataW.trod_int Try.underlying3 h6
    obtain ⟨a7, e7, _, p7⟩ := DataW.trod_int Try.underlying22 h7
    simp only [List.cons.injEq, and_true] at e0 e1 e2 e3 e4 e5 e6 e7
    refine ⟨⟨a0, a1, a2, a3, a4, a5, a6, a7⟩, by rw [e0, e1, e2, e3, e4, e5, e6, e7]; rfl, ?_⟩
    have q0 := bounds_i64 p0
    have q1 := bounds_i64 p1
    have q2 := bounds_i64 p2
    have q3 := bounds_i64 p3
    have q4 := bounds_u64 p4
    have q5 := bounds_i64 p5
    have q6 := bounds_i64 p6
    have q7 := bounds_u32 p7
    constructor <;> simp only [W64] <;> omega
theorem okWide_arr {P : Program} {t e : TypeId} {n : Nat} {w : World} {r : Reach} {b : Nat} {v : Value} (ht : P.underlying t = some (.array n e)) (h : Value.okWide P w r b t v) : ∃ cs, v = .agg cs ∧ cs.size = P.cellsOf t := by
  simp only [Value.okWide, ht] at h
  obtain ⟨cs, h1, h2, _⟩ := h
  exact ⟨cs, h1, h2⟩
set_option maxRecDepth 100000 in
theorem open_txt {r : Reach} {b0 : Nat} {v : Value} {d : DataW H} {p : List MemPlace} (hv : Value.okWide Try.prog W r b0 60 v) (h : DataW.Trod enc Try.prog W 0 (fun _ => true) true  60 v d p) : ∃ zs, IsTxt W v zs := by
  obtain ⟨A, l, c, rfl⟩ := WideShapes.okWide_slice Try.underlying60 hv
  obtain ⟨fuel, hf⟩ := h
  rcases Go.ChangeShapes.open_ints Try.underlying60 Try.underlying5 (by kernel_rfl) hf with ⟨hcs, _⟩ | ⟨x, l, c, zs, hcs, _, hl, hm, hz, _, hcell, hwz⟩
  · simp [Value.cells] at hcs
    obtain ⟨rfl, rfl, rfl⟩ := hcs
    exact ⟨[], none, 0, rfl, ⟨rfl, by simp, fun h => by simp at h⟩, Nat.le_refl _, Nat.zero_le _, fun _ => ⟨rfl, rfl⟩⟩
  · simp [Value.cells] at hcs
    obtain ⟨rfl, rfl, rfl⟩ := hcs
    have hr : IsRow .u8 W (some x) _ _ zs := .inr ⟨_, rfl, hl, hm, by simpa using hz, hcell, hwz⟩
    obtain ⟨h1, h2, h3⟩ := bts_of_row hr
    have e := h1.len
    exact ⟨_, some x, _, by rw [e], by rw [e]; exact h1, by rw [e]; exact h2, h3, by intro h; cases h⟩
/-- a slice that came in reads as bytes -/
theorem row_of {w : World} {a : Option Addr} {len cap : Nat} {zs : List Int} (h : IsRow .u8 w a len cap zs) : Row w (.slice a len cap) (zs.take len) := by
  obtain ⟨h1, h2, h3⟩ := bts_of_row h
  have hl := h1.len
  exact ⟨a, cap, by rw [hl], by rw [hl]; exact h1, by omega, h3, fun e => by rw [hl]; exact nil_of_row h e⟩
end
end Go.Proofs.Ytemlnkcokeckmaa.Pp
namespace Go.Proofs.Ytemlnkcokeckmaa.Pp
open Go.RowKit
set_option linter.unusedVariables false

structure St (w W : World) (l : Le) : Prop where
  low : Below w.heap.size w W
  box : LeAt W w.heap.size l
theorem St.below {w W W' : World} {l : Le} (h : St w W l) (hb : Below W.heap.size W W') : St w W' l := ⟨h.low.trans (hb.mono h.low.size), h.box.below hb h.box.lt⟩
theorem St.start (w : World) (l : Le) : St w (w.alloc (.cells (leA l) 64)) l := ⟨(Below.refl _ w).alloc (Nat.le_refl _) _, LeAt.new w l⟩
/-- a lease is laid in a new block -/
theorem lay (W : World) (l : Le) : Below W.heap.size W (W.alloc (.cells (leA l) 64)) ∧ LeAt (W.alloc (.cells (leA l) 64)) W.heap.size l := ⟨(Below.refl _ W).alloc (Nat.le_refl _) _, LeAt.new W l⟩
def ansV (l : Le) (h : Bool) (e : Int) : Value := .tuple #[leV l, .bool h, .int .i64 e]
theorem ask_empty {l : Le} {h : Bool} : ¬ AskOf [] l h := by
  rintro ⟨h1, h2⟩
  have := (back_ask h1).2
  rw [← h2] at this
  simp at this
theorem ans_empty {l : Le} {h : Bool} : ¬ AnsOf [] l h := by
  rintro ⟨h0, h1, h2⟩
  have := (back_ans h0 h1).2
  rw [← h2] at this
  simp at this
theorem ask_no_len {l : Le} {h : Bool} (hb : askB l h = false) : askR l h = [] := by unfold askR; rw [hb]; rfl
theorem ans_no_len {l : Le} {h : Bool} (hb : ansB l h = false) : ansR l h = [] := by unfold ansR; rw [hb]; rfl
end Go.Proofs.Ytemlnkcokeckmaa.Pp
namespace Go.Proofs.Ytemlnkcokeckmaa
open Go.RowKit
set_option linter.unusedVariables false

theorem below_drw {B : Nat} {a w : World} (h : Below B a w) (q : Nat) : Below B a (w.drewN q) := ⟨h.os, h.tape, h.output, h.size, h.block⟩
/-- of the old blocks only those of S may be other than they were -/
structure Keeps (S : Nat → Prop) (w w' : World) : Prop where
  os : w'.os = w.os
  tape : w'.tape = w.tape
  output : w'.output = w.output
  size : w.heap.size ≤ w'.heap.size
  block : ∀ k, k < w.heap.size → ¬ S k → w'.heap[k]? = w.heap[k]?
theorem Keeps.refl (S : Nat → Prop) (w : World) : Keeps S w w := ⟨rfl, rfl, rfl, Nat.le_refl _, fun _ _ _ => rfl⟩
theorem Keeps.trans {S : Nat → Prop} {a b c : World} (h : Keeps S a b) (k : Keeps S b c) : Keeps S a c :=
  ⟨k.os.trans h.os, k.tape.trans h.tape, k.output.trans h.output, Nat.le_trans h.size k.size, fun i hi hn => (k.block i (Nat.lt_of_lt_of_le hi h.size) hn).trans (h.block i hi hn)⟩
/-- .. where what the second may turn, of the first world's blocks, the first may turn too -/
theorem Keeps.then {S T : Nat → Prop} {a b c : World} (h : Keeps S a b) (k : Keeps T b c) (ht : ∀ i, i < a.heap.size → T i → S i) : Keeps S a c :=
  ⟨k.os.trans h.os, k.tape.trans h.tape, k.output.trans h.output, Nat.le_trans h.size k.size, fun i hi hn => (k.block i (Nat.lt_of_lt_of_le hi h.size) (fun e => hn (ht i hi e))).trans (h.block i hi hn)⟩
theorem Keeps.mono {S S' : Nat → Prop} {a b : World} (h : Keeps S a b) (hs : ∀ k, k < a.heap.size → S k → S' k) : Keeps S' a b :=
  ⟨h.os, h.tape, h.output, h.size, fun i hi hn => h.block i hi (fun e => hn (hs i hi e))⟩
theorem Keeps.below {S : Nat → Prop} {a b : World} {n : Nat} (h : Keeps S a b) (hs : ∀ k, S k → n ≤ k) (hn : n ≤ a.heap.size) : Below n a b :=
  ⟨h.os, h.tape, h.output, h.size, fun k hk => h.block k (by omega) (fun e => by have := hs k e; omega)⟩
theorem Keeps.ofBelow {S : Nat → Prop} {a b : World} {n : Nat} (h : Below n a b) (hn : ∀ k, n ≤ k → k < a.heap.size → S k) : Keeps S a b :=
  ⟨h.os, h.tape, h.output, h.size, fun k hk hs => h.block k (Nat.lt_of_not_le fun h1 => hs (hn k h1 hk))⟩
theorem Keeps.all {S : Nat → Prop} {a b : World} (h : Below a.heap.size a b) : Keeps S a b := .ofBelow h (fun k h1 h2 => by omega)
theorem Keeps.grown {S : Nat → Prop} {a b : World} {row : Option Nat} (h : a.grownBy b row) (hr : ∀ g, row = some g → S g) : Keeps S a b :=
  ⟨h.os, h.tape, h.output, h.size, fun k hk hn => h.block k hk (fun e => hn (hr k e.symm))⟩
theorem Keeps.alloc {w w' : World} {S : Nat → Prop} (h : Keeps S w w') (o : Obj) : Keeps S w (w'.alloc o) := h.trans (.all ((Below.refl _ w').alloc (Nat.le_refl _) o))
theorem Keeps.drewN {w w' : World} {S : Nat → Prop} (h : Keeps S w w') (q : Nat) : Keeps S w (w'.drewN q) := h.trans (.all (below_drw (Below.refl _ w') q))
theorem Keeps.set {w w' : World} {S : Nat → Prop} (h : Keeps S w w') (b o : Nat) (v : Value) (hb : S b) : Keeps S w (w'.setCell ⟨b, o, none⟩ v) :=
  h.trans ⟨rfl, rfl, rfl, by simp, fun k hk hn => heap_setCell_other w' ⟨b, o, none⟩ k v (fun e => hn (by have e2 : k = b := e; rw [e2]; exact hb))⟩

theorem cells_of {w : World} {b : Nat} {C : Array Value} {t : TypeId} (h : w.heap[b]? = some (.cells C t (0, 0))) (j : Nat) : w.cell? ⟨b, j, none⟩ = C[j]? ∧ w.frozen? ⟨b, j, none⟩ = false := by
  constructor
  · simp [World.cell?, h]
  · simp [World.frozen?, h]

/-- an address: its host, its port -/
abbrev A2 := Int × Int
def adr (a : A2) : Value := .agg #[.int .u32 a.1, .int .i64 a.2]
def isA (a : A2) : Prop := (0 ≤ a.1 ∧ a.1 < 4294967296) ∧ -9223372036854775808 ≤ a.2 ∧ a.2 ≤ 9223372036854775807
def mayA (a : A2) : Bool := decide (a.1 ≠ 0) && decide (1 ≤ a.2) && decide (a.2 ≤ 65535)
theorem mayA_t {a : A2} (h1 : ¬ a.1 = 0) (h2 : 1 ≤ a.2) (h3 : a.2 ≤ 65535) : mayA a = true := by simp [mayA, h1, h2, h3]
theorem mayA_f {a : A2} (h : a.1 = 0 ∨ a.2 < 1 ∨ 65535 < a.2) : mayA a = false := by
  unfold mayA
  rcases h with h | h | h
  · simp [h]
  · have : ¬ 1 ≤ a.2 := Int.not_le.2 h
    simp [this]
  · have : ¬ a.2 ≤ 65535 := Int.not_le.2 h
    simp [this]
theorem mayA_iff (a : A2) : mayA a = true ↔ a.1 ≠ 0 ∧ 1 ≤ a.2 ∧ a.2 ≤ 65535 := by simp [mayA, and_assoc]
/-- how a box is made -/
structure Bx where
  host : Int
  lo : Int
  hi : Int
  map : Int
  filter : Int
  life : Int
  most : Int
/-- a binding, and who is seen by it -/
structure Bn where
  inn : A2
  to : A2
  port : Int
  until_ : Int
  asked : Bool
  seen : List A2
def Bn.cells (b : Bn) : List Value := [.int .u32 b.inn.1, .int .i64 b.inn.2, .int .u32 b.to.1, .int .i64 b.to.2, .int .i64 b.port, .int .i64 b.until_, .bool b.asked]
def bnCells (b : Bn) (sv : Value) : Array Value := #[.int .u32 b.inn.1, .int .i64 b.inn.2, .int .u32 b.to.1, .int .i64 b.to.2, .int .i64 b.port, .int .i64 b.until_, .bool b.asked, sv]
def natCells (x : Bx) (kv : Value) (now : Int) : Array Value := #[.int .u32 x.host, .int .i64 x.lo, .int .i64 x.hi, .int .i64 x.map, .int .i64 x.filter, .int .i64 x.life, .int .i64 x.most, kv, .int .i64 now]
def boxCells (x : Bx) : Array Value := #[.int .u32 x.host, .int .i64 x.lo, .int .i64 x.hi, .int .i64 x.map, .int .i64 x.filter, .int .i64 x.life, .int .i64 x.most]
/-- addresses in a row -/
def cellsA (l : List A2) : List Value := l.flatMap fun a => [.int .u32 a.1, .int .i64 a.2]
theorem cellsA_cons (a : A2) (l : List A2) : cellsA (a :: l) = .int .u32 a.1 :: .int .i64 a.2 :: cellsA l := rfl
theorem cellsA_append (l m : List A2) : cellsA (l ++ m) = cellsA l ++ cellsA m := by simp [cellsA]
theorem cellsA_len : ∀ l : List A2, (cellsA l).length = l.length * 2
  | [] => rfl
  | a :: l => by rw [cellsA_cons]; simp only [List.length_cons, cellsA_len l]; omega
theorem cellsA_one (l : List A2) : ∀ u ∈ cellsA l, u.oneCell' = true := by
  intro u hu
  unfold cellsA at hu
  rw [List.mem_flatMap] at hu
  obtain ⟨a, _, h⟩ := hu
  simp only [List.mem_cons, List.not_mem_nil, or_false] at h
  rcases h with rfl | rfl <;> rfl
theorem cellsA_at {l : List A2} {k : Nat} {a : A2} (h : l[k]? = some a) : (cellsA l)[k * 2]? = some (.int .u32 a.1) ∧ (cellsA l)[k * 2 + 1]? = some (.int .i64 a.2) := by
  induction l generalizing k with
  | nil => simp at h
  | cons b l ih =>
    rw [cellsA_cons]
    cases k with
    | zero =>
      simp only [List.getElem?_cons_zero, Option.some.injEq] at h
      subst h
      exact ⟨rfl, rfl⟩
    | succ k =>
      have := ih (k := k) (by simpa using h)
      rw [show (k + 1) * 2 = k * 2 + 1 + 1 by omega]
      exact ⟨this.1, this.2⟩
/-- pointers to bindings in a row -/
def ptr (p : Nat) : Value := .pointer (some ⟨p, 0, none⟩)
def cellsP (l : List Nat) : List Value := l.map ptr
theorem cellsP_one (l : List Nat) : ∀ u ∈ cellsP l, u.oneCell' = true := by
  intro u hu
  obtain ⟨p, _, rfl⟩ := List.mem_map.1 hu
  rfl
theorem cellsP_at {l : List Nat} {k p : Nat} (h : l[k]? = some p) : (cellsP l)[k]? = some (ptr p) := by unfold cellsP; rw [List.getElem?_map, h]; rfl

/-- a row is kept with its block -/
theorem own_at {w w' : World} {base : Nat} {e : TypeId} {k : Nat} {v : Value} {n : Nat} {xs : List Value} (h : w.ownsRow base e k v n xs) (hg : ∀ g, v.ownBlock = some g → w'.heap[g]? = w.heap[g]?) : w'.ownsRow base e k v n xs := by
  refine ⟨h.1, ?_⟩
  rcases h.2 with hn | ⟨g, cap, cur, rfl, hb, hgg, rest⟩
  · exact .inl hn
  · exact .inr ⟨g, cap, cur, rfl, hb, (hg g rfl).trans hgg, rest⟩
theorem own_obj {w : World} {base : Nat} {e : TypeId} {k : Nat} {v : Value} {n : Nat} {xs : List Value} (h : w.ownsRow base e k v n xs) {g : Nat} (hg : v.ownBlock = some g) : ∃ C, w.heap[g]? = some (.cells C e (0, 0)) := by
  rcases h.2 with ⟨rfl, _⟩ | ⟨g', cap, cur, rfl, _, hgg, _⟩
  · cases hg
  · cases hg
    exact ⟨cur, hgg⟩

/-- a binding in memory: its block, what it is, and its row of seen ones as a value -/
structure Nd where
  p : Nat
  b : Bn
  sv : Value
/-- bindings that lie apart -/
def Apart (d e : Nd) : Prop := d.p ≠ e.p ∧ ∀ g, d.sv.ownBlock = some g → e.sv.ownBlock ≠ some g
theorem Apart.symm {d e : Nd} (h : Apart d e) : Apart e d := ⟨fun x => h.1 x.symm, fun g h1 h2 => h.2 g h2 h1⟩
structure NdAt (w : World) (d : Nd) : Prop where
  own : w.heap[d.p]? = some (.cells (bnCells d.b d.sv) 98 (0, 0))
  row : w.ownsRow 0 38 2 d.sv d.b.seen.length (cellsA d.b.seen)
/-- a box in memory -/
structure Na (w : World) (nb : Nat) (x : Bx) (now : Int) (kv : Value) (L : List Nd) : Prop where
  top : w.heap[nb]? = some (.cells (natCells x kv now) 90 (0, 0))
  row : w.ownsRow 0 93 1 kv L.length (cellsP (L.map Nd.p))
  nds : ∀ d ∈ L, NdAt w d
  sep : L.Pairwise Apart
/-- the blocks of a box -/
def Foot (nb : Nat) (kv : Value) (L : List Nd) (k : Nat) : Prop := k = nb ∨ kv.ownBlock = some k ∨ ∃ d ∈ L, k = d.p ∨ d.sv.ownBlock = some k
section
variable {w w' : World} {nb : Nat} {x : Bx} {now : Int} {kv : Value} {L : List Nd} {d : Nd}
theorem NdAt.kept (h : NdAt w d) (h1 : w'.heap[d.p]? = w.heap[d.p]?) (h2 : ∀ g, d.sv.ownBlock = some g → w'.heap[g]? = w.heap[g]?) : NdAt w' d := ⟨h1.trans h.own, own_at h.row h2⟩
theorem NdAt.lt (h : NdAt w d) : d.p < w.heap.size := (Array.getElem?_eq_some_iff.1 h.own).1
theorem NdAt.rowlt (h : NdAt w d) {g : Nat} (hg : d.sv.ownBlock = some g) : g < w.heap.size := by
  obtain ⟨C, hC⟩ := own_obj h.row hg
  exact (Array.getElem?_eq_some_iff.1 hC).1
theorem Na.kept (h : Na w nb x now kv L) (hk : ∀ k, Foot nb kv L k → w'.heap[k]? = w.heap[k]?) : Na w' nb x now kv L :=
  ⟨(hk nb (.inl rfl)).trans h.top, own_at h.row (fun g hg => hk g (.inr (.inl hg))), fun d hd => (h.nds d hd).kept (hk _ (.inr (.inr ⟨d, hd, .inl rfl⟩))) (fun g hg => hk g (.inr (.inr ⟨d, hd, .inr hg⟩))), h.sep⟩
theorem Na.lt (h : Na w nb x now kv L) : nb < w.heap.size := (Array.getElem?_eq_some_iff.1 h.top).1
theorem Na.foot_lt (h : Na w nb x now kv L) {k : Nat} (hk : Foot nb kv L k) : k < w.heap.size := by
  rcases hk with rfl | hk | ⟨d, hd, rfl | hk⟩
  · exact h.lt
  · obtain ⟨C, hC⟩ := own_obj h.row hk
    exact (Array.getElem?_eq_some_iff.1 hC).1
  · exact (h.nds d hd).lt
  · exact (h.nds d hd).rowlt hk
theorem Na.below (h : Na w nb x now kv L) (hb : Below w.heap.size w w') : Na w' nb x now kv L := h.kept fun k hk => hb.block k (h.foot_lt hk)
theorem Na.keeps {S : Nat → Prop} (h : Na w nb x now kv L) (hb : Keeps S w w') (hs : ∀ k, Foot nb kv L k → ¬ S k) : Na w' nb x now kv L := h.kept fun k hk => hb.block k (h.foot_lt hk) (hs k hk)
/-- what a block of the box is -/
theorem Na.kind (h : Na w nb x now kv L) {k : Nat} (hk : Foot nb kv L k) : ∃ C t, w.heap[k]? = some (.cells C t (0, 0)) ∧ (t = 90 ∨ t = 93 ∨ t = 98 ∨ t = 38) := by
  rcases hk with rfl | hk | ⟨d, hd, rfl | hk⟩
  · exact ⟨_, _, h.top, .inl rfl⟩
  · obtain ⟨C, hC⟩ := own_obj h.row hk
    exact ⟨_, _, hC, .inr (.inl rfl)⟩
  · exact ⟨_, _, (h.nds d hd).own, .inr (.inr (.inl rfl))⟩
  · obtain ⟨C, hC⟩ := own_obj (h.nds d hd).row hk
    exact ⟨_, _, hC, .inr (.inr (.inr rfl))⟩
theorem clash {b : Nat} {C C' : Array Value} {t t' : TypeId} (h : w.heap[b]? = some (.cells C t (0, 0))) (h' : w.heap[b]? = some (.cells C' t' (0, 0))) (hn : t ≠ t') : False := by
  rw [h] at h'
  simp only [Option.some.injEq, Obj.cells.injEq] at h'
  exact hn h'.2.1
theorem Na.ne_row (h : Na w nb x now kv L) : kv.ownBlock ≠ some nb := fun e => by
  obtain ⟨C, hC⟩ := own_obj h.row e
  exact clash h.top hC (by decide)
theorem Na.ne_nd (h : Na w nb x now kv L) (hd : d ∈ L) : d.p ≠ nb := fun e => by
  have := (h.nds d hd).own
  rw [e] at this
  exact clash h.top this (by decide)
theorem Na.ne_seen (h : Na w nb x now kv L) (hd : d ∈ L) : d.sv.ownBlock ≠ some nb := fun e => by
  obtain ⟨C, hC⟩ := own_obj (h.nds d hd).row e
  exact clash h.top hC (by decide)
theorem Na.row_nd (h : Na w nb x now kv L) (hd : d ∈ L) : kv.ownBlock ≠ some d.p := fun e => by
  obtain ⟨C, hC⟩ := own_obj h.row e
  exact clash (h.nds d hd).own hC (by decide)
theorem Na.row_seen (h : Na w nb x now kv L) (hd : d ∈ L) {g : Nat} (hg : kv.ownBlock = some g) : d.sv.ownBlock ≠ some g := fun e => by
  obtain ⟨C, hC⟩ := own_obj h.row hg
  obtain ⟨C', hC'⟩ := own_obj (h.nds d hd).row e
  exact clash hC hC' (by decide)
theorem Na.nd_seen (h : Na w nb x now kv L) {e : Nd} (hd : d ∈ L) (he : e ∈ L) : d.sv.ownBlock ≠ some e.p := fun h1 => by
  obtain ⟨C, hC⟩ := own_obj (h.nds d hd).row h1
  exact clash (h.nds e he).own hC (by decide)
/-- the box's cells in the walk's words -/
theorem Na.cells (h : Na w nb x now kv L) : (w.cell? ⟨nb, 0, none⟩ = some (.int .u32 x.host) ∧ w.cell? ⟨nb, 1, none⟩ = some (.int .i64 x.lo) ∧ w.cell? ⟨nb, 2, none⟩ = some (.int .i64 x.hi) ∧ w.cell? ⟨nb, 3, none⟩ = some (.int .i64 x.map) ∧ w.cell? ⟨nb, 4, none⟩ = some (.int .i64 x.filter) ∧ w.cell? ⟨nb, 5, none⟩ = some (.int .i64 x.life) ∧ w.cell? ⟨nb, 6, none⟩ = some (.int .i64 x.most)) ∧ w.cell? ⟨nb, 7, none⟩ = some kv ∧ w.cell? ⟨nb, 8, none⟩ = some (.int .i64 now) ∧ ∀ j, w.frozen? ⟨nb, j, none⟩ = false := by
  have h0 := fun j => (cells_of h.top j).1
  exact ⟨⟨h0 0, h0 1, h0 2, h0 3, h0 4, h0 5, h0 6⟩, h0 7, h0 8, fun j => (cells_of h.top j).2⟩
theorem NdAt.cells (h : NdAt w d) : (w.cell? ⟨d.p, 0, none⟩ = some (.int .u32 d.b.inn.1) ∧ w.cell? ⟨d.p, 1, none⟩ = some (.int .i64 d.b.inn.2) ∧ w.cell? ⟨d.p, 2, none⟩ = some (.int .u32 d.b.to.1) ∧ w.cell? ⟨d.p, 3, none⟩ = some (.int .i64 d.b.to.2) ∧ w.cell? ⟨d.p, 4, none⟩ = some (.int .i64 d.b.port) ∧ w.cell? ⟨d.p, 5, none⟩ = some (.int .i64 d.b.until_) ∧ w.cell? ⟨d.p, 6, none⟩ = some (.bool d.b.asked)) ∧ w.cell? ⟨d.p, 7, none⟩ = some d.sv ∧ ∀ j, w.frozen? ⟨d.p, j, none⟩ = false := by
  have h0 := fun j => (cells_of h.own j).1
  exact ⟨⟨h0 0, h0 1, h0 2, h0 3, h0 4, h0 5, h0 6⟩, h0 7, fun j => (cells_of h.own j).2⟩
/-- the row of bindings: where it lies -/
theorem Na.rowAt (h : Na w nb x now kv L) : (kv = .slice none 0 0 ∧ L = []) ∨ ∃ g cap cur, kv = .slice (some ⟨g, 0, none⟩) L.length cap ∧ w.heap[g]? = some (.cells cur 93 (0, 0)) ∧ L.length ≤ cap ∧ cap ≤ maxLen ∧ cur.size = cap ∧ ∀ (j : Nat) (d : Nd), L[j]? = some d → cur[j]? = some (ptr d.p) := by
  rcases h.row.2 with ⟨h1, h2⟩ | ⟨g, cap, cur, h1, _, h2, h3, h4, h5, h6⟩
  · exact .inl ⟨h1, List.eq_nil_of_length_eq_zero h2⟩
  · refine .inr ⟨g, cap, cur, h1, h2, h3, h4, by omega, fun j d hd => ?_⟩
    have hj := (List.getElem?_eq_some_iff.1 hd).1
    have h7 := cellsP_at (l := L.map Nd.p) (k := j) (p := d.p) (by rw [List.getElem?_map, hd]; rfl)
    rw [← h6, List.getElem?_take_of_lt (by omega)] at h7
    simpa using h7
end
/-- what a call leaves of a box's blocks: of the old ones these are the box's alone -/
def Grew (G G' : Nat → Prop) (w : World) : Prop := ∀ k, G' k → G k ∨ w.heap.size ≤ k
/-- block nb is a box made so, its time now, its bindings M; its blocks are G -/
def Bo (w : World) (nb : Nat) (G : Nat → Prop) (x : Bx) (now : Int) (M : List Bn) : Prop := ∃ kv L, Na w nb x now kv L ∧ L.map Nd.b = M ∧ G = Foot nb kv L
section
variable {w w' : World} {nb : Nat} {x : Bx} {now : Int} {M : List Bn} {G : Nat → Prop}
theorem Bo.below (h : Bo w nb G x now M) (hb : Below w.heap.size w w') : Bo w' nb G x now M := by
  obtain ⟨kv, L, h1, h2, h3⟩ := h
  exact ⟨kv, L, h1.below hb, h2, h3⟩
theorem Bo.keeps {S : Nat → Prop} (h : Bo w nb G x now M) (hb : Keeps S w w') (hs : ∀ k, G k → ¬ S k) : Bo w' nb G x now M := by
  obtain ⟨kv, L, h1, h2, rfl⟩ := h
  exact ⟨kv, L, h1.keeps hb hs, h2, rfl⟩
theorem Bo.lt (h : Bo w nb G x now M) {k : Nat} (hk : G k) : k < w.heap.size := by
  obtain ⟨kv, L, h1, h2, rfl⟩ := h
  exact h1.foot_lt hk
theorem Bo.self (h : Bo w nb G x now M) : G nb := by
  obtain ⟨kv, L, h1, h2, rfl⟩ := h
  exact .inl rfl
end
end Go.Proofs.Ytemlnkcokeckmaa
namespace Go.Proofs.Ytemlnkcokeckmaa
open Go.RowKit
set_option linter.unusedVariables false

theorem ret_b {a b : Bool} (h : a = b) : Ending.returned (.bool a) = .returned (.bool b) := by rw [h]
theorem ret_adr {a b : A2} (h : a = b) : Ending.returned (adr a) = .returned (adr b) := by rw [h]

set_option maxHeartbeats 1000000 in
theorem may_any (a : A2) (w : World) (ha : isA a) : Calls Try.prog 41 #[adr a] w fun e w' => e = .returned (.bool (mayA a)) ∧ Below w.heap.size w w' := by
  obtain ⟨h, p⟩ := a
  obtain ⟨⟨h0, h1⟩, h2, h3⟩ := ha
  dsimp only at h0 h1 h2 h3
  unfold adr
  dsimp only
  by_cases c1 : h = 0
  · subst c1
    go_enter Try.func41, Try.ntmps41
    go_wp2
    go_ret
    exact ⟨ret_b (by simp [mayA]), (Below.refl _ _).alloc (Nat.le_refl _) _⟩
  · have t1 : (h != 0) = true := by rw [bne_iff_ne]; exact c1
    have H1 := Lib.hid c1; clear c1
    by_cases c2 : 1 ≤ p
    · by_cases c3 : p ≤ 65535
      · go_enter Try.func41, Try.ntmps41
        go_wp2
        go_ret
        exact ⟨ret_b (mayA_t (a := (h, p)) H1.out (by omega) (by omega)).symm, (Below.refl _ _).alloc (Nat.le_refl _) _⟩
      · go_enter Try.func41, Try.ntmps41
        go_wp2
        go_ret
        exact ⟨ret_b (mayA_f (a := (h, p)) (.inr (.inr (by simp; omega)))).symm, (Below.refl _ _).alloc (Nat.le_refl _) _⟩
    · go_enter Try.func41, Try.ntmps41
      go_wp2
      go_ret
      exact ⟨ret_b (mayA_f (a := (h, p)) (.inr (.inl (by simp; omega)))).symm, (Below.refl _ _).alloc (Nat.le_refl _) _⟩

/-- as much of an address as is looked at -/
def partA (a : A2) (m : Int) : A2 := if m = 0 then (0, 0) else if m = 1 then (a.1, 0) else a
theorem partA_isA {a : A2} (h : isA a) (m : Int) : isA (partA a m) := by
  unfold partA
  split
  · exact ⟨⟨by simp, by simp⟩, by simp, by simp⟩
  · split
    · exact ⟨h.1, by simp, by simp⟩
    · exact h
set_option maxHeartbeats 1000000 in
theorem part_any (a : A2) (m : Int) (w : World) : Calls Try.prog 44 #[adr a, .int .i64 m] w fun e w' => e = .returned (adr (partA a m)) ∧ Below w.heap.size w w' := by
  obtain ⟨h, p⟩ := a
  have HB : Hid (∀ C C' : Obj, Below w.heap.size w ((w.alloc C).alloc C')) := Lib.hid (fun C C' => ((Below.refl _ w).alloc (Nat.le_refl _) _).alloc (by simp) _)
  unfold adr
  dsimp only
  by_cases c1 : m = 0
  · subst c1
    have HR : Hid (partA (h, p) 0 = (0, 0)) := Lib.hid rfl
    go_enter Try.func44, Try.ntmps44
    go_wp2
    exact ⟨rfl, .agg #[.int .u32 0, .int .i64 0], by simp [results, Try.results44, go_sem], by rw [HR.out], HB.out _ _⟩
  · by_cases c2 : m = 1
    · subst c2
      have HR : Hid (partA (h, p) 1 = (h, 0)) := Lib.hid rfl
      go_enter Try.func44, Try.ntmps44
      go_wp2
      exact ⟨rfl, .agg #[.int .u32 h, .int .i64 0], by simp [results, Try.results44, go_sem], by rw [HR.out], HB.out _ _⟩
    · have HR : Hid (partA (h, p) m = (h, p)) := Lib.hid (by simp [partA, c1, c2])
      have t1 : (m == 0) = false := by simpa using c1
      have t2 : (m == 1) = false := by simpa using c2
      clear c1 c2
      go_enter Try.func44, Try.ntmps44
      go_wp2
      exact ⟨rfl, .agg #[.int .u32 h, .int .i64 p], by simp [results, Try.results44, go_sem], by rw [HR.out], HB.out _ _⟩

/-- may a box be made so? -/
def isWayB (m : Int) : Bool := decide (0 ≤ m) && decide (m ≤ 2)
def boxOK (x : Bx) : Bool := decide (x.host ≠ 0) && (decide (1 ≤ x.lo) && (decide (x.lo ≤ x.hi) && (decide (x.hi ≤ 65535) && (isWayB x.map && (isWayB x.filter && (decide (1 ≤ x.life) && (decide (x.life ≤ 1099511627776) && (decide (1 ≤ x.most) && decide (x.most ≤ 100)))))))))
set_option maxHeartbeats 1000000 in
theorem isWay_any (m : Int) (w : World) : Calls Try.prog 76 #[.int .i64 m] w fun e w' => e = .returned (.bool (isWayB m)) ∧ w = w' := by
  by_cases c1 : 0 ≤ m
  · by_cases c2 : m ≤ 2
    · have HR : Hid (isWayB m = true) := Lib.hid (by simp [isWayB, c1, c2])
      go_enter Try.func76, Try.ntmps76
      go_wp2
      go_ret
      exact ⟨ret_b HR.out.symm, rfl⟩
    · have HR : Hid (isWayB m = false) := Lib.hid (by simp [isWayB, c2])
      go_enter Try.func76, Try.ntmps76
      go_wp2
      go_ret
      exact ⟨ret_b HR.out.symm, rfl⟩
  · have HR : Hid (isWayB m = false) := Lib.hid (by simp [isWayB, c1])
    go_enter Try.func76, Try.ntmps76
    go_wp2
    go_ret
    exact ⟨ret_b HR.out.symm, rfl⟩
end Go.Proofs.Ytemlnkcokeckmaa
