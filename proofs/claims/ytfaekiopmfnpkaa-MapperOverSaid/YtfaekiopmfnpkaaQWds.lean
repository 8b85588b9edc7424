/-
  Leases as bytes and back, in plain words: what is told of a lease that may be is read again; nothing else is read. Conditions: as each lemma states.
-/
import Derived.Test.YtfaekiopmfnpkaaQRed
import Derived.Test.YtfaekiopmfnpkaaQRask
namespace Go.Proofs.Ytfaekiopmfnpkaa.Pp
open Go.RowKit
set_option linter.unusedVariables false
set_option linter.unusedSimpArgs false

/-- what the document's ReadAsk reads -/
def rAskL (zs : List Int) : Le := if zs.length = 12 then ⟨0, ncut zs 4 2, ncut zs 6 2, ncut zs 8 4, 0, 0, 0, 0⟩ else zeroL
def rAskH (zs : List Int) : Bool := decide (zs.length = 2)
def rAnsL (zs : List Int) : Le := if zs.length = 12 then ⟨0, 0, 0, 0, 0, ncut zs 2 2, ncut zs 4 4, ncut zs 8 4⟩ else ⟨0, ncut zs 8 2, ncut zs 10 2, ncut zs 12 4, 0, ncut zs 2 2, ncut zs 4 4, 0⟩
def rAnsH (zs : List Int) : Bool := decide (zs.length = 12)

theorem fB (m v : Int) : fitsB m v = true ↔ 0 ≤ v ∧ v ≤ m := by simp [fitsB]
theorem askB_host {l : Le} (h : askB l true = true) : l = zeroL := by
  obtain ⟨a, b, c, d, e, f, g, i⟩ := l
  simp only [askB, ansB, noneB, Bool.and_eq_true, beq_iff_eq, fB, if_true] at h
  simp only [zeroL, Le.mk.injEq]
  omega
theorem askB_port {l : Le} (h : askB l false = true) : l = ⟨0, l.ins, l.prt, l.secs, 0, 0, 0, 0⟩ ∧ (0 ≤ l.ins ∧ l.ins ≤ 65535) ∧ (0 ≤ l.prt ∧ l.prt ≤ 65535) ∧ (0 ≤ l.secs ∧ l.secs ≤ 4294967295) := by
  obtain ⟨a, b, c, d, e, f, g, i⟩ := l
  simp only [askB, ansB, portB, Bool.and_eq_true, beq_iff_eq, fB, Bool.false_eq_true, if_false] at h
  simp only [Le.mk.injEq, true_and, and_true]
  omega
theorem ansB_host {l : Le} (h : ansB l true = true) : l = ⟨0, 0, 0, 0, 0, l.res, l.epo, l.hst⟩ ∧ (0 ≤ l.res ∧ l.res ≤ 65535) ∧ (0 ≤ l.epo ∧ l.epo ≤ 4294967295) := by
  obtain ⟨a, b, c, d, e, f, g, i⟩ := l
  simp only [ansB, noneB, Bool.and_eq_true, beq_iff_eq, fB, if_true] at h
  simp only [Le.mk.injEq, true_and, and_true]
  exact (by omega)
theorem ansB_port {l : Le} (h : ansB l false = true) : l = ⟨0, l.ins, l.prt, l.secs, 0, l.res, l.epo, 0⟩ ∧ (0 ≤ l.res ∧ l.res ≤ 65535) ∧ (0 ≤ l.epo ∧ l.epo ≤ 4294967295) ∧ (0 ≤ l.ins ∧ l.ins ≤ 65535) ∧ (0 ≤ l.prt ∧ l.prt ≤ 65535) ∧ (0 ≤ l.secs ∧ l.secs ≤ 4294967295) := by
  obtain ⟨a, b, c, d, e, f, g, i⟩ := l
  simp only [ansB, portB, Bool.and_eq_true, beq_iff_eq, fB, Bool.false_eq_true, if_false] at h
  simp only [Le.mk.injEq, true_and, and_true]
  exact (by omega)
theorem nu2 {v : Int} (h : 0 ≤ v ∧ v ≤ 65535) : nu (be 2 v) = v := nu_be 2 v h.1 (by show v < 65536; omega)
theorem nu4 {v : Int} (h : 0 ≤ v ∧ v ≤ 4294967295) : nu (be 4 v) = v := nu_be 4 v h.1 (by show v < 4294967296; omega)
theorem ncut_at (pre xs post : List Int) (k n : Nat) (hk : pre.length = k) (hn : xs.length = n) : ncut (pre ++ (xs ++ post)) k n = nu xs := by
  unfold ncut
  subst hk
  subst hn
  simp

structure Got (zs : List Int) (l l1 l2 : Le) (h h1 h2 : Bool) : Prop where
  a : l1 = l
  b : h1 = h
  c : l2 = l
  d : h2 = h
theorem back_ask {l : Le} {h : Bool} (hb : askB l h = true) : Got (askR l h) l (askL (askR l h)) (rAskL (askR l h)) h (askH (askR l h)) (rAskH (askR l h)) ∧ ((askR l h).length = 2 ∨ (askR l h).length = 12) := by
  unfold askR
  rw [if_pos hb]
  cases h with
  | true =>
    rw [if_pos rfl, askB_host hb]
    exact ⟨⟨by decide +kernel, by decide +kernel, by decide +kernel, by decide +kernel⟩, .inl rfl⟩
  | false =>
    obtain ⟨e, b1, b2, b3⟩ := askB_port hb
    rw [if_neg (by simp)]
    have c1 : ncut ([0, 1, 0, 0] ++ (be 2 l.ins ++ (be 2 l.prt ++ be 4 l.secs))) 4 2 = l.ins := (ncut_at [0, 1, 0, 0] (be 2 l.ins) _ 4 2 rfl (by simp)).trans (nu2 b1)
    have c2 : ncut ([0, 1, 0, 0] ++ (be 2 l.ins ++ (be 2 l.prt ++ be 4 l.secs))) 6 2 = l.prt := by
      have := ncut_at ([0, 1, 0, 0] ++ be 2 l.ins) (be 2 l.prt) (be 4 l.secs) 6 2 (by simp) (by simp)
      rw [List.append_assoc] at this
      exact this.trans (nu2 b2)
    have c3 : ncut ([0, 1, 0, 0] ++ (be 2 l.ins ++ (be 2 l.prt ++ be 4 l.secs))) 8 4 = l.secs := by
      have := ncut_at ([0, 1, 0, 0] ++ (be 2 l.ins ++ be 2 l.prt)) (be 4 l.secs) [] 8 4 (by simp) (by simp)
      simp only [List.append_assoc, List.append_nil] at this
      exact this.trans (nu4 b3)
    have c0 : ncut ([0, 1, 0, 0] ++ (be 2 l.ins ++ (be 2 l.prt ++ be 4 l.secs))) 0 1 = 0 := ncut_at [] [0] _ 0 1 rfl rfl
    have c4 : ncut ([0, 1, 0, 0] ++ (be 2 l.ins ++ (be 2 l.prt ++ be 4 l.secs))) 1 1 = 1 := ncut_at [0] [1] _ 1 1 rfl rfl
    have hl : ([0, 1, 0, 0] ++ (be 2 l.ins ++ (be 2 l.prt ++ be 4 l.secs))).length = 12 := by simp
    refine ⟨⟨?_, ?_, ?_, ?_⟩, .inr hl⟩
    · unfold askL
      rw [c0, c1, c2, c3, c4, if_neg (by decide)]
      exact e.symm
    · unfold askH; rw [c4]; rfl
    · unfold rAskL; rw [if_pos hl, c1, c2, c3]; exact e.symm
    · unfold rAskH; rw [hl]; rfl
theorem back_ans {l : Le} {h : Bool} (hi : isL l) (hb : ansB l h = true) : Got (ansR l h) l (ansL (ansR l h)) (rAnsL (ansR l h)) h (ansH (ansR l h)) (rAnsH (ansR l h)) ∧ ((ansR l h).length = 12 ∨ (ansR l h).length = 16) := by
  unfold ansR
  rw [if_pos hb]
  cases h with
  | true =>
    obtain ⟨e, b1, b2⟩ := ansB_host hb
    have b3 := hi.hst
    rw [if_pos rfl]
    have c0 : ncut ([0, 128] ++ (be 2 l.res ++ (be 4 l.epo ++ be 4 l.hst))) 0 1 = 0 := ncut_at [] [0] _ 0 1 rfl rfl
    have c1 : ncut ([0, 128] ++ (be 2 l.res ++ (be 4 l.epo ++ be 4 l.hst))) 1 1 = 128 := ncut_at [0] [128] _ 1 1 rfl rfl
    have c2 : ncut ([0, 128] ++ (be 2 l.res ++ (be 4 l.epo ++ be 4 l.hst))) 2 2 = l.res := (ncut_at [0, 128] (be 2 l.res) _ 2 2 rfl (by simp)).trans (nu2 b1)
    have c3 : ncut ([0, 128] ++ (be 2 l.res ++ (be 4 l.epo ++ be 4 l.hst))) 4 4 = l.epo := by
      have := ncut_at ([0, 128] ++ be 2 l.res) (be 4 l.epo) (be 4 l.hst) 4 4 (by simp) (by simp)
      rw [List.append_assoc] at this
      exact this.trans (nu4 b2)
    have c4 : ncut ([0, 128] ++ (be 2 l.res ++ (be 4 l.epo ++ be 4 l.hst))) 8 4 = l.hst := by
      have := ncut_at ([0, 128] ++ (be 2 l.res ++ be 4 l.epo)) (be 4 l.hst) [] 8 4 (by simp) (by simp)
      simp only [List.append_assoc, List.append_nil] at this
      exact this.trans (nu4 ⟨b3.1, by omega⟩)
    have hl : ([0, 128] ++ (be 2 l.res ++ (be 4 l.epo ++ be 4 l.hst))).length = 12 := by simp
    refine ⟨⟨?_, ?_, ?_, ?_⟩, .inl hl⟩
    · unfold ansL
      rw [c0, c1, c2, c3, c4, if_pos rfl]
      exact e.symm
    · unfold ansH; rw [c1]; rfl
    · unfold rAnsL; rw [if_pos hl, c2, c3, c4]; exact e.symm
    · unfold rAnsH; rw [hl]; rfl
  | false =>
    obtain ⟨e, b1, b2, b3, b4, b5⟩ := ansB_port hb
    rw [if_neg (by simp)]
    generalize hz : [0, 129] ++ (be 2 l.res ++ (be 4 l.epo ++ (be 2 l.ins ++ (be 2 l.prt ++ be 4 l.secs)))) = zs
    have c0 : ncut zs 0 1 = 0 := by rw [← hz]; exact ncut_at [] [0] _ 0 1 rfl rfl
    have c1 : ncut zs 1 1 = 129 := by rw [← hz]; exact ncut_at [0] [129] _ 1 1 rfl rfl
    have c2 : ncut zs 2 2 = l.res := by rw [← hz]; exact (ncut_at [0, 129] (be 2 l.res) _ 2 2 rfl (by simp)).trans (nu2 b1)
    have c3 : ncut zs 4 4 = l.epo := by
      have := ncut_at ([0, 129] ++ be 2 l.res) (be 4 l.epo) (be 2 l.ins ++ (be 2 l.prt ++ be 4 l.secs)) 4 4 (by simp) (by simp)
      rw [List.append_assoc, hz] at this
      exact this.trans (nu4 b2)
    have c4 : ncut zs 8 2 = l.ins := by
      have := ncut_at ([0, 129] ++ (be 2 l.res ++ be 4 l.epo)) (be 2 l.ins) (be 2 l.prt ++ be 4 l.secs) 8 2 (by simp) (by simp)
      simp only [List.append_assoc] at this
      rw [hz] at this
      exact this.trans (nu2 b3)
    have c5 : ncut zs 10 2 = l.prt := by
      have := ncut_at ([0, 129] ++ (be 2 l.res ++ (be 4 l.epo ++ be 2 l.ins))) (be 2 l.prt) (be 4 l.secs) 10 2 (by simp) (by simp)
      simp only [List.append_assoc] at this
      rw [hz] at this
      exact this.trans (nu2 b4)
    have c6 : ncut zs 12 4 = l.secs := by
      have := ncut_at ([0, 129] ++ (be 2 l.res ++ (be 4 l.epo ++ (be 2 l.ins ++ be 2 l.prt)))) (be 4 l.secs) [] 12 4 (by simp) (by simp)
      simp only [List.append_assoc, List.append_nil] at this
      rw [hz] at this
      exact this.trans (nu4 b5)
    have hl : zs.length = 16 := by rw [← hz]; simp
    refine ⟨⟨?_, ?_, ?_, ?_⟩, .inr hl⟩
    · unfold ansL
      rw [c0, c1, c2, c3, c4, c5, c6, if_neg (by decide)]
      exact e.symm
    · unfold ansH; rw [c1]; rfl
    · unfold rAnsL; rw [hl, if_neg (by decide), c2, c3, c4, c5, c6]; exact e.symm
    · unfold rAnsH; rw [hl]; rfl
theorem ask_nil : ¬ ([] : List Int) = askR (askL []) (askH []) := by decide +kernel
theorem ans_nil : ¬ ([] : List Int) = ansR (ansL []) (ansH []) := by decide +kernel
theorem ask_may {zs : List Int} (h : zs = askR (askL zs) (askH zs)) : askB (askL zs) (askH zs) = true := by
  cases hb : askB (askL zs) (askH zs) with
  | true => rfl
  | false =>
    have e : askR (askL zs) (askH zs) = [] := by unfold askR; rw [hb]; rfl
    rw [e] at h
    subst h
    exact absurd e.symm ask_nil
theorem ans_may {zs : List Int} (h : zs = ansR (ansL zs) (ansH zs)) : ansB (ansL zs) (ansH zs) = true := by
  cases hb : ansB (ansL zs) (ansH zs) with
  | true => rfl
  | false =>
    have e : ansR (ansL zs) (ansH zs) = [] := by unfold ansR; rw [hb]; rfl
    rw [e] at h
    subst h
    exact absurd e.symm ans_nil
/-- zs is a request of l, h -/
def AskOf (zs : List Int) (l : Le) (h : Bool) : Prop := askB l h = true ∧ zs = askR l h
def AnsOf (zs : List Int) (l : Le) (h : Bool) : Prop := isL l ∧ ansB l h = true ∧ zs = ansR l h
def okV (l : Le) (h : Bool) : Value := .tuple #[leV l, .bool h, .int .i64 0]
def noV : Value := .tuple #[leV zeroL, .bool false, .int .i64 3]
theorem ask_yes {zs : List Int} {l : Le} {h : Bool} (hz : AskOf zs l h) : hldT (decide (zs = askR (askL zs) (askH zs))) (askL zs) (askH zs) = okV l h := by
  obtain ⟨hb, rfl⟩ := hz
  obtain ⟨⟨a, b, _, _⟩, _⟩ := back_ask hb
  rw [a, b]
  simp [hldT, okV]
theorem ask_not {zs : List Int} (hz : ∀ l h, ¬ AskOf zs l h) : hldT (decide (zs = askR (askL zs) (askH zs))) (askL zs) (askH zs) = noV := by
  have : decide (zs = askR (askL zs) (askH zs)) = false := by
    rw [decide_eq_false_iff_not]
    intro h
    exact hz _ _ ⟨ask_may h, h⟩
  rw [this]; rfl
theorem ans_yes {zs : List Int} {l : Le} {h : Bool} (hz : AnsOf zs l h) : hldT (decide (zs = ansR (ansL zs) (ansH zs))) (ansL zs) (ansH zs) = okV l h := by
  obtain ⟨hi, hb, rfl⟩ := hz
  obtain ⟨⟨a, b, _, _⟩, _⟩ := back_ans hi hb
  rw [a, b]
  simp [hldT, okV]
theorem ans_not {zs : List Int} (hbd : Bd zs) (hz : ∀ l h, ¬ AnsOf zs l h) : hldT (decide (zs = ansR (ansL zs) (ansH zs))) (ansL zs) (ansH zs) = noV := by
  have : decide (zs = ansR (ansL zs) (ansH zs)) = false := by
    rw [decide_eq_false_iff_not]
    intro h
    exact hz _ _ ⟨ansL_is hbd, ans_may h, h⟩
  rw [this]; rfl
/-- the document's own -/
def rokA (zs : List Int) : Bool := decide (zs.length = 2 ∨ zs.length = 12) && decide (askR (rAskL zs) (rAskH zs) = zs)
def rokB (zs : List Int) : Bool := decide (zs.length = 12 ∨ zs.length = 16) && decide (ansR (rAnsL zs) (rAnsH zs) = zs)
theorem rask_yes {zs : List Int} {l : Le} {h : Bool} (hz : AskOf zs l h) : hldT (rokA zs) (rAskL zs) (rAskH zs) = okV l h := by
  obtain ⟨hb, rfl⟩ := hz
  obtain ⟨⟨_, _, a, b⟩, c⟩ := back_ask hb
  unfold rokA
  rw [a, b, decide_eq_true c]
  simp [hldT, okV]
theorem rask_not {zs : List Int} (hz : ∀ l h, ¬ AskOf zs l h) : hldT (rokA zs) (rAskL zs) (rAskH zs) = noV := by
  have : rokA zs = false := by
    unfold rokA
    rw [Bool.and_eq_false_iff, decide_eq_false_iff_not, decide_eq_false_iff_not, ← Decidable.not_and_iff_or_not]
    rintro ⟨h1, h2⟩
    refine hz _ _ ⟨?_, h2.symm⟩
    cases hb : askB (rAskL zs) (rAskH zs) with
    | true => rfl
    | false =>
      have e : askR (rAskL zs) (rAskH zs) = [] := by unfold askR; rw [hb]; rfl
      rw [e] at h2
      subst h2
      simp at h1
  rw [this]; rfl
theorem rAnsL_is {zs : List Int} (h : Bd zs) : isL (rAnsL zs) := by
  have a1 := ncut_bd h 8 2 (by decide)
  have a2 := ncut_bd h 10 2 (by decide)
  have a3 := ncut_bd h 12 4 (by decide)
  have a4 := ncut_bd h 2 2 (by decide)
  have a5 := ncut_bd h 4 4 (by decide)
  have a6 := ncut_bd h 8 4 (by decide)
  unfold rAnsL
  split <;> constructor <;> simp only [W64] <;> omega
theorem rAskL_is {zs : List Int} (h : Bd zs) : isL (rAskL zs) := by
  have a1 := ncut_bd h 4 2 (by decide)
  have a2 := ncut_bd h 6 2 (by decide)
  have a3 := ncut_bd h 8 4 (by decide)
  unfold rAskL zeroL
  split <;> constructor <;> simp only [W64] <;> omega
theorem rans_yes {zs : List Int} {l : Le} {h : Bool} (hz : AnsOf zs l h) : hldT (rokB zs) (rAnsL zs) (rAnsH zs) = okV l h := by
  obtain ⟨hi, hb, rfl⟩ := hz
  obtain ⟨⟨_, _, a, b⟩, c⟩ := back_ans hi hb
  unfold rokB
  rw [a, b, decide_eq_true c]
  simp [hldT, okV]
theorem rans_not {zs : List Int} (hbd : Bd zs) (hz : ∀ l h, ¬ AnsOf zs l h) : hldT (rokB zs) (rAnsL zs) (rAnsH zs) = noV := by
  have : rokB zs = false := by
    unfold rokB
    rw [Bool.and_eq_false_iff, decide_eq_false_iff_not, decide_eq_false_iff_not, ← Decidable.not_and_iff_or_not]
    rintro ⟨h1, h2⟩
    refine hz _ _ ⟨rAnsL_is hbd, ?_, h2.symm⟩
    cases hb : ansB (rAnsL zs) (rAnsH zs) with
    | true => rfl
    | false =>
      have e : ansR (rAnsL zs) (rAnsH zs) = [] := by unfold ansR; rw [hb]; rfl
      rw [e] at h2
      subst h2
      simp at h1
  rw [this]; rfl

/-- the value V is a slice that reads as zs -/
def Row (w : World) (V : Value) (zs : List Int) : Prop := ∃ A c, V = .slice A zs.length c ∧ Bts w A zs.length zs ∧ zs.length ≤ c ∧ c ≤ maxLen ∧ (A = none → zs.length = 0 ∧ c = 0)
theorem Row.below {w w' : World} {V : Value} {zs : List Int} (h : Row w V zs) (hb : Below w.heap.size w w') : Row w' V zs := by
  obtain ⟨A, c, e, h1, r⟩ := h
  exact ⟨A, c, e, h1.below hb, r⟩
theorem Row.bd {w : World} {V : Value} {zs : List Int} (h : Row w V zs) : Bd zs := by obtain ⟨A, c, e, h1, r⟩ := h; exact h1.bd
theorem Row.drew {w : World} {V : Value} {zs : List Int} (h : Row w V zs) (n : Nat) : Row (w.drewN n) V zs := h
theorem Row.own {w : World} {b : Nat} {V : Value} {zs : List Int} (h : w.ownsRow b 5 1 V zs.length (B zs)) (hz : ∀ z ∈ zs, 0 ≤ z ∧ z ≤ 255) : Row w V zs := by
  obtain ⟨A, c, rfl, h1, h2, h3⟩ := own_form h hz
  exact ⟨A, c, rfl, h3, h1, h2, own_nil h⟩
theorem tell_ask (l : Le) (h : Bool) (w : World) (hl : isL l) : Calls Try.prog 29 #[leV l, .bool h] w fun e w' => ∃ V, e = .returned V ∧ Row w' V (askR l h) ∧ Below w.heap.size w w' :=
  (ask_any l h w hl).mono fun e w' ⟨V, h1, h2, h3⟩ => ⟨V, h1, Row.own h2 (askR_bd l h), h3⟩
theorem tell_ans (l : Le) (h : Bool) (w : World) (hl : isL l) : Calls Try.prog 46 #[leV l, .bool h] w fun e w' => ∃ V, e = .returned V ∧ Row w' V (ansR l h) ∧ Below w.heap.size w w' :=
  (answer_any l h w hl).mono fun e w' ⟨V, h1, h2, h3⟩ => ⟨V, h1, Row.own h2 (ansR_bd l h), h3⟩
theorem read_ans_yes {V : Value} {zs : List Int} {w : World} (hr : Row w V zs) {l : Le} {h : Bool} (hz : AnsOf zs l h) : Calls Try.prog 33 #[V] w fun e w' => e = .returned (okV l h) ∧ Below w.heap.size w w' := by
  obtain ⟨A, c, rfl, a1, a2, a3, a4⟩ := hr
  have := readAns_any A _ c zs w a1 a2 a3 a4
  rwa [ans_yes hz] at this
theorem read_ans_not {V : Value} {zs : List Int} {w : World} (hr : Row w V zs) (hz : ∀ l h, ¬ AnsOf zs l h) : Calls Try.prog 33 #[V] w fun e w' => e = .returned noV ∧ Below w.heap.size w w' := by
  obtain ⟨A, c, rfl, a1, a2, a3, a4⟩ := hr
  have := readAns_any A _ c zs w a1 a2 a3 a4
  rwa [ans_not a1.bd hz] at this
end Go.Proofs.Ytfaekiopmfnpkaa.Pp
