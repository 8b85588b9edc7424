/-
  A region that draws its order, with a condition S on the world that is kept up to its operation number z (a call that writes, say), not from there on: what yields in every world of S, and is waited for by z, may be taken first. Conditions: as each lemma states.
-/
import Derived.Deep.RegionHeld
namespace Go.Proofs.Ytidhdgcmagpkgaa
set_option linter.unusedVariables false
variable {P : Program} {ops : Array Oper} {Q : Exit → Act → World → Prop} {md : Region.Mode} {S : World → Prop} {z : Nat}

/-- operation x waits for operation y -/
def waitsB (md : Region.Mode) (ops : Array Oper) (x y : Nat) : Bool :=
  match ops[x]? with
  | some o => o.after.any fun e => Region.binds md e && e.on == y
  | none => false
/-- .. through others, one behind the other -/
def linkB (md : Region.Mode) (ops : Array Oper) : Nat → List Nat → Nat → Bool
  | x, [], i => waitsB md ops x i
  | x, y :: ys, i => waitsB md ops x y && linkB md ops y ys i
/-- for whatever is listed all is listed that it waits for -/
def FullL (md : Region.Mode) (ops : Array Oper) (l : Array Bool) : Prop := ∀ j o, ops[j]? = some o → l.getD j false = true → ∀ e ∈ o.after, Region.binds md e = true → l.getD e.on false = true
def fullB (md : Region.Mode) (ops : Array Oper) (l : Array Bool) : Bool := (List.range ops.size).all fun j =>
  match ops[j]? with
  | some o => !l.getD j false || o.after.all fun e => !Region.binds md e || l.getD e.on false
  | none => true
theorem full_of {l : Array Bool} (h : fullB md ops l = true) : FullL md ops l := by
  intro j o ho hl e he hb
  unfold fullB at h
  rw [List.all_eq_true] at h
  have h1 := h j (List.mem_range.2 (Array.getElem?_eq_some_iff.1 ho).1)
  rw [ho] at h1
  simp only [hl, Bool.not_true, Bool.false_or] at h1
  rw [Array.all_eq_true_iff_forall_mem] at h1
  have h2 := h1 e he
  rw [hb] at h2
  simpa using h2
theorem full_set {l : Array Bool} {i : Nat} (h : FullL md ops l) (hi : i ∈ Region.ready md ops l) : FullL md ops (l.setIfInBounds i true) := by
  intro j o ho hl e he hb
  refine getD_set_true ?_
  by_cases hji : i = j
  · subst hji
    obtain ⟨_, o', ho', hall⟩ := mem_ready.1 hi
    rw [ho] at ho'
    cases ho'
    exact hall e he hb
  · rw [getD_set_ne false hji] at hl
    exact h j o ho hl e he hb
theorem waits_spec {x y : Nat} (h : waitsB md ops x y = true) : ∃ o e, ops[x]? = some o ∧ e ∈ o.after ∧ Region.binds md e = true ∧ e.on = y := by
  unfold waitsB at h
  split at h
  · rename_i o ho
    rw [Array.any_eq_true'] at h
    obtain ⟨e, he, h2⟩ := h
    rw [Bool.and_eq_true, beq_iff_eq] at h2
    exact ⟨o, e, ho, he, h2.1, h2.2⟩
  · cases h
/-- what is waited for by a listed one, or by one that is ready, is listed -/
theorem link_listed {l : Array Bool} (h : FullL md ops l) : ∀ (ys : List Nat) (x i : Nat), (∀ o, ops[x]? = some o → ∀ e ∈ o.after, Region.binds md e = true → l.getD e.on false = true) → linkB md ops x ys i = true → l.getD i false = true
  | [], x, i, hx, hl => by
    obtain ⟨o, e, ho, he, hb, rfl⟩ := waits_spec hl
    exact hx o ho e he hb
  | y :: ys, x, i, hx, hl => by
    unfold linkB at hl
    rw [Bool.and_eq_true] at hl
    obtain ⟨o, e, ho, he, hb, rfl⟩ := waits_spec hl.1
    have h1 := hx o ho e he hb
    exact link_listed h ys e.on i (fun o' ho' e' he' hb' => h e.on o' ho' h1 e' he' hb') hl.2

/-- whatever order is picked, and S holds as long as number z has not come up -/
def wpTill (P : Program) (md : Region.Mode) (ops : Array Oper) (Q : Exit → Act → World → Prop) (S : World → Prop) (z : Nat) : Nat → Array Bool → Act → World → Prop
  | 0, l, a, w => Region.ready md ops l = [] ∧ Q .normal a w
  | k + 1, l, a, w => (Region.ready md ops l = [] → Q .normal a w) ∧ ∀ i ∈ Region.ready md ops l, wpOp P ops Q i (fun a' w' => (((l.setIfInBounds i true).getD z false = false → S w') ∧ wpTill P md ops Q S z k (l.setIfInBounds i true) a' w')) a w
theorem any_of_till : ∀ (k : Nat) (l : Array Bool) (a : Act) (w : World), wpTill P md ops Q S z k l a w → wpAny P md ops Q k l a w
  | 0, _, _, _, h => h
  | k + 1, l, _, _, h => ⟨h.1, fun i hi => wpOp_mono (fun a' w' h' => any_of_till k _ a' w' h'.2) (h.2 i hi)⟩

/-- nobody who could come ahead of it touches what it reads or writes -/
def FreeL (md : Region.Mode) (ops : Array Oper) (l : Array Bool) (i : Nat) (oi : Oper) : Prop := ∀ j oj, ops[j]? = some oj → j ≠ i → l.getD j true = false → (∀ e ∈ oj.after, Region.binds md e = true → e.on ≠ i) → oi.apart ops oj = true
theorem free_set {l : Array Bool} {i j : Nat} {oi : Oper} (h : FreeL md ops l i oi) (hj : l.getD j true = false) : FreeL md ops (l.setIfInBounds j true) i oi := by
  intro k ok hk hki hun hno
  refine h k ok hk hki ?_ hno
  by_cases hjk : j = k
  · subst hjk; exact hj
  · rwa [getD_set_ne true hjk] at hun
theorem till_first {i : Nat} {oi : Oper} {v : Value} {ys : List Nat} (hi : ops[i]? = some oi) (hsel : ∀ (j : Nat) (o : Oper) cs b, ops[j]? = some o → o.op ≠ .select cs b)
    (hQ : ∀ c a w, Q (.panic c) (a.put oi.dst v) w → Q (.panic c) a w) (hz : linkB md ops z ys i = true) (hz0 : ¬ z = i) (k : Nat) :
    ∀ (l : Array Bool) (a : Act) (w : World), FullL md ops l → FreeL md ops l i oi → i ∈ Region.ready md ops l → YieldsIf P ops S oi v a → S w →
      wpTill P md ops Q S z k (l.setIfInBounds i true) (a.put oi.dst v) w → wpTill P md ops Q S z (k + 1) l a w := by
  induction k with
  | zero =>
    intro l a w _ _ hr hy hS H
    refine ⟨fun h => absurd hr (by rw [h]; simp), fun j hj => ?_⟩
    rcases Decidable.em (j = i) with rfl | hji
    · exact hy.wpOp hi hS ⟨fun _ => hS, H⟩
    · exact absurd (ready_mono hj hji) (by rw [H.1]; simp)
  | succ k ih =>
    intro l a w hfull hfree hr hy hS H
    refine ⟨fun h => absurd hr (by rw [h]; simp), fun j hj => ?_⟩
    rcases Decidable.em (j = i) with rfl | hji
    · exact hy.wpOp hi hS ⟨fun _ => hS, H⟩
    obtain ⟨hun, oj, hoj, hdeps⟩ := mem_ready.1 hj
    obtain ⟨hui, _, _, _⟩ := mem_ready.1 hr
    have hunl : ¬ l.getD i false = true := by
      intro h1
      rcases Nat.lt_or_ge i l.size with h2 | h2
      · simp [h2] at h1 hui
        rw [h1] at hui; cases hui
      · simp [Array.getElem?_eq_none h2] at h1
    have hiz : z ≠ i := hz0
    -- z waits for i, which isn't listed: j isn't z
    have hjz : j ≠ z := by
      rintro rfl
      have h1 := link_listed hfull ys j i (fun o ho => by rw [hoj] at ho; cases ho; exact hdeps) hz
      rcases Nat.lt_or_ge i l.size with h2 | h2
      · simp [h2] at h1 hui
        rw [h1] at hui; cases hui
      · simp [Array.getElem?_eq_none h2] at h1
    have hzl : (l.setIfInBounds j true).getD z false = false := by
      rw [getD_set_ne false hjz]
      cases hzl : l.getD z false with
      | false => rfl
      | true =>
        have hzo : ∃ o, ops[z]? = some o := by
          cases hzo : ops[z]? with
          | some o => exact ⟨o, rfl⟩
          | none =>
            exfalso
            cases ys with
            | nil => simp [linkB, waitsB, hzo] at hz
            | cons y ys => simp [linkB, waitsB, hzo] at hz
        obtain ⟨o, hzo⟩ := hzo
        exact absurd (link_listed hfull ys z i (fun o' ho' => hfull z o' ho' hzl) hz) hunl
    have hno : ∀ e ∈ oj.after, Region.binds md e = true → e.on ≠ i := by
      intro e he hb heq
      have h1 := hdeps e he hb
      rw [heq] at h1
      rcases Nat.lt_or_ge i l.size with h2 | h2
      · simp [h2] at h1 hui
        rw [h1] at hui; cases hui
      · simp [Array.getElem?_eq_none h2] at h1
    have hS3 : ∀ w', (((l.setIfInBounds i true).setIfInBounds j true).getD z false = false → S w') → S w' := fun w' h => h (by rw [Array.setIfInBounds_comm _ _ (Ne.symm hji), getD_set_ne false hiz.symm]; exact hzl)
    have h2 := wpOp_putIf hoj (hfree j oj hoj hji hun hno) (fun cs b => hsel i oi cs b hi) (fun cs b => hsel j oj cs b hoj) hQ hy (H.2 j (ready_mono hj hji))
    refine wpOp_mono (fun a' w' h3 => ⟨fun _ => hS3 _ h3.2.1, ih _ a' w' (full_set hfull hj) (free_set hfree hun) (ready_mono hr (Ne.symm hji)) h3.1 (hS3 _ h3.2.1) ?_⟩) h2
    rw [Array.setIfInBounds_comm _ _ hji]
    exact h3.2.2

/-- number i is taken first -/
theorem till_take {i : Nat} {oi : Oper} {v : Value} {k : Nat} {l : Array Bool} {a : Act} {w : World} (ys : List Nat) (hi : ops[i]? = some oi)
    (hs : Region.noSelect ops = true) (hz : linkB md ops z ys i = true) (hz0 : ¬ z = i) (hu : fullB md ops l = true) (hf : Region.free md ops l i = true) (hr : (Region.ready md ops l).contains i = true)
    (hQ : ∀ c a w, Q (.panic c) (a.put oi.dst v) w → Q (.panic c) a w) (hy : YieldsIf P ops S oi v a) (hS : S w)
    (h : wpTill P md ops Q S z k (l.setIfInBounds i true) (a.put oi.dst v) w) : wpTill P md ops Q S z (k + 1) l a w :=
  till_first hi (Region.noSelect_spec hs) hQ hz hz0 k l a w (full_of hu) (Region.free_spec hi hf) (by simpa using hr) hy hS h
/-- each of these may come up next -/
def TillReady (P : Program) (md : Region.Mode) (ops : Array Oper) (Q : Exit → Act → World → Prop) (S : World → Prop) (z k : Nat) (l : Array Bool) (a : Act) (w : World) (rs : List Nat) : Prop :=
  ∀ i ∈ rs, wpOp P ops Q i (fun a' w' => (((l.setIfInBounds i true).getD z false = false → S w') ∧ wpTill P md ops Q S z k (l.setIfInBounds i true) a' w')) a w
theorem TillReady.nil {k : Nat} {l : Array Bool} {a : Act} {w : World} : TillReady P md ops Q S z k l a w [] := fun _ h => by cases h
theorem TillReady.cons {k : Nat} {l : Array Bool} {a : Act} {w : World} {i : Nat} {o : Oper} {rs : List Nat} (ho : ops[i]? = some o)
    (h : ∀ K' : Act → World → Prop, Shut (∀ a w, S w → (S w → wpTill P md ops Q S z k (l.setIfInBounds i true) a w) → K' a w) → if Region.wanted o (yielded ops a.tmps) = true then Oper.wp P o a w K' Q else K' (a.put o.dst undef) w)
    (hs : TillReady P md ops Q S z k l a w rs) : TillReady P md ops Q S z k l a w (i :: rs) := fun j hj => by
  rcases List.mem_cons.1 hj with rfl | hj
  · exact wpOp_step ho (fun K' hK => h K' (fun a w hS hW => hK a w ⟨fun _ => hS, hW hS⟩))
  · exact hs j hj
/-- .. from z on -/
theorem TillReady.past {k : Nat} {l : Array Bool} {a : Act} {w : World} {i : Nat} {o : Oper} {rs : List Nat} (ho : ops[i]? = some o) (hl : (l.setIfInBounds i true).getD z false = true)
    (h : ∀ K' : Act → World → Prop, Shut (∀ a w, wpTill P md ops Q S z k (l.setIfInBounds i true) a w → K' a w) → if Region.wanted o (yielded ops a.tmps) = true then Oper.wp P o a w K' Q else K' (a.put o.dst undef) w)
    (hs : TillReady P md ops Q S z k l a w rs) : TillReady P md ops Q S z k l a w (i :: rs) := fun j hj => by
  rcases List.mem_cons.1 hj with rfl | hj
  · exact wpOp_step ho (fun K' hK => h K' (fun a w hW => hK a w ⟨fun hn => absurd (hl.symm.trans hn) (by decide), hW⟩))
  · exact hs j hj
theorem till_ready {rs : List Nat} {k : Nat} {l : Array Bool} {a : Act} {w : World} (hr : Region.ready md ops l = rs) (hne : rs ≠ []) (h : TillReady P md ops Q S z k l a w rs) : wpTill P md ops Q S z (k + 1) l a w :=
  ⟨fun h0 => absurd (hr ▸ h0) hne, hr ▸ h⟩
theorem till_done {l : Array Bool} {a : Act} {w : World} (hr : Region.ready md ops l = []) (h : Q .normal a w) : ∀ k, wpTill P md ops Q S z k l a w
  | 0 => ⟨hr, h⟩
  | _ + 1 => ⟨fun _ => h, by rw [hr]; simp⟩
/-- the beginning -/
theorem wp_region_till {id : Nat} {a : Act} {w : World} (hm : P.follows .mixedOrders = true) (hS : S w.drew) (h : S w.drew → wpTill P .any ops Q S z ops.size (Array.replicate ops.size false) a w.drew) : (Code.region id ops true).wp P Q a w :=
  wp_region_any hm (any_of_till _ _ _ _ (h hS))
end Go.Proofs.Ytidhdgcmagpkgaa
