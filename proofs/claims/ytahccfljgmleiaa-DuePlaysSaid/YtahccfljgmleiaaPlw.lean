/-
  What DuePlays' walk is told: the marks of the loops gone through are taken in at the end; what stands between the rounds of its loop over Due. Conditions: as each lemma states.
-/
import Derived.Test.YtahccfljgmleiaaPly
import Derived.Test.YtahccfljgmleiaaRfb
import Derived.Test.YtahccfljgmleiaaRse
import Derived.Test.YtahccfljgmleiaaSam
import Derived.Deep.RegionHeld
import Derived.BigQuiet
import Derived.Sort.CutIn
import Derived.RangeFuncLeaves
import Derived.RangeFuncRecord
namespace Go.Proofs.Ytahccfljgmleiaa
open Go.RowKit Go.Shelf Go.Maps
set_option linter.unusedVariables false

/-- left in the plain way alone -/
def Only (Q : Exit → Act → World → Prop) : Exit → Act → World → Prop
  | .normal, a, w => Q .normal a w
  | _, _, _ => False
theorem Only.all {Q : Exit → Act → World → Prop} : ∀ e a w, Only Q e a w → Q e a w
  | .normal, _, _, h => h
  | .exit _, _, _, h => h.elim
  | .goto _, _, _, h => h.elim
  | .ret, _, _, h => h.elim
  | .panic _, _, _, h => h.elim
  | .outgrown, _, _, h => h.elim
/-- behind a loop's marks, shut one by one -/
theorem leaves_marks {F : Fence} {n : Nat} {fn : Func} {tmps : Array Value} {R : Ending → World → Prop} : ∀ (Ds : List Nat) (W : World), Ds.Nodup → (∀ D ∈ Ds, W.heap[D]? = some (.deferred (some []))) →
    (∀ W', Keeps (· ∈ Ds) W W' → LeavesInM F n Try.prog fn tmps R [] .returning W') → LeavesInM F n Try.prog fn tmps R (defs Ds) .returning W
  | [], W, _, _, h => h W (Keeps.refl _ _)
  | D :: Ds, W, hn, hm, h => by
    have hk : Keeps (· = D) W (W.putObj D (.deferred none)) := Keeps.grown (grownBy_putObj' W D (.deferred none)) (fun g e => (Option.some.inj e).symm)
    refine ⟨by simp, .inl ⟨D, _, rfl, run_takeDeferred (hm D (by simp)), ?_⟩⟩
    refine leaves_marks Ds _ (List.nodup_cons.1 hn).2 (fun D' hD' => ?_) (fun W' hk' => h W' ?_)
    · have h1 := hm D' (List.mem_cons_of_mem _ hD')
      refine (hk.block D' (Array.getElem?_eq_some_iff.1 h1).1 (fun e => ?_)).trans h1
      have e2 : D' = D := e
      rw [e2] at hD'
      exact (List.nodup_cons.1 hn).1 hD'
    · exact (hk.mono (fun k _ e => by rw [e]; simp)).trans (hk'.mono (fun k _ e => List.mem_cons_of_mem _ e))

/-- what is held: the answer's cell, both tables' and the marks -/
def osA (r bt br tb rb : Nat) (Ds : List Nat) : List (Nat × Obj) :=
  (r, .cells #[.bool false] 4 (0, 0)) :: (bt, .cells #[.pointer (some ⟨tb, 0, none⟩)] 25 (0, 0)) :: (br, .cells #[.pointer (some ⟨rb, 0, none⟩)] 27 (0, 0)) :: marks Ds
/-- .. and the step's -/
def stepO (g : Nat) (d : Step) : Nat × Obj := (g, .cells #[.int .i64 d.kind, .string (str d.name), .int .i64 d.at_, .int .i64 d.most, .int .i64 d.again] 32 (0, 0))
/-- .. and how many have been told -/
def cntO (g : Nat) (n : Nat) : Nat × Obj := (g, .cells #[.int .i64 (n : Nat)] 3 (0, 0))
def osC (r bt br tb rb : Nat) (Ds : List Nat) (g : Nat) (d : Step) (gn n : Nat) : List (Nat × Obj) := cntO gn n :: stepO g d :: osA r bt br tb rb Ds
section
variable {w0 V V' : World} {tb bm rb r bt br g gn n : Nat} {d : Step} {Ds : List Nat} {L M : List En} {os : List (Nat × Obj)}
/-- the cells in the walk's words -/
theorem Pl.at {p : Nat × Obj} (h : Pl w0 tb bm rb L M os V) (hp : p ∈ os) : V.heap[p.1]? = some p.2 := (h.held p hp).1
theorem osA_r : (r, Obj.cells #[.bool false] 4 (0, 0)) ∈ osA r bt br tb rb Ds := by simp [osA]
theorem osA_t : (bt, Obj.cells #[.pointer (some ⟨tb, 0, none⟩)] 25 (0, 0)) ∈ osA r bt br tb rb Ds := by simp [osA]
theorem osA_b : (br, Obj.cells #[.pointer (some ⟨rb, 0, none⟩)] 27 (0, 0)) ∈ osA r bt br tb rb Ds := by simp [osA]
theorem osA_d {D : Nat} (h : D ∈ Ds) : markO D ∈ osA r bt br tb rb Ds := by
  simp only [osA, List.mem_cons]
  exact .inr (.inr (.inr (List.mem_map.2 ⟨D, h, rfl⟩)))
theorem osA_off : ∀ p ∈ osA r bt br tb rb Ds, offT 3 p.2 = true := by
  intro p hp
  simp only [osA, List.mem_cons] at hp
  rcases hp with rfl | rfl | rfl | hp
  · rfl
  · rfl
  · rfl
  · exact marks_off 3 Ds p hp
theorem osA_cons (D : Nat) : ∀ p ∈ osA r bt br tb rb (D :: Ds), p ∈ markO D :: osA r bt br tb rb Ds := by
  intro p hp
  simp only [osA, marks, List.map_cons, List.mem_cons] at hp ⊢
  rcases hp with h | h | h | h | h
  · exact .inr (.inl h)
  · exact .inr (.inr (.inl h))
  · exact .inr (.inr (.inr (.inl h)))
  · exact .inl h
  · exact .inr (.inr (.inr (.inr h)))
/-- both tables' boxes -/
theorem Pl.two (h : Pl w0 tb bm rb L M (osA r bt br tb rb Ds) V) : V.cell? ⟨bt, 0, none⟩ = some (.pointer (some ⟨tb, 0, none⟩)) ∧ V.cell? ⟨br, 0, none⟩ = some (.pointer (some ⟨rb, 0, none⟩)) ∧ V.cell? ⟨r, 0, none⟩ = some (.bool false) ∧ V.frozen? ⟨r, 0, none⟩ = false :=
  ⟨(cells_of (h.at osA_t) 0).1, (cells_of (h.at osA_b) 0).1, cells_of (h.at osA_r) 0⟩
/-- the step's cells -/
theorem Pl.five (h : Pl w0 tb bm rb L M os V) (hp : stepO g d ∈ os) : V.cell? ⟨g, 0, none⟩ = some (.int .i64 d.kind) ∧ V.cell? ⟨g, 1, none⟩ = some (.string (str d.name)) ∧ V.cell? ⟨g, 2, none⟩ = some (.int .i64 d.at_) ∧ V.cell? ⟨g, 3, none⟩ = some (.int .i64 d.most) ∧ V.cell? ⟨g, 4, none⟩ = some (.int .i64 d.again) :=
  ⟨(cells_of (h.at hp) 0).1, (cells_of (h.at hp) 1).1, (cells_of (h.at hp) 2).1, (cells_of (h.at hp) 3).1, (cells_of (h.at hp) 4).1⟩
theorem osC_A : ∀ p ∈ osA r bt br tb rb Ds, p ∈ osC r bt br tb rb Ds g d gn n := fun p hp => List.mem_cons_of_mem _ (List.mem_cons_of_mem _ hp)
theorem osC_d : stepO g d ∈ osC r bt br tb rb Ds g d gn n := by simp [osC]
theorem osC_off : ∀ p ∈ stepO g d :: osA r bt br tb rb Ds, offT 3 p.2 = true := by
  intro p hp
  rcases List.mem_cons.1 hp with rfl | hp
  · rfl
  · exact osA_off p hp
theorem Pl.eight (h : Pl w0 tb bm rb L M (osC r bt br tb rb Ds g d gn n) V) : V.cell? ⟨gn, 0, none⟩ = some (.int .i64 (n : Nat)) ∧ V.frozen? ⟨gn, 0, none⟩ = false := cells_of (h.at (p := cntO gn n) (by simp [osC])) 0
theorem Pl.count (h : Pl w0 tb bm rb L M (osC r bt br tb rb Ds g d gn n) V) (hg : w0.heap.size ≤ gn) (m : Nat) : Pl w0 tb bm rb L M (osC r bt br tb rb Ds g d gn m) (V.setCell ⟨gn, 0, none⟩ (.int .i64 (m : Nat))) :=
  Pl.store (t := 3) h osC_off (by decide) (by decide) (by decide) hg

/-- how many rounds there are at most -/
def bnd (m : Int) : Nat := (min (max m 1) 50).toNat
theorem bnd_pos (m : Int) : 1 ≤ bnd m ∧ bnd m ≤ 50 := by unfold bnd; omega
theorem bnd_int (m : Int) : ((bnd m : Nat) : Int) = min (max m 1) 50 := by unfold bnd; omega
/-- between two rounds -/
def PJ (w0 : World) (tb bm rb r bt br : Nat) (Ds : List Nat) (g : Nat) (d : Step) (gn : Nat) : Stand := fun k V =>
  ∃ n M, k + n = bnd d.most ∧ n < bnd d.most ∧ Pl w0 tb bm rb M M (osC r bt br tb rb Ds g d gn n) V
/-- at a yield -/
def PM (w0 : World) (tb bm rb r bt br : Nat) (Ds : List Nat) (g : Nat) (d : Step) (gn : Nat) (k : Nat) (e : En) (V : World) : Prop :=
  ∃ n M, k + n = bnd d.most ∧ n < bnd d.most ∧ e.2 ≤ d.at_ ∧ (0 ≤ e.2 ∧ e.2 ≤ 1099511627776) ∧ Pl w0 tb bm rb M (e :: M) (osC r bt br tb rb Ds g d gn n) V
/-- behind a break -/
def PX (w0 : World) (tb bm rb r bt br : Nat) (Ds : List Nat) (g : Nat) (d : Step) (gn : Nat) (V : World) : Prop := ∃ M, Pl w0 tb bm rb M M (osC r bt br tb rb Ds g d gn (bnd d.most)) V
/-- all that is held lies below B -/
def LowO (B r bt br : Nat) (Ds : List Nat) (g gn : Nat) : Prop := r < B ∧ bt < B ∧ br < B ∧ g < B ∧ gn < B ∧ ∀ D ∈ Ds, D < B
theorem osC_low {B : Nat} (h : LowO B r bt br Ds g gn) (n : Nat) : ∀ p ∈ osC r bt br tb rb Ds g d gn n, p.1 < B := by
  obtain ⟨h1, h2, h3, h4, h5, h6⟩ := h
  intro p hp
  simp only [osC, osA, List.mem_cons] at hp
  rcases hp with rfl | rfl | rfl | rfl | rfl | hp
  · exact h5
  · exact h4
  · exact h1
  · exact h2
  · exact h3
  · obtain ⟨D, hD, rfl⟩ := List.mem_map.1 hp
    exact h6 D hD
theorem low_of (h : Pl w0 tb bm rb L M (osC r bt br tb rb Ds g d gn n) V) : LowO V.heap.size r bt br Ds g gn :=
  ⟨held_lt h (osC_A _ osA_r), held_lt h (osC_A _ osA_t), held_lt h (osC_A _ osA_b), held_lt h (p := stepO g d) osC_d, held_lt h (p := cntO gn n) (by simp [osC]), fun D hD => held_lt h (osC_A _ (osA_d hD))⟩
theorem pj_adm {w : World} (h1 : w0.heap.size ≤ w.heap.size) (hb : bm < w.heap.size) (ho : LowO w.heap.size r bt br Ds g gn) (T : World → Prop) (hT : Firm w.heap.size T) :
    Adm2 tb bm d.at_ (w.heap.size + 2) (fun k V => PJ w0 tb bm rb r bt br Ds g d gn k V ∧ T V) (fun k z V => PM w0 tb bm rb r bt br Ds g d gn k z V ∧ T V) := by
  rintro k V ⟨⟨n', M, a1, a2, a3⟩, a4⟩
  refine ⟨M, a3.du, fun e L' V' he hn hm hd => ⟨⟨n', L', a1, a2, hn, ?_, ?_⟩, hT.moves hb a4 hm⟩⟩
  · exact a3.du.tbl.times e (by rw [he]; simp)
  · subst he
    exact Pl.moves a3 hm hd (by omega) (fun p hp => by have := osC_low ho n' p hp; omega)
theorem pj_own {w : World} (h1 : tb < w.heap.size) (h2 : bm < w.heap.size) (h3 : w0.heap.size ≤ w.heap.size) (ho : LowO w.heap.size r bt br Ds g gn) : OwnFrom w.heap.size (PJ w0 tb bm rb r bt br Ds g d gn) := by
  rintro k X Y row ⟨n', M, a1, a2, a3⟩ hg hr
  exact ⟨n', M, a1, a2, pl_own h1 h2 h3 (osC_low ho n') a3 hg hr⟩
theorem pm_own {w : World} (h1 : tb < w.heap.size) (h2 : bm < w.heap.size) (h3 : w0.heap.size ≤ w.heap.size) (ho : LowO w.heap.size r bt br Ds g gn) (k : Nat) (z : En) : OwnFrom w.heap.size (fun (_ : Unit) V => PM w0 tb bm rb r bt br Ds g d gn k z V) := by
  rintro s X Y row ⟨n', M, a1, a2, a4, a5, a3⟩ hg hr
  exact ⟨n', M, a1, a2, a4, a5, pl_own h1 h2 h3 (osC_low ho n') a3 hg hr⟩
theorem px_own {w : World} (h1 : tb < w.heap.size) (h2 : bm < w.heap.size) (h3 : w0.heap.size ≤ w.heap.size) (ho : LowO w.heap.size r bt br Ds g gn) : OwnFrom w.heap.size (fun (_ : Unit) V => PX w0 tb bm rb r bt br Ds g d gn V) := by
  rintro s X Y row ⟨M, a3⟩ hg hr
  exact ⟨M, pl_own h1 h2 h3 (osC_low ho _) a3 hg hr⟩
/-- behind the loop none is due -/
theorem pj_end {k : Nat} (h : PJ w0 tb bm rb r bt br Ds g d gn k V) (hf : Fin2 tb bm d.at_ V) : ∃ n M, n < bnd d.most ∧ Pl w0 tb bm rb M M (osC r bt br tb rb Ds g d gn n) V ∧ ∀ e, M.head? = some e → d.at_ < e.2 := by
  obtain ⟨n, M, a1, a2, a3⟩ := h
  obtain ⟨L, b1, b2⟩ := hf
  obtain rfl := a3.du.one b1
  exact ⟨n, M, a2, a3, b2⟩
/-- Take, where none is due -/
theorem rtake_not (rb : Nat) (now : Int) (M : List En) (w : World) (h : Rf w rb M) (hn : ∀ e, M.head? = some e → now < e.2) :
    Calls Try.prog 16 #[.pointer (some ⟨rb, 0, none⟩), .int .i64 now] w fun e w' => e = .returned (.tuple #[.agg #[.string ⟨#[]⟩, .int .i64 0], .bool false]) ∧ Below w.heap.size w w' := by
  cases M with
  | nil => exact rtake_none rb now w h
  | cons e L => exact rtake_no rb now e L w h (hn e rfl)
/-- the tables as they are made -/
theorem pl_start {w w3 : World} {tb bm : Nat} (hB : Below w.heap.size w w3) (hD : Du w3 tb bm []) (hC : Boxed w3 w.heap.size 4 (.bool false)) (hm : w.heap.size < bm) :
    Pl w tb bm (w3.heap.size + 1) [] [] (osA w.heap.size w3.heap.size (w3.heap.size + 1 + 1) tb (w3.heap.size + 1) [])
      (((w3.alloc (.cells #[.pointer (some ⟨tb, 0, none⟩)] 25)).alloc (.cells #[.slice none 0 0] 30)).alloc (.cells #[.pointer (some ⟨w3.heap.size + 1, 0, none⟩)] 27)) := by
  have b1 : Below w3.heap.size w3 (((w3.alloc (.cells #[.pointer (some ⟨tb, 0, none⟩)] 25)).alloc (.cells #[.slice none 0 0] 30)).alloc (.cells #[.pointer (some ⟨w3.heap.size + 1, 0, none⟩)] 27)) :=
    (((Below.refl _ w3).alloc (Nat.le_refl _) _).alloc (by simp) _).alloc (by simp; omega) _
  have c1 : Boxed (((w3.alloc (.cells #[.pointer (some ⟨tb, 0, none⟩)] 25)).alloc (.cells #[.slice none 0 0] 30)).alloc (.cells #[.pointer (some ⟨w3.heap.size + 1, 0, none⟩)] 27)) w3.heap.size 25 (.pointer (some ⟨tb, 0, none⟩)) := ((Boxed.new w3 25 _).alloc _).alloc _
  have c2 : Boxed (((w3.alloc (.cells #[.pointer (some ⟨tb, 0, none⟩)] 25)).alloc (.cells #[.slice none 0 0] 30)).alloc (.cells #[.pointer (some ⟨w3.heap.size + 1, 0, none⟩)] 27)) (w3.heap.size + 1) 30 (.slice none 0 0) := by
    have := (Boxed.new (w3.alloc (.cells #[.pointer (some ⟨tb, 0, none⟩)] 25)) 30 (.slice none 0 0)).alloc (.cells #[.pointer (some ⟨w3.heap.size + 1, 0, none⟩)] 27)
    rwa [World.size_alloc] at this
  have c3 : Boxed (((w3.alloc (.cells #[.pointer (some ⟨tb, 0, none⟩)] 25)).alloc (.cells #[.slice none 0 0] 30)).alloc (.cells #[.pointer (some ⟨w3.heap.size + 1, 0, none⟩)] 27)) (w3.heap.size + 1 + 1) 27 (.pointer (some ⟨w3.heap.size + 1, 0, none⟩)) := by
    have := Boxed.new ((w3.alloc (.cells #[.pointer (some ⟨tb, 0, none⟩)] 25)).alloc (.cells #[.slice none 0 0] 30)) 27 (.pointer (some ⟨w3.heap.size + 1, 0, none⟩))
    rwa [World.size_alloc, World.size_alloc] at this
  refine ⟨hD.after b1, ⟨none, 0, c2, Nat.le_refl _, Nat.zero_le _, .inl ⟨rfl, rfl, rfl⟩⟩, fun p hp => ?_, hB.trans (b1.mono hB.size), by omega, by have := hB.size; omega⟩
  simp only [osA, marks, List.map_nil, List.mem_cons, List.not_mem_nil, or_false] at hp
  rcases hp with rfl | rfl | rfl
  · exact ⟨bx_after hC b1 hC.lt, rfl⟩
  · exact ⟨c1, rfl⟩
  · exact ⟨c3, rfl⟩
theorem Pl.step (h : Pl w0 tb bm rb L M os V) (d : Step) : Pl w0 tb bm rb L M (stepO V.heap.size d :: os) (V.alloc (.cells #[.int .i64 d.kind, .string (str d.name), .int .i64 d.at_, .int .i64 d.most, .int .i64 d.again] 32)) :=
  (h.alloc _).hold (p := stepO V.heap.size d) (World.alloc_heap_new V _) rfl
theorem Pl.cnt (h : Pl w0 tb bm rb L M os V) : Pl w0 tb bm rb L M (cntO V.heap.size 0 :: os) (V.alloc (.cells #[.int .i64 0] 3)) :=
  (h.alloc _).hold (p := cntO V.heap.size 0) (World.alloc_heap_new V _) rfl
/-- what a step's reading goes by -/
def Four (bt br tb rb g : Nat) (d : Step) (W : World) : Prop := W.cell? ⟨bt, 0, none⟩ = some (.pointer (some ⟨tb, 0, none⟩)) ∧ W.cell? ⟨br, 0, none⟩ = some (.pointer (some ⟨rb, 0, none⟩)) ∧ W.cell? ⟨g, 1, none⟩ = some (.string (str d.name)) ∧ W.cell? ⟨g, 2, none⟩ = some (.int .i64 d.at_)
theorem Pl.four (h : Pl w0 tb bm rb L M (stepO g d :: osA r bt br tb rb Ds) V) : Four bt br tb rb g d V := by
  have h1 := (h.sub (os' := osA r bt br tb rb Ds) (fun p hp => List.mem_cons_of_mem _ hp)).two
  have h2 := h.five (g := g) (d := d) (by simp)
  exact ⟨h1.1, h1.2.1, h2.2.1, h2.2.2.1⟩
theorem keeps_set {W : World} {b o : Nat} (v : Value) : Keeps (· = b) W (W.setCell ⟨b, o, none⟩ v) := ⟨rfl, rfl, rfl, by simp, fun k _ hn => heap_setCell_other _ ⟨b, o, none⟩ k _ hn⟩
/-- what a round of the loop over Due keeps -/
theorem plays_kept {X Y : World} {v : Value} {B : Nat} (h : Keeps (fun i => i = bm ∨ i = rb) X Y) (hB : gn + 1 + 1 < B) (h1 : bm < gn) (h2 : rb < gn) (hX : B ≤ X.heap.size) : Kept [gn + 1, gn + 1 + 1] true B X (Y.setCell ⟨gn, 0, none⟩ v) := by
  have hk : Keeps (fun i => (i = bm ∨ i = rb) ∨ i = gn) X (Y.setCell ⟨gn, 0, none⟩ v) := (h.mono (fun _ _ e => .inl e)).trans ((keeps_set v).mono (fun _ _ e => .inr e))
  refine kept_of_keeps hk (fun g hg => ?_) (fun k hk => by omega)
  simp only [List.mem_cons, List.not_mem_nil, or_false] at hg
  omega
/-- the marks are apart, and lie from B on -/
def MarksOk (B : Nat) (Ds : List Nat) : Prop := Ds.Nodup ∧ ∀ D ∈ Ds, B ≤ D
theorem MarksOk.nil (B : Nat) : MarksOk B [] := ⟨List.nodup_nil, by simp⟩
theorem MarksOk.cons {B D : Nat} (h : MarksOk B Ds) (h1 : B ≤ D) (h2 : D ∉ Ds) : MarksOk B (D :: Ds) :=
  ⟨List.nodup_cons.2 ⟨h2, h.1⟩, fun k hk => by
    rcases List.mem_cons.1 hk with rfl | hk
    · exact h1
    · exact h.2 k hk⟩
theorem osA_C {D : Nat} : ∀ p ∈ osA r bt br tb rb (D :: Ds), p ∈ markO D :: osC r bt br tb rb Ds g d gn n := by
  intro p hp
  rcases List.mem_cons.1 (osA_cons D p hp) with rfl | h
  · simp
  · exact List.mem_cons_of_mem _ (osC_A p h)
/-- the function's end: the answer is true, and the marks are taken in -/
theorem plays_end {F : Fence} {n : Nat} {fn : Func} {tmps : Array Value} (h : Pl w0 tb bm rb L M (osA w0.heap.size bt br tb rb Ds) V) (hn : MarksOk w0.heap.size Ds)
    (hres : ∀ W', W'.cell? ⟨w0.heap.size, 0, none⟩ = some (.bool true) → (results fn tmps).run Try.prog W' = .ok (.bool true) W') :
    LeavesInM F n Try.prog fn tmps (fun e w' => e = .returned (.bool true) ∧ Below w0.heap.size w0 w') (defs Ds) .returning (V.setCell ⟨w0.heap.size, 0, none⟩ (.bool true)) := by
  have hB : Boxed V w0.heap.size 4 (.bool false) := h.at (p := (w0.heap.size, _)) osA_r
  have hne : ∀ D ∈ Ds, D ≠ w0.heap.size := fun D hD e => by
    have h1 : V.heap[D]? = _ := h.at (osA_d hD)
    have h2 : V.heap[w0.heap.size]? = _ := hB
    rw [e, h2] at h1; cases h1
  refine leaves_marks Ds _ hn.1 (fun D hD => (heap_setCell_other _ ⟨w0.heap.size, 0, none⟩ D _ (hne D hD)).trans (h.at (osA_d hD))) (fun W' hk => ?_)
  have hc := (bx_keeps (hB.set (.bool true)) hk (fun e => hne _ e rfl)).cell
  exact ⟨.bool true, hres W' hc, rfl, (h.low.setCell (p := ⟨w0.heap.size, 0, none⟩) (Nat.le_refl _) _).trans (hk.below (fun k e => hn.2 k e) (by simpa using h.low.size))⟩
end
end Go.Proofs.Ytahccfljgmleiaa
