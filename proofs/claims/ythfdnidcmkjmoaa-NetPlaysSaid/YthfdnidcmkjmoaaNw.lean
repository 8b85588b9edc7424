/-
  Plain words on a net of datagrams, and how it lies in memory: its row of datagrams, each with a row of bytes. Conditions: as each lemma states.
-/
import Derived.Test.YthfdnidcmkjmoaaPrt
import Derived.Test.YthfdnidcmkjmoaaSame
import Derived.Maps.AppendAt
import Derived.Lib.SliceRun
import Derived.Lib.Walk
namespace Go.Proofs.Ythfdnidcmkjmoaa
open Go.RowKit
set_option linter.unusedVariables false

/-- a datagram -/
structure Dg where
  no : Int
  f : A2
  t : A2
  b : List Int
instance : Inhabited Dg := ⟨⟨0, (0, 0), (0, 0), []⟩⟩
/-- a datagram in memory: its bytes' array, and their room -/
structure Md where
  d : Dg
  A : Option Addr
  c : Nat
def Md.v (m : Md) : Value := .slice m.A m.d.b.length m.c
def sentC (no : Int) (f t : A2) (v : Value) : Array Value := #[.int .i64 no, .int .u32 f.1, .int .i64 f.2, .int .u32 t.1, .int .i64 t.2, v]
def encD (m : Md) : List Value := [.int .i64 m.d.no, .int .u32 m.d.f.1, .int .i64 m.d.f.2, .int .u32 m.d.t.1, .int .i64 m.d.t.2, m.v]
theorem sentC_enc (m : Md) : sentC m.d.no m.d.f m.d.t m.v = (encD m).toArray := rfl
def cellsD (l : List Md) : List Value := l.flatMap encD
theorem cellsD_cons (m : Md) (l : List Md) : cellsD (m :: l) = encD m ++ cellsD l := rfl
theorem cellsD_append (l k : List Md) : cellsD (l ++ k) = cellsD l ++ cellsD k := by simp [cellsD]
theorem encD_len (m : Md) : (encD m).length = 6 := rfl
theorem cellsD_len : ∀ l : List Md, (cellsD l).length = l.length * 6
  | [] => rfl
  | m :: l => by rw [cellsD_cons, List.length_append, encD_len, cellsD_len l, List.length_cons]; omega
theorem cellsD_one (l : List Md) : ∀ u ∈ cellsD l, u.oneCell' = true := by
  intro u hu
  unfold cellsD at hu
  rw [List.mem_flatMap] at hu
  obtain ⟨a, _, h⟩ := hu
  simp only [encD, List.mem_cons, List.not_mem_nil, or_false] at h
  rcases h with rfl | rfl | rfl | rfl | rfl | rfl <;> rfl
theorem cellsD_at {l : List Md} {k : Nat} {m : Md} (h : l[k]? = some m) (i : Nat) (hi : i < 6) : (cellsD l)[k * 6 + i]? = (encD m)[i]? := by
  induction l generalizing k with
  | nil => simp at h
  | cons b l ih =>
    rw [cellsD_cons]
    cases k with
    | zero =>
      simp only [List.getElem?_cons_zero, Option.some.injEq] at h
      subst h
      rw [List.getElem?_append_left (by rw [encD_len]; omega)]
      simp
    | succ k =>
      have := ih (k := k) (by simpa using h)
      rw [List.getElem?_append_right (by rw [encD_len]; omega), encD_len, ← this]
      congr 1; omega

/-- a datagram's bytes lie in memory, in a row of the program's own -/
structure MdAt (w : World) (m : Md) : Prop where
  row : w.ownsRow 0 5 1 m.v m.d.b.length (B m.d.b)
  bd : ∀ z ∈ m.d.b, 0 ≤ z ∧ z ≤ 255
/-- a net in memory (T: its type) -/
structure Na (w : World) (T nb : Nat) (last : Int) (kv : Value) (L : List Md) : Prop where
  ty : T = 59 ∨ T = 30
  top : w.heap[nb]? = some (.cells #[kv, .int .i64 last] T (0, 0))
  row : w.ownsRow 0 43 6 kv L.length (cellsD L)
  mds : ∀ m ∈ L, MdAt w m
/-- the blocks that a net writes on, and all its blocks -/
def Top (nb : Nat) (kv : Value) (k : Nat) : Prop := k = nb ∨ kv.ownBlock = some k
def FootN (nb : Nat) (kv : Value) (L : List Md) (k : Nat) : Prop := Top nb kv k ∨ ∃ m ∈ L, m.v.ownBlock = some k
section
variable {w w' : World} {T nb : Nat} {last : Int} {kv : Value} {L : List Md} {m : Md}
theorem MdAt.lt (h : MdAt w m) {g : Nat} (hg : m.v.ownBlock = some g) : g < w.heap.size := by
  obtain ⟨C, e⟩ := own_obj h.row hg
  exact (Array.getElem?_eq_some_iff.1 e).1
theorem MdAt.kept (h : MdAt w m) (hk : ∀ g, m.v.ownBlock = some g → w'.heap[g]? = w.heap[g]?) : MdAt w' m := ⟨own_at h.row hk, h.bd⟩
theorem MdAt.below (h : MdAt w m) (hb : Below w.heap.size w w') : MdAt w' m := h.kept fun g hg => hb.block g (h.lt hg)
theorem MdAt.bts (h : MdAt w m) : Bts w m.A m.d.b.length m.d.b ∧ m.d.b.length ≤ m.c ∧ m.c ≤ maxLen ∧ (m.A = none → m.d.b.length = 0 ∧ m.c = 0) := by
  obtain ⟨A, c, e, h1, h2, h3⟩ := own_form h.row h.bd
  have e2 : Value.slice m.A m.d.b.length m.c = .slice A m.d.b.length c := e
  simp only [Value.slice.injEq, true_and] at e2
  obtain ⟨e3, e4⟩ := e2
  subst e3; subst e4
  exact ⟨h3, h1, h2, own_nil h.row⟩
theorem Na.lt (h : Na w T nb last kv L) : nb < w.heap.size := (Array.getElem?_eq_some_iff.1 h.top).1
theorem Na.row_lt (h : Na w T nb last kv L) {g : Nat} (hg : kv.ownBlock = some g) : g < w.heap.size := by
  obtain ⟨C, e⟩ := own_obj h.row hg
  exact (Array.getElem?_eq_some_iff.1 e).1
theorem Na.foot_lt (h : Na w T nb last kv L) {k : Nat} (hk : FootN nb kv L k) : k < w.heap.size := by
  rcases hk with (rfl | hk) | ⟨m, hm, hk⟩
  · exact h.lt
  · exact h.row_lt hk
  · exact (h.mds m hm).lt hk
theorem Na.kept (h : Na w T nb last kv L) (hk : ∀ k, FootN nb kv L k → w'.heap[k]? = w.heap[k]?) : Na w' T nb last kv L :=
  ⟨h.ty, (hk nb (.inl (.inl rfl))).trans h.top, own_at h.row (fun g hg => hk g (.inl (.inr hg))), fun m hm => (h.mds m hm).kept (fun g hg => hk g (.inr ⟨m, hm, hg⟩))⟩
theorem Na.below (h : Na w T nb last kv L) (hb : Below w.heap.size w w') : Na w' T nb last kv L := h.kept fun k hk => hb.block k (h.foot_lt hk)
theorem Na.keeps {S : Nat → Prop} (h : Na w T nb last kv L) (hk : Keeps S w w') (hs : ∀ k, FootN nb kv L k → ¬ S k) : Na w' T nb last kv L := h.kept fun k hf => hk.block k (h.foot_lt hf) (hs k hf)
theorem Na.alloc (h : Na w T nb last kv L) (o : Obj) : Na (w.alloc o) T nb last kv L := h.below ((Below.refl _ _).alloc (Nat.le_refl _) o)
theorem Na.drewN (h : Na w T nb last kv L) (q : Nat) : Na (w.drewN q) T nb last kv L := h.below (below_drw (Below.refl _ _) q)
theorem Na.ty1 (h : Na w T nb last kv L) : T ≠ 5 ∧ T ≠ 43 := by rcases h.ty with e | e <;> subst e <;> decide
theorem Na.ne_row (h : Na w T nb last kv L) : kv.ownBlock ≠ some nb := fun e => by
  obtain ⟨C, hC⟩ := own_obj h.row e
  exact clash h.top hC h.ty1.2
/-- bytes lie on none of the blocks that a net writes on -/
theorem Na.ne_top (h : Na w T nb last kv L) (hm : MdAt w m) {g : Nat} (hg : m.v.ownBlock = some g) : ¬ Top nb kv g := by
  obtain ⟨C, hC⟩ := own_obj hm.row hg
  rintro (rfl | e)
  · exact clash h.top hC h.ty1.1
  · obtain ⟨C', hC'⟩ := own_obj h.row e
    exact clash hC' hC (by decide)
/-- a net's cells -/
theorem Na.cells (h : Na w T nb last kv L) : w.cell? ⟨nb, 0, none⟩ = some kv ∧ w.cell? ⟨nb, 1, none⟩ = some (.int .i64 last) ∧ (∀ j, w.frozen? ⟨nb, j, none⟩ = false) ∧ nb < w.heap.size :=
  ⟨(cells_of h.top 0).1, (cells_of h.top 1).1, fun j => (cells_of h.top j).2, h.lt⟩
/-- the row of its datagrams -/
theorem Na.form (h : Na w T nb last kv L) : ∃ A c, kv = .slice A L.length c ∧ L.length ≤ c ∧ c ≤ maxLen ∧ (A = none → L = [] ∧ c = 0) ∧
    (∀ k m, L[k]? = some m → ∃ g, A = some ⟨g, 0, none⟩ ∧ g < w.heap.size ∧ kv.ownBlock = some g ∧ w.cell? ⟨g, k * 6, none⟩ = some (.int .i64 m.d.no) ∧ w.cell? ⟨g, k * 6 + 1, none⟩ = some (.int .u32 m.d.f.1) ∧ w.cell? ⟨g, k * 6 + 2, none⟩ = some (.int .i64 m.d.f.2) ∧
      w.cell? ⟨g, k * 6 + 3, none⟩ = some (.int .u32 m.d.t.1) ∧ w.cell? ⟨g, k * 6 + 4, none⟩ = some (.int .i64 m.d.t.2) ∧ w.cell? ⟨g, k * 6 + 5, none⟩ = some m.v) := by
  rcases h.row.2 with ⟨e, e0⟩ | ⟨g, cap, cur, e, hg, hgg, h1, h2, h3, h4⟩
  · have hL : L = [] := List.eq_nil_of_length_eq_zero e0
    subst hL
    exact ⟨none, 0, e, Nat.le_refl _, Nat.zero_le _, fun _ => ⟨rfl, rfl⟩, fun k m hk => by simp at hk⟩
  · refine ⟨_, cap, e, h1, h2, fun e => (by cases e), fun k m hk => ?_⟩
    have hkl := (List.getElem?_eq_some_iff.1 hk).1
    have at_ : ∀ i, i < 6 → w.cell? ⟨g, k * 6 + i, none⟩ = (encD m)[i]? := fun i hi => by
      rw [(cells_of hgg _).1]
      have e5 := cellsD_at hk i hi
      rw [← h4, List.getElem?_take_of_lt (by omega)] at e5
      simpa using e5
    exact ⟨g, rfl, (Array.getElem?_eq_some_iff.1 hgg).1, by rw [e]; rfl, at_ 0 (by omega), at_ 1 (by omega), at_ 2 (by omega), at_ 3 (by omega), at_ 4 (by omega), at_ 5 (by omega)⟩
end

/-- what a call leaves of a net: of the old blocks it wrote on its own alone; its blocks are old ones of its own, or new -/
structure MvN (w : World) (T nb : Nat) (kv : Value) (L : List Md) (w' : World) (last' : Int) (kv' : Value) (L' : List Md) : Prop where
  na : Na w' T nb last' kv' L'
  foot : ∀ k, FootN nb kv' L' k → FootN nb kv L k ∨ w.heap.size ≤ k
  keeps : Keeps (Top nb kv) w w'
section
variable {w w' : World} {T nb : Nat} {last last' : Int} {kv kv' : Value} {L L' : List Md}
theorem MvN.same (h : Na w T nb last kv L) (hb : Below w.heap.size w w') : MvN w T nb kv L w' last kv L := ⟨h.below hb, fun k hk => .inl hk, .all hb⟩
/-- the last number told goes up -/
theorem Na.up (h : Na w T nb last kv L) (l : Int) : Na (w.setCell ⟨nb, 1, none⟩ (.int .i64 l)) T nb l kv L := by
  refine ⟨h.ty, heap_setCell_same w nb 1 _ T _ h.top, own_at h.row (fun g hg => heap_setCell_other w ⟨nb, 1, none⟩ g _ (fun e => h.ne_row (by rw [hg]; exact congrArg some e))), fun m hm => (h.mds m hm).kept (fun g hg => heap_setCell_other w ⟨nb, 1, none⟩ g _ (fun e => h.ne_top (h.mds m hm) hg (.inl e)))⟩
theorem top_info : (Try.prog.info? 43).map (fun i => (i.zero, i.size, i.bytes)) = some (some (.agg #[.int .i64 0, .int .u32 0, .int .i64 0, .int .u32 0, .int .i64 0, .slice none 0 0]), 6, 64) := by kernel_rfl
/-- a datagram is laid behind the row -/
theorem row_endD {B0 : Nat} {v : Value} {l : List Md} (m : Md) (hr : w.ownsRow B0 43 6 v l.length (cellsD l)) (hl : l.length ≤ 1000) (hB : B0 ≤ w.heap.size) :
    ∃ v' w', (∀ ty, (Builtin.append_ #[28, 28] ty #[v, .slice (some ⟨w.heap.size, 0, none⟩) 1 1]).run Try.prog (w.alloc (.cells (sentC m.d.no m.d.f m.d.t m.v) 43)) = .ok v' w') ∧ (∃ A n c, v' = .slice A n c) ∧
      w'.ownsRow B0 43 6 v' (l ++ [m]).length (cellsD (l ++ [m])) ∧ (∀ g, v'.ownBlock = some g → v.ownBlock = some g ∨ w.heap.size ≤ g) ∧ Keeps (fun k => v.ownBlock = some k) w w' := by
  obtain ⟨i0, hi0, hz0, hz1, hz2⟩ := info_parts top_info
  have h1 : (w.alloc (.cells (sentC m.d.no m.d.f m.d.t m.v) 43)).ownsRow B0 43 6 v l.length (cellsD l) := hr.alloc _
  have hc : ∀ j u, (cellsD [m])[j]? = some u → (w.alloc (.cells (sentC m.d.no m.d.f m.d.t m.v) 43)).cell? ((⟨w.heap.size, 0, none⟩ : Addr).add j) = some u := by
    intro j u hj
    have e0 : (⟨w.heap.size, 0, none⟩ : Addr).add j = ⟨w.heap.size, 0 + j, none⟩ := by unfold Addr.add; split <;> simp_all
    rw [e0, Nat.zero_add, (cells_of (World.alloc_heap_new w _) j).1, sentC_enc]
    simpa [cellsD] using hj
  have hrun := fun ty => run_append_own_at (P := Try.prog) (w.alloc (.cells (sentC m.d.no m.d.f m.d.t m.v) 43)) B0 28 ty 43 i0 _ 6 64 Try.underlying28 hi0 hz0 hz1 hz2 rfl (by decide) v l.length (cellsD l) h1 ⟨w.heap.size, 0, none⟩ 1 1 (cellsD [m]) rfl hc (cellsD_one _) (by unfold maxLen; omega) (by omega) (by simp; omega)
  obtain ⟨v', w', r0, r1, r2, r3, r4⟩ := hrun 28
  refine ⟨v', w', fun ty => ?_, ?_, ?_, ?_, ?_⟩
  · rw [← r0]; rfl
  · rcases r1.2 with ⟨e, _⟩ | ⟨g, cap, cur, e, _⟩
    · exact ⟨_, _, _, e⟩
    · exact ⟨_, _, _, e⟩
  · rw [List.length_append, cellsD_append]; exact r1
  · intro g hg
    rcases r4 with e | e
    · exact .inl (by rw [← e]; exact hg)
    · rw [e] at hg
      simp at hg
      exact .inr (by omega)
  · exact ((Keeps.refl _ w).alloc _).trans (Keeps.grown r2 (fun g hg => hg))
/-- .. and the row is stored: V is what the net was like ahead of that -/
theorem na_add {V W : World} {m : Md} (h : Na V T nb last kv L) (hm : MdAt V m)
    (h1 : W.ownsRow 0 43 6 kv' (L ++ [m]).length (cellsD (L ++ [m]))) (h2 : ∀ g, kv'.ownBlock = some g → kv.ownBlock = some g ∨ V.heap.size ≤ g) (h3 : Keeps (fun k => kv.ownBlock = some k) V W) :
    Na (W.setCell ⟨nb, 0, none⟩ kv') T nb last kv' (L ++ [m]) ∧ (∀ k, FootN nb kv' (L ++ [m]) k → FootN nb kv L k ∨ V.heap.size ≤ k ∨ m.v.ownBlock = some k) ∧ Keeps (Top nb kv) V (W.setCell ⟨nb, 0, none⟩ kv') := by
  have hk : Keeps (Top nb kv) V (W.setCell ⟨nb, 0, none⟩ kv') := (h3.mono (fun k _ e => Or.inr e)).set nb 0 kv' (.inl rfl)
  have ht1 : W.heap[nb]? = some (.cells #[kv, .int .i64 last] T (0, 0)) := (h3.block nb h.lt h.ne_row).trans h.top
  refine ⟨⟨h.ty, heap_setCell_same W nb 0 _ T kv' ht1, ?_, fun d hd => ?_⟩, fun k hk => ?_, hk⟩
  · refine own_at h1 (fun g hg => heap_setCell_other W ⟨nb, 0, none⟩ g kv' (fun e => ?_))
    have e3 : g = nb := e
    obtain ⟨C, hC⟩ := own_obj h1 hg
    rw [e3] at hC
    exact clash ht1 hC h.ty1.2
  · have hd2 : MdAt V d := by
      rcases List.mem_append.1 hd with hd | hd
      · exact h.mds d hd
      · rw [List.mem_singleton.1 hd]; exact hm
    exact hd2.kept (fun g hg => hk.block g (hd2.lt hg) (h.ne_top hd2 hg))
  · rcases hk with (rfl | hk) | ⟨d, hd, hk⟩
    · exact .inl (.inl (.inl rfl))
    · exact (h2 k hk).elim (fun e => .inl (.inl (.inr e))) (fun e => .inr (.inl e))
    · rcases List.mem_append.1 hd with hd | hd
      · exact .inl (.inr ⟨d, hd, hk⟩)
      · rw [List.mem_singleton.1 hd] at hk; exact .inr (.inr hk)
end

/-- a datagram more, in plain words: the answer, and what is there then -/
def putN (M : List Dg) (last : Int) (f t : A2) (b : List Int) : (Int × Int) × List Dg × Int :=
  if M.length < 300 then ((last + 1, 0), M ++ [⟨last + 1, f, t, b⟩], last + 1) else ((0, 10), M, last)
def sendN (M : List Dg) (last : Int) (f t : A2) (b : List Int) : (Int × Int) × List Dg × Int :=
  if mayA f = true ∧ mayA t = true ∧ b.length ≤ 1200 then putN M last f t b else ((0, 1), M, last)
/-- where the one with a number stands -/
def findN (M : List Dg) (no : Int) : Option Nat := M.findIdx? fun d => decide (d.no = no)
def findI (M : List Dg) (no : Int) : Int := match findN M no with
  | none => -1
  | some k => (k : Int)
def copyN (M : List Dg) (last : Int) (no : Int) : (Int × Int) × List Dg × Int := match findN M no with
  | none => ((0, 5), M, last)
  | some k => putN M last (M.getD k default).f (M.getD k default).t (M.getD k default).b
def takeN (M : List Dg) (no : Int) : (Dg × Int) × List Dg := match findN M no with
  | none => (((default : Dg), 5), M)
  | some k => ((M.getD k default, 0), M.eraseIdx k)
def atN (M : List Dg) (p : Int) : Int := if M.length = 0 then 0 else (M.getD (p % (M.length : Int)).toNat default).no
def twoV (a : Int × Int) : Value := .tuple #[.int .i64 a.1, .int .i64 a.2]
theorem findN_lt {M : List Dg} {no : Int} {k : Nat} (h : findN M no = some k) : k < M.length := by
  unfold findN at h
  rw [List.findIdx?_eq_some_iff_getElem] at h
  exact h.1
theorem findN_no {M : List Dg} {no : Int} {k : Nat} (h : findN M no = some k) : (M.getD k default).no = no := by
  unfold findN at h
  rw [List.findIdx?_eq_some_iff_getElem] at h
  obtain ⟨h1, h2, _⟩ := h
  simp [List.getD, h1]
  simpa using h2
theorem findN_hit {M : List Dg} {no : Int} {k : Nat} {d : Dg} (h : M[k]? = some d) (hx : d.no = no) (hb : ∀ j, j < k → ∀ y, M[j]? = some y → ¬ y.no = no) : findN M no = some k := by
  unfold findN
  rw [List.findIdx?_eq_some_iff_getElem]
  obtain ⟨hk, e⟩ := List.getElem?_eq_some_iff.1 h
  refine ⟨hk, by rw [e]; simpa using hx, fun j hj => ?_⟩
  have := hb j hj (M[j]) (List.getElem?_eq_getElem _)
  simpa using this
theorem findN_miss {M : List Dg} {no : Int} (hb : ∀ j, j < M.length → ∀ y, M[j]? = some y → ¬ y.no = no) : findN M no = none := by
  unfold findN
  rw [List.findIdx?_eq_none_iff]
  intro y hy
  obtain ⟨j, hj, e⟩ := List.getElem_of_mem hy
  have := hb j hj y (by rw [List.getElem?_eq_getElem hj, e])
  simpa using this
end Go.Proofs.Ythfdnidcmkjmoaa
