/-
  Contracts of net's All, of slices.Clone at datagrams, of the iterator that All hands back. Conditions: the net lies in memory; at most 1000 datagrams, none of more than a million bytes; the rounds keep the blocks that the iterator reads.
-/
import Derived.Test.YthfdnidcmkjmoaaNu
import Derived.Test.YthfdnidcmkjmoaaTol3
import Derived.Shelf.RegionOpen
import Derived.OwnWalkIn
import Derived.TacticsInMore
import Derived.LoopNIn
import Derived.LoopIn
namespace Go.Proofs.Ythfdnidcmkjmoaa
open Go.RowKit Go.Shelf
attribute [local go_sem] Oper.semAt_some
set_option linter.unusedVariables false

/-- datagrams in a row, read -/
def RowD (w : World) (v : Value) (L : List Md) : Prop := w.ownsRow 0 43 6 v L.length (cellsD L) ∧ ∀ m ∈ L, MdAt w m
/-- what the iterator keeps: a box with its row -/
structure Snp (w : World) (b2 : Nat) (kv : Value) (L : List Md) : Prop where
  box : w.cell? ⟨b2, 0, none⟩ = some kv
  lt : b2 < w.heap.size
  row : w.ownsRow 0 43 6 kv L.length (cellsD L)
  mds : ∀ m ∈ L, MdAt w m
def blks (b2 : Nat) (kv : Value) (L : List Md) : List Nat := b2 :: (kv.ownBlock.toList ++ L.filterMap fun m => m.v.ownBlock)
theorem blks_all {b2 : Nat} {kv : Value} {L : List Md} {p : Nat → Prop} (h1 : p b2) (h2 : ∀ g, kv.ownBlock = some g → p g) (h3 : ∀ m ∈ L, ∀ g, m.v.ownBlock = some g → p g) : ∀ g ∈ blks b2 kv L, p g := by
  intro g hg
  simp only [blks, List.mem_cons, List.mem_append, Option.mem_toList, List.mem_filterMap] at hg
  rcases hg with rfl | hg | ⟨m, hm, hg⟩
  · exact h1
  · exact h2 g hg
  · exact h3 m hm g hg
theorem blks_row {b2 : Nat} {kv : Value} {L : List Md} {g : Nat} (h : kv.ownBlock = some g) : g ∈ blks b2 kv L := by simp [blks, h]
theorem blks_md {b2 : Nat} {kv : Value} {L : List Md} {m : Md} (hm : m ∈ L) {g : Nat} (h : m.v.ownBlock = some g) : g ∈ blks b2 kv L := by
  simp only [blks, List.mem_cons, List.mem_append, List.mem_filterMap]
  exact .inr (.inr ⟨m, hm, h⟩)
theorem Snp.lts {w : World} {b2 : Nat} {kv : Value} {L : List Md} (h : Snp w b2 kv L) : ∀ g ∈ blks b2 kv L, g < w.heap.size :=
  blks_all h.lt (fun g hg => by obtain ⟨C, e⟩ := own_obj h.row hg; exact (Array.getElem?_eq_some_iff.1 e).1) (fun m hm g hg => (h.mds m hm).lt hg)
theorem Snp.kept {w w' : World} {b2 : Nat} {kv : Value} {L : List Md} (h : Snp w b2 kv L) (hk : ∀ g ∈ blks b2 kv L, w'.heap[g]? = w.heap[g]?) (hs : w.heap.size ≤ w'.heap.size) : Snp w' b2 kv L :=
  ⟨(World.cell?_of_block (hk b2 (by simp [blks]))).trans h.box, Nat.lt_of_lt_of_le h.lt hs, own_at h.row (fun g hg => hk g (blks_row hg)), fun m hm => (h.mds m hm).kept (fun g hg => hk g (blks_md hm hg))⟩
theorem Snp.form {w : World} {b2 : Nat} {kv : Value} {L : List Md} (h : Snp w b2 kv L) : ∃ A c, kv = .slice A L.length c ∧ L.length ≤ c ∧ c ≤ maxLen ∧
    (∀ k m, L[k]? = some m → ∃ g, A = some ⟨g, 0, none⟩ ∧ g < w.heap.size ∧ g ∈ blks b2 kv L ∧ w.cell? ⟨g, k * 6, none⟩ = some (.int .i64 m.d.no) ∧ w.cell? ⟨g, k * 6 + 1, none⟩ = some (.int .u32 m.d.f.1) ∧ w.cell? ⟨g, k * 6 + 2, none⟩ = some (.int .i64 m.d.f.2) ∧
      w.cell? ⟨g, k * 6 + 3, none⟩ = some (.int .u32 m.d.t.1) ∧ w.cell? ⟨g, k * 6 + 4, none⟩ = some (.int .i64 m.d.t.2) ∧ w.cell? ⟨g, k * 6 + 5, none⟩ = some m.v) := by
  rcases h.row.2 with ⟨e, e0⟩ | ⟨g, cap, cur, e, hg, hgg, h1, h2, h3, h4⟩
  · have hL : L = [] := List.eq_nil_of_length_eq_zero e0
    subst hL
    exact ⟨none, 0, e, Nat.le_refl _, Nat.zero_le _, fun k m hk => by simp at hk⟩
  · refine ⟨_, cap, e, h1, h2, fun k m hk => ?_⟩
    have hkl := (List.getElem?_eq_some_iff.1 hk).1
    have at_ : ∀ i, i < 6 → w.cell? ⟨g, k * 6 + i, none⟩ = (encD m)[i]? := fun i hi => by
      rw [(cells_of hgg _).1]
      have e5 := cellsD_at hk i hi
      rw [← h4, List.getElem?_take_of_lt (by omega)] at e5
      simpa using e5
    exact ⟨g, rfl, (Array.getElem?_eq_some_iff.1 hgg).1, blks_row (by rw [e]; rfl), at_ 0 (by omega), at_ 1 (by omega), at_ 2 (by omega), at_ 3 (by omega), at_ 4 (by omega), at_ 5 (by omega)⟩
section
variable {w : World} {T nb : Nat} {last : Int} {kv : Value} {L : List Md}
set_option maxHeartbeats 1000000 in
theorem cloneD (h : Na w T nb last kv L) (hL : L.length ≤ 1000) : Calls Try.prog 31 #[kv] w fun e w' => ∃ A c, e = .returned (.slice A L.length c) ∧ w'.ownsRow w.heap.size 43 6 (.slice A L.length c) L.length (cellsD L) ∧ Below w.heap.size w w' := by
  have q22 : ∀ (w : World) (a : Option Addr) (n c n' c' : Nat), (binOp .eql 28 (.slice a n c) (.slice none n' c')).run Try.prog w = .ok (.bool a.isNone) w := fun w a n c n' c' => Lib.run_eql_slice_nil w _ _ a n c n' c' Try.underlying28
  have hpc := fun g hg => part_cells (h.alloc (.cells #[] 43)) (g := g) hg 0 L.length (by omega)
  obtain ⟨A, c, hkv, hlc, hcm, hnl, hat⟩ := h.form
  cases A with
  | none =>
    obtain ⟨hz, rfl⟩ := hnl rfl
    subst hz
    subst hkv
    clear h hat hpc hnl
    go_enter Try.func31, Try.ntmps31
    go_wp2
    go_ret
    exact ⟨none, 0, rfl, World.ownsRow_nil _ _ _ _, Below.refl _ _⟩
  | some ad =>
    have hg : ∃ g, ad = ⟨g, 0, none⟩ := by
      rcases h.row.2 with ⟨e, _⟩ | ⟨g, cap, cur, e, _⟩
      · rw [hkv] at e; cases e
      · rw [hkv] at e; cases e; exact ⟨g, rfl⟩
    obtain ⟨g, rfl⟩ := hg
    obtain ⟨A8, c8, W8, r8, o8, g8⟩ := appD (l1 := []) (l2 := L) (own0 w) ⟨g, 0, none⟩ c (fun j u hj => by
      have := hpc g (by rw [hkv]; rfl) j u (by simpa using hj)
      simpa using this) (by simp; omega) (by simp)
    rw [List.nil_append] at r8 o8
    have R8 := Lib.hid r8; have O8 := Lib.hid o8; have HB := Lib.hid (own_grownD (own0 w) ((Below.refl _ w).alloc (Nat.le_refl _) _) g8)
    subst hkv
    clear h hat hpc r8 o8 g8 hnl
    go_enter Try.func31, Try.ntmps31
    go_wp2_with (at_builtin; refine wpList_run rfl (.tmp 5) (.tmp 6) 28 rfl rfl rfl R8.out ?_)
    go_ret
    exact ⟨A8, c8, rfl, O8.out, HB.out⟩
set_option maxHeartbeats 1000000 in
theorem all_n (h : Na w T nb last kv L) (hL : L.length ≤ 1000) : Calls Try.prog 19 #[.pointer (some ⟨nb, 0, none⟩)] w fun e w' => ∃ b2 kv', e = .returned (.func (.func 32) #[] #[.pointer (some ⟨b2, 0, none⟩)]) ∧ Snp w' b2 kv' L ∧ w.heap.size ≤ b2 ∧ (∀ g, kv'.ownBlock = some g → w.heap.size ≤ g) ∧ Below w.heap.size w w' ∧ (∃ C, w'.heap[b2]? = some (.cells C 28 (0, 0))) := by
  have HC := Lib.hid (cloneD h hL)
  have HM := Lib.hid h.mds
  obtain ⟨A, c, hkv, -⟩ := h.form
  obtain ⟨c0, c1, -, hl⟩ := h.cells
  subst hkv
  clear h
  go_enter Try.func19, Try.ntmps19
  go_wp2_with fail
  refine HC.out.mono ?_
  rintro e w1 ⟨A', c', rfl, ho, hb⟩
  have HO := Lib.hid ho; have HB := Lib.hid hb
  clear ho hb c0 c1
  go_wp2
  go_ret
  have hb2 : Below w1.heap.size w1 (w1.alloc (.cells #[.slice A' L.length c'] 28)) := (Below.refl _ _).alloc (Nat.le_refl _) _
  refine ⟨w1.heap.size, .slice A' L.length c', rfl, ⟨(cells_of (World.alloc_heap_new w1 _) 0).1, by simp, ?_, fun m hm => ((HM.out m hm).below HB.out).below hb2⟩, HB.out.size, fun g hg => (HO.out.lt g hg).1, HB.out.trans (hb2.mono HB.out.size), _, World.alloc_heap_new w1 _⟩
  have h2 := own_at (w' := w1.alloc (.cells #[.slice A' L.length c'] 28)) HO.out (fun g hg => hb2.block g (HO.out.lt g hg).2)
  exact ⟨h2.1, h2.2.imp id (fun ⟨g, cap, cur, e1, e2, e3⟩ => ⟨g, cap, cur, e1, Nat.zero_le _, e3⟩)⟩
end
/-- what is handed to a round -/
def encM (m : Md) : Array Value := #[.agg (sentC m.d.no m.d.f m.d.t m.v)]
def OkM (L : List Md) (pre : List Md) (z : Md) (Va V1 : World) : Prop := (∃ k m, L[k]? = some m ∧ k = pre.length ∧ z.d = m.d) ∧ MdAt V1 z ∧ ∀ g, z.v.ownBlock = some g → Va.heap.size ≤ g
theorem said_one {α : Type} {gs : List Nat} {B : Nat} {V : World} {J Jx : List α → World → Prop} {zs : List α} {e : Ending} {W : World} (h : Kept gs false B V W ∧ ((e = .returned (.bool true) ∧ J zs W) ∨ (e = .returned (.bool false) ∧ Jx zs W))) :
    ∃ r : Bool, e = .returned (.bool r) ∧ Kept gs false B V W ∧ (if r = true then J zs W else Jx zs W) := by
  obtain ⟨hk, ⟨rfl, h⟩ | ⟨rfl, h⟩⟩ := h
  · exact ⟨true, rfl, hk, h⟩
  · exact ⟨false, rfl, hk, h⟩
end Go.Proofs.Ythfdnidcmkjmoaa
