/-
  Contracts of a world's calls of its boxes, and of its small functions: isHost, isBox, Open, Outer, Box, own; slices.Index at sites. Conditions: as each lemma states.
-/
import Derived.Test.YtidhdgcmagpkgaaWm
import Derived.Deep.QuietTactic
import Derived.BigQuiet
namespace Go.Proofs.Ytidhdgcmagpkgaa
open Go.RowKit
attribute [local go_sem] Oper.semAt_some
set_option linter.unusedVariables false
set_option linter.unusedSimpArgs false

/-- the place of a site in a row; -1: none -/
def idxS (l : List St) (s : St) : Int := match l.findIdx? (fun t => decide (s = t)) with
  | some i => (i : Int)
  | none => -1
theorem idxS_some {l : List St} {s : St} {k : Nat} (h1 : l[k]? = some s) (h2 : ∀ j t, j < k → l[j]? = some t → t ≠ s) : idxS l s = k := by
  obtain ⟨hk, hs⟩ := List.getElem?_eq_some_iff.1 h1
  have : l.findIdx? (fun t => decide (s = t)) = some k := by
    rw [List.findIdx?_eq_some_iff_getElem]
    refine ⟨hk, by simp [hs], fun j hj => ?_⟩
    have := h2 j l[j] hj (List.getElem?_eq_getElem _)
    simp only [decide_eq_true_eq]
    exact fun e => this e.symm
  unfold idxS
  rw [this]
theorem idxS_none {l : List St} {s : St} (h : s ∉ l) : idxS l s = -1 := by
  have : l.findIdx? (fun t => decide (s = t)) = none := by
    rw [List.findIdx?_eq_none_iff]
    intro t ht
    simp only [decide_eq_false_iff_not]
    exact fun e => h (e ▸ ht)
  unfold idxS
  rw [this]
theorem idxS_cases (l : List St) (s : St) : (idxS l s = -1 ∧ s ∉ l) ∨ ∃ k : Nat, idxS l s = k ∧ l[k]? = some s := by
  unfold idxS
  cases h : l.findIdx? (fun t => decide (s = t)) with
  | none =>
    rw [List.findIdx?_eq_none_iff] at h
    exact .inl ⟨rfl, fun hm => by have := h s hm; simp at this⟩
  | some i =>
    rw [List.findIdx?_eq_some_iff_getElem] at h
    obtain ⟨h1, h2, _⟩ := h
    have : s = l[i] := by simpa using h2
    exact .inr ⟨i, rfl, by rw [List.getElem?_eq_getElem h1, ← this]⟩
theorem noGuardS : Try.prog.eqGuardType Try.prog.depth 42 = false := by kernel_rfl

section
variable {w0 V V' : World} {wb : Nat} {bv sv hv : Value} {S H : List St} {bs : List Bp} {now now' : Int} {os : List (Nat × Obj)}
/-- what may be said of every box -/
structure OkBx (b : Bp) : Prop where
  x : OkB b.x
  M : OkM b.M
  now : 0 ≤ b.now
theorem Wp.box_at (h : Wp w0 wb bv sv hv S H bs now os V) {i : Nat} {b : Bp} (hi : bs[i]? = some b) : ∃ g c nb, bv = .slice (some ⟨g, 0, none⟩) bs.length c ∧ bs.length ≤ c ∧ c ≤ maxLen ∧ g < V.heap.size ∧ V.cell? ⟨g, i, none⟩ = some (.pointer (some ⟨nb, 0, none⟩)) ∧ (∃ kv L, Na V nb b.x b.now kv L ∧ L.map Nd.b = b.M) := by
  obtain ⟨B, h1, h2, h3⟩ := h.wo
  obtain ⟨c, hc, rfl⟩ : ∃ c, B[i]? = some c ∧ c.plain = b := by
    rw [← h2, List.getElem?_map] at hi
    cases hB : B[i]? with
    | none => rw [hB] at hi; cases hi
    | some c => rw [hB] at hi; exact ⟨c, rfl, Option.some.inj hi⟩
  have hl : B.length = bs.length := by rw [← h2, List.length_map]
  have hil := (List.getElem?_eq_some_iff.1 hc).1
  rcases h1.bxs.2 with ⟨rfl, h5⟩ | ⟨g, cap, cur, rfl, _, h6, h7, h8, h9, h10⟩
  · omega
  · refine ⟨g, cap, c.nb, by rw [hl], by omega, by omega, (Array.getElem?_eq_some_iff.1 h6).1, ?_, c.kv, c.L, h1.nas c (List.mem_of_getElem? hc), rfl⟩
    have h11 := cellsP_at (l := B.map Bm.nb) (k := i) (p := c.nb) (by rw [List.getElem?_map, hc]; rfl)
    rw [← h10, List.getElem?_take_of_lt (by omega)] at h11
    rw [(cells_of h6 i).1]
    simpa [ptr] using h11
end
set_option maxHeartbeats 1000000 in
theorem index_any (A : Option Addr) (c : Nat) (l : List St) (s : St) (w : World) (h : SAt w A l) (hl : l.length ≤ 1000) :
    Calls Try.prog 29 #[.slice A l.length c, site s] w fun e w' => e = .returned (.int .i64 (idxS l s)) ∧ Below w.heap.size w w' := by
  have hm := noGuardS
  obtain ⟨n, hn⟩ : ∃ n, l.length = n := ⟨_, rfl⟩
  rw [hn]
  have hb0 : ∀ o, Below w.heap.size w (w.alloc o) := fun o => (Below.refl _ w).alloc (Nat.le_refl _) _
  have HC : Hid (∀ (j : Nat) t, l[j]? = some t → ∃ b off, A = some ⟨b, off, none⟩ ∧ ∀ o, (w.alloc o).cell? ⟨b, off + j * 2, none⟩ = some (.int .u32 t.1) ∧ (w.alloc o).cell? ⟨b, off + j * 2 + 1, none⟩ = some (.int .i64 t.2)) := Lib.hid (fun j t hj => by
    obtain ⟨b, off, e, h1, h2⟩ := h (by have := (List.getElem?_eq_some_iff.1 hj).1; omega)
    exact ⟨b, off, e, fun o => ⟨((hb0 o).cell (p := ⟨b, _, none⟩) h1).trans (h2 j t hj).1, ((hb0 o).cell (p := ⟨b, _, none⟩) h1).trans (h2 j t hj).2⟩⟩)
  have HB0 := Lib.hid hb0
  have hnb : n ≤ 1000 := by omega
  have HN := Lib.hid hn
  obtain ⟨s1, s2⟩ := s
  unfold site
  dsimp only
  clear h hb0 hn
  go_enter Try.func29, Try.ntmps29
  go_wp2
  obtain ⟨W1, hW1⟩ : ∃ W1, w.alloc (.cells #[.int .u32 s1, .int .i64 s2] 42) = W1 := ⟨_, rfl⟩
  have k0 : W1.cell? ⟨w.heap.size, 0, none⟩ = some (.int .u32 s1) := by rw [← hW1, (cells_of (World.alloc_heap_new w _) 0).1]; rfl
  have k1 : W1.cell? ⟨w.heap.size, 1, none⟩ = some (.int .i64 s2) := by rw [← hW1, (cells_of (World.alloc_heap_new w _) 1).1]; rfl
  rw [hW1]
  have hbw := HB0.out (.cells #[.int .u32 s1, .int .i64 s2] 42)
  rw [hW1] at hbw
  have HBW := Lib.hid hbw
  have HC1 : Hid (∀ (j : Nat) t, l[j]? = some t → ∃ b off, A = some ⟨b, off, none⟩ ∧ W1.cell? ⟨b, off + j * 2, none⟩ = some (.int .u32 t.1) ∧ W1.cell? ⟨b, off + j * 2 + 1, none⟩ = some (.int .i64 t.2)) := Lib.hid (fun j t hj => by
    obtain ⟨b, off, e, h1⟩ := HC.out j t hj
    exact ⟨b, off, e, by rw [← hW1]; exact h1 _⟩)
  clear hW1 hbw HC HB0
  go_loopw [8] (fun i wr => ∃ k : Nat, k ≤ n ∧ i = .int .i64 (k : Int) ∧ Hid (∃ q, wr = W1.drewN q) ∧ Hid (∀ j t, j < k → l[j]? = some t → t ≠ (s1, s2))) (fun i _ => n - (intOf i).toNat)
  case atStart => exact ⟨0, by omega, rfl, Lib.hid ⟨0, rfl⟩, Lib.hid (fun j t h => by omega)⟩
  case round =>
    obtain ⟨k, hk, rfl, HQ, HNO⟩ := hrel
    obtain ⟨q, rfl⟩ := HQ.out
    by_cases hkn : k < n
    · obtain ⟨t, ht⟩ : ∃ t, l[k]? = some t := ⟨_, List.getElem?_eq_getElem (by have := HN.out; omega)⟩
      obtain ⟨b, off, rfl, c0, c1⟩ := HC1.out k t ht
      obtain ⟨t1, t2⟩ := t
      dsimp only at c0 c1
      have HT := Lib.hid ht
      clear ht
      by_cases e1 : s1 = t1
      · by_cases e2 : s2 = t2
        · subst e1; subst e2
          have HR : Hid (idxS l (s1, s2) = (k : Int)) := Lib.hid (idxS_some HT.out HNO.out)
          go_wp2
          go_quiet (fail)
          go_wp2
          go_ret
          exact ⟨by rw [HR.out]; rfl, HBW.out.trans (below_drw (below_drw (Below.refl _ _) _) _)⟩
        · have HS : Hid (∀ j t, j < k + 1 → l[j]? = some t → t ≠ (s1, s2)) := Lib.hid (fun j u hj hu => by
            rcases Nat.lt_or_ge j k with h' | h'
            · exact HNO.out j u h' hu
            · obtain rfl : j = k := by omega
              rw [HT.out] at hu
              cases hu
              exact fun e => e2 (by cases e; rfl))
          go_wp2
          go_quiet (fail)
          go_wp2
          go_roundw
          case rel => exact ⟨k + 1, by omega, by go_num, Lib.hid ⟨_, rfl⟩, HS⟩
          case measure => simp [intOf]; omega
      · have HS : Hid (∀ j t, j < k + 1 → l[j]? = some t → t ≠ (s1, s2)) := Lib.hid (fun j u hj hu => by
          rcases Nat.lt_or_ge j k with h' | h'
          · exact HNO.out j u h' hu
          · obtain rfl : j = k := by omega
            rw [HT.out] at hu
            cases hu
            exact fun e => e1 (by cases e; rfl))
        go_wp2
        go_quiet (fail)
        go_wp2
        go_roundw
        case rel => exact ⟨k + 1, by omega, by go_num, Lib.hid ⟨_, rfl⟩, HS⟩
        case measure => simp [intOf]; omega
    · obtain rfl : k = n := by omega
      have HR : Hid (idxS l (s1, s2) = -1) := Lib.hid (idxS_none (fun hm => by
        obtain ⟨j, hj⟩ := List.getElem?_of_mem hm
        exact HNO.out j _ (by have := (List.getElem?_eq_some_iff.1 hj).1; have := HN.out; omega) hj rfl))
      go_wp2
      go_ret
      exact ⟨by rw [HR.out]; rfl, HBW.out.trans (below_drw (Below.refl _ _) _)⟩
end Go.Proofs.Ytidhdgcmagpkgaa
