/-
  The contract of nat's choose: the port that is chosen for a wish. Conditions: the box may be made so, and lies in memory; at most 1000 bindings.
  Contracts of the tests that see and lets hand to the library: an address is the one; an address is like another one. Conditions: the captured cells hold what they are said to.
  Contracts of slices.IndexFunc, slices.ContainsFunc and slices.DeleteFunc at addresses, for the tests that see and lets hand over. Conditions: as each lemma states.
  The contract of slices.DeleteFunc at addresses, for the test that see hands over. Conditions: as each lemma states.
  The contract of slices.Delete at sixteen addresses, the first one going. Conditions: the row lies in memory.
-/
import Derived.Test.YtemlnkcokeckmaaMh7
import Derived.Test.YtemlnkcokeckmaaMh6
import Derived.Deep.RegionHeld3
import Derived.Deep.QuietTactic
import Derived.BigQuiet
import Derived.StillTailTactics
import Derived.Deep.RegionLaw
namespace Go.Proofs.Ytemlnkcokeckmaa
open Go.RowKit
attribute [local go_sem] Oper.semAt_some
set_option linter.unusedVariables false

/-- has no binding this port? -/
def freeM (M : List Bn) (p : Int) : Bool := M.all fun b => decide (b.port ≠ p)
/-- the wish, if it is one of the box's ports -/
def wish0 (x : Bx) (s : Int) : Int := if s < x.lo ∨ x.hi < s then x.lo else s
/-- the ports that are tried, one by one -/
def cand (x : Bx) (s : Int) (k : Nat) : Int := if k = 0 then wish0 x s else x.lo + ((k - 1 : Nat) : Int)
def ports (x : Bx) : Nat := (x.hi - x.lo + 1).toNat
def chooseM (x : Bx) (M : List Bn) (s : Int) : Option Int := ((List.range (ports x + 1)).find? (fun k => freeM M (cand x s k))).map (cand x s)
theorem choose_some {x : Bx} {M : List Bn} {s : Int} {k : Nat} (hk : k < ports x + 1) (hf : freeM M (cand x s k) = true) (hb : ∀ j, j < k → freeM M (cand x s j) = false) : chooseM x M s = some (cand x s k) := by
  unfold chooseM
  have : (List.range (ports x + 1)).find? (fun k => freeM M (cand x s k)) = some k := by
    rw [List.find?_range_eq_some]
    exact ⟨hf, by simpa using hk, fun j hj => by simp [hb j hj]⟩
  rw [this]; rfl
theorem choose_none {x : Bx} {M : List Bn} {s : Int} (hb : ∀ j, j < ports x + 1 → freeM M (cand x s j) = false) : chooseM x M s = none := by
  unfold chooseM
  have : (List.range (ports x + 1)).find? (fun k => freeM M (cand x s k)) = none := by
    rw [List.find?_eq_none]
    intro j hj
    simp [hb j (List.mem_range.1 hj)]
  rw [this]; rfl
def choV (o : Option Int) : Value := .tuple #[.int .i64 (o.getD 0), .bool o.isSome]
def NoneAt (L : List Nd) (p : Int) (k : Nat) : Prop := ∀ (j : Nat) (d : Nd), j < k → L[j]? = some d → d.b.port ≠ p
theorem NoneAt.zero (L : List Nd) (p : Int) : NoneAt L p 0 := fun j _ h => by omega
theorem NoneAt.succ {L : List Nd} {p : Int} {k : Nat} {d : Nd} (h : NoneAt L p k) (hk : L[k]? = some d) (hd : ¬ d.b.port = p) : NoneAt L p (k + 1) := fun j e hj he => by
  rcases Nat.lt_or_ge j k with h' | h'
  · exact h j e h' he
  · obtain rfl : j = k := by omega
    rw [hk] at he; cases he; exact hd
theorem NoneAt.free {L : List Nd} {p : Int} (h : NoneAt L p L.length) : freeM (L.map Nd.b) p = true := by
  unfold freeM
  rw [List.all_eq_true]
  intro b hb
  obtain ⟨d, hd, rfl⟩ := List.mem_map.1 hb
  obtain ⟨j, hj, rfl⟩ := List.getElem_of_mem hd
  simpa using h j _ hj (List.getElem?_eq_getElem hj)
theorem taken {L : List Nd} {p : Int} {k : Nat} {d : Nd} (hk : L[k]? = some d) (hd : d.b.port = p) : freeM (L.map Nd.b) p = false := by
  unfold freeM
  rw [List.all_eq_false]
  exact ⟨d.b, List.mem_map.2 ⟨d, List.mem_of_getElem? hk, rfl⟩, by simp [hd]⟩

set_option maxRecDepth 100000 in
set_option maxHeartbeats 4000000 in
theorem choose_any (nb : Nat) (x : Bx) (now : Int) (kv : Value) (L : List Nd) (s : Int) (w : World) (h : Na w nb x now kv L) (hbig : L.length ≤ 1000) (hlo : 1 ≤ x.lo) (hlh : x.lo ≤ x.hi) (hhi : x.hi ≤ 65535) :
    Calls Try.prog 79 #[.pointer (some ⟨nb, 0, none⟩), .int .i64 s] w fun e w' => e = .returned (choV (chooseM x (L.map Nd.b) s)) ∧ ∃ n, w' = w.drewN n := by
  have c1 := h.cells.1.2.1
  have c2 := h.cells.1.2.2.1
  have c7 := h.cells.2.1
  have H := Lib.hid h
  have HROW := Lib.hid h.rowAt
  clear h
  have HW : Hid (∀ k, cand x s k = if k = 0 then wish0 x s else x.lo + ((k - 1 : Nat) : Int)) := Lib.hid (fun _ => rfl)
  have HP : Hid ((ports x : Int) = x.hi - x.lo + 1) := Lib.hid (by unfold ports; omega)
  have hw0 : x.lo ≤ wish0 x s ∧ wish0 x s ≤ x.hi := by unfold wish0; split <;> omega
  by_cases hs : s < x.lo ∨ x.hi < s
  · have HW0 : Hid (wish0 x s = x.lo) := Lib.hid (if_pos hs)
    rcases hs with hs1 | hs1
    · obtain ⟨n, hn⟩ : ∃ n, n = ports x := ⟨_, rfl⟩
      rw [← hn] at HP
      have HN := Lib.hid hn
      have HB := hw0
      clear hn
      generalize x.lo = lo at *
      generalize x.hi = hi at *
      have hnn := HP.out
      rcases HROW.out with ⟨rfl, rfl⟩ | ⟨g, cap, cur, rfl, hg, hnc, hm2, hcs, hcell⟩
      · have HR : Hid (chooseM x (([] : List Nd).map Nd.b) s = some (cand x s 0)) := Lib.hid (choose_some (by omega) rfl (fun j hj => by omega))
        have HC0 : Hid (cand x s 0 = wish0 x s) := Lib.hid (by rw [HW.out]; rfl)
        rw [HR.out, HC0.out, HW0.out]
        unfold choV
        go_enter Try.func79, Try.ntmps79
        go_wp2
        go_step3
        go_wp2
        go_step3
        go_wp2
        go_quiet (fail)
        go_wp2
        go_loopg [6, 7] 0 (fun gg s6 s7 wr => s6 = .int .i64 lo ∧ s7 = .int .i64 lo ∧ ∃ q, wr = w.drewN q)
        case atStart => exact ⟨rfl, rfl, _, rfl⟩
        case round =>
          obtain ⟨rfl, rfl, q, rfl⟩ := hrel
          go_wp2
          go_loopg [52] 0 (fun _ s52 wr => s52 = .int .i64 0 ∧ wr = w.drewN q)
          case atStart => exact ⟨rfl, rfl⟩
          case round =>
            obtain ⟨rfl, rfl⟩ := hrel
            go_wp2
            rw [Exit.noGoto_ret]
            go_ret2
            exact ⟨rfl, _, rfl⟩
      · have HCELL : Hid (∀ (j : Nat) (d : Nd), L[j]? = some d → w.cell? ⟨g, j, none⟩ = some (.pointer (some ⟨d.p, 0, none⟩)) ∧ w.cell? ⟨d.p, 4, none⟩ = some (.int .i64 d.b.port)) := Lib.hid (fun j d hj => ⟨by rw [(cells_of hg j).1]; exact hcell j d hj, (H.out.nds d (List.mem_of_getElem? hj)).cells.1.2.2.2.2.1⟩)
        clear hcell hcs hg
        have HNONE : Hid ((∀ j, j < n + 1 → freeM (L.map Nd.b) (cand x s j) = false) → chooseM x (L.map Nd.b) s = none) := Lib.hid (fun h => choose_none (by rw [← HN.out]; exact h))
        have HSOME : Hid (∀ k, k < n + 1 → freeM (L.map Nd.b) (cand x s k) = true → (∀ j, j < k → freeM (L.map Nd.b) (cand x s j) = false) → chooseM x (L.map Nd.b) s = some (cand x s k)) := Lib.hid (fun k h1 h2 h3 => choose_some (by rw [← HN.out]; exact h1) h2 h3)
        generalize chooseM x (L.map Nd.b) s = res at *
        go_enter Try.func79, Try.ntmps79
        go_wp2
        go_step3
        go_wp2
        go_step3
        go_wp2
        go_quiet (fail)
        go_wp2
        go_loopg [6, 7] (n + 2) (fun gg s6 s7 wr => ∃ k q : Nat, k ≤ n + 1 ∧ n + 1 - k ≤ gg ∧ s6 = .int .i64 (cand x s k) ∧ s7 = .int .i64 (lo + (k : Int)) ∧ wr = w.drewN q ∧ Hid (∀ j, j < k → freeM (L.map Nd.b) (cand x s j) = false))
        case atStart => exact ⟨0, _, by omega, by omega, by rw [HW.out, if_pos rfl, HW0.out], by simp, rfl, Lib.hid (fun j hj => by omega)⟩
        case round =>
          obtain ⟨k, q, hk, hgg, rfl, rfl, rfl, HB2⟩ := hrel
          have HCK := Lib.hid (HW.out k)
          have HCK1 := Lib.hid (HW.out (k + 1))
          have hck : k ≤ n → cand x s k ≤ hi := fun h => by
            rw [HCK.out]; split
            · exact HB.2
            · omega
          have hck2 : k = n + 1 → ¬ cand x s k ≤ hi := fun h => by
            rw [HCK.out, if_neg (by omega)]; omega
          have HNX : Hid (cand x s (k + 1) = lo + (k : Int)) := Lib.hid (by rw [HCK1.out, if_neg (by omega)]; congr 1)
          generalize hcv : cand x s k = cv at *
          have HCV := Lib.hid hcv
          clear hcv HCK HCK1
          by_cases hkn : k ≤ n
          · have h1 := hck hkn
            clear hck hck2
            go_wp2
            go_loopg [52] L.length (fun g2 s52 wr => ∃ i : Nat, i ≤ L.length ∧ L.length - i ≤ g2 ∧ s52 = .int .i64 i ∧ wr = w.drewN q ∧ Hid (NoneAt L cv i))
            case atStart => exact ⟨0, by omega, by omega, rfl, rfl, Lib.hid (NoneAt.zero _ _)⟩
            case round =>
              obtain ⟨i, hi2, hg2, rfl, rfl, HNA⟩ := hrel
              by_cases hlt : i < L.length
              · have hltz : (i : Int) < (L.length : Int) := by omega
                obtain ⟨d, hd⟩ : ∃ d, L[i]? = some d := ⟨_, List.getElem?_eq_getElem hlt⟩
                obtain ⟨k0, k1⟩ := HCELL.out i d hd
                by_cases hp : d.b.port = cv
                · have HT := Lib.hid (taken hd hp)
                  rw [hp] at k1
                  clear hd hp
                  go_wp2
                  go_roundg (n + 1 - (k + 1))
                  case measure => omega
                  case rel => exact ⟨k + 1, q, by omega, by omega, by rw [HNX.out], by go_num, rfl, Lib.hid (fun j hj => by
                    rcases Nat.lt_or_ge j k with h' | h'
                    · exact HB2.out j h'
                    · obtain rfl : j = k := by omega
                      rw [HCV.out]; exact HT.out)⟩
                · have HS2 := Lib.hid (HNA.out.succ hd hp)
                  have hp2 : (d.b.port == cv) = false := by simpa using hp
                  clear hd hp
                  go_wp2
                  go_roundg (L.length - (i + 1))
                  case measure => omega
                  case rel => exact ⟨i + 1, by omega, by omega, by go_num, rfl, HS2⟩
              · have hltz : ¬ (i : Int) < (L.length : Int) := by omega
                obtain rfl : i = L.length := by omega
                have HR := Lib.hid (HSOME.out k (by omega) (by rw [HCV.out]; exact HNA.out.free) HB2.out)
                go_wp2
                go_ret2
                exact ⟨by rw [HR.out, HCV.out]; rfl, _, rfl⟩
          · have h1 := hck2 (by omega)
            have HR := Lib.hid (HNONE.out (fun j hj => HB2.out j (by omega)))
            clear hck hck2
            go_wp2
            go_ret2
            exact ⟨by rw [HR.out]; rfl, _, rfl⟩
    · have hs2 : ¬ s < x.lo := by omega
      obtain ⟨n, hn⟩ : ∃ n, n = ports x := ⟨_, rfl⟩
      rw [← hn] at HP
      have HN := Lib.hid hn
      have HB := hw0
      clear hn
      generalize x.lo = lo at *
      generalize x.hi = hi at *
      have hnn := HP.out
      rcases HROW.out with ⟨rfl, rfl⟩ | ⟨g, cap, cur, rfl, hg, hnc, hm2, hcs, hcell⟩
      · have HR : Hid (chooseM x (([] : List Nd).map Nd.b) s = some (cand x s 0)) := Lib.hid (choose_some (by omega) rfl (fun j hj => by omega))
        have HC0 : Hid (cand x s 0 = wish0 x s) := Lib.hid (by rw [HW.out]; rfl)
        rw [HR.out, HC0.out, HW0.out]
        unfold choV
        go_enter Try.func79, Try.ntmps79
        go_wp2
        go_step3
        go_wp2
        go_step3
        go_wp2
        go_quiet (fail)
        go_wp2
        go_loopg [6, 7] 0 (fun gg s6 s7 wr => s6 = .int .i64 lo ∧ s7 = .int .i64 lo ∧ ∃ q, wr = w.drewN q)
        case atStart => exact ⟨rfl, rfl, _, rfl⟩
        case round =>
          obtain ⟨rfl, rfl, q, rfl⟩ := hrel
          go_wp2
          go_loopg [52] 0 (fun _ s52 wr => s52 = .int .i64 0 ∧ wr = w.drewN q)
          case atStart => exact ⟨rfl, rfl⟩
          case round =>
            obtain ⟨rfl, rfl⟩ := hrel
            go_wp2
            rw [Exit.noGoto_ret]
            go_ret2
            exact ⟨rfl, _, rfl⟩
      · have HCELL : Hid (∀ (j : Nat) (d : Nd), L[j]? = some d → w.cell? ⟨g, j, none⟩ = some (.pointer (some ⟨d.p, 0, none⟩)) ∧ w.cell? ⟨d.p, 4, none⟩ = some (.int .i64 d.b.port)) := Lib.hid (fun j d hj => ⟨by rw [(cells_of hg j).1]; exact hcell j d hj, (H.out.nds d (List.mem_of_getElem? hj)).cells.1.2.2.2.2.1⟩)
        clear hcell hcs hg
        have HNONE : Hid ((∀ j, j < n + 1 → freeM (L.map Nd.b) (cand x s j) = false) → chooseM x (L.map Nd.b) s = none) := Lib.hid (fun h => choose_none (by rw [← HN.out]; exact h))
        have HSOME : Hid (∀ k, k < n + 1 → freeM (L.map Nd.b) (cand x s k) = true → (∀ j, j < k → freeM (L.map Nd.b) (cand x s j) = false) → chooseM x (L.map Nd.b) s = some (cand x s k)) := Lib.hid (fun k h1 h2 h3 => choose_some (by rw [← HN.out]; exact h1) h2 h3)
        generalize chooseM x (L.map Nd.b) s = res at *
        go_enter Try.func79, Try.ntmps79
        go_wp2
        go_step3
        go_wp2
        go_step3
        go_wp2
        go_quiet (fail)
        go_wp2
        go_loopg [6, 7] (n + 2) (fun gg s6 s7 wr => ∃ k q : Nat, k ≤ n + 1 ∧ n + 1 - k ≤ gg ∧ s6 = .int .i64 (cand x s k) ∧ s7 = .int .i64 (lo + (k : Int)) ∧ wr = w.drewN q ∧ Hid (∀ j, j < k → freeM (L.map Nd.b) (cand x s j) = false))
        case atStart => exact ⟨0, _, by omega, by omega, by rw [HW.out, if_pos rfl, HW0.out], by simp, rfl, Lib.hid (fun j hj => by omega)⟩
        case round =>
          obtain ⟨k, q, hk, hgg, rfl, rfl, rfl, HB2⟩ := hrel
          have HCK := Lib.hid (HW.out k)
          have HCK1 := Lib.hid (HW.out (k + 1))
          have hck : k ≤ n → cand x s k ≤ hi := fun h => by
            rw [HCK.out]; split
            · exact HB.2
            · omega
          have hck2 : k = n + 1 → ¬ cand x s k ≤ hi := fun h => by
            rw [HCK.out, if_neg (by omega)]; omega
          have HNX : Hid (cand x s (k + 1) = lo + (k : Int)) := Lib.hid (by rw [HCK1.out, if_neg (by omega)]; congr 1)
          generalize hcv : cand x s k = cv at *
          have HCV := Lib.hid hcv
          clear hcv HCK HCK1
          by_cases hkn : k ≤ n
          · have h1 := hck hkn
            clear hck hck2
            go_wp2
            go_loopg [52] L.length (fun g2 s52 wr => ∃ i : Nat, i ≤ L.length ∧ L.length - i ≤ g2 ∧ s52 = .int .i64 i ∧ wr = w.drewN q ∧ Hid (NoneAt L cv i))
            case atStart => exact ⟨0, by omega, by omega, rfl, rfl, Lib.hid (NoneAt.zero _ _)⟩
            case round =>
              obtain ⟨i, hi2, hg2, rfl, rfl, HNA⟩ := hrel
              by_cases hlt : i < L.length
              · have hltz : (i : Int) < (L.length : Int) := by omega
                obtain ⟨d, hd⟩ : ∃ d, L[i]? = some d := ⟨_, List.getElem?_eq_getElem hlt⟩
                obtain ⟨k0, k1⟩ := HCELL.out i d hd
                by_cases hp : d.b.port = cv
                · have HT := Lib.hid (taken hd hp)
                  rw [hp] at k1
                  clear hd hp
                  go_wp2
                  go_roundg (n + 1 - (k + 1))
                  case measure => omega
                  case rel => exact ⟨k + 1, q, by omega, by omega, by rw [HNX.out], by go_num, rfl, Lib.hid (fun j hj => by
                    rcases Nat.lt_or_ge j k with h' | h'
                    · exact HB2.out j h'
                    · obtain rfl : j = k := by omega
                      rw [HCV.out]; exact HT.out)⟩
                · have HS2 := Lib.hid (HNA.out.succ hd hp)
                  have hp2 : (d.b.port == cv) = false := by simpa using hp
                  clear hd hp
                  go_wp2
                  go_roundg (L.length - (i + 1))
                  case measure => omega
                  case rel => exact ⟨i + 1, by omega, by omega, by go_num, rfl, HS2⟩
              · have hltz : ¬ (i : Int) < (L.length : Int) := by omega
                obtain rfl : i = L.length := by omega
                have HR := Lib.hid (HSOME.out k (by omega) (by rw [HCV.out]; exact HNA.out.free) HB2.out)
                go_wp2
                go_ret2
                exact ⟨by rw [HR.out, HCV.out]; rfl, _, rfl⟩
          · have h1 := hck2 (by omega)
            have HR := Lib.hid (HNONE.out (fun j hj => HB2.out j (by omega)))
            clear hck hck2
            go_wp2
            go_ret2
            exact ⟨by rw [HR.out]; rfl, _, rfl⟩
  · have HW0 : Hid (wish0 x s = s) := Lib.hid (if_neg hs)
    have hs1 : ¬ s < x.lo := fun h => hs (.inl h)
    have hs2 : ¬ x.hi < s := fun h => hs (.inr h)
    clear hs
    obtain ⟨n, hn⟩ : ∃ n, n = ports x := ⟨_, rfl⟩
    rw [← hn] at HP
    have HN := Lib.hid hn
    have HB := hw0
    clear hn
    generalize x.lo = lo at *
    generalize x.hi = hi at *
    have hnn := HP.out
    rcases HROW.out with ⟨rfl, rfl⟩ | ⟨g, cap, cur, rfl, hg, hnc, hm2, hcs, hcell⟩
    · have HR : Hid (chooseM x (([] : List Nd).map Nd.b) s = some (cand x s 0)) := Lib.hid (choose_some (by omega) rfl (fun j hj => by omega))
      have HC0 : Hid (cand x s 0 = wish0 x s) := Lib.hid (by rw [HW.out]; rfl)
      rw [HR.out, HC0.out, HW0.out]
      unfold choV
      go_enter Try.func79, Try.ntmps79
      go_wp2
      go_step3
      go_wp2
      go_step3
      go_wp2
      go_quiet (fail)
      go_wp2
      go_loopg [6, 7] 0 (fun gg s6 s7 wr => s6 = .int .i64 s ∧ s7 = .int .i64 lo ∧ ∃ q, wr = w.drewN q)
      case atStart => exact ⟨rfl, rfl, _, rfl⟩
      case round =>
        obtain ⟨rfl, rfl, q, rfl⟩ := hrel
        go_wp2
        go_loopg [52] 0 (fun _ s52 wr => s52 = .int .i64 0 ∧ wr = w.drewN q)
        case atStart => exact ⟨rfl, rfl⟩
        case round =>
          obtain ⟨rfl, rfl⟩ := hrel
          go_wp2
          rw [Exit.noGoto_ret]
          go_ret2
          exact ⟨rfl, _, rfl⟩
    · have HCELL : Hid (∀ (j : Nat) (d : Nd), L[j]? = some d → w.cell? ⟨g, j, none⟩ = some (.pointer (some ⟨d.p, 0, none⟩)) ∧ w.cell? ⟨d.p, 4, none⟩ = some (.int .i64 d.b.port)) := Lib.hid (fun j d hj => ⟨by rw [(cells_of hg j).1]; exact hcell j d hj, (H.out.nds d (List.mem_of_getElem? hj)).cells.1.2.2.2.2.1⟩)
      clear hcell hcs hg
      have HNONE : Hid ((∀ j, j < n + 1 → freeM (L.map Nd.b) (cand x s j) = false) → chooseM x (L.map Nd.b) s = none) := Lib.hid (fun h => choose_none (by rw [← HN.out]; exact h))
      have HSOME : Hid (∀ k, k < n + 1 → freeM (L.map Nd.b) (cand x s k) = true → (∀ j, j < k → freeM (L.map Nd.b) (cand x s j) = false) → chooseM x (L.map Nd.b) s = some (cand x s k)) := Lib.hid (fun k h1 h2 h3 => choose_some (by rw [← HN.out]; exact h1) h2 h3)
      generalize chooseM x (L.map Nd.b) s = res at *
      go_enter Try.func79, Try.ntmps79
      go_wp2
      go_step3
      go_wp2
      go_step3
      go_wp2
      go_quiet (fail)
      go_wp2
      go_loopg [6, 7] (n + 2) (fun gg s6 s7 wr => ∃ k q : Nat, k ≤ n + 1 ∧ n + 1 - k ≤ gg ∧ s6 = .int .i64 (cand x s k) ∧ s7 = .int .i64 (lo + (k : Int)) ∧ wr = w.drewN q ∧ Hid (∀ j, j < k → freeM (L.map Nd.b) (cand x s j) = false))
      case atStart => exact ⟨0, _, by omega, by omega, by rw [HW.out, if_pos rfl, HW0.out], by simp, rfl, Lib.hid (fun j hj => by omega)⟩
      case round =>
        obtain ⟨k, q, hk, hgg, rfl, rfl, rfl, HB2⟩ := hrel
        have HCK := Lib.hid (HW.out k)
        have HCK1 := Lib.hid (HW.out (k + 1))
        have hck : k ≤ n → cand x s k ≤ hi := fun h => by
          rw [HCK.out]; split
          · exact HB.2
          · omega
        have hck2 : k = n + 1 → ¬ cand x s k ≤ hi := fun h => by
          rw [HCK.out, if_neg (by omega)]; omega
        have HNX : Hid (cand x s (k + 1) = lo + (k : Int)) := Lib.hid (by rw [HCK1.out, if_neg (by omega)]; congr 1)
        generalize hcv : cand x s k = cv at *
        have HCV := Lib.hid hcv
        clear hcv HCK HCK1
        by_cases hkn : k ≤ n
        · have h1 := hck hkn
          clear hck hck2
          go_wp2
          go_loopg [52] L.length (fun g2 s52 wr => ∃ i : Nat, i ≤ L.length ∧ L.length - i ≤ g2 ∧ s52 = .int .i64 i ∧ wr = w.drewN q ∧ Hid (NoneAt L cv i))
          case atStart => exact ⟨0, by omega, by omega, rfl, rfl, Lib.hid (NoneAt.zero _ _)⟩
          case round =>
            obtain ⟨i, hi2, hg2, rfl, rfl, HNA⟩ := hrel
            by_cases hlt : i < L.length
            · have hltz : (i : Int) < (L.length : Int) := by omega
              obtain ⟨d, hd⟩ : ∃ d, L[i]? = some d := ⟨_, List.getElem?_eq_getElem hlt⟩
              obtain ⟨k0, k1⟩ := HCELL.out i d hd
              by_cases hp : d.b.port = cv
              · have HT := Lib.hid (taken hd hp)
                rw [hp] at k1
                clear hd hp
                go_wp2
                go_roundg (n + 1 - (k + 1))
                case measure => omega
                case rel => exact ⟨k + 1, q, by omega, by omega, by rw [HNX.out], by go_num, rfl, Lib.hid (fun j hj => by
                  rcases Nat.lt_or_ge j k with h' | h'
                  · exact HB2.out j h'
                  · obtain rfl : j = k := by omega
                    rw [HCV.out]; exact HT.out)⟩
              · have HS2 := Lib.hid (HNA.out.succ hd hp)
                have hp2 : (d.b.port == cv) = false := by simpa using hp
                clear hd hp
                go_wp2
                go_roundg (L.length - (i + 1))
                case measure => omega
                case rel => exact ⟨i + 1, by omega, by omega, by go_num, rfl, HS2⟩
            · have hltz : ¬ (i : Int) < (L.length : Int) := by omega
              obtain rfl : i = L.length := by omega
              have HR := Lib.hid (HSOME.out k (by omega) (by rw [HCV.out]; exact HNA.out.free) HB2.out)
              go_wp2
              go_ret2
              exact ⟨by rw [HR.out, HCV.out]; rfl, _, rfl⟩
        · have h1 := hck2 (by omega)
          have HR := Lib.hid (HNONE.out (fun j hj => HB2.out j (by omega)))
          clear hck hck2
          go_wp2
          go_ret2
          exact ⟨by rw [HR.out]; rfl, _, rfl⟩
end Go.Proofs.Ytemlnkcokeckmaa
namespace Go.Proofs.Ytemlnkcokeckmaa
open Go.RowKit
attribute [local go_sem] Oper.semAt_some
set_option linter.unusedVariables false

theorem noGuard38 : Try.prog.eqGuardType Try.prog.depth 38 = false := by kernel_rfl
theorem run_eqA (a b : A2) (w : World) : (binOp .eql 38 (.agg #[.int .u32 a.1, .int .i64 a.2]) (.agg #[.int .u32 b.1, .int .i64 b.2])).run Try.prog w = .ok (.bool (decide (a = b))) w := by
  obtain ⟨h, p⟩ := a
  obtain ⟨h', p'⟩ := b
  have hm := noGuard38
  by_cases h1 : h = h'
  · subst h1
    by_cases h2 : p = p'
    · subst h2
      go_simp
    · go_simp
  · go_simp

set_option maxHeartbeats 1000000 in
theorem same_any (cb : Nat) (t a : A2) (w : World) (c0 : w.cell? ⟨cb, 0, none⟩ = some (.int .u32 t.1)) (c1 : w.cell? ⟨cb, 1, none⟩ = some (.int .i64 t.2)) :
    Calls Try.prog 81 #[adr a, .pointer (some ⟨cb, 0, none⟩)] w fun e w' => e = .returned (.bool (decide (a = t))) ∧ Below w.heap.size w w' := by
  have hE := fun W => run_eqA a t W
  have hlt := World.block_lt_of_cell? w _ c0
  dsimp only at hlt
  unfold adr
  generalize decide (a = t) = r at *
  generalize t.1 = t1 at *
  generalize t.2 = t2 at *
  generalize a.1 = a1 at *
  generalize a.2 = a2 at *
  go_enter Try.func81, Try.ntmps81
  go_wp2
  go_ret
  exact ⟨rfl, (Below.refl _ _).alloc (Nat.le_refl _) _⟩

/-- what stands while like's test goes -/
structure SL (w W : World) : Prop where
  b : Below w.heap.size w W
set_option maxHeartbeats 2000000 in
theorem like_any (c1 c2 : Nat) (m : Int) (f a : A2) (w : World) (h1 : w.cell? ⟨c1, 0, none⟩ = some (.int .i64 m)) (h2 : w.cell? ⟨c2, 0, none⟩ = some (.int .u32 f.1)) (h3 : w.cell? ⟨c2, 1, none⟩ = some (.int .i64 f.2)) :
    Calls Try.prog 84 #[adr a, .pointer (some ⟨c1, 0, none⟩), .pointer (some ⟨c2, 0, none⟩)] w fun e w' => e = .returned (.bool (decide (partA a m = partA f m))) ∧ Below w.heap.size w w' := by
  have HP := Lib.hid (fun a W => part_any a m W)
  have hE := fun W => run_eqA (partA a m) (partA f m) W
  have l1 := World.block_lt_of_cell? w _ h1
  have l2 := World.block_lt_of_cell? w _ h2
  dsimp only at l1 l2
  have HPA := Lib.hid (fun W => part_any a m W)
  have HPF := Lib.hid (fun W => part_any f m W)
  unfold adr at *
  generalize decide (partA a m = partA f m) = r at *
  generalize (partA a m).1 = x1 at *
  generalize (partA a m).2 = x2 at *
  generalize (partA f m).1 = y1 at *
  generalize (partA f m).2 = y2 at *
  generalize f.1 = f1 at *
  generalize f.2 = f2 at *
  generalize a.1 = a1 at *
  generalize a.2 = a2 at *
  have HK : Hid (∀ W W', (W.cell? ⟨w.heap.size, 0, none⟩ = some (.int .u32 a1) ∧ W.cell? ⟨w.heap.size, 1, none⟩ = some (.int .i64 a2) ∧ W.cell? ⟨c1, 0, none⟩ = some (.int .i64 m) ∧ W.cell? ⟨c2, 0, none⟩ = some (.int .u32 f1) ∧ W.cell? ⟨c2, 1, none⟩ = some (.int .i64 f2) ∧ SL w W) → Below W.heap.size W W' →
      (W'.cell? ⟨w.heap.size, 0, none⟩ = some (.int .u32 a1) ∧ W'.cell? ⟨w.heap.size, 1, none⟩ = some (.int .i64 a2) ∧ W'.cell? ⟨c1, 0, none⟩ = some (.int .i64 m) ∧ W'.cell? ⟨c2, 0, none⟩ = some (.int .u32 f1) ∧ W'.cell? ⟨c2, 1, none⟩ = some (.int .i64 f2) ∧ SL w W')) := Lib.hid (fun W W' h hb => by
    obtain ⟨q1, q2, q3, q4, q5, q6⟩ := h
    exact ⟨(hb.cell (World.block_lt_of_cell? W _ q1)).trans q1, (hb.cell (World.block_lt_of_cell? W _ q2)).trans q2, (hb.cell (World.block_lt_of_cell? W _ q3)).trans q3, (hb.cell (World.block_lt_of_cell? W _ q4)).trans q4, (hb.cell (World.block_lt_of_cell? W _ q5)).trans q5, ⟨q6.b.trans (hb.mono q6.b.size)⟩⟩)
  have H0 : Hid (∀ o n, ((w.alloc o).drewN n).cell? ⟨w.heap.size, 0, none⟩ = some (.int .u32 a1) → ((w.alloc o).drewN n).cell? ⟨w.heap.size, 1, none⟩ = some (.int .i64 a2) → SL w ((w.alloc o).drewN n)) := Lib.hid (fun o n _ _ => ⟨below_drw ((Below.refl _ w).alloc (Nat.le_refl _) _) _⟩)
  have HS : Hid (SL w ((w.alloc (.cells #[.int .u32 a1, .int .i64 a2] 38)).drewN 1)) := Lib.hid ⟨below_drw ((Below.refl _ w).alloc (Nat.le_refl _) _) _⟩
  go_enter Try.func84, Try.ntmps84
  go_wp2
  go_region_held3 (fun W => W.cell? ⟨w.heap.size, 0, none⟩ = some (.int .u32 a1) ∧ W.cell? ⟨w.heap.size, 1, none⟩ = some (.int .i64 a2) ∧ W.cell? ⟨c1, 0, none⟩ = some (.int .i64 m) ∧ W.cell? ⟨c2, 0, none⟩ = some (.int .u32 f1) ∧ W.cell? ⟨c2, 1, none⟩ = some (.int .i64 f2) ∧ SL w W) (first | exact ⟨by go_simp, by go_simp, by go_simp, by go_simp, by go_simp, HS.out⟩ | exact HK.out _ _ (by assumption) hb7 | exact HK.out _ _ (by assumption) hb8) (first | (go_at_call 44; (with_reducible refine (HPA.out _).mono ?_); rintro e w7 ⟨rfl, hb7⟩) | (go_at_call 44; (with_reducible refine (HPF.out _).mono ?_); rintro e w8 ⟨rfl, hb8⟩))
  all_goals
    rename_i hS
    go_wp2
    go_ret
    exact ⟨rfl, hS.2.2.2.2.2.b⟩
end Go.Proofs.Ytemlnkcokeckmaa
namespace Go.Proofs.Ytemlnkcokeckmaa
open Go.RowKit
set_option linter.unusedVariables false

/-- a function value that answers by a plain test of an address -/
def TestsA (g : Nat) (lb : Array Value) (q : A2 → Bool) (S : Nat → Prop) (w : World) : Prop :=
  ∀ (a : A2) (W : World), Keeps S w W → Calls Try.prog g (#[adr a] ++ lb) W fun e w' => e = .returned (.bool (q a)) ∧ Below W.heap.size W w'
theorem cellsA_in {w : World} {g : Nat} {C : Array Value} {xs : List A2} (hg : w.heap[g]? = some (.cells C 38 (0, 0))) (ht : C.toList.take (xs.length * 2) = cellsA xs) (j : Nat) (a : A2) (h : xs[j]? = some a) : w.cell? ⟨g, j * 2, none⟩ = some (.int .u32 a.1) ∧ w.cell? ⟨g, j * 2 + 1, none⟩ = some (.int .i64 a.2) := by
  have hj := (List.getElem?_eq_some_iff.1 h).1
  obtain ⟨h1, h2⟩ := cellsA_at h
  rw [← ht, List.getElem?_take_of_lt (by omega)] at h1 h2
  rw [(cells_of hg _).1, (cells_of hg _).1]
  exact ⟨by simpa using h1, by simpa using h2⟩

set_option maxHeartbeats 2000000 in
theorem indexA50_some (cb : Nat) (q : A2 → Bool) (b c : Nat) (xs : List A2) (S : Nat → Prop) (w : World)
    (hp : TestsA 81 #[.pointer (some ⟨cb, 0, none⟩)] q S w) (hbig : xs.length ≤ 1000) (hc : ∀ (j : Nat) (a : A2), xs[j]? = some a → w.cell? ⟨b, j * 2, none⟩ = some (.int .u32 a.1) ∧ w.cell? ⟨b, j * 2 + 1, none⟩ = some (.int .i64 a.2)) :
    Calls Try.prog 102 #[.slice (some ⟨b, 0, none⟩) xs.length c, .func (.func 81) #[] #[.pointer (some ⟨cb, 0, none⟩)]] w fun e w' => e = .returned (.int .i64 (idxP q xs)) ∧ Below w.heap.size w w' := by
  have HP := Lib.hid (fun (a : A2) (W : World) (h : Below w.heap.size w W) => hp a W (.all h)); clear hp
  have HC := Lib.hid hc; clear hc
  go_enter Try.func102, Try.ntmps102
  go_wp2
  go_loopg [5, 8] xs.length (fun gg _ s8 wr => ∃ kk : Nat, kk ≤ xs.length ∧ xs.length - kk ≤ gg ∧ s8 = .int .i64 kk ∧ Hid (Below w.heap.size w wr) ∧ Hid (∀ j, j < kk → ∀ y, xs[j]? = some y → q y = false))
  case atStart => exact ⟨0, Nat.zero_le _, by omega, rfl, Lib.hid (Below.refl _ _), Lib.hid (fun j hj => absurd hj (Nat.not_lt_zero _))⟩
  case round =>
    obtain ⟨kk, hkk, hg, rfl, HB, A⟩ := hrel
    by_cases hlt : kk < xs.length
    · have hltz : (kk : Int) < (xs.length : Int) := by omega
      obtain ⟨a, hpk⟩ : ∃ a, xs[kk]? = some a := ⟨_, List.getElem?_eq_getElem hlt⟩
      obtain ⟨k1, k2⟩ := HC.out kk a hpk
      have l1 := World.block_lt_of_cell? w _ k1
      have d1 := (HB.out.cell (p := ⟨b, kk * 2, none⟩) l1).trans k1
      have d2 := (HB.out.cell (p := ⟨b, kk * 2 + 1, none⟩) l1).trans k2
      have hcall := HP.out a wr HB.out
      have HPK := Lib.hid hpk; clear hpk k1 k2 l1
      unfold adr at hcall
      cases hq : q a with
      | true =>
        rw [hq] at hcall
        have HR : Hid (idxP q xs = (kk : Int)) := Lib.hid (by unfold idxP; rw [idxP_hit HPK.out hq A.out])
        clear hq
        go_wp2_with (go_at_call 81; refine hcall.mono ?_; rintro e w' ⟨rfl, hb⟩; have HB2 := Lib.hid hb; clear hb)
        go_ret
        exact ⟨ret_i HR.out.symm, HB.out.trans (HB2.out.mono HB.out.size)⟩
      | false =>
        rw [hq] at hcall
        have HQ := Lib.hid hq; clear hq
        go_wp2_with (go_at_call 81; refine hcall.mono ?_; rintro e w' ⟨rfl, hb⟩; have HB2 := Lib.hid hb; clear hb)
        go_roundg (xs.length - (kk + 1))
        case measure => omega
        case rel =>
          refine ⟨kk + 1, by omega, by omega, by go_num, Lib.hid (HB.out.trans (HB2.out.mono HB.out.size)), Lib.hid (fun j hj y hy => ?_)⟩
          by_cases e : j = kk
          · subst e
            rw [HPK.out] at hy; cases hy; exact HQ.out
          · exact A.out j (by omega) y hy
    · have hltz : ¬ (kk : Int) < (xs.length : Int) := by omega
      obtain rfl : kk = xs.length := by omega
      have HR : Hid (idxP q xs = -1) := Lib.hid (by unfold idxP; rw [idxP_miss A.out])
      go_wp2
      go_ret
      exact ⟨ret_i HR.out.symm, HB.out⟩

set_option maxHeartbeats 2000000 in
theorem indexA53_some (c1 c2 : Nat) (q : A2 → Bool) (b c : Nat) (xs : List A2) (S : Nat → Prop) (w : World)
    (hp : TestsA 84 #[.pointer (some ⟨c1, 0, none⟩), .pointer (some ⟨c2, 0, none⟩)] q S w) (hbig : xs.length ≤ 1000) (hc : ∀ (j : Nat) (a : A2), xs[j]? = some a → w.cell? ⟨b, j * 2, none⟩ = some (.int .u32 a.1) ∧ w.cell? ⟨b, j * 2 + 1, none⟩ = some (.int .i64 a.2)) :
    Calls Try.prog 102 #[.slice (some ⟨b, 0, none⟩) xs.length c, .func (.func 84) #[] #[.pointer (some ⟨c1, 0, none⟩), .pointer (some ⟨c2, 0, none⟩)]] w fun e w' => e = .returned (.int .i64 (idxP q xs)) ∧ Below w.heap.size w w' := by
  have HP := Lib.hid (fun (a : A2) (W : World) (h : Below w.heap.size w W) => hp a W (.all h)); clear hp
  have HC := Lib.hid hc; clear hc
  go_enter Try.func102, Try.ntmps102
  go_wp2
  go_loopg [5, 8] xs.length (fun gg _ s8 wr => ∃ kk : Nat, kk ≤ xs.length ∧ xs.length - kk ≤ gg ∧ s8 = .int .i64 kk ∧ Hid (Below w.heap.size w wr) ∧ Hid (∀ j, j < kk → ∀ y, xs[j]? = some y → q y = false))
  case atStart => exact ⟨0, Nat.zero_le _, by omega, rfl, Lib.hid (Below.refl _ _), Lib.hid (fun j hj => absurd hj (Nat.not_lt_zero _))⟩
  case round =>
    obtain ⟨kk, hkk, hg, rfl, HB, A⟩ := hrel
    by_cases hlt : kk < xs.length
    · have hltz : (kk : Int) < (xs.length : Int) := by omega
      obtain ⟨a, hpk⟩ : ∃ a, xs[kk]? = some a := ⟨_, List.getElem?_eq_getElem hlt⟩
      obtain ⟨k1, k2⟩ := HC.out kk a hpk
      have l1 := World.block_lt_of_cell? w _ k1
      have d1 := (HB.out.cell (p := ⟨b, kk * 2, none⟩) l1).trans k1
      have d2 := (HB.out.cell (p := ⟨b, kk * 2 + 1, none⟩) l1).trans k2
      have hcall := HP.out a wr HB.out
      have HPK := Lib.hid hpk; clear hpk k1 k2 l1
      unfold adr at hcall
      cases hq : q a with
      | true =>
        rw [hq] at hcall
        have HR : Hid (idxP q xs = (kk : Int)) := Lib.hid (by unfold idxP; rw [idxP_hit HPK.out hq A.out])
        clear hq
        go_wp2_with (go_at_call 84; refine hcall.mono ?_; rintro e w' ⟨rfl, hb⟩; have HB2 := Lib.hid hb; clear hb)
        go_ret
        exact ⟨ret_i HR.out.symm, HB.out.trans (HB2.out.mono HB.out.size)⟩
      | false =>
        rw [hq] at hcall
        have HQ := Lib.hid hq; clear hq
        go_wp2_with (go_at_call 84; refine hcall.mono ?_; rintro e w' ⟨rfl, hb⟩; have HB2 := Lib.hid hb; clear hb)
        go_roundg (xs.length - (kk + 1))
        case measure => omega
        case rel =>
          refine ⟨kk + 1, by omega, by omega, by go_num, Lib.hid (HB.out.trans (HB2.out.mono HB.out.size)), Lib.hid (fun j hj y hy => ?_)⟩
          by_cases e : j = kk
          · subst e
            rw [HPK.out] at hy; cases hy; exact HQ.out
          · exact A.out j (by omega) y hy
    · have hltz : ¬ (kk : Int) < (xs.length : Int) := by omega
      obtain rfl : kk = xs.length := by omega
      have HR : Hid (idxP q xs = -1) := Lib.hid (by unfold idxP; rw [idxP_miss A.out])
      go_wp2
      go_ret
      exact ⟨ret_i HR.out.symm, HB.out⟩

set_option maxHeartbeats 1000000 in
theorem indexA_none (a : Option Addr) (c : Nat) (fv : Value) (w : World) :
    Calls Try.prog 102 #[.slice a 0 c, fv] w fun e w' => e = .returned (.int .i64 (-1)) ∧ w = w' := by
  go_enter Try.func102, Try.ntmps102
  go_wp2
  go_loopg [5, 8] 0 (fun _ _ s8 wr => s8 = .int .i64 0 ∧ wr = w)
  case atStart => exact ⟨rfl, rfl⟩
  case round =>
    obtain ⟨rfl, rfl⟩ := hrel
    go_wp2
    go_ret
    exact ⟨rfl, rfl⟩
theorem idx_any {α : Type} (q : α → Bool) (xs : List α) : decide (0 ≤ idxP q xs) = xs.any q := by
  unfold idxP
  cases h : xs.findIdx? q with
  | none =>
    rw [List.findIdx?_eq_none_iff] at h
    have : xs.any q = false := by rw [List.any_eq_false]; intro x hx; simp [h x hx]
    rw [this]; rfl
  | some k =>
    rw [List.findIdx?_eq_some_iff_getElem] at h
    obtain ⟨hk, ht, _⟩ := h
    have : xs.any q = true := by rw [List.any_eq_true]; exact ⟨_, List.getElem_mem hk, ht⟩
    rw [this]
    show decide (0 ≤ (k : Int)) = true
    simp
/-- slices.ContainsFunc: whether the test holds of one of them -/
theorem contains_any (c1 c2 : Nat) (q : A2 → Bool) (v : Value) (xs : List A2) (S : Nat → Prop) (w : World) (h : w.ownsRow 0 38 2 v xs.length (cellsA xs)) (hbig : xs.length ≤ 1000)
    (hp : TestsA 84 #[.pointer (some ⟨c1, 0, none⟩), .pointer (some ⟨c2, 0, none⟩)] q S w) :
    Calls Try.prog 85 #[v, .func (.func 84) #[] #[.pointer (some ⟨c1, 0, none⟩), .pointer (some ⟨c2, 0, none⟩)]] w fun e w' => e = .returned (.bool (xs.any q)) ∧ Below w.heap.size w w' := by
  have hI : Calls Try.prog 102 #[v, .func (.func 84) #[] #[.pointer (some ⟨c1, 0, none⟩), .pointer (some ⟨c2, 0, none⟩)]] w fun e w' => e = .returned (.int .i64 (idxP q xs)) ∧ Below w.heap.size w w' := by
    rcases h.2 with ⟨rfl, h0⟩ | ⟨g, cap, cur, rfl, hb, hg, hn, hm, hsz, htake⟩
    · obtain rfl := List.eq_nil_of_length_eq_zero h0
      refine (indexA_none _ _ _ w).mono ?_
      rintro e w' ⟨rfl, rfl⟩
      exact ⟨rfl, Below.refl _ _⟩
    · exact indexA53_some c1 c2 q g cap xs S w hp hbig (cellsA_in hg htake)
  have HR := Lib.hid (idx_any q xs)
  generalize idxP q xs = i at *
  generalize xs.any q = r at *
  clear h hp
  go_enter Try.func85, Try.ntmps85
  go_wp2_with (go_at_call 102; refine hI.mono ?_; rintro e w' ⟨rfl, hb⟩; have HB := Lib.hid hb; clear hb)
  go_ret
  exact ⟨ret_b HR.out, HB.out⟩
end Go.Proofs.Ytemlnkcokeckmaa
namespace Go.Proofs.Ytemlnkcokeckmaa
open Go.RowKit
set_option linter.unusedVariables false

theorem zeroCells_len (z : Array Value) (n : Nat) : (Builtin.zeroCells z n).toList.length = n * z.size := by rw [Array.length_toList, size_zeroCells]
theorem zeroCells_one {z : Array Value} {n : Nat} (hz : ∀ v ∈ z.toList, v.oneCell' = true) : ∀ v ∈ (Builtin.zeroCells z n).toList, v.oneCell' = true := by
  intro v hv
  simp only [Builtin.zeroCells, Array.toList_map, List.mem_map, Array.toList_range, List.mem_range] at hv
  obtain ⟨i, hi, rfl⟩ := hv
  rcases Nat.eq_zero_or_pos z.size with h0 | h0
  · rw [h0, Nat.mul_zero] at hi; exact absurd hi (Nat.not_lt_zero _)
  · refine hz _ ?_
    have h1 : i % z.size < z.size := Nat.mod_lt _ h0
    simp [getElem!_pos, h1]
/-- 'clear(s)', s a slice of addresses -/
theorem run_clearA (w : World) (ty : TypeId) (b o n c : Nat) (hn : 0 < n) (hc : ∀ j, j < n * 2 → (w.cell? ⟨b, o + j, none⟩).isSome = true) (hf : ∀ j, j < n * 2 → w.frozen? ⟨b, o + j, none⟩ = false) :
    (Builtin.clear_ #[56] ty #[.slice (some ⟨b, o, none⟩) n c]).run Try.prog w = .ok (.tuple #[]) (w.setCells b o (Builtin.zeroCells #[.int .u32 0, .int .i64 0] n).toList) := by
  have hl := zeroCells_len #[.int .u32 0, .int .i64 0] n
  have hst := run_storeCells_cells (P := Try.prog) b o (Builtin.zeroCells #[.int .u32 0, .int .i64 0] n).toList 0 w (by rw [hl]; simpa using hc) (by rw [hl]; simpa using hf)
    (zeroCells_one (by intro v hv; simp at hv; rcases hv with rfl | rfl <;> rfl))
  simp only [Nat.add_zero] at hst
  have hv : (zeroValue 38).run Try.prog w = .ok (.agg #[.int .u32 0, .int .i64 0]) w := by kernel_rfl
  obtain ⟨m, rfl⟩ : ∃ m, n = m + 1 := ⟨n - 1, by omega⟩
  simp [Builtin.clear_, run_underlying Try.underlying56, hv, Value.cells, hst]
def encA (a : A2) : List Value := [.int .u32 a.1, .int .i64 a.2]
theorem cellsA_flat (l : List A2) : cellsA l = l.flatMap encA := rfl

set_option maxHeartbeats 4000000 in
theorem deleteA_some (cb : Nat) (q : A2 → Bool) (g cap : Nat) (cur : Array Value) (ps : List A2) (w : World) (hg : w.heap[g]? = some (.cells cur 38 (0, 0))) (hn : ps.length ≤ cap) (hm : cap ≤ maxLen) (hsz : cur.size = cap * 2) (htake : cur.toList.take (ps.length * 2) = ps.flatMap encA) (hbig : ps.length ≤ 1000)
    (hp : TestsA 81 #[.pointer (some ⟨cb, 0, none⟩)] q (fun k => k = g) w) :
    Calls Try.prog 80 #[.slice (some ⟨g, 0, none⟩) ps.length cap, .func (.func 81) #[] #[.pointer (some ⟨cb, 0, none⟩)]] w fun e w' => ∃ n' cur', e = .returned (.slice (some ⟨g, 0, none⟩) n' cap) ∧ n' = (ps.filter (fun p => !q p)).length ∧ w'.heap[g]? = some (.cells cur' 38 (0, 0)) ∧ cur'.size = cap * 2 ∧ cur'.toList.take (n' * 2) = (ps.filter (fun p => !q p)).flatMap encA ∧ Keeps (fun k => k = g) w w' := by
  have hI := indexA50_some cb q g cap ps (fun k => k = g) w hp hbig (cellsA_in hg (by rw [htake, cellsA_flat]))
  unfold maxLen at hm
  cases hf : ps.findIdx? q with
  | none =>
    have e1 : idxP q ps = -1 := by unfold idxP; rw [hf]
    rw [e1] at hI
    have e2 : ps.filter (fun p => !q p) = ps := by
      rw [List.filter_eq_self]
      intro p hpm
      rw [List.findIdx?_eq_none_iff] at hf
      simp [hf p hpm]
    have HR : Hid (ps.filter (fun p => !q p) = ps) := Lib.hid e2
    have HG := Lib.hid hg; have HT := Lib.hid htake
    clear hg htake e2 hp hf e1
    go_enter Try.func80, Try.ntmps80
    go_wp2_with (go_at_call 102; refine hI.mono ?_; rintro e w1 ⟨rfl, hb1⟩; have HB1 := Lib.hid hb1; clear hb1)
    go_ret
    exact ⟨_, cur, rfl, by rw [HR.out], (HB1.out.block _ (Array.getElem?_eq_some_iff.1 HG.out).1).trans HG.out, hsz, by rw [HR.out]; exact HT.out, .all HB1.out⟩
  | some k0 =>
    have e1 : idxP q ps = (k0 : Int) := by unfold idxP; rw [hf]
    rw [e1] at hI
    rw [List.findIdx?_eq_some_iff_getElem] at hf
    obtain ⟨hk0, ht, hall⟩ := hf
    have hst : KI encA 2 q ps k0 (k0 + 1) cur := KI.start (x := ps[k0]) (fun t h1 y hy => by
      obtain ⟨h2, h3⟩ := List.getElem?_eq_some_iff.1 hy
      have := hall t h1
      rw [h3] at this
      simpa using this) (List.getElem?_eq_getElem hk0) ht (fun _ => rfl) htake
    have HST := Lib.hid hst
    have HP := Lib.hid hp
    have HG := Lib.hid hg
    clear hst hp hall ht htake e1 hg
    go_enter Try.func80, Try.ntmps80
    go_wp2_with (go_at_call 102; refine hI.mono ?_; rintro e w1 ⟨rfl, hb1⟩; have HB1 := Lib.hid hb1; clear hb1)
    go_loopg [5, 6, 7] ps.length (fun gg s5 s6 _ wr => ∃ (i j : Nat) (ck : Array Value), s5 = .int .i64 i ∧ s6 = .int .i64 j ∧ i < j ∧ j ≤ ps.length ∧ ps.length - j ≤ gg ∧ Hid (wr.heap[g]? = some (.cells ck 38 (0, 0))) ∧ Hid (ck.size = cap * 2) ∧ Hid (Keeps (fun k => k = g) w wr) ∧ Hid (KI encA 2 q ps i j ck))
    case atStart => exact ⟨k0, k0 + 1, cur, rfl, by go_num, by omega, by omega, by omega, Lib.hid ((HB1.out.block _ (Array.getElem?_eq_some_iff.1 HG.out).1).trans HG.out), Lib.hid hsz, Lib.hid (.all HB1.out), HST⟩
    case round =>
      obtain ⟨i, j, ck, rfl, rfl, hij, hjn, hgg, HCK, HSZ, HK, HKI⟩ := hrel
      by_cases hlt : j < ps.length
      · have hltz : (j : Int) < (ps.length : Int) := by omega
        obtain ⟨p, hpj⟩ : ∃ p, ps[j]? = some p := ⟨_, List.getElem?_eq_getElem hlt⟩
        obtain ⟨cj, cj2⟩ : wr.cell? ⟨g, j * 2, none⟩ = some (.int .u32 p.1) ∧ wr.cell? ⟨g, j * 2 + 1, none⟩ = some (.int .i64 p.2) := by
          rw [(cells_of HCK.out _).1, (cells_of HCK.out _).1, HKI.out.high (j * 2) (by omega) (by omega), HKI.out.high (j * 2 + 1) (by omega) (by omega), ← cellsA_flat]
          exact cellsA_at hpj
        have hlg : g < wr.heap.size := (Array.getElem?_eq_some_iff.1 HCK.out).1
        have hcall := fun W (hW : Below wr.heap.size wr W) => HP.out p W (HK.out.trans (.all hW))
        have HCALL := Lib.hid hcall; clear hcall
        have HPJ := Lib.hid hpj; clear hpj
        unfold adr at HCALL
        have li : i < ps.length := by omega
        cases hq : q p with
        | false =>
          rw [hq] at HCALL
          have HQ := Lib.hid hq; clear hq
          have hB0 : Below wr.heap.size wr (wr.alloc (.cells #[.int .u32 p.1, .int .i64 p.2] 38)) := (Below.refl _ _).alloc (Nat.le_refl _) _
          have HCL := Lib.hid (HCALL.out _ hB0)
          have HB0 := Lib.hid hB0
          clear hB0
          go_wp2_with fail
          refine HCL.out.mono ?_
          rintro e w2 ⟨rfl, hb2⟩
          have v0 := (hb2.cell (p := ⟨wr.heap.size, 0, none⟩) (by simp))
          have v1 := (hb2.cell (p := ⟨wr.heap.size, 1, none⟩) (by simp))
          have hb3 : Below wr.heap.size wr w2 := HB0.out.trans (hb2.mono HB0.out.size)
          have HCK2 : Hid (w2.heap[g]? = some (.cells ck 38 (0, 0))) := Lib.hid ((hb3.block g hlg).trans HCK.out)
          have HK2 : Hid (Keeps (fun k => k = g) w w2) := Lib.hid (HK.out.trans (.all hb3))
          clear hb2 hb3
          obtain ⟨u, ci⟩ : ∃ u, w2.cell? ⟨g, i * 2, none⟩ = some u := by
            rw [(cells_of HCK2.out _).1]
            exact ⟨_, Array.getElem?_eq_getElem (by have := HSZ.out; omega)⟩
          obtain ⟨u2, ci2⟩ : ∃ u, w2.cell? ⟨g, i * 2 + 1, none⟩ = some u := by
            rw [(cells_of HCK2.out _).1]
            exact ⟨_, Array.getElem?_eq_getElem (by have := HSZ.out; omega)⟩
          have fi := (cells_of HCK2.out (i * 2)).2
          have fi2 := (cells_of HCK2.out (i * 2 + 1)).2
          go_wp2
          go_roundg (ps.length - (j + 1))
          case measure => omega
          case rel =>
            refine ⟨i + 1, j + 1, (ck.setIfInBounds (i * 2) (.int .u32 p.1)).setIfInBounds (i * 2 + 1) (.int .i64 p.2), by go_num, by go_num, by omega, by omega, Nat.le_refl _, Lib.hid (heap_setCell_same _ g _ _ 38 _ (heap_setCell_same _ g _ ck 38 _ HCK2.out)), Lib.hid (by have := HSZ.out; simpa using this), Lib.hid ((HK2.out.set g _ _ rfl).set g _ _ rfl), Lib.hid ?_⟩
            refine HKI.out.keep HPJ.out HQ.out rfl (fun t ht => ?_) (fun t ht => ?_)
            · have hs := HSZ.out
              rcases (show t = 0 ∨ t = 1 by omega) with rfl | rfl
              · simp only [Nat.add_zero]; rw [Array.getElem?_setIfInBounds_ne (by omega), Array.getElem?_setIfInBounds_self, if_pos (by omega)]; rfl
              · rw [Array.getElem?_setIfInBounds_self, if_pos (by simp; omega)]; rfl
            · rw [Array.getElem?_setIfInBounds_ne (by omega), Array.getElem?_setIfInBounds_ne (by omega)]
        | true =>
          rw [hq] at HCALL
          have HQ := Lib.hid hq; clear hq
          have hB0 : Below wr.heap.size wr (wr.alloc (.cells #[.int .u32 p.1, .int .i64 p.2] 38)) := (Below.refl _ _).alloc (Nat.le_refl _) _
          have HCL := Lib.hid (HCALL.out _ hB0)
          have HB0 := Lib.hid hB0
          clear hB0
          go_wp2_with fail
          refine HCL.out.mono ?_
          rintro e w2 ⟨rfl, hb2⟩
          have v0 := (hb2.cell (p := ⟨wr.heap.size, 0, none⟩) (by simp))
          have v1 := (hb2.cell (p := ⟨wr.heap.size, 1, none⟩) (by simp))
          have hb3 : Below wr.heap.size wr w2 := HB0.out.trans (hb2.mono HB0.out.size)
          have HCK2 : Hid (w2.heap[g]? = some (.cells ck 38 (0, 0))) := Lib.hid ((hb3.block g hlg).trans HCK.out)
          have HK2 : Hid (Keeps (fun k => k = g) w w2) := Lib.hid (HK.out.trans (.all hb3))
          clear hb2 hb3
          go_wp2
          go_roundg (ps.length - (j + 1))
          case measure => omega
          case rel => exact ⟨i, j + 1, ck, rfl, by go_num, by omega, by omega, Nat.le_refl _, HCK2, HSZ, HK2, Lib.hid (HKI.out.skip HPJ.out HQ.out)⟩
      · obtain rfl : j = ps.length := by omega
        have hltz : ¬ (ps.length : Int) < (ps.length : Int) := by omega
        have hcl : ∀ ty, (Builtin.clear_ #[56] ty #[.slice (some ⟨g, i * 2, none⟩) (ps.length - i) (cap - i)]).run Try.prog wr = .ok (.tuple #[]) (wr.setCells g (i * 2) (Builtin.zeroCells #[.int .u32 0, .int .i64 0] (ps.length - i)).toList) :=
          fun ty => run_clearA wr ty g (i * 2) _ _ (by omega) (fun t ht => by rw [(cells_of HCK.out _).1, Array.getElem?_eq_getElem (by have := HSZ.out; omega)]; rfl) (fun t ht => (cells_of HCK.out _).2)
        have HEND : Hid (i = (ps.filter (fun p => !q p)).length ∧ ∃ cur', (wr.setCells g (i * 2) (Builtin.zeroCells #[.int .u32 0, .int .i64 0] (ps.length - i)).toList).heap[g]? = some (.cells cur' 38 (0, 0)) ∧ cur'.size = cap * 2 ∧ cur'.toList.take (i * 2) = (ps.filter (fun p => !q p)).flatMap encA ∧ Keeps (fun k => k = g) w (wr.setCells g (i * 2) (Builtin.zeroCells #[.int .u32 0, .int .i64 0] (ps.length - i)).toList)) := Lib.hid (by
          obtain ⟨h1, h2⟩ := HKI.out.done
          obtain ⟨C', c1, c2, c3⟩ := setCells_obj (Builtin.zeroCells #[.int .u32 0, .int .i64 0] (ps.length - i)).toList (i * 2) wr ck HCK.out
          refine ⟨h1, C', c1, c2.trans HSZ.out, ?_, HK.out.trans (setCells_keeps _ _ _)⟩
          rw [← h2]
          refine List.ext_getElem? fun t => ?_
          by_cases ht : t < i * 2
          · rw [List.getElem?_take_of_lt ht, List.getElem?_take_of_lt ht]
            simpa using c3 t (by omega)
          · rw [List.getElem?_take_eq_none (by omega), List.getElem?_take_eq_none (by omega)])
        have l1 : (i : Int) ≤ (ps.length : Int) := by omega
        have l2 : (i : Int) ≤ (cap : Int) := by omega
        have l3 : ¬ cap - i = 0 := by omega
        go_wp2
        go_ret
        exact ⟨_, rfl, HEND.out.1, HEND.out.2⟩

set_option maxHeartbeats 1000000 in
theorem deleteA_none (fv : Value) (w : World) :
    Calls Try.prog 80 #[.slice none 0 0, fv] w fun e w' => e = .returned (.slice none 0 0) ∧ w = w' := by
  go_enter Try.func80, Try.ntmps80
  go_wp2_with (go_at_call 102; refine (indexA_none _ _ _ _).mono ?_; rintro e w' ⟨rfl, rfl⟩)
  go_ret
  exact ⟨rfl, rfl⟩
theorem deleteA (cb : Nat) (q : A2 → Bool) (v : Value) (xs : List A2) (w : World) (h : w.ownsRow 0 38 2 v xs.length (cellsA xs)) (hbig : xs.length ≤ 1000)
    (hp : TestsA 81 #[.pointer (some ⟨cb, 0, none⟩)] q (fun k => v.ownBlock = some k) w) :
    Calls Try.prog 80 #[v, .func (.func 81) #[] #[.pointer (some ⟨cb, 0, none⟩)]] w fun e w' => ∃ v', e = .returned v' ∧ v'.ownBlock = v.ownBlock ∧ w'.ownsRow 0 38 2 v' (xs.filter (fun p => !q p)).length (cellsA (xs.filter (fun p => !q p))) ∧ Keeps (fun k => v.ownBlock = some k) w w' := by
  rcases h.2 with ⟨rfl, h0⟩ | ⟨g, cap, cur, rfl, hb, hg, hn, hm, hsz, htake⟩
  · obtain rfl := List.eq_nil_of_length_eq_zero h0
    refine (deleteA_none _ w).mono ?_
    rintro e w' ⟨rfl, rfl⟩
    exact ⟨_, rfl, rfl, World.ownsRow_nil _ _ _ _, Keeps.refl _ _⟩
  · have e : (fun k => Value.ownBlock (.slice (some ⟨g, 0, none⟩) xs.length cap) = some k) = (fun k => k = g) := by
      funext k; exact propext ⟨fun h => (Option.some.inj h).symm, fun h => by rw [h]; rfl⟩
    rw [e] at hp ⊢
    refine (deleteA_some cb q g cap cur xs w hg hn hm hsz (by rw [htake, cellsA_flat]) hbig hp).mono ?_
    rintro e w' ⟨n', cur', rfl, rfl, h1, h2, h3, h4⟩
    have h5 := List.length_filter_le (fun p => !q p) xs
    exact ⟨_, rfl, rfl, ⟨by rw [cellsA_len], .inr ⟨g, cap, cur', rfl, Nat.zero_le _, h1, by omega, hm, h2, by rw [h3, cellsA_flat]⟩⟩, h4⟩
end Go.Proofs.Ytemlnkcokeckmaa
namespace Go.Proofs.Ytemlnkcokeckmaa
open Go.RowKit
attribute [local go_sem] Oper.semAt_some
set_option linter.unusedVariables false

theorem info38 : (Try.prog.info? 38).map (fun i => (i.zero, i.size, i.bytes)) = some (some (.agg #[.int .u32 0, .int .i64 0]), 2, 16) := by kernel_rfl
theorem info_parts {t : TypeId} {z : Value} {s b : Nat} (h : (Try.prog.info? t).map (fun i => (i.zero, i.size, i.bytes)) = some (some z, s, b)) : ∃ i, Try.prog.info? t = some i ∧ i.zero = some z ∧ i.size = s ∧ i.bytes = b := by
  cases hi : Try.prog.info? t with
  | none => rw [hi] at h; cases h
  | some i =>
    rw [hi] at h
    simp only [Option.map_some, Option.some.injEq, Prod.mk.injEq] at h
    exact ⟨i, rfl, h.1, h.2.1, h.2.2⟩
theorem add_spot (b o k : Nat) : (⟨b, o, none⟩ : Addr).add k = ⟨b, o + k, none⟩ := by unfold Addr.add; split <;> simp_all
/-- an append of which the run is known, as one step of a region that draws its order -/
theorem step_run {W : World} {ops : Array Oper} {o : Oper} {a : Act} {K : Act → World → Prop} {Q : Exit → Act → World → Prop} {E : Prop} (hf : o.guard = none) (s x : Operand) (t : TypeId)
    (ho : o.op = .call { callee := .builtin .append, args := #[s, x], argTypes := #[t, t] }) {v1 v2 v : Value} {W' : World} (hs : a.eval s = v1) (hx : a.eval x = v2)
    (hrun : (Builtin.append_ #[t, t] o.type #[v1, v2]).run Try.prog W = .ok v W') (h : K (a.put o.dst v) W') :
    if Region.wanted o (yielded ops a.tmps) = true then Oper.wp Try.prog o a W K Q else E := by
  rw [if_pos (by simp [Region.wanted, hf])]
  unfold Oper.wp
  simp [execOp, ho, resolve, invoke, builtin, hs, hx, hrun, Result.andThen]
  exact h
/-- an append of which the run is known, at the head of a row of operations -/
theorem wpList_run {w w' : World} {ops : Array Oper} {rest : List Oper} {o : Oper} {a : Act} {Q : Exit → Act → World → Prop} (hgd : o.guard = none) (s x : Operand) (t : TypeId)
    (ho : o.op = .call { callee := .builtin .append, args := #[s, x], argTypes := #[t, t] }) {v1 v2 v : Value} (hs : a.eval s = v1) (hx : a.eval x = v2)
    (hr : ∀ ty, (Builtin.append_ #[t, t] ty #[v1, v2]).run Try.prog w = .ok v w') (h : wpList Try.prog ops Q rest (a.put o.dst v) w') : wpList Try.prog ops Q (o :: rest) a w := by
  refine wpList_plain hgd fun K hK => ?_
  unfold Oper.wp execOp
  simp only [ho, resolve, invoke, builtin, Sem.run_bind, Sem.run_pure, Result.andThen_ok, List.map_toArray, List.map_cons, List.map_nil, hs, hx, hr]
  exact hK _ _ h
/-- fifteen addresses are moved down by one -/
theorem moved {w : World} {g cap : Nat} {cur : Array Value} {xs : List A2} (hg : w.heap[g]? = some (.cells cur 38 (0, 0))) (hl : xs.length = 16) (hcap : 16 ≤ cap) (hsz : cur.size = cap * 2) (ht : cur.toList.take (16 * 2) = cellsA xs) :
    ∃ C, (∀ ty q, (Builtin.append_ #[56, 56] ty #[.slice (some ⟨g, 0, none⟩) 0 cap, .slice (some ⟨g, 2, none⟩) 15 (cap - 1)]).run Try.prog (w.drewN q) = .ok (.slice (some ⟨g, 0, none⟩) 15 cap) ((w.drewN q).setRow g C)) ∧ C.size = cap * 2 ∧ C.toList.take (15 * 2) = cellsA (xs.drop 1) := by
  obtain ⟨i0, hi0, hz0, hz1, hz2⟩ := info_parts info38
  have hl1 : (xs.drop 1).length = 15 := by rw [List.length_drop, hl]
  have hln : (cellsA (xs.drop 1)).length = 15 * 2 := by rw [cellsA_len, hl1]
  have hnews : ∀ (q j : Nat) u, (cellsA (xs.drop 1))[j]? = some u → (w.drewN q).cell? ((⟨g, 2, none⟩ : Addr).add j) = some u := by
    intro q j u hj
    have hj2 := (List.getElem?_eq_some_iff.1 hj).1
    have hx : cellsA xs = cellsA (xs.take 1) ++ cellsA (xs.drop 1) := by rw [← cellsA_append, List.take_append_drop]
    have h1 : (cellsA (xs.take 1)).length = 2 := by rw [cellsA_len, List.length_take]; omega
    rw [add_spot, (cells_of (w := w.drewN q) hg _).1]
    have h2 : (cellsA xs)[2 + j]? = some u := by rw [hx, List.getElem?_append_right (by omega), h1]; simpa using hj
    rw [← ht, List.getElem?_take_of_lt (by omega)] at h2
    simpa using h2
  refine ⟨_, fun ty q => (run_append_room (P := Try.prog) (w.drewN q) 56 ty 38 i0 Try.underlying56 hi0 g 0 cap cur hg ⟨g, 2, none⟩ 15 (cap - 1) (cellsA (xs.drop 1)) (by rw [hz1]; exact hln) (hnews q) (cellsA_one _) (by omega) (by rw [hz1]; omega)).trans rfl, ?_, ?_⟩
  · simp only [hz1, Nat.zero_mul, List.take_zero, List.nil_append, Nat.zero_add, List.size_toArray, List.length_append, List.length_drop, Array.length_toList, hln, hsz]
    omega
  · simp only [hz1, Nat.zero_mul, List.take_zero, List.nil_append, Nat.zero_add]
    rw [← hln, List.take_left]

theorem moved2 (g cap : Nat) (cur : Array Value) (xs : List A2) (w : World) (hg : w.heap[g]? = some (.cells cur 38 (0, 0))) (hl : xs.length = 16) (hcap : 16 ≤ cap) (hm : cap ≤ maxLen) (hsz : cur.size = cap * 2) (ht : cur.toList.take (16 * 2) = cellsA xs) :
    ∃ W1 W2, (∀ ty, (Builtin.append_ #[56, 56] ty #[.slice (some ⟨g, 0, none⟩) 0 cap, .slice (some ⟨g, 2, none⟩) 15 (cap - 1)]).run Try.prog (w.drewN 1) = .ok (.slice (some ⟨g, 0, none⟩) 15 cap) W1) ∧
      (∀ ty, (Builtin.clear_ #[56] ty #[.slice (some ⟨g, 30, none⟩) 1 (cap - 15)]).run Try.prog W1 = .ok (.tuple #[]) W2) ∧ W2.ownsRow 0 38 2 (.slice (some ⟨g, 0, none⟩) 15 cap) 15 (cellsA (xs.drop 1)) ∧ Keeps (fun k => k = g) w W2 := by
  obtain ⟨C, hA, h1, h2⟩ := moved hg hl hcap hsz ht
  have hgC : ∀ q, ((w.drewN q).setRow g C).heap[g]? = some (.cells C 38 (0, 0)) := fun q => setRow_heap (w.drewN q) g cur C 38 (0, 0) hg
  have hK : ∀ q, Keeps (fun k => k = g) w ((w.drewN q).setRow g C) := fun q => ⟨rfl, rfl, rfl, by simp, fun k _ hn => setRow_other (w.drewN q) g k C hn⟩
  have hcl : ∀ ty q, (Builtin.clear_ #[56] ty #[.slice (some ⟨g, 30, none⟩) 1 (cap - 15)]).run Try.prog ((w.drewN q).setRow g C) = .ok (.tuple #[]) (((w.drewN q).setRow g C).setCells g 30 (Builtin.zeroCells #[.int .u32 0, .int .i64 0] 1).toList) :=
    fun ty q => run_clearA _ ty g 30 1 _ (by omega) (fun t ht => by rw [(cells_of (hgC q) _).1, Array.getElem?_eq_getElem (by omega)]; rfl) (fun t ht => (cells_of (hgC q) _).2)
  have HE : (∀ q, (((w.drewN q).setRow g C).setCells g 30 (Builtin.zeroCells #[.int .u32 0, .int .i64 0] 1).toList).ownsRow 0 38 2 (.slice (some ⟨g, 0, none⟩) 15 cap) 15 (cellsA (xs.drop 1)) ∧ Keeps (fun k => k = g) w (((w.drewN q).setRow g C).setCells g 30 (Builtin.zeroCells #[.int .u32 0, .int .i64 0] 1).toList)) := (fun q => by
    obtain ⟨C', c1, c2, c3⟩ := setCells_obj (Builtin.zeroCells #[.int .u32 0, .int .i64 0] 1).toList 30 _ C (hgC q)
    refine ⟨⟨by rw [cellsA_len, List.length_drop, hl], .inr ⟨g, cap, C', rfl, Nat.zero_le _, c1, by omega, hm, by omega, ?_⟩⟩, (hK q).trans (setCells_keeps _ _ _)⟩
    rw [← h2]
    refine List.ext_getElem? fun t => ?_
    by_cases ht : t < 30
    · rw [List.getElem?_take_of_lt (by omega), List.getElem?_take_of_lt (by omega)]
      simpa using c3 t ht
    · rw [List.getElem?_take_eq_none (by omega), List.getElem?_take_eq_none (by omega)])
  exact ⟨_, _, fun ty => hA ty 1, fun ty => hcl ty 1, (HE 1).1, (HE 1).2⟩
set_option maxRecDepth 100000 in
set_option maxHeartbeats 2000000 in
theorem delete1 (g cap : Nat) (cur : Array Value) (xs : List A2) (w : World) (hg : w.heap[g]? = some (.cells cur 38 (0, 0))) (hl : xs.length = 16) (hcap : 16 ≤ cap) (hm : cap ≤ maxLen) (hsz : cur.size = cap * 2) (ht : cur.toList.take (16 * 2) = cellsA xs) :
    Calls Try.prog 82 #[.slice (some ⟨g, 0, none⟩) 16 cap, .int .i64 0, .int .i64 1] w fun e w' => e = .returned (.slice (some ⟨g, 0, none⟩) 15 cap) ∧ w'.ownsRow 0 38 2 (.slice (some ⟨g, 0, none⟩) 15 cap) 15 (cellsA (xs.drop 1)) ∧ Keeps (fun k => k = g) w w' := by
  obtain ⟨W1, W2, hA, hcl1, h1, h2⟩ := moved2 g cap cur xs w hg hl hcap hm hsz ht
  have HA : Hid (∀ ty, (Builtin.append_ #[56, 56] ty #[.slice (some ⟨g, 0, none⟩) 0 cap, .slice (some ⟨g, 2, none⟩) 15 (cap - 1)]).run Try.prog w.drew = .ok (.slice (some ⟨g, 0, none⟩) 15 cap) W1) := Lib.hid hA
  have HE := Lib.hid (And.intro h1 h2)
  clear hg ht hA h1 h2 hl hsz
  unfold maxLen at hm
  have l1 : (16 : Int) ≤ (cap : Int) := by omega
  have l2 : ¬ cap - 1 = 0 := by omega
  have l6 : ¬ cap = 1 := by omega
  have l7 : ¬ cap = 15 := by omega
  have l3 : ¬ cap - 15 = 0 := by omega
  have l4 : (15 : Int) ≤ (cap : Int) := by omega
  have l5 : (1 : Int) ≤ (cap : Int) := by omega
  go_enter Try.func82, Try.ntmps82
  go_wp2
  refine wp_region_still_tail 6 (by kernel_rfl) (by kernel_rfl) ?_
  change wpStill _ _ w.drew (fun a => wpList _ _ _ _ a w.drew) _ _
  generalize w.drew = V at *
  simp only [List.take_succ_cons, List.take_zero, List.drop_succ_cons, List.drop_zero]
  repeat still_step
  refine wpStill_nil ?_
  refine wpList_run rfl (.tmp 22) (.tmp 25) 56 rfl (v1 := .slice (some ⟨g, 0, none⟩) 0 cap) (v2 := .slice (some ⟨g, 2, none⟩) 15 (cap - 1)) rfl rfl HA.out ?_
  go_wp2
  go_ret
  exact ⟨rfl, HE.out⟩
end Go.Proofs.Ytemlnkcokeckmaa
