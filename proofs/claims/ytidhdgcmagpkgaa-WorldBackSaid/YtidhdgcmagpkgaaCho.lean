/-
  The contract of nat's choose: the port that is chosen for a wish. Conditions: the box may be made so, and lies in memory; at most 1000 bindings.
-/
import Derived.Test.YtidhdgcmagpkgaaBx
import Derived.Test.YtidhdgcmagpkgaaGos
namespace Go.Proofs.Ytidhdgcmagpkgaa
open Go.RowKit
attribute [local go_sem] Oper.semAt_some
set_option linter.unusedVariables false

/-- has no binding this port? -/
def freeM (M : List Bn) (p : Int) : Bool := M.all fun b => decide (b.port ≠ p)
/-- the wish, if it is one of the box's ports -/
def wish0 (x : Bx) (s : Int) : Int := if s < x.lo ∨ x.hi < s then x.lo else s
/-- the ports that are tried, one by one -/
def cand (x : Bx) (s : Int) (k : Nat) : Int := if k = 0 then wish0 x s else x.lo + ((k - 1 : Nat) : Int)
def ports (x : Bx) : Nat := (x.hi - x.lo + 1).toNat
def chooseM (x : Bx) (M : List Bn) (s : Int) : Option Int := ((List.range (ports x + 1)).find? (fun k => freeM M (cand x s k))).map (cand x s)
theorem choose_some {x : Bx} {M : List Bn} {s : Int} {k : Nat} (hk : k < ports x + 1) (hf : freeM M (cand x s k) = true) (hb : ∀ j, j < k → freeM M (cand x s j) = false) : chooseM x M s = some (cand x s k) := by
  unfold chooseM
  have : (List.range (ports x + 1)).find? (fun k => freeM M (cand x s k)) = some k := by
    rw [List.find?_range_eq_some]
    exact ⟨hf, by simpa using hk, fun j hj => by simp [hb j hj]⟩
  rw [this]; rfl
theorem choose_none {x : Bx} {M : List Bn} {s : Int} (hb : ∀ j, j < ports x + 1 → freeM M (cand x s j) = false) : chooseM x M s = none := by
  unfold chooseM
  have : (List.range (ports x + 1)).find? (fun k => freeM M (cand x s k)) = none := by
    rw [List.find?_eq_none]
    intro j hj
    simp [hb j (List.mem_range.1 hj)]
  rw [this]; rfl
def choV (o : Option Int) : Value := .tuple #[.int .i64 (o.getD 0), .bool o.isSome]
def NoneAt (L : List Nd) (p : Int) (k : Nat) : Prop := ∀ (j : Nat) (d : Nd), j < k → L[j]? = some d → d.b.port ≠ p
theorem NoneAt.zero (L : List Nd) (p : Int) : NoneAt L p 0 := fun j _ h => by omega
theorem NoneAt.succ {L : List Nd} {p : Int} {k : Nat} {d : Nd} (h : NoneAt L p k) (hk : L[k]? = some d) (hd : ¬ d.b.port = p) : NoneAt L p (k + 1) := fun j e hj he => by
  rcases Nat.lt_or_ge j k with h' | h'
  · exact h j e h' he
  · obtain rfl : j = k := by omega
    rw [hk] at he; cases he; exact hd
theorem NoneAt.free {L : List Nd} {p : Int} (h : NoneAt L p L.length) : freeM (L.map Nd.b) p = true := by
  unfold freeM
  rw [List.all_eq_true]
  intro b hb
  obtain ⟨d, hd, rfl⟩ := List.mem_map.1 hb
  obtain ⟨j, hj, rfl⟩ := List.getElem_of_mem hd
  simpa using h j _ hj (List.getElem?_eq_getElem hj)
theorem taken {L : List Nd} {p : Int} {k : Nat} {d : Nd} (hk : L[k]? = some d) (hd : d.b.port = p) : freeM (L.map Nd.b) p = false := by
  unfold freeM
  rw [List.all_eq_false]
  exact ⟨d.b, List.mem_map.2 ⟨d, List.mem_of_getElem? hk, rfl⟩, by simp [hd]⟩

set_option maxRecDepth 100000 in
set_option maxHeartbeats 4000000 in
theorem choose_any (nb : Nat) (x : Bx) (now : Int) (kv : Value) (L : List Nd) (s : Int) (w : World) (h : Na w nb x now kv L) (hbig : L.length ≤ 1000) (hlo : 1 ≤ x.lo) (hlh : x.lo ≤ x.hi) (hhi : x.hi ≤ 65535) :
    Calls Try.prog 59 #[.pointer (some ⟨nb, 0, none⟩), .int .i64 s] w fun e w' => e = .returned (choV (chooseM x (L.map Nd.b) s)) ∧ ∃ n, w' = w.drewN n := by
  have c1 := h.cells.1.2.1
  have c2 := h.cells.1.2.2.1
  have c7 := h.cells.2.1
  have H := Lib.hid h
  have HROW := Lib.hid h.rowAt
  clear h
  have HW : Hid (∀ k, cand x s k = if k = 0 then wish0 x s else x.lo + ((k - 1 : Nat) : Int)) := Lib.hid (fun _ => rfl)
  have HP : Hid ((ports x : Int) = x.hi - x.lo + 1) := Lib.hid (by unfold ports; omega)
  have hw0 : x.lo ≤ wish0 x s ∧ wish0 x s ≤ x.hi := by unfold wish0; split <;> omega
  by_cases hs : s < x.lo ∨ x.hi < s
  · have HW0 : Hid (wish0 x s = x.lo) := Lib.hid (if_pos hs)
    rcases hs with hs1 | hs1
    · obtain ⟨n, hn⟩ : ∃ n, n = ports x := ⟨_, rfl⟩
      rw [← hn] at HP
      have HN := Lib.hid hn
      have HB := hw0
      clear hn
      generalize x.lo = lo at *
      generalize x.hi = hi at *
      have hnn := HP.out
      rcases HROW.out with ⟨rfl, rfl⟩ | ⟨g, cap, cur, rfl, hg, hnc, hm2, hcs, hcell⟩
      · have HR : Hid (chooseM x (([] : List Nd).map Nd.b) s = some (cand x s 0)) := Lib.hid (choose_some (by omega) rfl (fun j hj => by omega))
        have HC0 : Hid (cand x s 0 = wish0 x s) := Lib.hid (by rw [HW.out]; rfl)
        rw [HR.out, HC0.out, HW0.out]
        unfold choV
        go_enter Try.func59, Try.ntmps59
        go_wp2
        go_step3
        go_wp2
        go_step3
        go_wp2
        go_quiet (fail)
        go_wp2
        go_loopg [6, 7] 0 (fun gg s6 s7 wr => s6 = .int .i64 lo ∧ s7 = .int .i64 lo ∧ ∃ q, wr = w.drewN q)
        case atStart => exact ⟨rfl, rfl, _, rfl⟩
        case round =>
          obtain ⟨rfl, rfl, q, rfl⟩ := hrel
          go_wp2
          go_loopg [52] 0 (fun _ s52 wr => s52 = .int .i64 0 ∧ wr = w.drewN q)
          case atStart => exact ⟨rfl, rfl⟩
          case round =>
            obtain ⟨rfl, rfl⟩ := hrel
            go_wp2
            rw [Exit.noGoto_ret]
            go_ret2
            exact ⟨rfl, _, rfl⟩
      · have HCELL : Hid (∀ (j : Nat) (d : Nd), L[j]? = some d → w.cell? ⟨g, j, none⟩ = some (.pointer (some ⟨d.p, 0, none⟩)) ∧ w.cell? ⟨d.p, 4, none⟩ = some (.int .i64 d.b.port)) := Lib.hid (fun j d hj => ⟨by rw [(cells_of hg j).1]; exact hcell j d hj, (H.out.nds d (List.mem_of_getElem? hj)).cells.1.2.2.2.2.1⟩)
        clear hcell hcs hg
        have HNONE : Hid ((∀ j, j < n + 1 → freeM (L.map Nd.b) (cand x s j) = false) → chooseM x (L.map Nd.b) s = none) := Lib.hid (fun h => choose_none (by rw [← HN.out]; exact h))
        have HSOME : Hid (∀ k, k < n + 1 → freeM (L.map Nd.b) (cand x s k) = true → (∀ j, j < k → freeM (L.map Nd.b) (cand x s j) = false) → chooseM x (L.map Nd.b) s = some (cand x s k)) := Lib.hid (fun k h1 h2 h3 => choose_some (by rw [← HN.out]; exact h1) h2 h3)
        generalize chooseM x (L.map Nd.b) s = res at *
        go_enter Try.func59, Try.ntmps59
        go_wp2
        go_step3
        go_wp2
        go_step3
        go_wp2
        go_quiet (fail)
        go_wp2
        go_loopg [6, 7] (n + 2) (fun gg s6 s7 wr => ∃ k q : Nat, k ≤ n + 1 ∧ n + 1 - k ≤ gg ∧ s6 = .int .i64 (cand x s k) ∧ s7 = .int .i64 (lo + (k : Int)) ∧ wr = w.drewN q ∧ Hid (∀ j, j < k → freeM (L.map Nd.b) (cand x s j) = false))
        case atStart => exact ⟨0, _, by omega, by omega, by rw [HW.out, if_pos rfl, HW0.out], by simp, rfl, Lib.hid (fun j hj => by omega)⟩
        case round =>
          obtain ⟨k, q, hk, hgg, rfl, rfl, rfl, HB2⟩ := hrel
          have HCK := Lib.hid (HW.out k)
          have HCK1 := Lib.hid (HW.out (k + 1))
          have hck : k ≤ n → cand x s k ≤ hi := fun h => by
            rw [HCK.out]; split
            · exact HB.2
            · omega
          have hck2 : k = n + 1 → ¬ cand x s k ≤ hi := fun h => by
            rw [HCK.out, if_neg (by omega)]; omega
          have HNX : Hid (cand x s (k + 1) = lo + (k : Int)) := Lib.hid (by rw [HCK1.out, if_neg (by omega)]; congr 1)
          generalize hcv : cand x s k = cv at *
          have HCV := Lib.hid hcv
          clear hcv HCK HCK1
          by_cases hkn : k ≤ n
          · have h1 := hck hkn
            clear hck hck2
            go_wp2
            go_loopg [52] L.length (fun g2 s52 wr => ∃ i : Nat, i ≤ L.length ∧ L.length - i ≤ g2 ∧ s52 = .int .i64 i ∧ wr = w.drewN q ∧ Hid (NoneAt L cv i))
            case atStart => exact ⟨0, by omega, by omega, rfl, rfl, Lib.hid (NoneAt.zero _ _)⟩
            case round =>
              obtain ⟨i, hi2, hg2, rfl, rfl, HNA⟩ := hrel
              by_cases hlt : i < L.length
              · have hltz : (i : Int) < (L.length : Int) := by omega
                obtain ⟨d, hd⟩ : ∃ d, L[i]? = some d := ⟨_, List.getElem?_eq_getElem hlt⟩
                obtain ⟨k0, k1⟩ := HCELL.out i d hd
                by_cases hp : d.b.port = cv
                · have HT := Lib.hid (taken hd hp)
                  rw [hp] at k1
                  clear hd hp
                  go_wp2
                  go_roundg (n + 1 - (k + 1))
                  case measure => omega
                  case rel => exact ⟨k + 1, q, by omega, by omega, by rw [HNX.out], by go_num, rfl, Lib.hid (fun j hj => by
                    rcases Nat.lt_or_ge j k with h' | h'
                    · exact HB2.out j h'
                    · obtain rfl : j = k := by omega
                      rw [HCV.out]; exact HT.out)⟩
                · have HS2 := Lib.hid (HNA.out.succ hd hp)
                  have hp2 : (d.b.port == cv) = false := by simpa using hp
                  clear hd hp
                  go_wp2
                  go_roundg (L.length - (i + 1))
                  case measure => omega
                  case rel => exact ⟨i + 1, by omega, by omega, by go_num, rfl, HS2⟩
              · have hltz : ¬ (i : Int) < (L.length : Int) := by omega
                obtain rfl : i = L.length := by omega
                have HR := Lib.hid (HSOME.out k (by omega) (by rw [HCV.out]; exact HNA.out.free) HB2.out)
                go_wp2
                go_ret2
                exact ⟨by rw [HR.out, HCV.out]; rfl, _, rfl⟩
          · have h1 := hck2 (by omega)
            have HR := Lib.hid (HNONE.out (fun j hj => HB2.out j (by omega)))
            clear hck hck2
            go_wp2
            go_ret2
            exact ⟨by rw [HR.out]; rfl, _, rfl⟩
    · have hs2 : ¬ s < x.lo := by omega
      obtain ⟨n, hn⟩ : ∃ n, n = ports x := ⟨_, rfl⟩
      rw [← hn] at HP
      have HN := Lib.hid hn
      have HB := hw0
      clear hn
      generalize x.lo = lo at *
      generalize x.hi = hi at *
      have hnn := HP.out
      rcases HROW.out with ⟨rfl, rfl⟩ | ⟨g, cap, cur, rfl, hg, hnc, hm2, hcs, hcell⟩
      · have HR : Hid (chooseM x (([] : List Nd).map Nd.b) s = some (cand x s 0)) := Lib.hid (choose_some (by omega) rfl (fun j hj => by omega))
        have HC0 : Hid (cand x s 0 = wish0 x s) := Lib.hid (by rw [HW.out]; rfl)
        rw [HR.out, HC0.out, HW0.out]
        unfold choV
        go_enter Try.func59, Try.ntmps59
        go_wp2
        go_step3
        go_wp2
        go_step3
        go_wp2
        go_quiet (fail)
        go_wp2
        go_loopg [6, 7] 0 (fun gg s6 s7 wr => s6 = .int .i64 lo ∧ s7 = .int .i64 lo ∧ ∃ q, wr = w.drewN q)
        case atStart => exact ⟨rfl, rfl, _, rfl⟩
        case round =>
          obtain ⟨rfl, rfl, q, rfl⟩ := hrel
          go_wp2
          go_loopg [52] 0 (fun _ s52 wr => s52 = .int .i64 0 ∧ wr = w.drewN q)
          case atStart => exact ⟨rfl, rfl⟩
          case round =>
            obtain ⟨rfl, rfl⟩ := hrel
            go_wp2
            rw [Exit.noGoto_ret]
            go_ret2
            exact ⟨rfl, _, rfl⟩
      · have HCELL : Hid (∀ (j : Nat) (d : Nd), L[j]? = some d → w.cell? ⟨g, j, none⟩ = some (.pointer (some ⟨d.p, 0, none⟩)) ∧ w.cell? ⟨d.p, 4, none⟩ = some (.int .i64 d.b.port)) := Lib.hid (fun j d hj => ⟨by rw [(cells_of hg j).1]; exact hcell j d hj, (H.out.nds d (List.mem_of_getElem? hj)).cells.1.2.2.2.2.1⟩)
        clear hcell hcs hg
        have HNONE : Hid ((∀ j, j < n + 1 → freeM (L.map Nd.b) (cand x s j) = false) → chooseM x (L.map Nd.b) s = none) := Lib.hid (fun h => choose_none (by rw [← HN.out]; exact h))
        have HSOME : Hid (∀ k, k < n + 1 → freeM (L.map Nd.b) (cand x s k) = true → (∀ j, j < k → freeM (L.map Nd.b) (cand x s j) = false) → chooseM x (L.map Nd.b) s = some (cand x s k)) := Lib.hid (fun k h1 h2 h3 => choose_some (by rw [← HN.out]; exact h1) h2 h3)
        generalize chooseM x (L.map Nd.b) s = res at *
        go_enter Try.func59, Try.ntmps59
        go_wp2
        go_step3
        go_wp2
        go_step3
        go_wp2
        go_quiet (fail)
        go_wp2
        go_loopg [6, 7] (n + 2) (fun gg s6 s7 wr => ∃ k q : Nat, k ≤ n + 1 ∧ n + 1 - k ≤ gg ∧ s6 = .int .i64 (cand x s k) ∧ s7 = .int .i64 (lo + (k : Int)) ∧ wr = w.drewN q ∧ Hid (∀ j, j < k → freeM (L.map Nd.b) (cand x s j) = false))
        case atStart => exact ⟨0, _, by omega, by omega, by rw [HW.out, if_pos rfl, HW0.out], by simp, rfl, Lib.hid (fun j hj => by omega)⟩
        case round =>
          obtain ⟨k, q, hk, hgg, rfl, rfl, rfl, HB2⟩ := hrel
          have HCK := Lib.hid (HW.out k)
          have HCK1 := Lib.hid (HW.out (k + 1))
          have hck : k ≤ n → cand x s k ≤ hi := fun h => by
            rw [HCK.out]; split
            · exact HB.2
            · omega
          have hck2 : k = n + 1 → ¬ cand x s k ≤ hi := fun h => by
            rw [HCK.out, if_neg (by omega)]; omega
          have HNX : Hid (cand x s (k + 1) = lo + (k : Int)) := Lib.hid (by rw [HCK1.out, if_neg (by omega)]; congr 1)
          generalize hcv : cand x s k = cv at *
          have HCV := Lib.hid hcv
          clear hcv HCK HCK1
          by_cases hkn : k ≤ n
          · have h1 := hck hkn
            clear hck hck2
            go_wp2
            go_loopg [52] L.length (fun g2 s52 wr => ∃ i : Nat, i ≤ L.length ∧ L.length - i ≤ g2 ∧ s52 = .int .i64 i ∧ wr = w.drewN q ∧ Hid (NoneAt L cv i))
            case atStart => exact ⟨0, by omega, by omega, rfl, rfl, Lib.hid (NoneAt.zero _ _)⟩
            case round =>
              obtain ⟨i, hi2, hg2, rfl, rfl, HNA⟩ := hrel
              by_cases hlt : i < L.length
              · have hltz : (i : Int) < (L.length : Int) := by omega
                obtain ⟨d, hd⟩ : ∃ d, L[i]? = some d := ⟨_, List.getElem?_eq_getElem hlt⟩
                obtain ⟨k0, k1⟩ := HCELL.out i d hd
                by_cases hp : d.b.port = cv
                · have HT := Lib.hid (taken hd hp)
                  rw [hp] at k1
                  clear hd hp
                  go_wp2
                  go_roundg (n + 1 - (k + 1))
                  case measure => omega
                  case rel => exact ⟨k + 1, q, by omega, by omega, by rw [HNX.out], by go_num, rfl, Lib.hid (fun j hj => by
                    rcases Nat.lt_or_ge j k with h' | h'
                    · exact HB2.out j h'
                    · obtain rfl : j = k := by omega
                      rw [HCV.out]; exact HT.out)⟩
                · have HS2 := Lib.hid (HNA.out.succ hd hp)
                  have hp2 : (d.b.port == cv) = false := by simpa using hp
                  clear hd hp
                  go_wp2
                  go_roundg (L.length - (i + 1))
                  case measure => omega
                  case rel => exact ⟨i + 1, by omega, by omega, by go_num, rfl, HS2⟩
              · have hltz : ¬ (i : Int) < (L.length : Int) := by omega
                obtain rfl : i = L.length := by omega
                have HR := Lib.hid (HSOME.out k (by omega) (by rw [HCV.out]; exact HNA.out.free) HB2.out)
                go_wp2
                go_ret2
                exact ⟨by rw [HR.out, HCV.out]; rfl, _, rfl⟩
          · have h1 := hck2 (by omega)
            have HR := Lib.hid (HNONE.out (fun j hj => HB2.out j (by omega)))
            clear hck hck2
            go_wp2
            go_ret2
            exact ⟨by rw [HR.out]; rfl, _, rfl⟩
  · have HW0 : Hid (wish0 x s = s) := Lib.hid (if_neg hs)
    have hs1 : ¬ s < x.lo := fun h => hs (.inl h)
    have hs2 : ¬ x.hi < s := fun h => hs (.inr h)
    clear hs
    obtain ⟨n, hn⟩ : ∃ n, n = ports x := ⟨_, rfl⟩
    rw [← hn] at HP
    have HN := Lib.hid hn
    have HB := hw0
    clear hn
    generalize x.lo = lo at *
    generalize x.hi = hi at *
    have hnn := HP.out
    rcases HROW.out with ⟨rfl, rfl⟩ | ⟨g, cap, cur, rfl, hg, hnc, hm2, hcs, hcell⟩
    · have HR : Hid (chooseM x (([] : List Nd).map Nd.b) s = some (cand x s 0)) := Lib.hid (choose_some (by omega) rfl (fun j hj => by omega))
      have HC0 : Hid (cand x s 0 = wish0 x s) := Lib.hid (by rw [HW.out]; rfl)
      rw [HR.out, HC0.out, HW0.out]
      unfold choV
      go_enter Try.func59, Try.ntmps59
      go_wp2
      go_step3
      go_wp2
      go_step3
      go_wp2
      go_quiet (fail)
      go_wp2
      go_loopg [6, 7] 0 (fun gg s6 s7 wr => s6 = .int .i64 s ∧ s7 = .int .i64 lo ∧ ∃ q, wr = w.drewN q)
      case atStart => exact ⟨rfl, rfl, _, rfl⟩
      case round =>
        obtain ⟨rfl, rfl, q, rfl⟩ := hrel
        go_wp2
        go_loopg [52] 0 (fun _ s52 wr => s52 = .int .i64 0 ∧ wr = w.drewN q)
        case atStart => exact ⟨rfl, rfl⟩
        case round =>
          obtain ⟨rfl, rfl⟩ := hrel
          go_wp2
          rw [Exit.noGoto_ret]
          go_ret2
          exact ⟨rfl, _, rfl⟩
    · have HCELL : Hid (∀ (j : Nat) (d : Nd), L[j]? = some d → w.cell? ⟨g, j, none⟩ = some (.pointer (some ⟨d.p, 0, none⟩)) ∧ w.cell? ⟨d.p, 4, none⟩ = some (.int .i64 d.b.port)) := Lib.hid (fun j d hj => ⟨by rw [(cells_of hg j).1]; exact hcell j d hj, (H.out.nds d (List.mem_of_getElem? hj)).cells.1.2.2.2.2.1⟩)
      clear hcell hcs hg
      have HNONE : Hid ((∀ j, j < n + 1 → freeM (L.map Nd.b) (cand x s j) = false) → chooseM x (L.map Nd.b) s = none) := Lib.hid (fun h => choose_none (by rw [← HN.out]; exact h))
      have HSOME : Hid (∀ k, k < n + 1 → freeM (L.map Nd.b) (cand x s k) = true → (∀ j, j < k → freeM (L.map Nd.b) (cand x s j) = false) → chooseM x (L.map Nd.b) s = some (cand x s k)) := Lib.hid (fun k h1 h2 h3 => choose_some (by rw [← HN.out]; exact h1) h2 h3)
      generalize chooseM x (L.map Nd.b) s = res at *
      go_enter Try.func59, Try.ntmps59
      go_wp2
      go_step3
      go_wp2
      go_step3
      go_wp2
      go_quiet (fail)
      go_wp2
      go_loopg [6, 7] (n + 2) (fun gg s6 s7 wr => ∃ k q : Nat, k ≤ n + 1 ∧ n + 1 - k ≤ gg ∧ s6 = .int .i64 (cand x s k) ∧ s7 = .int .i64 (lo + (k : Int)) ∧ wr = w.drewN q ∧ Hid (∀ j, j < k → freeM (L.map Nd.b) (cand x s j) = false))
      case atStart => exact ⟨0, _, by omega, by omega, by rw [HW.out, if_pos rfl, HW0.out], by simp, rfl, Lib.hid (fun j hj => by omega)⟩
      case round =>
        obtain ⟨k, q, hk, hgg, rfl, rfl, rfl, HB2⟩ := hrel
        have HCK := Lib.hid (HW.out k)
        have HCK1 := Lib.hid (HW.out (k + 1))
        have hck : k ≤ n → cand x s k ≤ hi := fun h => by
          rw [HCK.out]; split
          · exact HB.2
          · omega
        have hck2 : k = n + 1 → ¬ cand x s k ≤ hi := fun h => by
          rw [HCK.out, if_neg (by omega)]; omega
        have HNX : Hid (cand x s (k + 1) = lo + (k : Int)) := Lib.hid (by rw [HCK1.out, if_neg (by omega)]; congr 1)
        generalize hcv : cand x s k = cv at *
        have HCV := Lib.hid hcv
        clear hcv HCK HCK1
        by_cases hkn : k ≤ n
        · have h1 := hck hkn
          clear hck hck2
          go_wp2
          go_loopg [52] L.length (fun g2 s52 wr => ∃ i : Nat, i ≤ L.length ∧ L.length - i ≤ g2 ∧ s52 = .int .i64 i ∧ wr = w.drewN q ∧ Hid (NoneAt L cv i))
          case atStart => exact ⟨0, by omega, by omega, rfl, rfl, Lib.hid (NoneAt.zero _ _)⟩
          case round =>
            obtain ⟨i, hi2, hg2, rfl, rfl, HNA⟩ := hrel
            by_cases hlt : i < L.length
            · have hltz : (i : Int) < (L.length : Int) := by omega
              obtain ⟨d, hd⟩ : ∃ d, L[i]? = some d := ⟨_, List.getElem?_eq_getElem hlt⟩
              obtain ⟨k0, k1⟩ := HCELL.out i d hd
              by_cases hp : d.b.port = cv
              · have HT := Lib.hid (taken hd hp)
                rw [hp] at k1
                clear hd hp
                go_wp2
                go_roundg (n + 1 - (k + 1))
                case measure => omega
                case rel => exact ⟨k + 1, q, by omega, by omega, by rw [HNX.out], by go_num, rfl, Lib.hid (fun j hj => by
                  rcases Nat.lt_or_ge j k with h' | h'
                  · exact HB2.out j h'
                  · obtain rfl : j = k := by omega
                    rw [HCV.out]; exact HT.out)⟩
              · have HS2 := Lib.hid (HNA.out.succ hd hp)
                have hp2 : (d.b.port == cv) = false := by simpa using hp
                clear hd hp
                go_wp2
                go_roundg (L.length - (i + 1))
                case measure => omega
                case rel => exact ⟨i + 1, by omega, by omega, by go_num, rfl, HS2⟩
            · have hltz : ¬ (i : Int) < (L.length : Int) := by omega
              obtain rfl : i = L.length := by omega
              have HR := Lib.hid (HSOME.out k (by omega) (by rw [HCV.out]; exact HNA.out.free) HB2.out)
              go_wp2
              go_ret2
              exact ⟨by rw [HR.out, HCV.out]; rfl, _, rfl⟩
        · have h1 := hck2 (by omega)
          have HR := Lib.hid (HNONE.out (fun j hj => HB2.out j (by omega)))
          clear hck hck2
          go_wp2
          go_ret2
          exact ⟨by rw [HR.out]; rfl, _, rfl⟩
end Go.Proofs.Ytidhdgcmagpkgaa
