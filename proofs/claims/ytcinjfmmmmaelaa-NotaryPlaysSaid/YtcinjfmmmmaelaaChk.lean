/-
  The contract of embrasure/notary's Check, over a notary that stands for a list of entries. Conditions: as each states.
-/
import Derived.Test.YtcinjfmmmmaelaaNota
namespace Go.Proofs.Ytcinjfmmmmaelaa
open Go.RowKit Go.Maps
set_option linter.unusedVariables false

theorem Nota.form {w : World} {S : Nat → Prop} {nb : Nat} {L : List Item} (h : Nota w S nb L) : ∃ A c, w.cell? ⟨nb, 1, none⟩ = some (.slice A L.length c) ∧
    ∀ k x, L[k]? = some x → ∃ g, A = some ⟨g, 0, none⟩ ∧ g < w.heap.size ∧ w.cell? ⟨g, k * 2, none⟩ = some (.int .i64 x.1) ∧ w.cell? ⟨g, k * 2 + 1, none⟩ = some (.string (str x.2)) := by
  obtain ⟨bm, v, D, h1, h2, h3, h4, h5, h6, h7⟩ := h
  have c1 := (cells_of h4 1).1
  simp at c1
  rcases h6.2 with ⟨rfl, e⟩ | ⟨g, cap, cur, rfl, _, hg, hle, hm, hsz, hcur⟩
  · exact ⟨none, 0, by rw [c1, e], fun k x hk => by have := (List.getElem?_eq_some_iff.1 hk).1; omega⟩
  · refine ⟨_, cap, c1, fun k x hk => ⟨g, rfl, (Array.getElem?_eq_some_iff.1 hg).1, ?_⟩⟩
    obtain ⟨e1, e2⟩ := cellsL_at L k x hk
    have hkl := (List.getElem?_eq_some_iff.1 hk).1
    rw [(cells_of hg (k * 2)).1, (cells_of hg (k * 2 + 1)).1]
    rw [← hcur] at e1 e2
    rw [List.getElem?_take_of_lt (by omega)] at e1 e2
    exact ⟨by simpa using e1, by simpa using e2⟩

theorem u64_in {a : Int} (h0 : 0 ≤ a) (h1 : a < 18446744073709551616) : IntKind.u64.wrap a = a := by
  simp [IntKind.wrap, IntKind.bits, IntKind.signed]
  omega

theorem noGuard48 : Try.prog.eqGuardType Try.prog.depth 48 = false := by kernel_rfl
theorem str_toList {xs ys : List Int} (hx : Bd xs) (hy : Bd ys) (h : (str xs).toList = (str ys).toList) : xs = ys := by
  rw [ByteArray.toList_eq, ByteArray.toList_eq] at h
  exact str_inj hx hy (by
    have : (str xs).data = (str ys).data := Array.toList_inj.1 h
    cases hs : str xs; cases ht : str ys
    rw [hs, ht] at this
    simpa using this)
/-- what Check answers -/
def checkL (L : List Item) (x : Item) (T : Nat) : Int := if 1 ≤ T ∧ L[T - 1]? = some x then 0 else 12

set_option maxHeartbeats 1000000 in
theorem check_zero (nb : Nat) (p : Int) (A : Option Addr) (n c : Nat) (w : World) :
    Calls Try.prog 10 #[.pointer (some ⟨nb, 0, none⟩), .int .i64 p, .slice A n c, .int .u64 0] w fun e w' => e = .returned (.int .i64 12) ∧ ∃ q, w' = w.drewN q := by
  go_enter Try.func10, Try.ntmps10
  go_wp2
  go_quiet (fail)
  go_wp2
  go_ret
  exact ⟨rfl, _, rfl⟩

set_option maxHeartbeats 1000000 in
theorem check_over (nb : Nat) (S : Nat → Prop) (L : List Item) (p : Int) (A : Option Addr) (n c T : Nat) (w : World) (h : Nota w S nb L) (hL : L.length ≤ 1000000) (hT : L.length < T) (hT2 : T < 18446744073709551616) :
    Calls Try.prog 10 #[.pointer (some ⟨nb, 0, none⟩), .int .i64 p, .slice A n c, .int .u64 (T : Int)] w fun e w' => e = .returned (.int .i64 12) ∧ ∃ q, w' = w.drewN q := by
  obtain ⟨Ae, ce, c1, _⟩ := h.form
  have hnb := h.size
  have t1 : decide ((T : Int) < 1) = false := by simp; omega
  have t2 : decide ((L.length : Int) < (T : Int)) = true := by simp; omega
  clear h
  go_enter Try.func10, Try.ntmps10
  go_wp2
  go_quiet (fail)
  go_wp2
  go_ret
  exact ⟨rfl, _, rfl⟩

def chk (y x : Item) : Int := if y = x then 0 else 12
set_option maxHeartbeats 1000000 in
theorem check_in (nb g m ce : Nat) (p q : Int) (A : Option Addr) (n c k : Nat) (zs ys : List Int) (w : World) (hnb : nb < w.heap.size) (c1 : w.cell? ⟨nb, 1, none⟩ = some (.slice (some ⟨g, 0, none⟩) m ce)) (hm2 : m ≤ 1000000) (hk : k < m) (hg : g < w.heap.size)
    (d0 : w.cell? ⟨g, k * 2, none⟩ = some (.int .i64 q)) (d1 : w.cell? ⟨g, k * 2 + 1, none⟩ = some (.string (str ys))) (hb : Bts w A n zs) (hy : Bd ys) :
    Calls Try.prog 10 #[.pointer (some ⟨nb, 0, none⟩), .int .i64 p, .slice A n c, .int .u64 ((k : Int) + 1)] w fun e w' => e = .returned (.int .i64 (chk (q, ys) (p, zs))) ∧ ∃ q, w' = w.drewN q := by
  have t1 : decide (((k : Int) + 1) < 1) = false := by simp; omega
  have t2 : decide ((m : Int) < ((k : Int) + 1)) = false := by simp; omega
  have hcv : ∀ q, (convert 31 9 (.slice A n c)).run Try.prog (w.drewN q) = .ok (.string (str zs)) (w.drewN q) := fun q => conv_str (hb.drewN q)
  have e1 : IntKind.u64.wrap (m : Int) = (m : Int) := u64_in (by omega) (by omega)
  have e2 : IntKind.u64.wrap (k : Int) = (k : Int) := u64_in (by omega) (by omega)
  have hm := noGuard48
  have e3 : (k : Int) < (m : Int) := by omega
  by_cases h1 : q = p
  · subst h1
    by_cases h2 : ys = zs
    · subst h2
      clear hb hy
      go_enter Try.func10, Try.ntmps10
      go_wp2
      go_quiet (fail)
      go_wp2
      go_ret
      exact ⟨ret_int (by simp [chk]), _, rfl⟩
    · have h3 : ¬ (str ys).toList = (str zs).toList := fun e => h2 (str_toList hy hb.bd e)
      have H2 := Lib.hid h2
      clear hb hy h2
      go_enter Try.func10, Try.ntmps10
      go_wp2
      go_quiet (fail)
      go_wp2
      go_ret
      exact ⟨ret_int (by simp [chk, H2.out]), _, rfl⟩
  · clear hb hy
    go_enter Try.func10, Try.ntmps10
    go_wp2
    go_quiet (fail)
    go_wp2
    go_ret
    exact ⟨ret_int (by simp [chk, h1]), _, rfl⟩

theorem check_any (nb : Nat) (S : Nat → Prop) (L : List Item) (p : Int) (A : Option Addr) (n c T : Nat) (zs : List Int) (w : World) (h : Nota w S nb L) (hL : L.length ≤ 1000000) (hb : Bts w A n zs) (hT : T < 18446744073709551616) :
    Calls Try.prog 10 #[.pointer (some ⟨nb, 0, none⟩), .int .i64 p, .slice A n c, .int .u64 (T : Int)] w fun e w' => e = .returned (.int .i64 (checkL L (p, zs) T)) ∧ ∃ q, w' = w.drewN q := by
  rcases Nat.eq_zero_or_pos T with h0 | h0
  · subst h0
    exact (check_zero nb p A n c w).mono fun e w' h => ⟨by rw [h.1]; rfl, h.2⟩
  · obtain ⟨k, rfl⟩ : ∃ k, T = k + 1 := ⟨T - 1, by omega⟩
    by_cases hk : k < L.length
    · have hy : L[k]? = some L[k] := List.getElem?_eq_getElem hk
      have hg : Bd (L[k]).2 := by
        obtain ⟨bm, v, D, _, _, _, _, _, _, h7⟩ := h
        exact (h7.good _ (List.getElem_mem hk)).2.1
      obtain ⟨Ae, ce, c1, hc⟩ := h.form
      obtain ⟨g, rfl, hgl, d0, d1⟩ := hc k _ hy
      refine (check_in nb g L.length ce p (L[k]).1 A n c k zs (L[k]).2 w h.size c1 hL hk hgl d0 d1 hb hg).mono fun e w' h => ⟨?_, h.2⟩
      rw [h.1]
      unfold checkL chk
      rw [show k + 1 - 1 = k by omega, hy]
      by_cases e : L[k] = (p, zs)
      · simp [e]
      · simp [e]
    · refine (check_over nb S L p A n c (k + 1) w h hL (by omega) hT).mono fun e w' h => ⟨?_, h.2⟩
      rw [h.1]
      unfold checkL
      rw [show k + 1 - 1 = k by omega, List.getElem?_eq_none (by omega)]
      simp

end Go.Proofs.Ytcinjfmmmmaelaa
