/-
  What the statements' walks take: Bytes of a message that may be, FromBytes of bytes that are one, or none. Conditions: as each states.
-/
import Derived.Test.YtebgfiibcmnfnaaDoorAwake
namespace Go.Proofs.YtebgfiibcmnfnaaDoor
open Go.RowKit
set_option linter.unusedVariables false

theorem law_bytes (m : Wi.Msg) (x1 x2 x3 : Value) (w : World) (hv : MsgV w x1 x2 x3 m) (hT : Tb w) (hm : Wi.may m = true) :
    Calls Tryd.prog 11 #[.agg #[.int .i64 m.kind, x1, x2, x3]] w fun e w' => ∃ g c, e = .returned (.slice (some ⟨g, 0, none⟩) (Wi.bytes m).length c) ∧ (Wi.bytes m).length ≤ c ∧ c ≤ maxLen ∧ w.heap.size ≤ g ∧ g < w'.heap.size ∧
      w'.ownsRow w.heap.size 5 1 (.slice (some ⟨g, 0, none⟩) (Wi.bytes m).length c) (Wi.bytes m).length (B (Wi.bytes m)) ∧ Bts w' (some ⟨g, 0, none⟩) (Wi.bytes m).length (Wi.bytes m) ∧ Below w.heap.size w w' := by
  refine (bytes_msg_ok m x1 x2 x3 w hv hT hm).mono ?_
  rintro e w' ⟨r, rfl, ho, hb⟩
  have hl := (Wi.bytes_len hm).1
  obtain ⟨g, c, rfl, h1, h2, h3⟩ := own_some ho (by omega)
  obtain ⟨A, c', e', _, _, hbt⟩ := own_form ho (Wi.bytes_bd hv.wf hm)
  cases e'
  exact ⟨g, c, rfl, h2, h3, h1, (ho.lt g rfl).2, ho, hbt, hb⟩
theorem law_read (A : Option Addr) (n c : Nat) (zs : List Int) (m : Wi.Msg) (w : World) (hb : Bts w A n zs) (h1 : n ≤ c) (h2 : c ≤ maxLen) (h3 : A = none → n = 0 ∧ c = 0) (hT : Tb w) (hz : zs.length ≤ 1000000) (hr : Wi.read zs = some m) :
    Calls Tryd.prog 18 #[.slice A n c] w fun e w' => ∃ x1 x2 x3, e = .returned (.tuple #[.agg #[.int .i64 m.kind, x1, x2, x3], .int .i64 0]) ∧ MsgV w' x1 x2 x3 m ∧ Below w.heap.size w w' := by
  refine (from_any A n c zs w hb h1 h2 h3 hT hz).mono ?_
  rintro e w' ⟨m', x1, x2, x3, hv, hbe, ⟨rfl, hr'⟩ | ⟨_, hr', _⟩⟩
  · rw [hr] at hr'
    cases hr'
    exact ⟨x1, x2, x3, rfl, hv, hbe⟩
  · rw [hr] at hr'
    cases hr'
theorem law_none (A : Option Addr) (n c : Nat) (zs : List Int) (w : World) (hb : Bts w A n zs) (h1 : n ≤ c) (h2 : c ≤ maxLen) (h3 : A = none → n = 0 ∧ c = 0) (hT : Tb w) (hz : zs.length ≤ 1000000) (hr : Wi.read zs = none) :
    Calls Tryd.prog 18 #[.slice A n c] w fun e w' => ∃ x1 x2 x3, e = .returned (.tuple #[.agg #[.int .i64 0, x1, x2, x3], .int .i64 3]) ∧ MsgV w' x1 x2 x3 noMsg ∧ Below w.heap.size w w' := by
  refine (from_any A n c zs w hb h1 h2 h3 hT hz).mono ?_
  rintro e w' ⟨m', x1, x2, x3, hv, hbe, ⟨_, hr'⟩ | ⟨rfl, hr', rfl⟩⟩
  · rw [hr] at hr'
    cases hr'
  · exact ⟨x1, x2, x3, rfl, hv, hbe⟩
theorem MsgV.forms {w : World} {x1 x2 x3 : Value} {m : Wi.Msg} (h : MsgV w x1 x2 x3 m) : ∃ A1 c1 A2 c2 A3 c3, x1 = .slice A1 m.nums.length c1 ∧ x2 = .slice A2 m.addrs.length c2 ∧ x3 = .slice A3 m.body.length c3 := by
  obtain ⟨⟨A1, c1, rfl, _⟩, ⟨A2, c2, rfl, _⟩, ⟨A3, c3, rfl, _⟩, _⟩ := h
  exact ⟨_, _, _, _, _, _, rfl, rfl, rfl⟩
theorem small_bd {m : Wi.Msg} (h : Wi.may m = true) : small m = true := by
  obtain ⟨h1, h2, h3, _⟩ := Wi.may_iff.1 h
  have := Wi.numsOf_bd m.kind
  unfold small
  simp
  omega
theorem drewN_below {w W : World} (h : ∃ q, W = w.drewN q) : Below w.heap.size w W := by
  obtain ⟨q, rfl⟩ := h
  exact below_drewN' (Below.refl _ _) q
end Go.Proofs.YtebgfiibcmnfnaaDoor
