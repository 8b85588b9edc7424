/-
  Numbers as bytes, the greatest first, and back; contracts of the small functions of pmp and of the document's own: fits, in, Big, Num. Conditions: as each lemma states.
-/
import Derived.Test.YtfaekiopmfnpkaaQSame
namespace Go.Proofs.Ytfaekiopmfnpkaa.Pp
open Go.RowKit
set_option linter.unusedVariables false

def W64 (n : Int) : Prop := -9223372036854775808 ≤ n ∧ n ≤ 9223372036854775807
/-- a number's last bytes, the greatest first -/
def be : Nat → Int → List Int
  | 0, _ => []
  | n + 1, v => (v / 256 ^ n % 256) :: be n v
def nu (l : List Int) : Int := l.foldl (fun v c => v * 256 + c) 0
@[simp] theorem be_length (n : Nat) (v : Int) : (be n v).length = n := by induction n with
  | zero => rfl
  | succ n ih => simp [be, ih]
theorem be_bd (n : Nat) (v : Int) : ∀ z ∈ be n v, 0 ≤ z ∧ z ≤ 255 := by
  induction n with
  | zero => intro z hz; cases hz
  | succ n ih =>
    intro z hz
    rcases List.mem_cons.1 hz with rfl | h
    · omega
    · exact ih z h
theorem be_at {n k : Nat} (v : Int) (h : k < n) : (be n v)[k]? = some (v / 256 ^ (n - 1 - k) % 256) := by
  induction n generalizing k with
  | zero => omega
  | succ n ih =>
    cases k with
    | zero => simp [be]
    | succ k => simp only [be, List.getElem?_cons_succ]; rw [ih (by omega)]; congr 4; omega
theorem be_take {n k : Nat} (v : Int) (h : k < n) : (be n v).take (k + 1) = (be n v).take k ++ [v / 256 ^ (n - 1 - k) % 256] := by
  rw [List.take_add_one, be_at v h]; rfl
theorem be_snoc (n : Nat) (v : Int) : be (n + 1) v = be n (v / 256) ++ [v % 256] := by
  induction n with
  | zero => simp [be]
  | succ n ih =>
    have e : v / 256 ^ (n + 1) = v / 256 / 256 ^ n := by
      rw [Int.pow_succ, Int.mul_comm, Int.ediv_ediv_of_nonneg (by decide)]
    show (v / 256 ^ (n + 1) % 256) :: be (n + 1) v = ((v / 256) / 256 ^ n % 256) :: be n (v / 256) ++ [v % 256]
    rw [ih, e]; rfl
theorem nu_snoc (l : List Int) (c : Int) : nu (l ++ [c]) = nu l * 256 + c := by simp [nu]
theorem nu_nil : nu [] = 0 := rfl
theorem snocRec {P : List Int → Prop} (h0 : P []) (h1 : ∀ l c, P l → P (l ++ [c])) (l : List Int) : P l := by
  have h : ∀ m : List Int, P m.reverse := by
    intro m
    induction m with
    | nil => simpa using h0
    | cons c m ih => rw [List.reverse_cons]; exact h1 _ _ ih
  have := h l.reverse
  rwa [List.reverse_reverse] at this
theorem nu_bd {l : List Int} (h : ∀ z ∈ l, 0 ≤ z ∧ z ≤ 255) : 0 ≤ nu l ∧ nu l < 256 ^ l.length := by
  revert h
  refine snocRec (P := fun l => (∀ z ∈ l, 0 ≤ z ∧ z ≤ 255) → 0 ≤ nu l ∧ nu l < 256 ^ l.length) (fun _ => by simp [nu]) (fun l c ih h => ?_) l
  have h1 := ih (fun z hz => h z (by simp [hz]))
  have h2 := h c (by simp)
  rw [nu_snoc, List.length_append, List.length_singleton, Int.pow_succ]
  omega
theorem nu_be (n : Nat) (v : Int) (h0 : 0 ≤ v) (h : v < 256 ^ n) : nu (be n v) = v := by
  induction n generalizing v with
  | zero => simp at h; simp [be, nu]; omega
  | succ n ih =>
    rw [be_snoc, nu_snoc, ih (v / 256) (by omega) (by rw [Int.pow_succ] at h; omega)]
    omega
theorem be_nu {l : List Int} (h : ∀ z ∈ l, 0 ≤ z ∧ z ≤ 255) : be l.length (nu l) = l := by
  revert h
  refine snocRec (P := fun l => (∀ z ∈ l, 0 ≤ z ∧ z ≤ 255) → be l.length (nu l) = l) (fun _ => rfl) (fun l c ih h => ?_) l
  have h1 := ih (fun z hz => h z (by simp [hz]))
  have h2 := h c (by simp)
  rw [List.length_append, List.length_singleton, be_snoc, nu_snoc]
  have e1 : (nu l * 256 + c) / 256 = nu l := by omega
  have e2 : (nu l * 256 + c) % 256 = c := by omega
  rw [e1, e2, h1]

/-! ### fits, in -/
def fitsB (m n : Int) : Bool := decide (0 ≤ n ∧ n ≤ m)
theorem fits2 (v : Int) (w : World) (h : W64 v) : Calls Try.prog 37 #[.int .i64 2, .int .i64 v] w fun e w' => e = .returned (.bool (fitsB 65535 v)) ∧ w = w' := by
  obtain ⟨h1, h2⟩ := h
  have e : fitsB 65535 v = (v / 65536 == 0) := by unfold fitsB; rw [Bool.eq_iff_iff]; simp; omega
  rw [e]
  clear e
  go_enter Try.func37, Try.ntmps37
  go_wp2
  go_ret
  exact ⟨rfl, rfl⟩
theorem fits4 (v : Int) (w : World) (h : W64 v) : Calls Try.prog 37 #[.int .i64 4, .int .i64 v] w fun e w' => e = .returned (.bool (fitsB 4294967295 v)) ∧ w = w' := by
  obtain ⟨h1, h2⟩ := h
  have e : fitsB 4294967295 v = (v / 4294967296 == 0) := by unfold fitsB; rw [Bool.eq_iff_iff]; simp; omega
  rw [e]
  clear e
  go_enter Try.func37, Try.ntmps37
  go_wp2
  go_ret
  exact ⟨rfl, rfl⟩
end Go.Proofs.Ytfaekiopmfnpkaa.Pp
