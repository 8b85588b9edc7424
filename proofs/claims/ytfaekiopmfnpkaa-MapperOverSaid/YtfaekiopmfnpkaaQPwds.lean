/-
  PCP's leases as bytes and back, in plain words. Conditions: as each lemma states.
-/
import Derived.Test.YtfaekiopmfnpkaaQPask
import Derived.Test.YtfaekiopmfnpkaaQWds
namespace Go.Proofs.Ytfaekiopmfnpkaa.Pp
open Go.RowKit
set_option linter.unusedVariables false
set_option linter.unusedSimpArgs false

theorem nu_append (xs ys : List Int) : nu (xs ++ ys) = nu xs * 256 ^ ys.length + nu ys := by
  refine snocRec (P := fun ys => nu (xs ++ ys) = nu xs * 256 ^ ys.length + nu ys) (by simp [nu_nil]) (fun l c ih => ?_) ys
  rw [← List.append_assoc, nu_snoc, nu_snoc, ih, List.length_append, List.length_singleton, Int.pow_succ, Int.add_mul, Int.mul_assoc]
  omega
theorem ncut_skip (a b : List Int) (k n m : Nat) (h : a.length + m = k) : ncut (a ++ b) k n = ncut b m n := by
  unfold ncut
  rw [← h, List.drop_length_add_append]
theorem ncut_front (xs post : List Int) (n : Nat) (h : xs.length = n) : ncut (xs ++ post) 0 n = nu xs := by
  unfold ncut
  rw [List.drop_zero, List.take_left' h]
theorem ncut_split (zs : List Int) (k n m t : Nat) (h : n + m = t) (hl : k + t ≤ zs.length) : ncut zs k t = ncut zs k n * 256 ^ m + ncut zs (k + n) m := by
  unfold ncut
  have e : (zs.drop k).take t = (zs.drop k).take n ++ (zs.drop (k + n)).take m := by
    rw [← h, List.take_add, List.drop_drop]
  have e2 : ((zs.drop (k + n)).take m).length = m := by rw [List.length_take, List.length_drop]; omega
  rw [e, nu_append, e2]

/-- what ReadAsk, and ReadAnswer, read -/
def pAskL (zs : List Int) : Le := ⟨2, ncut zs 40 2, ncut zs 42 2, ncut zs 4 4, ncut zs 28 8, 0, 0, ncut zs 44 16 % 4294967296⟩
def pCl (zs : List Int) : Int := ncut zs 8 16 % 4294967296
def pAnsL (zs : List Int) : Le := ⟨2, ncut zs 40 2, ncut zs 42 2, ncut zs 4 4, ncut zs 28 8, ncut zs 3 1, ncut zs 8 4, ncut zs 44 16 % 4294967296⟩
theorem nu_lt {l : List Int} (h : Bd l) (n : Nat) (hl : l.length ≤ n) : 0 ≤ nu l ∧ nu l < 256 ^ n := by
  have h1 := nu_bd h
  have h2 : (256 : Int) ^ l.length ≤ 256 ^ n := by
    have := Nat.pow_le_pow_right (n := 256) (by decide) hl
    have e : ∀ k : Nat, (256 : Int) ^ k = ((256 ^ k : Nat) : Int) := fun k => by rw [Int.natCast_pow]; rfl
    rw [e, e]
    exact Int.ofNat_le.2 this
  omega
theorem ncut_lt {zs : List Int} (h : Bd zs) (k n : Nat) : 0 ≤ ncut zs k n ∧ ncut zs k n < 256 ^ n :=
  nu_lt (fun z hz => h z (List.mem_of_mem_drop (List.mem_of_mem_take hz))) n (by rw [List.length_take]; omega)
theorem pAskL_is {zs : List Int} (h : Bd zs) : isL (pAskL zs) ∧ Pas (pAskL zs) := by
  have a1 := ncut_lt h 40 2
  have a2 := ncut_lt h 42 2
  have a3 := ncut_lt h 4 4
  have a4 := ncut_lt h 28 8
  constructor
  · unfold pAskL; constructor <;> simp only [W64] <;> omega
  · unfold pAskL Pas Pan; dsimp only; omega
theorem pAnsL_is {zs : List Int} (h : Bd zs) : isL (pAnsL zs) ∧ Pan (pAnsL zs) := by
  have a1 := ncut_lt h 40 2
  have a2 := ncut_lt h 42 2
  have a3 := ncut_lt h 4 4
  have a4 := ncut_lt h 28 8
  have a5 := ncut_lt h 3 1
  have a6 := ncut_lt h 8 4
  constructor
  · unfold pAnsL; constructor <;> simp only [W64] <;> omega
  · unfold pAnsL Pan; dsimp only; omega
theorem pCl_is (zs : List Int) : 0 ≤ pCl zs ∧ pCl zs < 4294967296 := by unfold pCl; omega

theorem hostR_bd (h : Int) (h0 : 0 ≤ h ∧ h < 4294967296) : Bd (hostR h) := by rw [← hostR_be h h0]; exact be_bd 16 _
theorem nu_host (h : Int) (h0 : 0 ≤ h ∧ h < 4294967296) : nu (hostR h) % 4294967296 = h := by
  rw [← hostR_be h h0, nu_be 16 _ (by omega) (by
    have : (256 : Int) ^ 16 = 340282366920938463463374607431768211456 := by decide
    omega)]
  omega
theorem map_non (l : Le) (hl : isL l) : ncut (mapR l) 4 8 = l.non := by
  unfold mapR
  have := hl.non
  rw [ncut_skip _ _ 4 8 0 rfl, ncut_front _ _ 8 (by simp), nu_be 8 _ (by omega) (by show l.non < 18446744073709551616; omega)]
theorem map_ins (l : Le) (h : 0 ≤ l.ins ∧ l.ins ≤ 65535) : ncut (mapR l) 16 2 = l.ins := by
  unfold mapR
  rw [ncut_skip _ _ 16 2 12 rfl, ncut_skip _ _ 12 2 4 (by simp), ncut_skip _ _ 4 2 0 rfl, ncut_front _ _ 2 (by simp), nu2 h]
theorem map_prt (l : Le) (h : 0 ≤ l.prt ∧ l.prt ≤ 65535) : ncut (mapR l) 18 2 = l.prt := by
  unfold mapR
  rw [ncut_skip _ _ 18 2 14 rfl, ncut_skip _ _ 14 2 6 (by simp), ncut_skip _ _ 6 2 2 rfl, ncut_skip _ _ 2 2 0 (by simp), ncut_front _ _ 2 (by simp), nu2 h]
theorem map_hst (l : Le) (hl : isL l) : ncut (mapR l) 20 16 % 4294967296 = l.hst := by
  unfold mapR
  have e := ncut_front (hostR l.hst) [] 16 (hostR_length _)
  rw [List.append_nil] at e
  rw [ncut_skip _ _ 20 16 16 rfl, ncut_skip _ _ 16 16 8 (by simp), ncut_skip _ _ 8 16 4 rfl, ncut_skip _ _ 4 16 2 (by simp), ncut_skip _ _ 2 16 0 (by simp), e, nu_host _ hl.hst]
theorem paskR_yes {l : Le} (c : Int) (h : Pas l) : paskR l c = [2, 1, 0, 0] ++ (be 4 l.secs ++ (hostR c ++ mapR l)) := by unfold paskR; rw [if_pos h]
theorem pansR_yes {l : Le} (h : Pan l) : pansR l = [2, 129, 0] ++ (be 1 l.res ++ (be 4 l.secs ++ (be 4 l.epo ++ ([0, 0, 0, 0, 0, 0, 0, 0, 0, 0, 0, 0] ++ mapR l)))) := by unfold pansR; rw [if_pos h]
theorem paskR_len {l : Le} (c : Int) (h : Pas l) : (paskR l c).length = 60 := by rw [paskR_yes c h]; simp [hostR_length, mapR_length]
theorem pansR_len {l : Le} (h : Pan l) : (pansR l).length = 60 := by rw [pansR_yes h]; simp [mapR_length]
theorem paskR_no {l : Le} (c : Int) (h : ¬ Pas l) : paskR l c = [] := by unfold paskR; rw [if_neg h]
theorem pansR_no {l : Le} (h : ¬ Pan l) : pansR l = [] := by unfold pansR; rw [if_neg h]
theorem paskR_bd (l : Le) (c : Int) (hl : isL l) (hc : 0 ≤ c ∧ c < 4294967296) : Bd (paskR l c) := by
  by_cases h : Pas l
  · rw [paskR_yes c h]
    exact mem_append_bd (by simp) (mem_append_bd (be_bd _ _) (mem_append_bd (hostR_bd c hc) (mapR_bd l hl)))
  · rw [paskR_no c h]; intro z hz; cases hz
theorem pansR_bd (l : Le) (hl : isL l) : Bd (pansR l) := by
  by_cases h : Pan l
  · rw [pansR_yes h]
    exact mem_append_bd (by simp) (mem_append_bd (be_bd _ _) (mem_append_bd (be_bd _ _) (mem_append_bd (be_bd _ _) (mem_append_bd (by simp) (mapR_bd l hl)))))
  · rw [pansR_no h]; intro z hz; cases hz
theorem pback_ask {l : Le} {c : Int} (hl : isL l) (hc : 0 ≤ c ∧ c < 4294967296) (h : Pas l) : pAskL (paskR l c) = l ∧ pCl (paskR l c) = c := by
  have hp := h
  obtain ⟨⟨h0, h1, h2, h3, h4, h5⟩, h6, h7⟩ := h
  rw [paskR_yes c hp]
  have sk : ∀ k n m, 24 + m = k → ncut ([2, 1, 0, 0] ++ (be 4 l.secs ++ (hostR c ++ mapR l))) k n = ncut (mapR l) m n := by
    intro k n m e
    rw [ncut_skip _ _ k n (20 + m) (by simp; omega), ncut_skip _ _ (20 + m) n (16 + m) (by simp; omega), ncut_skip _ _ (16 + m) n m (by simp [hostR_length])]
  have e1 : ncut ([2, 1, 0, 0] ++ (be 4 l.secs ++ (hostR c ++ mapR l))) 4 4 = l.secs := by
    rw [ncut_skip _ _ 4 4 0 rfl, ncut_front _ _ 4 (by simp), nu4 h3]
  have e2 : ncut ([2, 1, 0, 0] ++ (be 4 l.secs ++ (hostR c ++ mapR l))) 8 16 % 4294967296 = c := by
    rw [ncut_skip _ _ 8 16 4 rfl, ncut_skip _ _ 4 16 0 (by simp), ncut_front _ _ 16 (hostR_length _), nu_host c hc]
  unfold pAskL pCl
  rw [e1, e2, sk 40 2 16 rfl, sk 42 2 18 rfl, sk 28 8 4 rfl, sk 44 16 20 rfl, map_ins l h1, map_prt l h2, map_non l hl, map_hst l hl]
  obtain ⟨a, b, d, e, f, g, i, j⟩ := l
  dsimp only at *
  subst h0 h6 h7
  exact ⟨rfl, rfl⟩
theorem pback_ans {l : Le} (hl : isL l) (h : Pan l) : pAnsL (pansR l) = l := by
  have hp := h
  obtain ⟨h0, h1, h2, h3, h4, h5⟩ := h
  rw [pansR_yes hp]
  have sk : ∀ k n m, 24 + m = k → ncut ([2, 129, 0] ++ (be 1 l.res ++ (be 4 l.secs ++ (be 4 l.epo ++ ([0, 0, 0, 0, 0, 0, 0, 0, 0, 0, 0, 0] ++ mapR l))))) k n = ncut (mapR l) m n := by
    intro k n m e
    rw [ncut_skip _ _ k n (21 + m) (by simp; omega), ncut_skip _ _ (21 + m) n (20 + m) (by simp; omega), ncut_skip _ _ (20 + m) n (16 + m) (by simp; omega), ncut_skip _ _ (16 + m) n (12 + m) (by simp; omega), ncut_skip _ _ (12 + m) n m (by simp)]
  have e1 : ncut ([2, 129, 0] ++ (be 1 l.res ++ (be 4 l.secs ++ (be 4 l.epo ++ ([0, 0, 0, 0, 0, 0, 0, 0, 0, 0, 0, 0] ++ mapR l))))) 4 4 = l.secs := by
    rw [ncut_skip _ _ 4 4 1 rfl, ncut_skip _ _ 1 4 0 (by simp), ncut_front _ _ 4 (by simp), nu4 h3]
  have e2 : ncut ([2, 129, 0] ++ (be 1 l.res ++ (be 4 l.secs ++ (be 4 l.epo ++ ([0, 0, 0, 0, 0, 0, 0, 0, 0, 0, 0, 0] ++ mapR l))))) 3 1 = l.res := by
    rw [ncut_skip _ _ 3 1 0 rfl, ncut_front _ _ 1 (by simp), nu_be 1 _ (by omega) (by show l.res < 256; omega)]
  have e3 : ncut ([2, 129, 0] ++ (be 1 l.res ++ (be 4 l.secs ++ (be 4 l.epo ++ ([0, 0, 0, 0, 0, 0, 0, 0, 0, 0, 0, 0] ++ mapR l))))) 8 4 = l.epo := by
    rw [ncut_skip _ _ 8 4 5 rfl, ncut_skip _ _ 5 4 4 (by simp), ncut_skip _ _ 4 4 0 (by simp), ncut_front _ _ 4 (by simp), nu4 h5]
  unfold pAnsL
  rw [e1, e2, e3, sk 40 2 16 rfl, sk 42 2 18 rfl, sk 28 8 4 rfl, sk 44 16 20 rfl, map_ins l h1, map_prt l h2, map_non l hl, map_hst l hl]
  obtain ⟨a, b, d, e, f, g, i, j⟩ := l
  dsimp only at *
  subst h0
  rfl
/-- the document's way to cut 60 bytes -/
theorem rof_non {zs : List Int} (h : zs.length = 60) : ncut zs 28 8 = ncut zs 28 4 * 4294967296 + ncut zs 32 4 := by
  have := ncut_split zs 28 4 4 8 rfl (by omega)
  exact this
theorem rof_hst {zs : List Int} (hb : Bd zs) (h : zs.length = 60) : ncut zs 44 16 % 4294967296 = ncut zs 56 4 := by
  have e := ncut_split zs 44 12 4 16 rfl (by omega)
  have a := ncut_lt hb 56 4
  have e2 : (256 : Int) ^ 4 = 4294967296 := by decide
  rw [e2] at e a
  simp only [Nat.reduceAdd] at e
  omega
theorem rof_cl {zs : List Int} (hb : Bd zs) (h : zs.length = 60) : ncut zs 8 16 % 4294967296 = ncut zs 20 4 := by
  have e := ncut_split zs 8 12 4 16 rfl (by omega)
  have a := ncut_lt hb 20 4
  have e2 : (256 : Int) ^ 4 = 4294967296 := by decide
  rw [e2] at e a
  simp only [Nat.reduceAdd] at e
  omega

structure PAskOf (zs : List Int) (l : Le) (c : Int) : Prop where
  is : isL l
  cl : 0 ≤ c ∧ c < 4294967296
  may : Pas l
  row : zs = paskR l c
structure PAnsOf (zs : List Int) (l : Le) : Prop where
  is : isL l
  may : Pan l
  row : zs = pansR l
/-- what the readers answer -/
def paT (l : Le) (c e : Int) : Value := .tuple #[leV l, .int .u32 c, .int .i64 e]
def pbT (l : Le) (e : Int) : Value := .tuple #[leV l, .int .i64 e]
def paR (zs : List Int) : Value := if zs = paskR (pAskL zs) (pCl zs) then paT (pAskL zs) (pCl zs) 0 else paT zeroL 0 3
def pbR (zs : List Int) : Value := if zs = pansR (pAnsL zs) then pbT (pAnsL zs) 0 else pbT zeroL 3
theorem paR_yes {zs : List Int} {l : Le} {c : Int} (h : PAskOf zs l c) : paR zs = paT l c 0 := by
  obtain ⟨h1, h2, h3, rfl⟩ := h
  obtain ⟨e1, e2⟩ := pback_ask h1 h2 h3
  unfold paR
  rw [e1, e2, if_pos rfl]
theorem paR_no {zs : List Int} (hb : Bd zs) (h : ∀ l c, ¬ PAskOf zs l c) : paR zs = paT zeroL 0 3 := by
  unfold paR
  rw [if_neg]
  intro e
  exact h _ _ ⟨(pAskL_is hb).1, pCl_is zs, (pAskL_is hb).2, e⟩
theorem pbR_yes {zs : List Int} {l : Le} (h : PAnsOf zs l) : pbR zs = pbT l 0 := by
  obtain ⟨h1, h3, rfl⟩ := h
  have e1 := pback_ans h1 h3
  unfold pbR
  rw [e1, if_pos rfl]
theorem pbR_no {zs : List Int} (hb : Bd zs) (h : ∀ l, ¬ PAnsOf zs l) : pbR zs = pbT zeroL 3 := by
  unfold pbR
  rw [if_neg]
  intro e
  exact h _ ⟨(pAnsL_is hb).1, (pAnsL_is hb).2, e⟩
theorem PAskOf.len {zs : List Int} {l : Le} {c : Int} (h : PAskOf zs l c) : zs.length = 60 := by rw [h.row]; exact paskR_len c h.may
theorem PAnsOf.len {zs : List Int} {l : Le} (h : PAnsOf zs l) : zs.length = 60 := by rw [h.row]; exact pansR_len h.may
theorem PAskOf.snd {zs : List Int} {l : Le} {c : Int} (h : PAskOf zs l c) : zs.getD 1 0 = 1 ∧ zs.getD 0 0 = 2 := by rw [h.row, paskR_yes c h.may]; exact ⟨rfl, rfl⟩
theorem PAnsOf.snd {zs : List Int} {l : Le} (h : PAnsOf zs l) : zs.getD 1 0 = 129 ∧ zs.getD 0 0 = 2 := by rw [h.row, pansR_yes h.may]; exact ⟨rfl, rfl⟩
theorem pask_pans {zs : List Int} {l l' : Le} {c : Int} (h1 : PAskOf zs l c) (h2 : PAnsOf zs l') : False := by
  have a := h1.snd.1
  have b := h2.snd.1
  omega
end Go.Proofs.Ytfaekiopmfnpkaa.Pp
