/-
  Messages as lists of bytes: what a message is, its bytes, and what bytes are read as. No program. Conditions: as each lemma states.
-/
import Derived.Test.YtebgfiibcmnfnaaDoorCanon
import Derived.Test.YtebgfiibcmnfnaaDoorAdr
namespace Go.Proofs.YtebgfiibcmnfnaaDoor.Wi
set_option linter.unusedVariables false

/-- how many numbers a message of a kind has; -1: there is no such kind -/
def tab : List Int := [0, 4, 5, 5, 6, 1, 1, 3, 1, 2, 2, 2, 4, 2, 4, 2, 1, 2, 1]
def numsOf (k : Int) : Int := if 1 ≤ k ∧ k ≤ 18 then tab.getD k.toNat 0 else -1
theorem tab_bd : ∀ n : Fin 19, 1 ≤ n.val → 1 ≤ tab.getD n.val 0 ∧ tab.getD n.val 0 ≤ 6 := by decide
theorem numsOf_in {k : Int} (h0 : 1 ≤ k) (h1 : k ≤ 18) : numsOf k = tab.getD k.toNat 0 ∧ 1 ≤ numsOf k ∧ numsOf k ≤ 6 := by
  have := tab_bd ⟨k.toNat, by omega⟩ (by show 1 ≤ k.toNat; omega)
  unfold numsOf
  rw [if_pos ⟨h0, h1⟩]
  exact ⟨rfl, this⟩
theorem numsOf_out {k : Int} (h : k < 1 ∨ 18 < k) : numsOf k = -1 := by
  unfold numsOf
  rw [if_neg (by omega)]
theorem numsOf_bd (k : Int) : -1 ≤ numsOf k ∧ numsOf k ≤ 6 ∧ (0 ≤ numsOf k → 1 ≤ k ∧ k ≤ 18) := by
  by_cases h : 1 ≤ k ∧ k ≤ 18
  · have := (numsOf_in h.1 h.2).2; exact ⟨by omega, by omega, fun _ => h⟩
  · rw [numsOf_out (by omega)]; omega

/-- a message -/
structure Msg where
  kind : Int
  nums : List Nat
  addrs : List (Int × Int)
  body : List Int
def numOk (v : Nat) : Bool := decide (v < 9223372036854775808)
def may (m : Msg) : Bool := decide ((m.nums.length : Int) = numsOf m.kind) && decide (m.addrs.length ≤ 8) && decide (m.body.length ≤ 1000) && m.nums.all numOk && m.addrs.all fun a => mayA a.1 a.2
theorem may_iff {m : Msg} : may m = true ↔ (m.nums.length : Int) = numsOf m.kind ∧ m.addrs.length ≤ 8 ∧ m.body.length ≤ 1000 ∧ (∀ v ∈ m.nums, v < 9223372036854775808) ∧ ∀ a ∈ m.addrs, mayA a.1 a.2 = true := by
  unfold may numOk
  simp only [Bool.and_eq_true, decide_eq_true_eq, List.all_eq_true]
  exact ⟨fun ⟨⟨⟨⟨a, b⟩, c⟩, d⟩, e⟩ => ⟨a, b, c, d, e⟩, fun ⟨a, b, c, d, e⟩ => ⟨⟨⟨⟨a, b⟩, c⟩, d⟩, e⟩⟩
/-- what every value of the type is -/
def Wf (m : Msg) : Prop := (∀ a ∈ m.addrs, 0 ≤ a.1 ∧ a.1 < 4294967296) ∧ (∀ v ∈ m.nums, v < 18446744073709551616) ∧ ∀ z ∈ m.body, 0 ≤ z ∧ z ≤ 255
def aflat : List (Int × Int) → List Int
  | [] => []
  | a :: al => bytesA a.1 a.2 ++ aflat al
def bytes (m : Msg) : List Int := Uv.enc m.kind.toNat ++ (Uv.flat m.nums ++ (Uv.enc m.addrs.length ++ (aflat m.addrs ++ Fr.put m.body)))

theorem aflat_append : ∀ (a b : List (Int × Int)), aflat (a ++ b) = aflat a ++ aflat b
  | [], _ => rfl
  | x :: a, b => by simp [aflat, aflat_append a b, List.append_assoc]
theorem aflat_len : ∀ (a : List (Int × Int)), (aflat a).length = 6 * a.length
  | [] => rfl
  | x :: a => by simp [aflat, aflat_len a, bytesA]; omega
theorem flat_append : ∀ (a b : List Nat), Uv.flat (a ++ b) = Uv.flat a ++ Uv.flat b := Uv.flat_append

/-- the address of the next six bytes -/
def host6 (r : List Int) : Int := r.getD 0 0 * 16777216 + r.getD 1 0 * 65536 + r.getD 2 0 * 256 + r.getD 3 0
def port6 (r : List Int) : Int := r.getD 4 0 * 256 + r.getD 5 0
theorem six_bytes {h p : Int} (rest : List Int) (h0 : 0 ≤ h) (h1 : h < 4294967296) (hm : mayA h p = true) : host6 (bytesA h p ++ rest) = h ∧ port6 (bytesA h p ++ rest) = p := by
  have hp : h ≠ 0 ∧ 1 ≤ p ∧ p ≤ 65535 := by simpa [mayA, and_assoc] using hm
  simp [host6, port6, bytesA]
  omega
theorem bytes_six {a b c d e f : Int} (ha : 0 ≤ a ∧ a ≤ 255) (hb : 0 ≤ b ∧ b ≤ 255) (hc : 0 ≤ c ∧ c ≤ 255) (hd : 0 ≤ d ∧ d ≤ 255) (he : 0 ≤ e ∧ e ≤ 255) (hf : 0 ≤ f ∧ f ≤ 255) :
    bytesA (a * 16777216 + b * 65536 + c * 256 + d) (e * 256 + f) = [a, b, c, d, e, f] := by
  simp [bytesA]
  omega
theorem six_of {r : List Int} (hl : 6 ≤ r.length) (hb : ∀ z ∈ r, 0 ≤ z ∧ z ≤ 255) : bytesA (host6 r) (port6 r) ++ r.drop 6 = r ∧ 0 ≤ host6 r ∧ host6 r < 4294967296 := by
  match r, hl with
  | a :: b :: c :: d :: e :: f :: t, _ =>
    have ha := hb a (by simp)
    have hb1 := hb b (by simp)
    have hc := hb c (by simp)
    have hd := hb d (by simp)
    have he := hb e (by simp)
    have hf := hb f (by simp)
    refine ⟨?_, ?_, ?_⟩
    · have := bytes_six ha hb1 hc hd he hf
      simp only [host6, port6, List.getD_cons_zero, List.getD_cons_succ, this]
      rfl
    · simp [host6]; omega
    · simp [host6]; omega

/-- the next numbers, and what is left -/
def readNums (zs : List Int) : Nat → Option (List Nat × List Int)
  | 0 => some ([], zs)
  | i + 1 => match readNums zs i with
    | none => none
    | some (vs, r) => if Uv.code r = 0 then some (vs ++ [(Uv.val r).toNat], r.drop (Uv.size r)) else none
/-- the next addresses, and what is left -/
def readAddrs (zs : List Int) : Nat → Option (List (Int × Int) × List Int)
  | 0 => some ([], zs)
  | i + 1 => match readAddrs zs i with
    | none => none
    | some (al, r) => if 6 ≤ r.length ∧ mayA (host6 r) (port6 r) = true then some (al ++ [(host6 r, port6 r)], r.drop 6) else none
theorem readNums_bd {zs : List Int} : ∀ {i : Nat} {vs : List Nat} {r : List Int}, (∀ z ∈ zs, 0 ≤ z ∧ z ≤ 255) → readNums zs i = some (vs, r) →
    Uv.flat vs ++ r = zs ∧ vs.length = i ∧ (∀ v ∈ vs, v < 9223372036854775808) ∧ (∀ z ∈ r, 0 ≤ z ∧ z ≤ 255)
  | 0, vs, r, hb, h => by
    simp [readNums] at h
    obtain ⟨rfl, rfl⟩ := h
    exact ⟨rfl, rfl, by simp, hb⟩
  | i + 1, vs, r, hb, h => by
    unfold readNums at h
    cases h1 : readNums zs i with
    | none => rw [h1] at h; cases h
    | some x =>
      obtain ⟨vs', r'⟩ := x
      rw [h1] at h
      obtain ⟨e1, e2, e3, e4⟩ := readNums_bd hb h1
      simp only at h
      by_cases hc : Uv.code r' = 0
      · rw [if_pos hc] at h
        simp only [Option.some.injEq, Prod.mk.injEq] at h
        obtain ⟨rfl, rfl⟩ := h
        have hv := Uv.val_bd r'
        have he := Uv.enc_val r' e4 hc
        refine ⟨?_, by simp [e2], ?_, fun z hz => e4 z (List.mem_of_mem_drop hz)⟩
        · rw [flat_append, List.append_assoc]
          simp only [Uv.flat, List.append_nil]
          rw [he, e1]
        · intro v hv'
          rcases List.mem_append.1 hv' with h2 | h2
          · exact e3 v h2
          · simp at h2; omega
      · rw [if_neg hc] at h; cases h
theorem readNums_flat (vs : List Nat) (rest : List Int) (hv : ∀ v ∈ vs, v < 9223372036854775808) : ∀ i, i ≤ vs.length → readNums (Uv.flat vs ++ rest) i = some (vs.take i, Uv.flat (vs.drop i) ++ rest)
  | 0, _ => by simp [readNums]
  | i + 1, hi => by
    have ih := readNums_flat vs rest hv i (by omega)
    have hd : vs.drop i = vs[i] :: vs.drop (i + 1) := List.drop_eq_getElem_cons (by omega)
    have hvi := hv vs[i] (List.getElem_mem (by omega))
    have hg := Uv.got_enc vs[i] (Uv.flat (vs.drop (i + 1)) ++ rest) hvi
    have hf : Uv.flat (vs.drop i) ++ rest = Uv.enc vs[i] ++ (Uv.flat (vs.drop (i + 1)) ++ rest) := by rw [hd]; simp [Uv.flat, List.append_assoc]
    have hl := Uv.enc_length vs[i] hvi
    unfold readNums
    rw [ih]
    simp only
    rw [hf]
    have hc : Uv.code (Uv.enc vs[i] ++ (Uv.flat (vs.drop (i + 1)) ++ rest)) = 0 := by unfold Uv.code; rw [hg]
    have hs : Uv.size (Uv.enc vs[i] ++ (Uv.flat (vs.drop (i + 1)) ++ rest)) = (Uv.enc vs[i]).length := by unfold Uv.size; rw [hg]; simp [hl]
    have hval : (Uv.val (Uv.enc vs[i] ++ (Uv.flat (vs.drop (i + 1)) ++ rest))).toNat = vs[i] := by unfold Uv.val; rw [hg]; simp
    rw [if_pos hc, hs, hval, List.drop_left, List.take_add_one, List.getElem?_eq_getElem (by omega : i < vs.length)]
    rfl
theorem readAddrs_bd {zs : List Int} : ∀ {i : Nat} {al : List (Int × Int)} {r : List Int}, (∀ z ∈ zs, 0 ≤ z ∧ z ≤ 255) → readAddrs zs i = some (al, r) →
    aflat al ++ r = zs ∧ al.length = i ∧ (∀ a ∈ al, mayA a.1 a.2 = true ∧ 0 ≤ a.1 ∧ a.1 < 4294967296) ∧ (∀ z ∈ r, 0 ≤ z ∧ z ≤ 255)
  | 0, vs, r, hb, h => by
    simp [readAddrs] at h
    obtain ⟨rfl, rfl⟩ := h
    exact ⟨rfl, rfl, by simp, hb⟩
  | i + 1, vs, r, hb, h => by
    unfold readAddrs at h
    cases h1 : readAddrs zs i with
    | none => rw [h1] at h; cases h
    | some x =>
      obtain ⟨vs', r'⟩ := x
      rw [h1] at h
      obtain ⟨e1, e2, e3, e4⟩ := readAddrs_bd hb h1
      simp only at h
      by_cases hc : 6 ≤ r'.length ∧ mayA (host6 r') (port6 r') = true
      · rw [if_pos hc] at h
        simp only [Option.some.injEq, Prod.mk.injEq] at h
        obtain ⟨rfl, rfl⟩ := h
        have he := six_of hc.1 e4
        refine ⟨?_, by simp [e2], ?_, fun z hz => e4 z (List.mem_of_mem_drop hz)⟩
        · rw [aflat_append, List.append_assoc]
          simp only [aflat, List.append_nil]
          rw [he.1, e1]
        · intro v hv'
          rcases List.mem_append.1 hv' with h2 | h2
          · exact e3 v h2
          · simp only [List.mem_singleton] at h2
            subst h2
            exact ⟨hc.2, he.2⟩
      · rw [if_neg hc] at h; cases h
theorem readAddrs_flat (al : List (Int × Int)) (rest : List Int) (hv : ∀ a ∈ al, mayA a.1 a.2 = true ∧ 0 ≤ a.1 ∧ a.1 < 4294967296) : ∀ i, i ≤ al.length → readAddrs (aflat al ++ rest) i = some (al.take i, aflat (al.drop i) ++ rest)
  | 0, _ => by simp [readAddrs]
  | i + 1, hi => by
    have ih := readAddrs_flat al rest hv i (by omega)
    have hd : al.drop i = al[i] :: al.drop (i + 1) := List.drop_eq_getElem_cons (by omega)
    obtain ⟨hm, h0, h1⟩ := hv al[i] (List.getElem_mem (by omega))
    have hf : aflat (al.drop i) ++ rest = bytesA al[i].1 al[i].2 ++ (aflat (al.drop (i + 1)) ++ rest) := by rw [hd]; simp [aflat, List.append_assoc]
    have h6 := six_bytes (aflat (al.drop (i + 1)) ++ rest) h0 h1 hm
    unfold readAddrs
    rw [ih]
    simp only
    rw [hf, h6.1, h6.2, if_pos ⟨by simp [bytesA], hm⟩, List.take_add_one, List.getElem?_eq_getElem (by omega : i < al.length)]
    have : (bytesA al[i].1 al[i].2 ++ (aflat (al.drop (i + 1)) ++ rest)).drop 6 = aflat (al.drop (i + 1)) ++ rest := rfl
    rw [this]
    rfl

/-- the message with which bytes begin, and what is left -/
def readMsg (zs : List Int) : Option (Msg × List Int) :=
  if Uv.code zs = 0 then
    match readNums (zs.drop (Uv.size zs)) (numsOf (Uv.val zs)).toNat with
    | none => none
    | some (vs, r) =>
      if Uv.code r = 0 then
        match readAddrs (r.drop (Uv.size r)) (Uv.val r).toNat with
        | none => none
        | some (al, q) => if Fr.code q = 0 then some (⟨Uv.val zs, vs, al, Fr.row q⟩, q.drop (Fr.size q)) else none
      else none
  else none
/-- the message whose bytes they are -/
def read (zs : List Int) : Option Msg := match readMsg zs with
  | some (m, r) => if r = [] ∧ may m = true then some m else none
  | none => none
theorem put_row_of (q : List Int) (hb : ∀ z ∈ q, 0 ≤ z ∧ z ≤ 255) (h : Fr.code q = 0) : Fr.put (Fr.row q) ++ q.drop (Fr.size q) = q := by
  obtain ⟨h1, h2, h3⟩ := Fr.code_ok h
  have hv := Uv.val_bd q
  have he := Uv.enc_val q hb h1
  have hl := (Fr.row_len h).1
  unfold Fr.put
  rw [hl, (Fr.size_ok h).1, Fr.row, if_pos h, ← List.drop_drop, List.append_assoc, List.take_append_drop, he]
theorem readMsg_ok {zs : List Int} {m : Msg} {r : List Int} (hb : ∀ z ∈ zs, 0 ≤ z ∧ z ≤ 255) (h : readMsg zs = some (m, r)) : bytes m ++ r = zs ∧ Wf m ∧ (∀ v ∈ m.nums, v < 9223372036854775808) ∧ (∀ a ∈ m.addrs, mayA a.1 a.2 = true) ∧ (∀ z ∈ r, 0 ≤ z ∧ z ≤ 255) ∧ m.kind = Uv.val zs := by
  unfold readMsg at h
  by_cases c1 : Uv.code zs = 0
  · rw [if_pos c1] at h
    have e1 := Uv.enc_val zs hb c1
    have hb1 : ∀ z ∈ zs.drop (Uv.size zs), 0 ≤ z ∧ z ≤ 255 := fun z hz => hb z (List.mem_of_mem_drop hz)
    cases h1 : readNums (zs.drop (Uv.size zs)) (numsOf (Uv.val zs)).toNat with
    | none => rw [h1] at h; cases h
    | some x =>
      obtain ⟨vs, r1⟩ := x
      rw [h1] at h
      obtain ⟨e2, e3, e4, hb2⟩ := readNums_bd hb1 h1
      simp only at h
      by_cases c2 : Uv.code r1 = 0
      · rw [if_pos c2] at h
        have e5 := Uv.enc_val r1 hb2 c2
        have hb3 : ∀ z ∈ r1.drop (Uv.size r1), 0 ≤ z ∧ z ≤ 255 := fun z hz => hb2 z (List.mem_of_mem_drop hz)
        cases h2 : readAddrs (r1.drop (Uv.size r1)) (Uv.val r1).toNat with
        | none => rw [h2] at h; cases h
        | some x =>
          obtain ⟨al, q⟩ := x
          rw [h2] at h
          obtain ⟨e6, e7, e8, hb4⟩ := readAddrs_bd hb3 h2
          simp only at h
          by_cases c3 : Fr.code q = 0
          · rw [if_pos c3] at h
            simp only [Option.some.injEq, Prod.mk.injEq] at h
            obtain ⟨rfl, rfl⟩ := h
            refine ⟨?_, ⟨fun a ha => (e8 a ha).2, fun v hv => by have := e4 v hv; omega, Fr.row_bd hb4⟩, e4, fun a ha => (e8 a ha).1, fun z hz => hb4 z (List.mem_of_mem_drop hz), rfl⟩
            unfold bytes
            simp only [List.append_assoc]
            rw [put_row_of q hb4 c3, e6, e7, e5, e2, e1]
          · rw [if_neg c3] at h; cases h
      · rw [if_neg c2] at h; cases h
  · rw [if_neg c1] at h; cases h
theorem enc_code (v : Nat) (rest : List Int) (h : v < 9223372036854775808) : Uv.code (Uv.enc v ++ rest) = 0 ∧ Uv.val (Uv.enc v ++ rest) = (v : Int) ∧ (Uv.enc v ++ rest).drop (Uv.size (Uv.enc v ++ rest)) = rest := by
  have hg := Uv.got_enc v rest h
  have hl := Uv.enc_length v h
  refine ⟨by unfold Uv.code; rw [hg], by unfold Uv.val; rw [hg], ?_⟩
  have : Uv.size (Uv.enc v ++ rest) = (Uv.enc v).length := by unfold Uv.size; rw [hg]; simp [hl]
  rw [this, List.drop_left]
theorem readMsg_bytes {m : Msg} (rest : List Int) (hw : Wf m) (h : may m = true) : readMsg (bytes m ++ rest) = some (m, rest) := by
  obtain ⟨h1, h2, h3, h4, h5⟩ := may_iff.1 h
  have hk := (numsOf_bd m.kind).2.2 (by omega)
  have g1 := enc_code m.kind.toNat (Uv.flat m.nums ++ (Uv.enc m.addrs.length ++ (aflat m.addrs ++ (Fr.put m.body ++ rest)))) (by omega)
  have g2 := readNums_flat m.nums (Uv.enc m.addrs.length ++ (aflat m.addrs ++ (Fr.put m.body ++ rest))) h4 m.nums.length (Nat.le_refl _)
  have g3 := enc_code m.addrs.length (aflat m.addrs ++ (Fr.put m.body ++ rest)) (by omega)
  have g4 := readAddrs_flat m.addrs (Fr.put m.body ++ rest) (fun a ha => ⟨h5 a ha, hw.1 a ha⟩) m.addrs.length (Nat.le_refl _)
  rw [List.take_length, List.drop_length] at g2 g4
  simp only [Uv.flat, aflat, List.nil_append] at g2 g4
  have hkk : ((m.kind.toNat : Nat) : Int) = m.kind := by omega
  have ez : bytes m ++ rest = Uv.enc m.kind.toNat ++ (Uv.flat m.nums ++ (Uv.enc m.addrs.length ++ (aflat m.addrs ++ (Fr.put m.body ++ rest)))) := by
    unfold bytes; simp only [List.append_assoc]
  rw [ez]
  unfold readMsg
  rw [if_pos g1.1, g1.2.2, g1.2.1, hkk, ← h1, Int.toNat_natCast, g2]
  simp only
  rw [if_pos g3.1, g3.2.2, g3.2.1, Int.toNat_natCast, g4]
  simp only
  rw [if_pos (Fr.put_code m.body rest (by omega)), Fr.put_row m.body rest (by omega), Fr.put_size m.body rest (by omega), List.drop_left]
theorem read_bytes {m : Msg} (hw : Wf m) (h : may m = true) : read (bytes m) = some m := by
  have := readMsg_bytes [] hw h
  rw [List.append_nil] at this
  unfold read
  rw [this]
  simp [h]
theorem read_ok {zs : List Int} {m : Msg} (hb : ∀ z ∈ zs, 0 ≤ z ∧ z ≤ 255) (h : read zs = some m) : may m = true ∧ bytes m = zs ∧ Wf m := by
  unfold read at h
  cases h1 : readMsg zs with
  | none => rw [h1] at h; cases h
  | some x =>
    obtain ⟨m', r⟩ := x
    rw [h1] at h
    simp only at h
    by_cases c : r = [] ∧ may m' = true
    · rw [if_pos c] at h
      simp only [Option.some.injEq] at h
      subst h
      have := readMsg_ok hb h1
      obtain ⟨rfl, c2⟩ := c
      rw [List.append_nil] at this
      exact ⟨c2, this.1, this.2.1⟩
    · rw [if_neg c] at h; cases h
/-- no two messages have one row of bytes -/
theorem bytes_inj {m n : Msg} (hm : Wf m) (hn : Wf n) (h1 : may m = true) (h2 : may n = true) (h : bytes m = bytes n) : m = n := by
  have := read_bytes hm h1
  rw [h, read_bytes hn h2] at this
  exact (Option.some.inj this).symm
theorem read_long {m : Msg} (rest : List Int) (hw : Wf m) (h : may m = true) (hr : rest ≠ []) : read (bytes m ++ rest) = none := by
  unfold read
  rw [readMsg_bytes rest hw h]
  simp [hr]
theorem read_cut {m : Msg} (k : Nat) (hw : Wf m) (h : may m = true) (hb : ∀ z ∈ bytes m, 0 ≤ z ∧ z ≤ 255) (hk : k < (bytes m).length) : read ((bytes m).take k) = none := by
  cases h1 : read ((bytes m).take k) with
  | none => rfl
  | some n =>
    exfalso
    obtain ⟨a, b, c⟩ := read_ok (fun z hz => hb z (List.mem_of_mem_take hz)) h1
    have e : bytes n ++ (bytes m).drop k = bytes m := by rw [b, List.take_append_drop]
    have := read_long ((bytes m).drop k) c a (by intro e2; have := List.drop_eq_nil_iff.1 e2; omega)
    rw [e, read_bytes hw h] at this
    cases this
theorem bytes_bd {m : Msg} (hw : Wf m) (h : may m = true) : ∀ z ∈ bytes m, 0 ≤ z ∧ z ≤ 255 := by
  obtain ⟨h1, h2, h3, h4, h5⟩ := may_iff.1 h
  have ha : ∀ (al : List (Int × Int)), (∀ a ∈ al, mayA a.1 a.2 = true ∧ 0 ≤ a.1 ∧ a.1 < 4294967296) → ∀ z ∈ aflat al, 0 ≤ z ∧ z ≤ 255 := by
    intro al
    induction al with
    | nil => intro _ z hz; simp [aflat] at hz
    | cons a al ih =>
      intro h z hz
      simp only [aflat, List.mem_append] at hz
      rcases hz with hz | hz
      · have hp : a.1 ≠ 0 ∧ 1 ≤ a.2 ∧ a.2 ≤ 65535 := by simpa [mayA, and_assoc] using (h a (by simp)).1
        have hq := (h a (by simp)).2
        simp [bytesA] at hz
        omega
      · exact ih (fun x hx => h x (by simp [hx])) z hz
  intro z hz
  unfold bytes Fr.put at hz
  simp only [List.mem_append] at hz
  rcases hz with hz | hz | hz | hz | hz | hz
  · exact Uv.enc_mem _ _ hz
  · exact Uv.flat_bd _ z hz
  · exact Uv.enc_mem _ _ hz
  · exact ha _ (fun a ha => ⟨h5 a ha, hw.1 a ha⟩) z hz
  · exact Uv.enc_mem _ _ hz
  · exact hw.2.2 z hz
theorem bytes_len {m : Msg} (h : may m = true) : 1 ≤ (bytes m).length ∧ (bytes m).length ≤ 1200 := by
  obtain ⟨h1, h2, h3, h4, h5⟩ := may_iff.1 h
  have hk := (numsOf_bd m.kind).2
  have e1 := Uv.enc_length m.kind.toNat (by omega)
  have e2 := Uv.enc_length m.addrs.length (by omega)
  have e3 := Uv.flat_len m.nums
  have e4 := aflat_len m.addrs
  have e5 := Fr.put_len m.body (by omega)
  have p1 := Uv.len_pos m.kind.toNat
  have q1 := Uv.len_small m.kind.toNat (by omega)
  have q2 := Uv.len_small m.addrs.length (by omega)
  have q3 := Uv.len_small m.body.length (by omega)
  unfold bytes
  simp only [List.length_append]
  omega
end Go.Proofs.YtebgfiibcmnfnaaDoor.Wi
