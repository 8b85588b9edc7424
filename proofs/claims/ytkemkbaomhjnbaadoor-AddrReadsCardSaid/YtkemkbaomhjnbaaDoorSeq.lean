/-
  The contract of strings.SplitSeq where what parts is one byte, and of the iterator that it hands back: it tells the parts of the text, one behind the other. Conditions: the rounds keep the iterator's cells.
-/
import Derived.Test.YtkemkbaomhjnbaaDoorTell
import Derived.Test.YtkemkbaomhjnbaaDoorIdxLib
import Derived.Test.YtkemkbaomhjnbaaDoorNum
import Derived.Shelf.Abstract
import Derived.Shelf.RegionOpen
import Derived.OwnWalkIn
import Derived.TacticsInMore
import Derived.LoopNIn
import Derived.LoopIn
namespace Go.Proofs.YtkemkbaomhjnbaaDoor
open Go.RowKit Go.Shelf
attribute [local go_sem] Oper.semAt_some
set_option linter.unusedVariables false

/-- bytes as a string -/
def st (l : List UInt8) : ByteArray := ⟨l.toArray⟩
theorem st_list (l : List UInt8) : (st l).data.toList = l := by simp [st]
theorem st_size (l : List UInt8) : (st l).size = l.length := by simp [st, ByteArray.size]
theorem st_self (s : ByteArray) : st s.data.toList = s := by cases s; simp [st]
/-- the parts of a text between bytes c -/
def parts (c : UInt8) : List UInt8 → List (List UInt8)
  | [] => [[]]
  | b :: l => if b = c then [] :: parts c l else match parts c l with
    | p :: ps => (b :: p) :: ps
    | [] => [[b]]
theorem parts_cons (c b : UInt8) (l : List UInt8) : parts c (b :: l) = if b = c then [] :: parts c l else match parts c l with
    | p :: ps => (b :: p) :: ps
    | [] => [[b]] := rfl
theorem index_cons (b c : UInt8) (l : List UInt8) : Lib.indexByte (b :: l) c = if b == c then 0 else if Lib.indexByte l c == -1 then -1 else Lib.indexByte l c + 1 := rfl
theorem index_bd (c : UInt8) : ∀ l : List UInt8, Lib.indexByte l c = -1 ∨ (0 ≤ Lib.indexByte l c ∧ Lib.indexByte l c < l.length)
  | [] => .inl rfl
  | b :: l => by
    rw [index_cons, List.length_cons]
    split
    · omega
    · rcases index_bd c l with h | h
      · rw [h]; exact .inl rfl
      · rw [if_neg (by simp; omega)]; omega
theorem parts_no (c : UInt8) : ∀ l : List UInt8, Lib.indexByte l c = -1 → parts c l = [l]
  | [], _ => rfl
  | b :: l, h => by
    rw [index_cons] at h
    by_cases e : (b == c) = true
    · rw [if_pos e] at h; omega
    · rw [if_neg e] at h
      have e2 : ¬ b = c := by simpa using e
      have h3 : Lib.indexByte l c = -1 := by
        rcases index_bd c l with h1 | h1
        · exact h1
        · rw [if_neg (by simp; omega)] at h; omega
      rw [parts_cons, if_neg e2, parts_no c l h3]
theorem parts_yes (c : UInt8) : ∀ (l : List UInt8) (i : Nat), Lib.indexByte l c = (i : Int) → parts c l = l.take i :: parts c (l.drop (i + 1))
  | [], i, h => by simp [Lib.indexByte] at h
  | b :: l, i, h => by
    rw [index_cons] at h
    by_cases e : (b == c) = true
    · have e2 : b = c := by simpa using e
      rw [if_pos e] at h
      have : i = 0 := by omega
      subst this
      rw [parts_cons, if_pos e2]
      simp
    · have e2 : ¬ b = c := by simpa using e
      rw [if_neg e] at h
      rcases index_bd c l with h1 | h1
      · rw [h1] at h; simp at h
      · rw [if_neg (by simp; omega)] at h
        obtain ⟨j, rfl⟩ : ∃ j, i = j + 1 := ⟨i - 1, by omega⟩
        have h2 := parts_yes c l j (by omega)
        rw [parts_cons, if_neg e2, h2]
        simp

def encS (z : List UInt8) : Array Value := #[.string (st z)]
/-- what a round is handed: a further part -/
def OkS (ps : List (List UInt8)) (pre : List (List UInt8)) (z : List UInt8) (W : World) : Prop := pre ++ [z] <+: ps
def strLeft (b : Nat) (wr : World) : Nat := match wr.cell? ⟨b, 0, none⟩ with
  | some (.string s) => s.size
  | _ => 0

theorem run_head (s : ByteArray) (i : Nat) (h : i ≤ s.size) : s.extract 0 i = st (s.data.toList.take i) := by
  rw [← st_self s]
  unfold st
  rw [ByteArray.extract_mk]
  simp

/-- the three cells of the iterator -/
structure Cells (W : World) (b : Nat) (rest : List UInt8) (c : UInt8) : Prop where
  s : W.heap[b]? = some (.cells #[.string (st rest)] 9 (0, 0))
  sep : W.heap[b + 1]? = some (.cells #[.string ⟨#[c]⟩] 9 (0, 0))
  save : W.heap[b + 2]? = some (.cells #[.int .i64 0] 3 (0, 0))
theorem cells_of {w : World} {b : Nat} {C : Array Value} {t : TypeId} (h : w.heap[b]? = some (.cells C t (0, 0))) (j : Nat) : w.cell? ⟨b, j, none⟩ = C[j]? ∧ w.frozen? ⟨b, j, none⟩ = false := by
  constructor
  · simp [World.cell?, h]
  · simp [World.frozen?, h]
theorem Cells.same {W W' : World} {b : Nat} {rest : List UInt8} {c : UInt8} (h : Cells W b rest c) {gs : List Nat} {t : Bool} {B : Nat} (hk : Kept gs t B W W') (h0 : b ∈ gs) (h1 : b + 1 ∈ gs) (h2 : b + 2 ∈ gs) : Cells W' b rest c :=
  ⟨(hk.same _ h0).trans h.s, (hk.same _ h1).trans h.sep, (hk.same _ h2).trans h.save⟩
theorem heap_set0 {w : World} {b : Nat} {a u : Value} {t : TypeId} (h : w.heap[b]? = some (.cells #[a] t (0, 0))) : (w.setCell ⟨b, 0, none⟩ u).heap[b]? = some (.cells #[u] t (0, 0)) := by
  simp [World.setCell, Array.getElem?_modify, h]
theorem Cells.turn {W : World} {b : Nat} {rest : List UInt8} {c : UInt8} (h : Cells W b rest c) (l : List UInt8) : Cells (W.setCell ⟨b, 0, none⟩ (.string (st l))) b l c :=
  ⟨heap_set0 h.s, (Below.heap_setCell _ _ _ _ (by simp)).trans h.sep, (Below.heap_setCell _ _ _ _ (by simp)).trans h.save⟩
theorem grown_cell {W : World} (b : Nat) (v : Value) : W.grownBy (W.setCell ⟨b, 0, none⟩ v) (some b) :=
  ⟨rfl, rfl, rfl, by simp [World.setCell], fun k _ hne => Below.heap_setCell _ _ _ _ (fun e => hne (congrArg some e))⟩

set_option maxHeartbeats 400000 in
theorem seq_any (s : ByteArray) (c : UInt8) (w : World) :
    Calls Tryd.prog 31 #[.string s, .string ⟨#[c]⟩] w fun e w' => e = .returned (.func (.func 46) #[] #[.pointer (some ⟨w.heap.size + 1, 0, none⟩), .pointer (some ⟨w.heap.size, 0, none⟩), .pointer (some ⟨w.heap.size + 2, 0, none⟩)]) ∧
      w' = ((w.alloc (.cells #[.string s] 9)).alloc (.cells #[.string ⟨#[c]⟩] 9)).alloc (.cells #[.int .i64 0] 3) := by
  go_enter Tryd.func31, Tryd.ntmps31
  go_wp2
  go_ret
  exact ⟨rfl, rfl⟩

set_option maxRecDepth 100000 in
set_option maxHeartbeats 4000000 in
theorem seq_in (n : Nat) (hn : 1 ≤ n) (l b B0 : Nat) (gs : List Nat) (c : UInt8) (zs : List UInt8) (J Jx : List (List UInt8) → World → Prop)
    (hY : ∀ pre z W, J pre W → OkS (parts c zs) pre z W → YieldAt Fence.wide (n - 1) Tryd.prog l (encS z) W fun e W' => Kept gs false B0 W W' ∧
      ((e = .returned (.bool true) ∧ J (pre ++ [z]) W') ∨ (e = .returned (.bool false) ∧ Jx (pre ++ [z]) W')))
    (hT : Turns [b] J) (W : World) (hc : Cells W b zs c) (g0 : b ∈ gs) (g1 : b + 1 ∈ gs) (g2 : b + 2 ∈ gs) (hz : zs.length ≤ maxLen) (h0 : J [] W) :
    CallsIn Fence.wide n Tryd.prog 46 #[.func (.yield l) #[] #[], .pointer (some ⟨b + 1, 0, none⟩), .pointer (some ⟨b, 0, none⟩), .pointer (some ⟨b + 2, 0, none⟩)] W fun e W' => (∃ v, e = .returned v) ∧
      ((∃ ys, ys = parts c zs ∧ J ys W') ∨ (∃ pre, pre <+: parts c zs ∧ Jx pre W')) := by
  unfold maxLen at hz
  refine callsIn_of_wp Tryd.func46 rfl trivial ?_ rfl
  simp only [Tryd.ntmps46, List.size_toArray, List.length_cons, List.length_nil, Nat.reduceAdd, Nat.reduceSub, Array.replicate_succ, Array.replicate_zero, List.push_toArray, List.append_toArray, List.nil_append, List.cons_append]
  have HY := Lib.hid hY; clear hY
  have HT := Lib.hid hT; clear hT
  have HC := Lib.hid hc
  have d0 := (cells_of hc.s 0).1
  have d1 := (cells_of hc.sep 0).1
  have d2 := (cells_of hc.save 0).1
  simp at d0 d1 d2
  clear hc
  gi_wp2
  gi_loopw [7] (fun _ wr => ∃ (rest : List UInt8) (pre : List (List UInt8)), rest.length ≤ zs.length ∧ parts c zs = pre ++ parts c rest ∧ J pre wr ∧ Cells wr b rest c) (fun _ wr => strLeft b wr)
  case atStart => exact ⟨zs, [], by omega, by simp, h0, HC.out⟩
  case round =>
    obtain ⟨rest, pre, hle, he, hJ, hc⟩ := hrel
    have HE := Lib.hid he; have HJ := Lib.hid hJ; have HC2 := Lib.hid hc; clear he hJ
    clear d0 d1 d2
    have d0 := (cells_of hc.s 0).1
    have d1 := (cells_of hc.sep 0).1
    have d2 := (cells_of hc.save 0).1
    have f0 := (cells_of hc.s 0).2
    simp at d0 d1 d2
    clear hc
    have HIX := Lib.hid (index_lib (st rest) c)
    rw [st_list] at HIX
    have hsz := st_size rest
    rcases index_bd c rest with hi | ⟨hi0, hi1⟩
    · have HP := Lib.hid (parts_no c rest hi)
      rw [hi] at HIX
      clear hi
      gi_wp2_with fail
      refine ⟨trivial, ?_⟩
      refine (callsIn_wide.2 (HIX.out _)).mono ?_
      rintro e w' ⟨rfl, rfl⟩
      obtain ⟨fn, tmps, assign, body, hy, hR⟩ := HY.out pre rest _ HJ.out (by unfold OkS; rw [HE.out, HP.out]; exact ⟨[], by simp⟩)
      dsimp only [encS] at hy hR
      gi_wp2
      refine hR.mono ?_
      rintro e W3 ⟨hk3, ⟨rfl, hJ3⟩ | ⟨rfl, hJx3⟩⟩
      · have HJ3 := Lib.hid hJ3; clear hJ3
        gi_wp2
        go_end0
        exact ⟨⟨_, rfl⟩, .inl ⟨_, by rw [HE.out, HP.out], HJ3.out⟩⟩
      · gi_wp2
        go_end0
        exact ⟨⟨_, rfl⟩, .inr ⟨_, by rw [HE.out, HP.out]; exact List.prefix_refl _, hJx3⟩⟩
    · obtain ⟨i, hi⟩ : ∃ i : Nat, Lib.indexByte rest c = (i : Int) := ⟨(Lib.indexByte rest c).toNat, by omega⟩
      have HP := Lib.hid (parts_yes c rest i hi)
      rw [hi] at HIX
      have hil : i < rest.length := by omega
      have hsl : i + 1 ≤ (st rest).size := by omega
      have HH := run_head (st rest) i (by omega)
      have HTL : (st rest).extract (i + 1) rest.length = st (rest.drop (i + 1)) := by
        unfold st
        rw [ByteArray.extract_mk, List.take_of_length_le (by simp)]
      rw [st_list] at HH
      clear hi hi0 hi1
      gi_wp2_with fail
      refine ⟨trivial, ?_⟩
      refine (callsIn_wide.2 (HIX.out _)).mono ?_
      rintro e w' ⟨rfl, rfl⟩
      obtain ⟨fn, tmps, assign, body, hy, hR⟩ := HY.out pre (rest.take i) _ HJ.out (by unfold OkS; rw [HE.out, HP.out]; exact ⟨parts c (rest.drop (i + 1)), by simp⟩)
      dsimp only [encS] at hy hR
      gi_wp2
      refine hR.mono ?_
      rintro e W3 ⟨hk3, ⟨rfl, hJ3⟩ | ⟨rfl, hJx3⟩⟩
      · have HJ3 := Lib.hid hJ3; clear hJ3
        have hc3 := HC2.out.same hk3 g0 g1 g2
        have HC3 := Lib.hid hc3
        clear d0 d1 d2 f0 hk3
        have d0 := (cells_of hc3.s 0).1
        have d1 := (cells_of hc3.sep 0).1
        have d2 := (cells_of hc3.save 0).1
        have f0 := (cells_of hc3.s 0).2
        simp at d0 d1 d2
        clear hc3
        gi_wp2
        go_roundw
        case rel => exact ⟨rest.drop (i + 1), pre ++ [rest.take i], by simp; omega, by rw [HE.out, HP.out]; simp, HT.out _ _ _ b (by simp) HJ3.out (grown_cell b _), HC3.out.turn _⟩
        case measure =>
          unfold strLeft
          rw [(cells_of HC2.out.s 0).1, (cells_of (HC3.out.turn (rest.drop (i + 1))).s 0).1]
          simp [st_size]
          omega
      · gi_wp2
        refine bodyPost_ret (results_none rfl _ _ _) rfl ?_
        exact ⟨⟨_, rfl⟩, .inr ⟨pre ++ [rest.take i], by rw [HE.out, HP.out]; exact ⟨parts c (rest.drop (i + 1)), by simp⟩, hJx3⟩⟩

/-- the iterator of strings.SplitSeq, over its three cells from block b on -/
theorem seq_tells (n : Nat) (hn : 1 ≤ n) (b : Nat) (gs : List Nat) (c : UInt8) (zs : List UInt8) (w : World) (hlt : b + 2 < w.heap.size) (hc : Cells w b zs c) (g0 : b ∈ gs) (g1 : b + 1 ∈ gs) (g2 : b + 2 ∈ gs) (hz : zs.length ≤ maxLen) :
    Tells Fence.wide n Tryd.prog 46 #[.pointer (some ⟨b + 1, 0, none⟩), .pointer (some ⟨b, 0, none⟩), .pointer (some ⟨b + 2, 0, none⟩)] encS (OkS (parts c zs)) gs [b] false (fun ys => ys = parts c zs) (fun pre => pre <+: parts c zs) w := fun l J Jx W hW hJ h0 hY =>
  seq_in n hn l b W.heap.size gs c zs J Jx hY hJ.2 W ⟨(hW.block b (by omega)).trans hc.s, (hW.block (b + 1) (by omega)).trans hc.sep, (hW.block (b + 2) hlt).trans hc.save⟩ g0 g1 g2 hz h0

end Go.Proofs.YtkemkbaomhjnbaaDoor
