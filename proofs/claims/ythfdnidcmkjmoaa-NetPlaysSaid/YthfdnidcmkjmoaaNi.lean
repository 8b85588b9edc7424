/-
  The iterator that net's All hands back tells the datagrams that were there, in order, or a beginning of them where a round has said that it wants no more; each with bytes of its own, just laid. Conditions: at most 1000 datagrams, none of more than a million bytes; the rounds keep the blocks that the iterator reads.
-/
import Derived.Test.YthfdnidcmkjmoaaNv
namespace Go.Proofs.Ythfdnidcmkjmoaa
open Go.RowKit Go.Shelf
attribute [local go_sem] Oper.semAt_some
set_option linter.unusedVariables false

/-- these blocks are as they were -/
def SameAt (gs : List Nat) (W W' : World) : Prop := W.heap.size ≤ W'.heap.size ∧ ∀ g ∈ gs, W'.heap[g]? = W.heap[g]?
theorem SameAt.refl (gs : List Nat) (W : World) : SameAt gs W W := ⟨Nat.le_refl _, fun _ _ => rfl⟩
theorem SameAt.t {gs : List Nat} {A B C : World} (h : SameAt gs A B) (k : SameAt gs B C) : SameAt gs A C := ⟨Nat.le_trans h.1 k.1, fun g hg => (k.2 g hg).trans (h.2 g hg)⟩
theorem take_mapD {L : List Md} {k : Nat} {m : Md} {pre : List Md} {z : Md} (h : L[k]? = some m) (hp : pre.map Md.d = (L.take k).map Md.d) (hz : z.d = m.d) : (pre ++ [z]).map Md.d = (L.take (k + 1)).map Md.d := by
  rw [List.map_append, hp, List.take_add_one, h]
  simp [hz]
theorem map_len {L pre : List Md} {k : Nat} (hp : pre.map Md.d = (L.take k).map Md.d) (hk : k ≤ L.length) : pre.length = k := by
  have := congrArg List.length hp
  simpa [hk] using this

set_option maxRecDepth 100000 in
set_option maxHeartbeats 4000000 in
theorem all1_in (n : Nat) (hn : 1 ≤ n) (l b2 B0 : Nat) (gs : List Nat) (kv : Value) (L : List Md) (J Jx : List Md → World → Prop)
    (hY : ∀ pre z Va V1, J pre Va → Below Va.heap.size Va V1 → OkM L pre z Va V1 → YieldAt Fence.wide (n - 1) Try.prog l (encM z) V1 fun e W' => Kept gs false B0 V1 W' ∧
      ((e = .returned (.bool true) ∧ J (pre ++ [z]) W') ∨ (e = .returned (.bool false) ∧ Jx (pre ++ [z]) W')))
    (W : World) (hS : Snp W b2 kv L) (hgs : ∀ g ∈ blks b2 kv L, g ∈ gs) (hgl : ∀ g ∈ gs, g < W.heap.size) (hbig : L.length ≤ 1000) (hsm : ∀ m ∈ L, m.d.b.length ≤ 1000000) (hJ : ∀ pre A C, J pre A → Below A.heap.size A C → J pre C) (h0 : J [] W) :
    CallsIn Fence.wide n Try.prog 32 #[.func (.yield l) #[] #[], .pointer (some ⟨b2, 0, none⟩)] W fun e W' => (∃ v, e = .returned v) ∧
      ((∃ ys : List Md, ys.map Md.d = L.map Md.d ∧ J ys W') ∨ (∃ pre : List Md, (∃ rest, L.map Md.d = pre.map Md.d ++ rest) ∧ Jx pre W')) := by
  refine callsIn_of_wp Try.func32 rfl trivial ?_ rfl
  simp only [Try.ntmps32, List.size_toArray, List.length_cons, List.length_nil, Nat.reduceAdd, Nat.reduceSub, Array.replicate_succ, Array.replicate_zero, List.push_toArray, List.append_toArray, List.nil_append, List.cons_append]
  obtain ⟨A, c, hkv, hlc, hcm, -⟩ := hS.form
  subst hkv
  have c0 := hS.box
  have HY := Lib.hid hY; have HS := Lib.hid hS; have HGS := Lib.hid hgs; have HSM := Lib.hid hsm; have HJ := Lib.hid hJ; have HGL := Lib.hid hgl
  clear hY hS hgs hsm hJ hgl
  unfold maxLen at hcm
  gi_wp2
  gi_loopw [7] (fun i wr => ∃ (k : Nat) (pre : List Md), k ≤ L.length ∧ i = .int .i64 (k : Int) ∧ Hid (pre.map Md.d = (L.take k).map Md.d) ∧ Hid (J pre wr) ∧ Hid (SameAt gs W wr)) (fun i _ => L.length - (intOf i).toNat)
  case atStart => exact ⟨0, [], Nat.zero_le _, rfl, Lib.hid rfl, Lib.hid h0, Lib.hid (SameAt.refl _ _)⟩
  case round =>
    obtain ⟨k, pre, hk, rfl, HP, HJK, HSA⟩ := hrel
    clear h0 c0
    by_cases hlt : k < L.length
    · have hltz : (k : Int) < (L.length : Int) := by omega
      obtain ⟨m, hm⟩ : ∃ m, L[k]? = some m := ⟨_, List.getElem?_eq_getElem hlt⟩
      have hsn := HS.out.kept (fun g hg => HSA.out.2 g (HGS.out g hg)) HSA.out.1
      obtain ⟨A', c', hkv, -, -, hat⟩ := hsn.form
      cases hkv
      obtain ⟨g, rfl, gl, -, d0, d1, d2, d3, d4, d5⟩ := hat k m hm
      have hmem := List.mem_of_getElem? hm
      obtain ⟨t1, t2, t3, t4⟩ := (hsn.mds m hmem).bts
      have HT := Lib.hid (told_any m.d.no m.d.f m.d.t m.A m.d.b.length m.c m.d.b (wr.alloc (.cells (sentC m.d.no m.d.f m.d.t m.v) 43)) (t1.alloc _) t4 (HSM.out m hmem))
      have HM := Lib.hid hm; have HBD := Lib.hid (hsn.mds m hmem).bd
      unfold sentC at HT
      unfold Md.v at HT d5
      clear hat hsn t1 t2 t3 t4 hm hmem
      gi_wp2_with fail
      refine ⟨trivial, ?_⟩
      refine (callsIn_wide.2 HT.out).mono ?_
      rintro e W1 ⟨A5, c5, rfl, ho, hb⟩
      have hb1 : Below wr.heap.size wr W1 := ((Below.refl _ wr).alloc (Nat.le_refl _) _).trans (hb.mono (by simp))
      have hok : OkM L pre ⟨m.d, A5, c5⟩ wr W1 := ⟨⟨k, m, HM.out, (map_len HP.out hk).symm, rfl⟩, ⟨⟨ho.1, ho.2.imp id (fun ⟨g, cap, cur, e1, e2, e3⟩ => ⟨g, cap, cur, e1, Nat.zero_le _, e3⟩)⟩, HBD.out⟩, fun g hg => by have := (ho.lt g hg).1; simp at this; omega⟩
      obtain ⟨fn, tmps, assign, body, hy, hR⟩ := HY.out pre ⟨m.d, A5, c5⟩ wr W1 HJK.out hb1 hok
      have HB1 := Lib.hid hb1
      dsimp only [encM] at hy hR
      unfold sentC Md.v at hy
      dsimp only at hy
      clear ho hb hok hb1 d0 d1 d2 d3 d4 d5
      gi_wp2
      refine hR.mono ?_
      rintro e W3 hr3
      obtain ⟨r, rfl, hr⟩ := said_one hr3
      have HR3 := Lib.hid hr
      have HS3 : Hid (SameAt gs W W3) := Lib.hid (HSA.out.t ⟨Nat.le_trans HB1.out.size hr.1.size, fun g hg => (hr.1.same g hg).trans (HB1.out.block g ?hg)⟩)
      case hg => exact Nat.lt_of_lt_of_le (HGL.out g hg) HSA.out.1
      clear hr3 hr
      cases r with
      | true =>
        gi_wp2
        go_roundw
        case rel => exact ⟨k + 1, pre ++ [⟨m.d, A5, c5⟩], by omega, by go_num, Lib.hid (take_mapD HM.out HP.out rfl), Lib.hid (by simpa using HR3.out.2), HS3⟩
        case measure => simp [intOf]; omega
      | false =>
        gi_wp2
        refine bodyPost_ret (results_none rfl _ _ _) rfl ?_
        refine ⟨⟨_, rfl⟩, .inr ⟨pre ++ [⟨m.d, A5, c5⟩], ?_, by simpa using HR3.out.2⟩⟩
        have e := take_mapD (z := ⟨m.d, A5, c5⟩) HM.out HP.out rfl
        rw [e]
        exact ⟨(L.drop (k + 1)).map Md.d, by rw [← List.map_append, List.take_append_drop]⟩
    · obtain rfl : k = L.length := by omega
      have hltz : ¬ (L.length : Int) < (L.length : Int) := by omega
      gi_wp2
      refine bodyPost_end (results_none rfl _ _ _) rfl ?_
      exact ⟨⟨_, rfl⟩, .inl ⟨pre, by rw [HP.out, List.take_length], HJK.out⟩⟩
/-- .. in the words of a loop over it -/
theorem all1_tells (n : Nat) (hn : 1 ≤ n) (b2 : Nat) (gs : List Nat) (kv : Value) (L : List Md) (w : World) (hlt : ∀ g ∈ gs, g < w.heap.size) (hS : Snp w b2 kv L) (hgs : ∀ g ∈ blks b2 kv L, g ∈ gs) (hbig : L.length ≤ 1000) (hsm : ∀ m ∈ L, m.d.b.length ≤ 1000000) :
    Tells3 Fence.wide n Try.prog 32 #[.pointer (some ⟨b2, 0, none⟩)] encM (OkM L) gs false (fun ys => ys.map Md.d = L.map Md.d) (fun pre => ∃ rest, L.map Md.d = pre.map Md.d ++ rest) w := fun l J Jx W hW hown h0 hY =>
  all1_in n hn l b2 W.heap.size gs kv L J Jx hY W (hS.kept (fun g hg => hW.block g (hlt g (hgs g hg))) hW.size) hgs (fun g hg => Nat.lt_of_lt_of_le (hlt g hg) hW.size) hbig hsm (fun pre A C hj hb => hown.1 pre A C none hj (Below.grown hb) (fun r e => by cases e)) h0
end Go.Proofs.Ythfdnidcmkjmoaa
