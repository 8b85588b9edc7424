/-
  The contract of embrasure/addr's hostOf: the host of a text, and whether there is one. Conditions: none.
-/
import Derived.Test.YtkemkbaomhjnbaaDoorSeq
namespace Go.Proofs.YtkemkbaomhjnbaaDoor
open Go.RowKit Go.Shelf
attribute [local go_sem] Oper.semAt_some
set_option linter.unusedVariables false

/-- a host's numbers, one behind the other: the number so far, and how many -/
def hostStep (s : Option (Nat × Nat)) (p : List UInt8) : Option (Nat × Nat) := match s with
  | none => none
  | some (v, k) => if (numV 0 255 p).2 = true then some (v * 256 % 4294967296 + (numV 0 255 p).1.toNat, k + 1) else none
def hostFold (ps : List (List UInt8)) : Option (Nat × Nat) := ps.foldl hostStep (some (0, 0))
theorem hostFold_snoc (ps : List (List UInt8)) (p : List UInt8) : hostFold (ps ++ [p]) = hostStep (hostFold ps) p := by simp [hostFold]
theorem hostFold_none : ∀ (ps : List (List UInt8)), ps.foldl hostStep none = none
  | [] => rfl
  | _ :: ps => hostFold_none ps
theorem hostFold_prefix {pre ps : List (List UInt8)} (h : pre <+: ps) (h0 : hostFold pre = none) : hostFold ps = none := by
  obtain ⟨t, rfl⟩ := h
  unfold hostFold at *
  rw [List.foldl_append, h0, hostFold_none]
def hostV (l : List UInt8) : Nat × Bool := match hostFold (parts 46 l) with
  | none => (0, false)
  | some (v, k) => (v, decide (k = 4) && decide (v ≠ 0))

theorem numF_bd (most : Int) : ∀ (l : List UInt8) (k : Nat) (v w : Int), 0 ≤ v → v ≤ most → numF most l k v = some w → 0 ≤ w ∧ w ≤ most
  | [], _, v, w, h0, h1, h => by simp [numF] at h; omega
  | c :: r, k, v, w, h0, h1, h => by
    unfold numF at h
    split at h
    · cases h
    · split at h
      · cases h
      · rename_i h2 h3
        exact numF_bd most r (k + 1) _ w (by omega) (by omega) h
theorem numV_bd (least most : Int) (l : List UInt8) (h : 0 ≤ most) : 0 ≤ (numV least most l).1 ∧ (numV least most l).1 ≤ most := by
  unfold numV
  cases h1 : numF most l 0 0 with
  | none => exact ⟨Int.le_refl _, h⟩
  | some v => exact numF_bd most l 0 0 v (Int.le_refl _) h h1
theorem hostStep_bd {s : Option (Nat × Nat)} {p : List UInt8} {v k : Nat} (h : hostStep s p = some (v, k)) (h0 : ∀ a b, s = some (a, b) → a < 4294967296) : v < 4294967296 ∧ ∃ a b, s = some (a, b) ∧ k = b + 1 := by
  cases s with
  | none => cases h
  | some x =>
    obtain ⟨a, b⟩ := x
    have ha := h0 a b rfl
    have hb := numV_bd 0 255 p (by omega)
    simp only [hostStep] at h
    split at h
    · simp only [Option.some.injEq, Prod.mk.injEq] at h
      obtain ⟨rfl, rfl⟩ := h
      exact ⟨by omega, a, b, rfl, rfl⟩
    · cases h
theorem hostFold_bd : ∀ (n : Nat) (ps : List (List UInt8)) (v k : Nat), ps.length = n → hostFold ps = some (v, k) → v < 4294967296 ∧ k = ps.length
  | 0, ps, v, k, hn, h => by
    obtain rfl : ps = [] := List.eq_nil_of_length_eq_zero hn
    simp [hostFold] at h
    exact ⟨by omega, by simp; omega⟩
  | n + 1, ps, v, k, hn, h => by
    obtain ⟨qs, p, rfl⟩ : ∃ qs p, ps = qs ++ [p] := ⟨ps.dropLast, ps.getLast (by intro e; rw [e] at hn; simp at hn), (List.dropLast_concat_getLast _).symm⟩
    have hq : qs.length = n := by simp at hn; omega
    rw [hostFold_snoc] at h
    obtain ⟨h1, a, b, h2, h3⟩ := hostStep_bd h (fun a b e => (hostFold_bd n qs a b hq e).1)
    have := (hostFold_bd n qs a b hq h2).2
    exact ⟨h1, by rw [List.length_append, List.length_singleton]; omega⟩

/-- the cells of a call of hostOf -/
structure HostAt (w V : World) (v k : Nat) : Prop where
  below : Below w.heap.size w V
  size : w.heap.size + 7 ≤ V.heap.size
  c0 : V.heap[w.heap.size]? = some (.cells #[.int .u32 0] 22 (0, 0))
  c1 : V.heap[w.heap.size + 1]? = some (.cells #[.bool false] 4 (0, 0))
  c2 : V.heap[w.heap.size + 2]? = some (.cells #[.int .u32 (v : Int)] 22 (0, 0))
  c3 : V.heap[w.heap.size + 3]? = some (.cells #[.int .i64 (k : Int)] 3 (0, 0))
theorem HostAt.turn {w V V' : World} {v k : Nat} {row : Option Nat} (h : HostAt w V v k) (hg : V.grownBy V' row) (hr : ∀ r, row = some r → w.heap.size + 4 ≤ r) : HostAt w V' v k := by
  have hs := h.size
  have old : ∀ j, j < w.heap.size + 4 → V'.heap[j]? = V.heap[j]? := fun j hj => hg.block j (by omega) (fun e => by have := hr j e.symm; omega)
  exact ⟨h.below.grown hg h.below.size (fun r e => by have := hr r e; omega), by have := hg.size; omega, (old _ (by omega)).trans h.c0, (old _ (by omega)).trans h.c1, (old _ (by omega)).trans h.c2, (old _ (by omega)).trans h.c3⟩
theorem HostAt.below' {w V V' : World} {v k : Nat} (h : HostAt w V v k) (hb : Below V.heap.size V V') : HostAt w V' v k :=
  h.turn (row := none) ⟨hb.os, hb.tape, hb.output, hb.size, fun i hi _ => hb.block i hi⟩ (by simp)
theorem HostAt.set {w V : World} {v k : Nat} (h : HostAt w V v k) (v' k' : Nat) : HostAt w ((V.setCell ⟨w.heap.size + 2, 0, none⟩ (.int .u32 (v' : Int))).setCell ⟨w.heap.size + 3, 0, none⟩ (.int .i64 (k' : Int))) v' k' := by
  have hs := h.size
  refine ⟨(h.below.setCell (by simp) _).setCell (by simp) _, by simp [World.setCell]; omega, ?_, ?_, ?_, ?_⟩
  · exact (Below.heap_setCell _ _ _ _ (by simp)).trans ((Below.heap_setCell _ _ _ _ (by simp)).trans h.c0)
  · exact (Below.heap_setCell _ _ _ _ (by simp)).trans ((Below.heap_setCell _ _ _ _ (by simp)).trans h.c1)
  · exact (Below.heap_setCell _ _ _ _ (by simp)).trans (heap_set0 h.c2)
  · exact heap_set0 ((Below.heap_setCell _ _ _ _ (by simp)).trans h.c3)
theorem host_start (w : World) (l : List UInt8) (W0 : World) (h : ((((((w.alloc (.cells #[.int .u32 0] 22)).alloc (.cells #[.bool false] 4)).alloc (.cells #[.int .u32 0] 22)).alloc (.cells #[.int .i64 0] 3)).alloc (.cells #[.string (st l)] 9)).alloc (.cells #[.string ⟨#[46]⟩] 9)).alloc (.cells #[.int .i64 0] 3) = W0) :
    HostAt w W0 0 0 ∧ Cells W0 (w.heap.size + 4) l 46 ∧ W0.heap.size = w.heap.size + 7 := by
  subst h
  have at_ : ∀ (V : World) (o : Obj) (n : Nat), n = V.heap.size → (V.alloc o).heap[n]? = some o := fun V o n e => by subst e; exact (MapKept.heap_alloc V o).1
  have up : ∀ (V : World) (o x : Obj) (n : Nat), V.heap[n]? = some x → (V.alloc o).heap[n]? = some x := fun V o x n e => (Below.heap_alloc V o n (Array.getElem?_eq_some_iff.1 e).1).trans e
  refine ⟨⟨?_, by simp, ?_, ?_, ?_, ?_⟩, ⟨?_, ?_, ?_⟩, by simp⟩
  · exact (((((((Below.refl _ w).alloc (Nat.le_refl _) _).alloc (by simp) _).alloc (by simp; omega) _).alloc (by simp; omega) _).alloc (by simp; omega) _).alloc (by simp; omega) _).alloc (by simp; omega) _
  · exact up _ _ _ _ (up _ _ _ _ (up _ _ _ _ (up _ _ _ _ (up _ _ _ _ (up _ _ _ _ (at_ _ _ _ rfl))))))
  · exact up _ _ _ _ (up _ _ _ _ (up _ _ _ _ (up _ _ _ _ (up _ _ _ _ (at_ _ _ _ (by simp))))))
  · exact up _ _ _ _ (up _ _ _ _ (up _ _ _ _ (up _ _ _ _ (at_ _ _ _ (by simp)))))
  · exact up _ _ _ _ (up _ _ _ _ (up _ _ _ _ (at_ _ _ _ (by simp))))
  · exact up _ _ _ _ (up _ _ _ _ (at_ _ _ _ (by simp)))
  · exact up _ _ _ _ (at_ _ _ _ (by simp))
  · exact at_ _ _ _ (by simp)
theorem kept_below {gs : List Nat} {t : Bool} {B : Nat} {W W' : World} (h : Below W.heap.size W W') (hg : ∀ g ∈ gs, g < W.heap.size) : Kept gs t B W W' :=
  ⟨h.size, fun g hm => h.block g (hg g hm), fun k o _ h2 _ => (h.block k (Array.getElem?_eq_some_iff.1 h2).1).trans h2⟩
theorem kept_set {gs : List Nat} {B b : Nat} {W : World} (hb : b < B) (hgs : b ∉ gs) (v : Value) : Kept gs false B W (W.setCell ⟨b, 0, none⟩ v) :=
  ⟨by simp [World.setCell], fun g hg => Below.heap_setCell _ _ _ _ (fun e => by have e2 : g = b := e; exact hgs (e2 ▸ hg)), fun k o h1 h2 _ => (Below.heap_setCell _ _ _ _ (fun e => by have e2 : k = b := e; omega)).trans h2⟩
theorem parts_len (c : UInt8) : ∀ l : List UInt8, (parts c l).length ≤ l.length + 1
  | [] => Nat.le_refl _
  | b :: l => by
    have := parts_len c l
    rw [parts_cons]
    split
    · simp; omega
    · split
      · rename_i p ps e; rw [e] at this; simp at this ⊢; omega
      · simp
theorem parts_mem (c : UInt8) : ∀ (l z : List UInt8), z ∈ parts c l → z.length ≤ l.length
  | [], z, h => by simp [parts] at h; simp [h]
  | b :: l, z, h => by
    rw [parts_cons] at h
    rw [List.length_cons]
    split at h
    · rcases List.mem_cons.1 h with rfl | h
      · simp
      · have := parts_mem c l z h; omega
    · split at h
      · rename_i p ps e
        rcases List.mem_cons.1 h with rfl | h
        · have := parts_mem c l p (by rw [e]; simp); simp; omega
        · have := parts_mem c l z (by rw [e]; simp [h]); omega
      · simp at h; simp [h]
theorem HostAt.zero {w V : World} {v k : Nat} (h : HostAt w V v k) : HostAt w ((V.setCell ⟨w.heap.size, 0, none⟩ (.int .u32 0)).setCell ⟨w.heap.size + 1, 0, none⟩ (.bool false)) v k := by
  have hs := h.size
  refine ⟨(h.below.setCell (by simp) _).setCell (by simp) _, by simp [World.setCell]; omega, ?_, ?_, ?_, ?_⟩
  · exact (Below.heap_setCell _ _ _ _ (by simp)).trans (heap_set0 h.c0)
  · exact heap_set0 ((Below.heap_setCell _ _ _ _ (by simp)).trans h.c1)
  · exact (Below.heap_setCell _ _ _ _ (by simp)).trans ((Below.heap_setCell _ _ _ _ (by simp)).trans h.c2)
  · exact (Below.heap_setCell _ _ _ _ (by simp)).trans ((Below.heap_setCell _ _ _ _ (by simp)).trans h.c3)
theorem or_step (v m : Nat) (hm : m ≤ 255) : bits .or .u32 ((v : Int) * 256 % 4294967296) (m : Int) = ((v * 256 % 4294967296 + m : Nat) : Int) := by
  rw [bits_join .u32 32 (by decide) (fun n h0 h1 => by rw [IntKind.wrap_u32]; omega) 8 _ _ (by omega) (by omega) (by omega) (by omega) (by omega) (by omega)]
  omega
theorem below_drewN'' {B : Nat} {a w : World} (h : Below B a w) (n : Nat) : Below B a (w.drewN n) := h.trans ⟨rfl, rfl, rfl, Nat.le_refl _, fun _ _ => rfl⟩
theorem bool_ne (v : Nat) : ((v : Int) != 0) = !decide (v = 0) := by
  by_cases h : v = 0 <;> simp [h]
theorem u32_step (v n : Nat) (hv : v < 4294967296) (hn : n ≤ 255) : v * 256 % 4294967296 + n < 4294967296 := by omega

set_option maxRecDepth 100000 in
set_option maxHeartbeats 4000000 in
theorem host_any (l : List UInt8) (w : World) (hl : l.length ≤ 1000000) :
    Calls Tryd.prog 32 #[.string (st l)] w fun e w' => e = .returned (.tuple #[.int .u32 ((hostV l).1 : Nat), .bool (hostV l).2]) ∧ Below w.heap.size w w' := by
  refine (callsIn_wide (n := 6)).1 ?_
  refine callsIn_of_wp_marks Tryd.func32 rfl trivial ?_ rfl
  refine wpIn_wide.2 ?_
  simp only [Tryd.ntmps32, List.size_toArray, List.length_cons, List.length_nil, Nat.reduceAdd, Nat.reduceSub, Array.replicate_succ, Array.replicate_zero, List.push_toArray, List.append_toArray, List.nil_append, List.cons_append]
  go_wp2_with (go_at_call 31; refine (seq_any _ _ _).mono ?_; rintro e w' ⟨rfl, rfl⟩)
  simp only [Nat.add_assoc, Nat.reduceAdd]
  obtain ⟨W0, hW0⟩ : ∃ W0, ((((((w.alloc (.cells #[.int .u32 0] 22)).alloc (.cells #[.bool false] 4)).alloc (.cells #[.int .u32 0] 22)).alloc (.cells #[.int .i64 0] 3)).alloc (.cells #[.string (st l)] 9)).alloc (.cells #[.string ⟨#[46]⟩] 9)).alloc (.cells #[.int .i64 0] 3) = W0 := ⟨_, rfl⟩
  obtain ⟨hH, hC, hZ⟩ := host_start w l W0 hW0
  rw [hW0]
  have HZ := Lib.hid hZ
  have HW := Lib.hid hH.below
  have hgs : ∀ g ∈ [w.heap.size + 4, w.heap.size + 5, w.heap.size + 6], g < W0.heap.size := by simp; omega
  have hst := seq_tells 5 (by omega) (w.heap.size + 4) [w.heap.size + 4, w.heap.size + 5, w.heap.size + 6] 46 l W0 (by omega) hC (by simp) (by simp) (by simp) (by unfold maxLen; omega)
  clear hW0 hC hZ
  refine (wpIn_wide (n := 6)).1 ?_
  apply range_told (F := Fence.wide) (n := 6) (f := 46) (own := #[.pointer (some ⟨w.heap.size + 5, 0, none⟩), .pointer (some ⟨w.heap.size + 4, 0, none⟩), .pointer (some ⟨w.heap.size + 6, 0, none⟩)]) ⟨rfl, by omega, trivial, enters_of Tryd.func46 (by kernel_rfl) rfl, hst⟩ rfl (Below.refl _ _) hgs (by simp; have := HZ.out; omega) (fun _ => rfl)
    (fun (pre : List (List UInt8)) W => ∃ v k, hostFold pre = some (v, k) ∧ HostAt w W v k)
    (fun c pre W => c = .ret ∧ hostFold pre = none ∧ ∃ v k, HostAt w W v k)
    ⟨(fun s X Y row ⟨v, k, h1, h2⟩ hg hr => ⟨v, k, h1, h2.turn hg (fun r e => by have := (hr r e).1; have := HZ.out; omega)⟩),
    (fun s X Y g hm ⟨v, k, h1, h2⟩ hg => ⟨v, k, h1, h2.turn hg (fun r e => by simp at hm e; omega)⟩),
    (fun c s X Y row ⟨h0, h1, v, k, h2⟩ hg hr => ⟨h0, h1, v, k, h2.turn hg (fun r e => by have := (hr r e).1; have := HZ.out; omega)⟩),
    (fun pre x s X Y row h _ _ => h)⟩
    ⟨0, 0, rfl, hH⟩
  case hassign =>
    intro l x W K hK
    simp only [encS]
    gi_wp2
    exact hK
  case hbody =>
    rintro l' pre z W hWs ⟨v, k, hf, hH⟩ hok
    obtain ⟨hv, hk⟩ := hostFold_bd _ pre v k rfl hf
    have hkl : k ≤ 1000001 := by
      have h1 := List.IsPrefix.length_le hok
      have h2 := parts_len 46 l
      simp at h1
      omega
    have hzl : z.length ≤ maxLen := by
      have h1 := parts_mem 46 l z (hok.subset (by simp))
      unfold maxLen; omega
    have HF := Lib.hid hf; have HH := Lib.hid hH; clear hf hok hk
    have HGW : Hid (∀ g ∈ [w.heap.size + 4, w.heap.size + 5, w.heap.size + 6], g < W.heap.size) := Lib.hid (fun g hg => by have := hH.size; simp at hg; omega)
    clear hH
    have hnb := numV_bd 0 255 z (by omega)
    have HN := Lib.hid (number_any (st z) 0 255 W (by rw [st_size]; exact hzl) (by omega) (by omega) (by omega) (by omega))
    rw [st_list] at HN
    have HST : Hid (hostFold (pre ++ [z]) = if (numV 0 255 z).2 = true then some (v * 256 % 4294967296 + (numV 0 255 z).1.toNat, k + 1) else none) := Lib.hid (by rw [hostFold_snoc, HF.out]; rfl)
    obtain ⟨m, hm⟩ : ∃ m : Nat, (numV 0 255 z).1 = (m : Int) := ⟨(numV 0 255 z).1.toNat, by omega⟩
    rw [hm] at HN HST hnb
    have hm2 : m ≤ 255 := by omega
    rw [Int.toNat_natCast] at HST
    clear hm hnb
    cases hb : (numV 0 255 z).2 with
    | true =>
      rw [hb] at HN HST
      rw [if_pos rfl] at HST
      clear hb
      gi_wp2_with fail
      refine ⟨trivial, (CallsIn.inRound l' (callsIn_wide.2 HN.out)).mono ?_⟩
      rintro e W3 ⟨rfl, hb3⟩
      have hH3 := HH.out.below' hb3
      have HH3 := Lib.hid hH3
      have d2 := (cells_of hH3.c2 0).1
      have d3 := (cells_of hH3.c3 0).1
      have f2 := (cells_of hH3.c2 0).2
      have f3 := (cells_of hH3.c3 0).2
      simp at d2 d3
      have HK3 : Hid (Kept [w.heap.size + 4, w.heap.size + 5, w.heap.size + 6] false W0.heap.size W W3) := Lib.hid (kept_below hb3 HGW.out)
      clear hb3 hH3
      have HOR := Lib.hid (or_step v m hm2)
      gi_wp2
      rw [HOR.out]
      exact ⟨(HK3.out.trans (kept_set (by have := HZ.out; omega) (by simp) _)).trans (kept_set (by have := HZ.out; omega) (by simp) _), _, _, HST.out, HH3.out.set _ (k + 1)⟩
    | false =>
      rw [hb] at HN HST
      rw [if_neg (by simp)] at HST
      clear hb
      gi_wp2_with fail
      refine ⟨trivial, (CallsIn.inRound l' (callsIn_wide.2 HN.out)).mono ?_⟩
      rintro e W3 ⟨rfl, hb3⟩
      have hH3 := HH.out.below' hb3
      have HH3 := Lib.hid hH3
      have d0 := (cells_of hH3.c0 0).1
      have d1 := (cells_of hH3.c1 0).1
      have f0 := (cells_of hH3.c0 0).2
      have f1 := (cells_of hH3.c1 0).2
      simp at d0 d1
      have HK3 : Hid (Kept [w.heap.size + 4, w.heap.size + 5, w.heap.size + 6] false W0.heap.size W W3) := Lib.hid (kept_below hb3 HGW.out)
      clear hb3 hH3
      gi_wp2
      exact ⟨(HK3.out.trans (kept_set (by have := HZ.out; omega) (by simp) _)).trans (kept_set (by have := HZ.out; omega) (by simp) _), rfl, HST.out, v, k, HH3.out.zero⟩
  case hstop =>
    rintro D c pre W hD hpre ⟨rfl, hf, v, k, hH⟩ hK
    have HV : Hid (hostV l = (0, false)) := Lib.hid (by unfold hostV; rw [hostFold_prefix hpre hf])
    have HK := Lib.hid hK
    have HH := Lib.hid hH
    have d0 := (cells_of hH.c0 0).1
    have d1 := (cells_of hH.c1 0).1
    simp at d0 d1
    clear hK hH hf hpre
    gi_wp2
    refine ⟨by simp, .inl ⟨_, _, rfl, run_takeDeferred HK.out, ?_⟩⟩
    have e0 := cell_kept d0 (grownBy_putObj' _ D (.deferred none)) (fun r e => by cases e; exact ⟨_, HK.out, rfl⟩)
    have e1 := cell_kept d1 (grownBy_putObj' _ D (.deferred none)) (fun r e => by cases e; exact ⟨_, HK.out, rfl⟩)
    exact ⟨.tuple #[.int .u32 0, .bool false], by simp [results, Tryd.results32, go_sem, e0, e1], by rw [HV.out]; rfl, HH.out.below.trans (belowK_b (w := w) (Nat.le_refl _) _ D _ _ (by have := HZ.out; omega) HK.out rfl rfl)⟩
  case hdone =>
    rintro D xs W hD hxs ⟨v, k, hf, hH⟩ hK
    have hxs : xs = parts 46 l := hxs
    subst hxs
    obtain ⟨hv, hk⟩ := hostFold_bd _ _ v k rfl hf
    have hkl : k ≤ 1000001 := by have := parts_len 46 l; omega
    have HV : Hid (hostV l = (v, decide (k = 4) && decide (v ≠ 0))) := Lib.hid (by unfold hostV; rw [hf])
    have HK := Lib.hid hK
    have HH := Lib.hid hH
    have d0 := (cells_of hH.c0 0).1
    have d1 := (cells_of hH.c1 0).1
    have d2 := (cells_of hH.c2 0).1
    have d3 := (cells_of hH.c3 0).1
    have f0 := (cells_of hH.c0 0).2
    have f1 := (cells_of hH.c1 0).2
    simp at d0 d1 d2 d3
    clear hK hH hf hk
    have fin : ∀ (b : Bool) (W2 : World), W2 = ((W.setCell ⟨w.heap.size, 0, none⟩ (.int .u32 (v : Int))).setCell ⟨w.heap.size + 1, 0, none⟩ (.bool b)).drew →
        W2.heap[D]? = some (.deferred (some [])) ∧ (W2.putObj D (.deferred none)).cell? ⟨w.heap.size, 0, none⟩ = some (.int .u32 (v : Int)) ∧ (W2.putObj D (.deferred none)).cell? ⟨w.heap.size + 1, 0, none⟩ = some (.bool b) ∧ Below w.heap.size w (W2.putObj D (.deferred none)) := by
      rintro b W2 rfl
      have g0 := heap_set0 (u := .int .u32 (v : Int)) HH.out.c0
      have hD2 : ((W.setCell ⟨w.heap.size, 0, none⟩ (.int .u32 (v : Int))).setCell ⟨w.heap.size + 1, 0, none⟩ (.bool b)).drew.heap[D]? = some (.deferred (some [])) :=
        (Below.heap_setCell _ _ _ _ (by have := HZ.out; simp; omega)).trans ((Below.heap_setCell _ _ _ _ (by have := HZ.out; simp; omega)).trans HK.out)
      have k0 : ((W.setCell ⟨w.heap.size, 0, none⟩ (.int .u32 (v : Int))).setCell ⟨w.heap.size + 1, 0, none⟩ (.bool b)).drew.cell? ⟨w.heap.size, 0, none⟩ = some (.int .u32 (v : Int)) := by
        have := (Below.heap_setCell (W.setCell ⟨w.heap.size, 0, none⟩ (.int .u32 (v : Int))) ⟨w.heap.size + 1, 0, none⟩ (.bool b) w.heap.size (by simp)).trans g0
        simpa using (cells_of this 0).1
      have k1 : ((W.setCell ⟨w.heap.size, 0, none⟩ (.int .u32 (v : Int))).setCell ⟨w.heap.size + 1, 0, none⟩ (.bool b)).drew.cell? ⟨w.heap.size + 1, 0, none⟩ = some (.bool b) := by
        have := heap_set0 (u := .bool b) ((Below.heap_setCell W ⟨w.heap.size, 0, none⟩ (.int .u32 (v : Int)) (w.heap.size + 1) (by simp)).trans HH.out.c1)
        simpa using (cells_of this 0).1
      refine ⟨hD2, cell_kept k0 (grownBy_putObj' _ D (.deferred none)) (fun r e => by cases e; exact ⟨_, hD2, rfl⟩), cell_kept k1 (grownBy_putObj' _ D (.deferred none)) (fun r e => by cases e; exact ⟨_, hD2, rfl⟩), ?_⟩
      exact (((HH.out.below.setCell (by simp) _).setCell (by simp) _).drew).trans (belowK_b (w := w) (Nat.le_refl _) _ D _ _ (by have := HZ.out; omega) hD2 rfl rfl)
    have FIN := Lib.hid fin; clear fin
    have e5 : (k : Int) ≤ 1000001 := by omega
    by_cases h4 : k = 4
    · subst h4
      go_wp2
      go_region
      all_goals
        go_wp2
        obtain ⟨q1, q2, q3, q4⟩ := FIN.out ((v : Int) != 0) _ rfl
        refine ⟨by simp, .inl ⟨_, _, rfl, run_takeDeferred q1, ?_⟩⟩
        exact ⟨.tuple #[.int .u32 (v : Int), .bool ((v : Int) != 0)], by simp [results, Tryd.results32, go_sem, q2, q3], by rw [HV.out]; simp [bool_ne], q4⟩
    · have t4 : ((k : Int) == 4) = false := by rw [beq_eq_false_iff_ne]; omega
      have H4 := Lib.hid h4
      go_wp2
      go_region
      all_goals
        go_wp2
        obtain ⟨q1, q2, q3, q4⟩ := FIN.out false _ rfl
        refine ⟨by simp, .inl ⟨_, _, rfl, run_takeDeferred q1, ?_⟩⟩
        exact ⟨.tuple #[.int .u32 (v : Int), .bool false], by simp [results, Tryd.results32, go_sem, q2, q3], by rw [HV.out]; simp [H4.out], q4⟩
end Go.Proofs.YtkemkbaomhjnbaaDoor
