/-
  The contract of Names: a new row that holds the table's names, in order. Condition: the table stands for its list of timers.
-/
import Derived.Test.YtahccfljgmleiaaOrd
import Derived.Test.YtahccfljgmleiaaSrtB
import Derived.Test.YtahccfljgmleiaaIter
import Derived.Sort.KeysCollected
namespace Go.Proofs.Ytahccfljgmleiaa
open Go.RowKit Go.Sort
set_option linter.unusedVariables false

section
variable {w0 W : World} {b : Nat} {dk : Array Ky}
theorem sw_other (S : SW nam w0 b 0 dk W) {k : Nat} (hk : k < w0.heap.size) (hn : k ≠ b) : W.heap[k]? = w0.heap[k]? := by
  obtain ⟨n, os, rfl⟩ := S
  unfold sortWorld grow putRow mapBlock
  simp only
  rw [Array.getElem?_append_left (by simpa [Sort.ahead] using hk), Array.getElem?_modify, if_neg (fun e => hn e.symm)]
  rfl
theorem sw_below (S : SW nam w0 b 0 dk W) {B : Nat} (hb : B ≤ b) (hB : B ≤ w0.heap.size) : Below B w0 W := by
  have hs := S.le
  have ho := fun k (hk : k < w0.heap.size) (hn : k ≠ b) => sw_other S hk hn
  obtain ⟨n, os, rfl⟩ := S
  exact ⟨rfl, rfl, rfl, hs, fun k hk => ho k (by omega) (by omega)⟩
end

/-- a row of names, laid at base or later -/
def NRow (W : World) (base : Nat) (v : Value) (xs : List Ky) : Prop :=
  ∃ A c, v = .slice A xs.length c ∧ xs.length ≤ c ∧ (xs ≠ [] → ∃ g, A = some ⟨g, 0, none⟩ ∧ base ≤ g ∧ g < W.heap.size ∧ ∀ i x, xs[i]? = some x → W.cell? ⟨g, i, none⟩ = some (.string (str x)))
/-- a table's names, in order -/
def namesL (L : List En) : List Ky := L.map (·.1)

theorem lift_names : ∀ (ss : List (List UInt8)), (∀ s ∈ ss, s.length ≤ maxLen) → ∃ ks : List Ky, ks.map (·.1) = ss
  | [], _ => ⟨[], rfl⟩
  | s :: ss, h => by
    obtain ⟨ks, hk⟩ := lift_names ss (fun t ht => h t (by simp [ht]))
    exact ⟨⟨s, h s (by simp)⟩ :: ks, by simp [hk]⟩
theorem perm_lift {ks ls : List Ky} (h : (ks.map (·.1)).Perm (ls.map (·.1))) (hn : ls.Nodup) : ks.Perm ls := by
  have hl : (ls.map (·.1)).Nodup := by
    refine List.pairwise_map.2 (hn.imp ?_)
    intro a b hab e
    exact hab (Subtype.ext e)
  have hk : ks.Nodup := by
    have := (h.nodup_iff).2 hl
    exact (List.pairwise_map.1 this).imp (fun hab e => hab (by rw [e]))
  refine (List.perm_ext_iff_of_nodup hk hn).2 fun x => ?_
  have := h.mem_iff (a := x.1)
  rw [List.mem_map, List.mem_map] at this
  constructor
  · intro hx
    obtain ⟨y, hy, e⟩ := this.1 ⟨x, hx, rfl⟩
    rwa [← Subtype.ext e]
  · intro hx
    obtain ⟨y, hy, e⟩ := this.2 ⟨x, hx, rfl⟩
    rwa [← Subtype.ext e]
theorem names_keys {w : World} {b n : Nat} {D : DataW Unit} {L : List En} (hm : w.ownsMap Try.prog 9 (plainElem (H := Unit) Try.prog 3) b n D) (hT : Tags D L) (hL : Tbl L) : ((namesL L).map (·.1)).Perm (strKeys D) := by
  obtain ⟨es, hD, hpw, _⟩ := hm.entries (Maps.string_keyed Try.underlying9)
  obtain ⟨es', hD', hko⟩ := hm.keysOf
  obtain rfl : es = es' := by rw [hD] at hD'; simpa using hD'
  have hhas := hT.has
  have hle := strKeys_le hm Try.underlying9
  subst hD
  have hkey : ∀ p ∈ es, ∃ x, p.1 = .string x := fun p hp => by
    obtain ⟨v, hv⟩ := hko p hp
    obtain ⟨x, _, hx, _⟩ := Maps.keyOf_str Try.underlying9 hv
    exact ⟨x, hx⟩
  refine perm_strKeys hpw hkey ?_ ?_
  · refine List.pairwise_map.2 (hL.nodup.imp ?_)
    intro a b hab e
    exact hab (Subtype.ext e)
  · intro x
    rw [List.mem_map]
    constructor
    · rintro ⟨y, hy, rfl⟩
      rw [hhas y, inL_iff]
      obtain ⟨e, he, rfl⟩ := List.mem_map.1 hy
      exact ⟨e.2, he⟩
    · intro h
      have hx : x.length ≤ maxLen := by
        rw [Maps.has_eq, List.any_eq_true] at h
        obtain ⟨p, hp, hs⟩ := h
        obtain ⟨z, hz⟩ := hkey p hp
        rw [hz] at hs
        have hzx : z = x := by simpa [Lit.sameKey] using hs
        refine hle x ?_
        show x ∈ es.map fun p => strOf p.1
        exact List.mem_map.2 ⟨p, hp, by rw [hz, hzx]; rfl⟩
      have h2 := hhas ⟨x, hx⟩
      rw [show Maps.has (.map es) (.string x) = true from h] at h2
      obtain ⟨t, ht⟩ := inL_iff.1 h2.symm
      exact ⟨⟨x, hx⟩, List.mem_map.2 ⟨_, ht, rfl⟩, rfl⟩
theorem names_sorted {L : List En} (hL : Tbl L) : SortedIn (ltOf (cfOf L)) 0 L.length (namesL L).toArray := by
  intro i j _ hij hj
  have hi : i < L.length := by omega
  have h1 : ((namesL L).toArray)[i]! = (L[i]).1 := by simp [namesL, hi]
  have h2 : ((namesL L).toArray)[j]! = (L[j]).1 := by simp [namesL, hj]
  have t1 : timeOf L (L[i]).1 = (L[i]).2 := timeOf_mem hL (List.getElem_mem hi)
  have t2 : timeOf L (L[j]).1 = (L[j]).2 := timeOf_mem hL (List.getElem_mem hj)
  rw [h1, h2, cf_lt, decide_eq_false_iff_not, t1, t2]
  have := List.pairwise_iff_getElem.1 hL.sorted i j hi hj hij
  exact fun h => bef_irrefl _ (bef_trans this h)
theorem perm_all {d d' : Array Ky} (h : d'.toList.Perm d.toList) : PermIn 0 d.size d d' := by
  have hs : d'.size = d.size := by have := h.length_eq; simpa using this
  refine ⟨hs, fun i hi => ?_, ?_⟩
  · rcases hi with hi | hi
    · omega
    · have a : d[i]? = none := Array.getElem?_eq_none (by omega)
      have b : d'[i]? = none := Array.getElem?_eq_none (by omega)
      rw [getElem!_def, getElem!_def, a, b]
  · rw [← hs, Array.extract_size, hs, Array.extract_size]; exact h
theorem sorted_names {L : List En} (hL : Tbl L) {d d' : Array Ky} (hp : d.toList.Perm (namesL L)) (h1 : PermIn 0 d.size d d') (h2 : SortedIn (ltOf (cfOf L)) 0 d.size d') : d'.toList = namesL L := by
  have hlen : d.size = L.length := by have := hp.length_eq; simpa [namesL] using this
  have e1 := sorted_unique_holds (lt := ltOf (cfOf L)) (cf_weak L) (fun x y => cf_parts) d d' h1 h2
  have e2 := sorted_unique_holds (lt := ltOf (cfOf L)) (cf_weak L) (fun x y => cf_parts) d (namesL L).toArray (perm_all (by simpa using hp.symm)) (by rw [hlen]; exact names_sorted hL)
  rw [e1, ← e2]

/-- what Names hands back -/
def Told18 (w : World) (L : List En) : Ending → World → Prop := fun e w' => ∃ v, e = .returned v ∧ NRow w' w.heap.size v (namesL L) ∧ Below w.heap.size w w'

set_option maxHeartbeats 2000000 in
theorem sortedFunc_any (tb bm : Nat) (L : List En) (w : World) (h : Du w tb bm L) :
    Calls Try.prog 25 #[.func (.func 31) #[] #[.pointer (some ⟨w.heap.size, 0, none⟩)], ofTab (.pointer (some ⟨tb, 0, none⟩))] (w.alloc (.cells #[.map (some bm)] 58)) (Told18 w L) := by
  obtain ⟨D, hm, hT⟩ := h.map
  have hsz : Maps.size D ≤ 200 := by rw [hT.size]; exact h.tbl.few
  have hseq : SeqGives Fence.wide 3 Try.prog 31 #[.pointer (some ⟨w.heap.size, 0, none⟩)] encStr (fun ss => ss.Perm (strKeys D)) (Maps.size D) (w.alloc (.cells #[.map (some bm)] 58)) :=
    AnyZ.keys_gives (ρ := Try.keys26_ren) { Try.keys26 with } Fence.wide _ trivial rfl (by omega) w.heap.size bm L.length D _ (by simp) (by simp) (hm.alloc _)
  have hcol := AnyZ.collect_in Try.coll29 Fence.wide 5 trivial trivial rfl (by omega) 31 #[.pointer (some ⟨w.heap.size, 0, none⟩)] trivial (enters_of Try.func31 (by kernel_rfl) rfl) (fun ss => ss.Perm (strKeys D)) (Maps.size D) (by unfold maxLen; omega) (by omega) (w.alloc (.cells #[.map (some bm)] 58)) hseq
  have HC := Lib.hid (callsIn_wide.1 hcol)
  have HD := Lib.hid h
  have HM := Lib.hid hm
  have HT := Lib.hid hT
  clear hseq hcol h hm hT
  go_enter Try.func25, Try.ntmps25
  go_wp2_with fail
  refine HC.out.mono ?_
  rintro e w1 ⟨v, ss, rfl, hS, hrow, hnil, hb⟩
  have hbw : Below w.heap.size w w1 := (((Below.refl _ w).alloc (Nat.le_refl _) _).trans (hb.mono (by simp)))
  have hp1 : ss.Perm ((namesL L).map (·.1)) := hS.trans (names_keys HM.out HT.out HD.out.tbl).symm
  obtain ⟨ks, hks⟩ := lift_names ss (fun s hs => by
    have := hp1.mem_iff.1 hs
    obtain ⟨x, _, rfl⟩ := List.mem_map.1 this
    exact x.2)
  have hkp : ks.Perm (namesL L) := perm_lift (hks ▸ hp1) HD.out.tbl.nodup
  have hkl : ks.length = L.length := by have := hkp.length_eq; simpa [namesL] using this
  have hssl : ss.length = L.length := by rw [← hks, List.length_map, hkl]
  rcases hrow.2 with ⟨rfl, hn⟩ | ⟨g, cap, cur, rfl, hg, hcur, hnc, hcm, hcs, htake⟩
  · have hL0 : L = [] := List.eq_nil_of_length_eq_zero (by omega)
    have HL0 := Lib.hid hL0
    have HB := Lib.hid hbw
    clear hL0 hn hbw hp1 hks hkp hkl hssl hS hrow hnil hb
    go_wp2_with fail
    refine (sort_none _ _).mono ?_
    rintro e w2 ⟨rfl, rfl⟩
    go_wp2
    go_ret
    rw [HL0.out]
    exact ⟨_, rfl, ⟨none, 0, rfl, Nat.le_refl _, fun h => absurd rfl h⟩, HB.out⟩
  · have hgl := (Array.getElem?_eq_some_iff.1 hcur).1
    have hgw : w.heap.size + 1 ≤ g := by simpa using hg
    have hlt := HD.out.lt
    have HD1 : Hid (Du w1 tb bm L) := Lib.hid (HD.out.after hbw)
    have hE : Env (.pointer (some ⟨tb, 0, none⟩)) (cfOf L) w1 g L.length := by
      refine ⟨fun W dk S hs x y => ?_, hgl, ⟨ks.toArray, by simpa using hkl, fun j hj => ?_⟩, by have := HD.out.tbl.few; omega, cf_weak L⟩
      · refine order_any tb bm L x y W (HD1.out.kept (sw_other S (by have := hbw.size; omega) (by omega)) (sw_other S (by have := hbw.size; omega) (by omega)))
      · have hj' : j < ks.length := by simpa using hj
        have hjs : j < ss.length := by omega
        rw [Nat.zero_add]
        constructor
        · have e1 : cur[j]? = some (encStr ss[j]) := by
            have := congrArg (fun l => l[j]?) htake
            simp only [List.getElem?_take, Nat.mul_one, if_pos hjs, List.getElem?_map, List.getElem?_eq_getElem hjs, Option.map_some] at this
            simpa using this
          have e2 : ss[j] = (ks[j]).1 := by simp [← hks]
          have e3 : (ks.toArray)[j]! = ks[j] := by simp [hj']
          unfold World.cell?
          simp only [hcur]
          rw [e3]
          show cur[j]? = _
          rw [e1, e2]; rfl
        · simp [World.frozen?, hcur]
    have HE := Lib.hid hE
    have HS : Hid (SW nam w1 g 0 ks.toArray w1) := Lib.hid (SW.start (by
      obtain ⟨d0, h0, hh⟩ := hE.row
      have := hE
      intro j hj
      have hj' : j < ks.length := by simpa using hj
      have hjs : j < ss.length := by omega
      rw [Nat.zero_add]
      constructor
      · have e1 : cur[j]? = some (encStr ss[j]) := by
          have := congrArg (fun l => l[j]?) htake
          simp only [List.getElem?_take, Nat.mul_one, if_pos hjs, List.getElem?_map, List.getElem?_eq_getElem hjs, Option.map_some] at this
          simpa using this
        have e2 : ss[j] = (ks[j]).1 := by simp [← hks]
        have e3 : (ks.toArray)[j]! = ks[j] := by simp [hj']
        unfold World.cell?
        simp only [hcur]
        rw [e3]
        show cur[j]? = _
        rw [e1, e2]; rfl
      · simp [World.frozen?, hcur]))
    have HB := Lib.hid hbw
    have HKP := Lib.hid hkp
    have HKL := Lib.hid hkl
    have HCAP : Hid (L.length ≤ cap) := Lib.hid (by omega)
    have hsl := hssl
    rw [hsl]
    have hgs := hgw
    clear hE hbw hp1 hks hkp hkl hssl hS hrow hnil hb hcur htake hcs hsl hnc hg
    go_wp2_with fail
    refine (sort_any HE.out cap ks.toArray w1 (by simpa using HKL.out) HS.out).mono ?_
    rintro e w2 ⟨rfl, d', q1, q2, hS2⟩
    have H2 : Hid (NRow w2 w.heap.size (.slice (some ⟨g, 0, none⟩) L.length cap) (namesL L) ∧ Below w.heap.size w w2) := Lib.hid (by
      have hds : d'.size = L.length := by have := q1.1; simpa [HKL.out] using this
      have hdl : d'.toList = namesL L := sorted_names HD.out.tbl (d := ks.toArray) (by simpa using HKP.out) (by simpa [HKL.out] using q1) (by simpa [HKL.out] using q2)
      have hnl : (namesL L).length = L.length := by simp [namesL]
      refine ⟨⟨some ⟨g, 0, none⟩, cap, by rw [hnl], by rw [hnl]; exact HCAP.out, fun _ => ⟨g, rfl, by omega, hS2.lt HE.out.old, fun i x hx => ?_⟩⟩, HB.out.trans (sw_below hS2 (by omega) HB.out.size)⟩
      have hi : i < L.length := by have := (List.getElem?_eq_some_iff.1 hx).1; omega
      have := (HE.out.cell hS2 hds hi).1
      rw [this]
      have e4 : d'[i]! = x := by
        have h5 : d'[i]? = some x := by rw [← Array.getElem?_toList, hdl]; exact hx
        rw [getElem!_def, h5]
      rw [e4])
    clear q1 q2 hS2
    go_wp2
    go_ret
    exact ⟨_, rfl, H2.out⟩

set_option maxHeartbeats 2000000 in
theorem names_any (tb bm : Nat) (L : List En) (w : World) (h : Du w tb bm L) : Calls Try.prog 18 #[.pointer (some ⟨tb, 0, none⟩)] w (Told18 w L) := by
  have HK := Lib.hid (callsIn_wide.1 (AnyZ.keys_in Try.keys26 Fence.wide 5 trivial rfl (some bm) w))
  have HS := Lib.hid (sortedFunc_any tb bm L w h)
  have c0 := h.cell
  clear h
  go_enter Try.func18, Try.ntmps18
  go_wp2_with fail
  refine HK.out.mono ?_
  rintro e w1 ⟨rfl, rfl⟩
  go_wp2_with fail
  refine HS.out.mono ?_
  rintro e w2 ⟨v, rfl, h2⟩
  have H2 := Lib.hid h2
  clear h2
  go_wp2
  go_ret
  exact ⟨v, rfl, H2.out⟩

end Go.Proofs.Ytahccfljgmleiaa
