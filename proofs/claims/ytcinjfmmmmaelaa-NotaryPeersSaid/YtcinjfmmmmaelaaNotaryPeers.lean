/-
  The statement NotaryPeers holds: one text has for each peer a tag of its own, and each tag is of that peer alone. Conditions: none beyond the row's own.
-/
import Derived.Test.YtcinjfmmmmaelaaAwake
import Derived.Test.YtcinjfmmmmaelaaRows
import Derived.WalkKit
import Derived.ProofKit
import Derived.OpenShut
import Derived.ShutString
import Derived.ChangeOld
import Derived.Below
namespace Go.Proofs.Ytcinjfmmmmaelaa.notaryPeers
open Go.ChangeShapes Go.WideShapes Go.ChangeAt Go.RowKit
open Go.ChangeMaps (open_string shut_string)
set_option linter.unusedVariables false

theorem own : ownKnob Try.prog.godebug = none := by kernel_rfl
theorem laidOut : laidOutB Try.prog = true := by kernel_rfl

/-- the entries of one text, for the peers 1, 2, and so on -/
def peersL (zs : List Int) (n : Nat) : List Item := (List.range n).map fun j : Nat => ((j : Int) + 1, zs)
theorem peersL_len (zs : List Int) (n : Nat) : (peersL zs n).length = n := by simp [peersL]
theorem peersL_at (zs : List Int) {n j : Nat} (h : j < n) : (peersL zs n)[j]? = some ((j : Int) + 1, zs) := by simp [peersL, h]
theorem peersL_mem {zs : List Int} {n i : Nat} : ((i : Int) + 1, zs) ∈ peersL zs n ↔ i < n := by
  unfold peersL
  rw [List.mem_map]
  constructor
  · rintro ⟨j, hj, e⟩
    simp only [Prod.mk.injEq] at e
    have := List.mem_range.1 hj
    omega
  · exact fun h => ⟨i, List.mem_range.2 h, rfl⟩
theorem peersL_succ (zs : List Int) (n : Nat) : peersL zs (n + 1) = peersL zs n ++ [((n : Int) + 1, zs)] := by simp [peersL, List.range_succ]
theorem peersL_new (zs : List Int) (n : Nat) : tagL (peersL zs n) ((n : Int) + 1, zs) = n + 1 ∧ mintL (peersL zs n) ((n : Int) + 1, zs) = peersL zs (n + 1) := by
  have h : ((n : Int) + 1, zs) ∉ peersL zs n := fun h => by have := peersL_mem.1 h; omega
  exact ⟨by rw [tagL_new h, peersL_len], by rw [mintL, if_neg h, peersL_succ]⟩
def ifSame (i j : Nat) : Int := if i = j then 0 else 12
theorem checkL_peer (zs : List Int) {n i j : Nat} (h : j < n) : checkL (peersL zs n) ((i : Int) + 1, zs) (j + 1) = ifSame i j := by
  unfold checkL ifSame
  rw [show j + 1 - 1 = j by omega, peersL_at zs h]
  by_cases e : i = j
  · subst e; simp
  · have e2 : ¬ ((j : Int) = (i : Int)) := by omega
    simp [e, e2]
theorem checkL_last (zs : List Int) (n : Nat) : checkL (peersL zs n) ((n : Int) + 1, zs) n = 12 := by
  cases n with
  | zero => rfl
  | succ m =>
    have := checkL_peer zs (n := m + 1) (i := m + 1) (j := m) (by omega)
    rw [this]
    unfold ifSame
    rw [if_neg (by omega)]

theorem peer_mint (Z nb : Nat) (L L' : List Item) (i : Nat) (A : Option Addr) (n c : Nat) (zs : List Int) (w : World) (h : Nota w (Z ≤ ·) nb L) (hZ : Z ≤ w.heap.size) (hi : i < 100) (hL : L.length ≤ 1000000) (hnc : n ≤ c) (hc : c ≤ maxLen) (hb : Bts w A n zs) (ht : tagL L ((i : Int) + 1, zs) = i + 1) (hl : mintL L ((i : Int) + 1, zs) = L') :
    Calls Try.prog 12 #[.pointer (some ⟨nb, 0, none⟩), .int .i64 ((i : Int) + 1), .slice A n c] w fun e w' => e = .returned (.tuple #[.int .u64 ((i : Int) + 1), .int .i64 0]) ∧ Nota w' (Z ≤ ·) nb L' ∧ Below Z w w' :=
  mint_b Z nb L _ A n c zs w h hZ (by omega) hnc hc hb hL (i + 1) L' ht hl
theorem peer_check (nb : Nat) (S : Nat → Prop) (L : List Item) (i j : Nat) (A : Option Addr) (n c : Nat) (zs : List Int) (r : Int) (w : World) (h : Nota w S nb L) (hL : L.length ≤ 1000000) (hb : Bts w A n zs) (hj : j < 100) (hr : checkL L ((i : Int) + 1, zs) (j + 1) = r) :
    Calls Try.prog 10 #[.pointer (some ⟨nb, 0, none⟩), .int .i64 ((i : Int) + 1), .slice A n c, .int .u64 ((j : Int) + 1)] w fun e w' => e = .returned (.int .i64 r) ∧ ∃ q, w' = w.drewN q :=
  check_b nb S L _ A n c (j + 1) zs w h hL hb (by omega) r hr
theorem peer_last (nb : Nat) (S : Nat → Prop) (L : List Item) (i : Nat) (A : Option Addr) (n c : Nat) (zs : List Int) (w : World) (h : Nota w S nb L) (hL : L.length ≤ 1000000) (hb : Bts w A n zs) (hj : i < 100) (hr : checkL L ((i : Int) + 1, zs) i = 12) :
    Calls Try.prog 10 #[.pointer (some ⟨nb, 0, none⟩), .int .i64 ((i : Int) + 1), .slice A n c, .int .u64 (i : Int)] w fun e w' => e = .returned (.int .i64 12) ∧ ∃ q, w' = w.drewN q :=
  check_b nb S L _ A n c i zs w h hL hb (by omega) 12 hr
theorem peer_count (nb : Nat) (S : Nat → Prop) (L : List Item) (n : Nat) (w : World) (h : Nota w S nb L) (hn : L.length = n) (hL : n ≤ 1000000) : Calls Try.prog 14 #[.pointer (some ⟨nb, 0, none⟩)] w fun e w' => e = .returned (.int .i64 (n : Int)) ∧ w = w' := by
  subst hn
  exact count_any nb S L w h hL

set_option maxRecDepth 100000 in
set_option maxHeartbeats 4000000 in
theorem walk (a0 : Option Addr) (len0 cap0 : Nat) (z0 : List Int) (a1 : Int) (w : World) (w0 : IsRow .u8 w a0 len0 cap0 z0) (w1 : (Lit.int .u8 a1).wf = true) :
    Calls Try.prog 6 #[.slice a0 len0 cap0, .int .u8 a1] w fun e w' => e = .returned (.bool true) ∧ Below w.heap.size w w' := by
  have hb1 := wf_u8 w1
  obtain ⟨hbt, hlc, hcm⟩ := bts_of_row w0
  clear w0
  unfold maxLen at hcm
  have HT := Lib.hid hbt; clear hbt
  generalize z0.take len0 = zs at *
  by_cases hbig : len0 ≤ 200
  · obtain ⟨m, hm, hm2⟩ : ∃ m : Nat, a1 % 40 = (m : Int) ∧ m < 40 := ⟨(a1 % 40).toNat, by omega, by omega⟩
    have hm3 : a1.tmod 40 = (m : Int) := by rw [Int.tmod_eq_emod_of_nonneg (by omega)]; exact hm
    go_enter Try.func6, Try.ntmps6
    go_wp2_with fail
    refine (awake_any _).mono ?_
    rintro e v1 ⟨rfl, hb2⟩
    have HB1 := Lib.hid hb2; clear hb2
    go_wp2_with fail
    refine (new_any _).mono ?_
    rintro e v2 ⟨nb, rfl, hN2, hb2⟩
    have HN2 : Hid (Nota v2 (w.heap.size ≤ ·) nb []) := Lib.hid (hN2.mono (fun k hk => Nat.le_trans HB1.out.size hk))
    have HB2 : Hid (Below w.heap.size w v2) := Lib.hid (HB1.out.trans (hb2.mono HB1.out.size)); clear hb2 hN2
    go_wp2
    go_loopw [7] (fun i wr => ∃ k : Nat, k ≤ m ∧ i = .int .i64 k ∧ Nota wr (w.heap.size ≤ ·) nb (peersL zs k) ∧ Below w.heap.size w wr) (fun i _ => m - (intOf i).toNat)
    case atStart => exact ⟨0, by omega, rfl, HN2.out, HB2.out⟩
    case round =>
      obtain ⟨k, hk, rfl, hN, hB⟩ := hrel
      have HN := Lib.hid hN; have HB := Lib.hid hB; clear hN hB
      by_cases hlt : k < m
      · have HRN := Lib.hid (peersL_new zs k)
        go_wp2_with fail
        refine (peer_mint w.heap.size nb (peersL zs k) (peersL zs (k + 1)) k a0 len0 cap0 zs _ HN.out HB.out.size (by omega) (by rw [peersL_len]; omega) hlc (by unfold maxLen; omega) (HT.out.below HB.out) HRN.out.1 HRN.out.2).mono ?_
        rintro e v3 ⟨rfl, hN3, hb3⟩
        have HN3 := Lib.hid hN3; have HB3 : Hid (Below w.heap.size w v3) := Lib.hid (HB.out.trans hb3); clear hN3 hb3
        go_wp2
        go_roundw
        case rel => exact ⟨k + 1, by omega, by go_num, HN3.out, HB3.out⟩
        case measure => simp [intOf]; omega
      · obtain rfl : k = m := by omega
        have HM := Lib.hid hm; have HM3 := Lib.hid hm3; clear hm hm3
        go_wp2
        go_loopw [10] (fun i wx => ∃ j : Nat, j ≤ k ∧ i = .int .i64 j ∧ Nota wx (w.heap.size ≤ ·) nb (peersL zs k) ∧ Below w.heap.size w wx) (fun i _ => k - (intOf i).toNat)
        case atStart => exact ⟨0, by omega, rfl, HN.out, HB.out⟩
        case round =>
          obtain ⟨i, hi, rfl, hN, hB⟩ := hrel
          have HN5 := Lib.hid hN; have HB5 := Lib.hid hB; clear hN hB
          by_cases hlt2 : i < k
          · go_wp2
            go_loopw [11] (fun j wy => ∃ j' : Nat, j' ≤ k ∧ j = .int .i64 j' ∧ Nota wy (w.heap.size ≤ ·) nb (peersL zs k) ∧ Below w.heap.size w wy) (fun j _ => k - (intOf j).toNat)
            case atStart => exact ⟨0, by omega, rfl, HN5.out, HB5.out⟩
            case round =>
              obtain ⟨j, hj, rfl, hN, hB⟩ := hrel
              have HN6 := Lib.hid hN; have HB6 := Lib.hid hB; clear hN hB
              by_cases hlt3 : j < k
              · by_cases hij : i = j
                · subst hij
                  have HC := Lib.hid (checkL_peer zs (i := i) hlt3)
                  go_wp2_with fail
                  refine (peer_check nb _ _ i i a0 len0 cap0 zs 0 _ HN6.out (by rw [peersL_len]; omega) (HT.out.below HB6.out) (by omega) (by rw [HC.out]; unfold ifSame; rw [if_pos rfl])).mono ?_
                  rintro e v4 ⟨rfl, q4, rfl⟩
                  go_wp2
                  go_roundw
                  case rel => exact ⟨i + 1, by omega, by go_num, HN6.out.drewN _, below_drewN' HB6.out _⟩
                  case measure => simp [intOf]; omega
                · have HC := Lib.hid (checkL_peer zs (i := i) hlt3)
                  have HIJ := Lib.hid hij
                  have t1 : ((i : Int) == (j : Int)) = false := by rw [beq_eq_false_iff_ne]; omega
                  clear hij
                  go_wp2_with fail
                  refine (peer_check nb _ _ i j a0 len0 cap0 zs 12 _ HN6.out (by rw [peersL_len]; omega) (HT.out.below HB6.out) (by omega) (by rw [HC.out]; unfold ifSame; rw [if_neg HIJ.out])).mono ?_
                  rintro e v4 ⟨rfl, q4, rfl⟩
                  go_wp2
                  go_roundw
                  case rel => exact ⟨j + 1, by omega, by go_num, HN6.out.drewN _, below_drewN' HB6.out _⟩
                  case measure => simp [intOf]; omega
              · go_wp2
                go_roundw
                case rel => exact ⟨i + 1, by omega, by go_num, HN6.out, HB6.out⟩
                case measure => simp [intOf]; omega
          · obtain rfl : i = k := by omega
            have HC := Lib.hid (checkL_last zs i)
            go_wp2_with fail
            refine (peer_count nb _ _ i _ HN5.out (by rw [peersL_len]) (by omega)).mono ?_
            rintro e v6 ⟨rfl, rfl⟩
            go_wp2_with fail
            refine (peer_last nb _ _ i a0 len0 cap0 zs _ HN5.out (by rw [peersL_len]; omega) (HT.out.below HB5.out) (by omega) HC.out).mono ?_
            rintro e v7 ⟨rfl, q7, rfl⟩
            go_wp2
            go_ret
            exact ⟨rfl, below_drewN' HB5.out _⟩
  · have h2 : decide ((200 : Int) < (len0 : Int)) = true := by simp; omega
    go_enter Try.func6, Try.ntmps6
    go_wp2_with fail
    refine (awake_any _).mono ?_
    rintro e v1 ⟨rfl, hb2⟩
    have HB1 := Lib.hid hb2; clear hb2
    go_wp2
    go_ret
    exact ⟨rfl, HB1.out⟩

/-! ### THE ROW's STEP: WRITTEN OUT: LEAVE IT -/
set_option maxRecDepth 100000 in
theorem lifted (os : Os) (started : os.Started) (H : Type) (enc : TypeId × Value → H) :
    ReturnsInHanded {} Try.checked os 6 .any (Rows.notaryPeersSpec.pre6 enc Try.prog Try.f6 Rows.notaryPeersRow.domain false) (Rows.notaryPeersSpec.post enc Try.prog Try.f6 false true false false) := by
  refine returnsInHanded_of_change (C := Try.checked) own started (by kernel_rfl) Try.func6
    (ChangeSpec.witness6 (enc := enc) (C := Try.checked) false ⟨#[], #[.slice none 0 0, .int .u8 0], []⟩ 8 (by kernel_rfl) (by kernel_rfl) (by kernel_rfl) (by kernel_rfl)) ?_
  intro W base args ds gs before hval0 hW hcnd _
  have hval : ∀ (j : Nat) t v, Try.f6.params[j]? = some t → args[j]? = some v → Value.okWide Try.prog W .any base t v := hval0
  have hW' := hW
  obtain ⟨p, q, hA0, hV, rfl, hfz, hnd⟩ := hW
  have hA : DataW.TrodAll enc Try.prog W 0 (fun _ => true) true Try.f6.params.toList args.toList ds p := hA0
  rw [Try.params6] at hA hval
  obtain ⟨v0, vs0, d0, ds0, p0, q0, hargs, rfl, rfl, h0, r0⟩ := trodAll_cons hA
  obtain ⟨v1, vs1, d1, ds1, p1, q1, rfl, rfl, rfl, h1, r1⟩ := trodAll_cons r0
  obtain ⟨rfl, rfl, rfl⟩ := trodAll_nil r1
  obtain rfl : args = #[v0, v1] := by cases args; simp_all
  obtain ⟨rfl, rfl⟩ := trodVars_none hV
  obtain ⟨a0, len0, cap0, rfl⟩ := okWide_slice Try.underlying31 (hval 0 31 v0 rfl rfl)
  have k0 := h0
  have lt0 : ∀ x ∈ p0, x.block < W.heap.size := by obtain ⟨m, hm⟩ := k0; exact DataW.trod_lt m _ _ _ hm
  obtain ⟨z0, w0⟩ : ∃ zs, IsRow .u8 W a0 len0 cap0 zs := by
    obtain ⟨fuel, hf⟩ := h0
    rcases open_ints Try.underlying31 Try.underlying5 (by kernel_rfl) hf with ⟨hcs, _⟩ | ⟨x, l, c, zs, hcs, _, hl, hm, hz, _, hcell, hwz⟩
    · simp [Value.cells] at hcs
      obtain ⟨rfl, rfl, rfl⟩ := hcs
      exact ⟨[], .inl ⟨rfl, rfl, rfl, rfl⟩⟩
    · simp [Value.cells] at hcs
      obtain ⟨rfl, rfl, rfl⟩ := hcs
      exact ⟨zs, .inr ⟨_, rfl, hl, hm, by simpa using hz, hcell, hwz⟩⟩
  obtain ⟨a1, rfl, rfl, rfl, w1⟩ := open_int Try.underlying5 (hval 1 5 v1 rfl rfl) h1
  clear hA0 hval0
  refine (walk a0 len0 cap0 z0 a1 W w0 w1).mono fun e W' ⟨he, bel⟩ => ?_
  subst he
  exact ⟨_, rfl, _, _, _, [], _, [], hW', trodAll_mk1 (shut_bool Try.underlying4 _), (trodAll_cons_mk (Below.trod laidOut (by kernel_rfl) (of_decide_eq_true (by kernel_rfl)) k0 bel lt0) (trodAll_cons_mk (shut_int Try.underlying5 w1) trodAll_mk0)), rfl, bel.frame _, fun h => by cases h⟩

theorem over : Rows.notaryPeersRow.holds Try.pinned (OpenSpec.ofChange Rows.notaryPeersSpec) :=
  OpenClaim.holds_of_wide 6 Try.f6 rfl rfl rfl rfl rfl rfl rfl ⟨rfl, rfl, rfl, rfl, rfl⟩ rfl rfl rfl rfl rfl (by kernel_rfl) Try.func6 (by kernel_rfl)
    (of_decide_eq_true (by kernel_rfl)) (by unfold Func.isWrapper; first | (rw [if_pos (by decide +kernel)]; kernel_rfl) | (rw [if_neg (by decide +kernel)]; exact ⟨rfl, rfl⟩))
    (fun os started H enc _ => lifted os started H enc)

/-- ████ THE STATEMENT ████ -/
theorem proved : Rows.NotaryPeersSaid := over
#print axioms proved
end Go.Proofs.Ytcinjfmmmmaelaa.notaryPeers
