/- Entries of layer 10, and the document's own At. -/
import Derived.Test.YtilklfmcdgggfaaKeyL
import Derived.Test.YtilklfmcdgggfaaLst
import Derived.Test.YtilklfmcdgggfaaBks
import Derived.Test.YtilklfmcdgggfaaEq
import Derived.Test.YtilklfmcdgggfaaAddr
import Derived.Test.YtilklfmcdgggfaaQuietly
import Derived.Test.YtilklfmcdgggfaaRd
namespace Go.Proofs.Ytilklfmcdgggfaa
open Go.RowKit
attribute [local irreducible] wpQuiet
set_option linter.unusedSimpArgs false
set_option linter.unusedVariables false

/-- An entry: its VLAN, its address as a number, its ports. -/
structure Se where
  vid : Nat
  mac : Nat
  prt : Nat
deriving DecidableEq
def seK (x : Se) : Nat := keyN x.vid x.mac
def seOk (x : Se) : Prop := x.mac < 281474976710656
abbrev seA (x : Se) : Array Value := #[.int .u16 (x.vid : Nat), .int .u8 (byteF x.mac 0 : Nat), .int .u8 (byteF x.mac 1 : Nat), .int .u8 (byteF x.mac 2 : Nat), .int .u8 (byteF x.mac 3 : Nat), .int .u8 (byteF x.mac 4 : Nat), .int .u8 (byteF x.mac 5 : Nat), .int .u32 (x.prt : Nat)]
def seC (x : Se) : List Value := (seA x).toList
abbrev seV (x : Se) : Value := .agg (seA x)
theorem seC_len (x : Se) : (seC x).length = 8 := rfl
theorem seC_one (x : Se) : ∀ u ∈ seC x, u.oneCell' = true := by
  intro u hu
  simp only [seC, List.mem_cons, List.not_mem_nil, or_false] at hu
  rcases hu with rfl | rfl | rfl | rfl | rfl | rfl | rfl | rfl <;> rfl
theorem seA_one (x : Se) : (seA x).all (·.oneCell') = true := by simp [Value.oneCell']
theorem se_mac (x : Se) (j : Nat) (u : Value) (h : (macA (byteF x.mac))[j]? = some u) : (seC x)[1 + j]? = some u := by
  match j, h with
  | 0, h => exact h
  | 1, h => exact h
  | 2, h => exact h
  | 3, h => exact h
  | 4, h => exact h
  | 5, h => exact h
  | j + 6, h => simp at h
theorem seinfo : (Try.prog.info? 83).map (·.size) = some 8 := by kernel_rfl

set_option maxHeartbeats 4000000 in
theorem rat10_nil (vid : Nat) (m : Nat → Nat) (w : World) : Calls Try.prog 32 #[.slice none 0 0, .int .u16 (vid : Nat), mac m] w fun e w' => e = .returned (.int .i64 (-1)) ∧ Below w.heap.size w w' := by
  have HB := Lib.hid ((Below.refl w.heap.size w).alloc (Nat.le_refl _) (.cells (macA m) 31))
  go_enter Try.func32, Try.ntmps32
  go_wp2
  refine wp_loop_rounds 1 ?_
  rw [rounds_succ]
  go_wp2
  go_ret
  exact ⟨rfl, HB.out⟩

set_option maxRecDepth 100000 in
set_option maxHeartbeats 8000000 in
theorem rat10_own (base g cap vid : Nat) (m : Nat → Nat) (hm : Six m) (l : List Se) (w : World) (h : Own w base 83 8 seC (.slice (some ⟨g, 0, none⟩) l.length cap) l) (hok : ∀ x ∈ l, seOk x) (hl : l.length ≤ 1000) :
    Calls Try.prog 32 #[.slice (some ⟨g, 0, none⟩) l.length cap, .int .u16 (vid : Nat), mac m] w fun e w' => e = .returned (.int .i64 (atK seK (keyN vid (numF m 6)) l)) ∧ Below w.heap.size w w' := by
  obtain ⟨n, hn⟩ : ∃ n, l.length = n := ⟨_, rfl⟩
  rw [hn] at h ⊢
  have hn2 : (n : Int) ≤ 1000 := by omega
  have H := Lib.hid h
  have HN := Lib.hid hn
  have HOK := Lib.hid hok
  obtain ⟨kk, hkk⟩ : ∃ kk, kk = keyN vid (numF m 6) := ⟨_, rfl⟩
  rw [← hkk]
  have HKK := Lib.hid hkk
  have HM := Lib.hid hm
  obtain ⟨mm, hmm⟩ : ∃ mm, mm = macA m := ⟨_, rfl⟩
  have HMM := Lib.hid hmm
  have HM7 := Lib.hid (show (Try.prog.info? 31).map (·.size) = some mm.size by rw [hmm]; kernel_rfl)
  have K0 := Lib.hid (show Kn w [(w.heap.size, mm, 31)] (w.alloc (.cells mm 31)) from (Kn.nil w).alloc mm 31)
  have hone := Lib.hid (show mm.all (·.oneCell') = true by rw [hmm]; simp [Value.oneCell'])
  show Calls Try.prog 32 #[.slice (some ⟨g, 0, none⟩) n cap, .int .u16 (vid : Nat), .agg (macA m)] w _
  rw [← hmm]
  clear h hn hl hkk hm hok hmm
  go_enter Try.func32, Try.ntmps32
  go_upto_region 1 with fail
  generalize hbx : w.heap.size = bx at *
  have HBX := Lib.hid hbx
  clear hbx
  have H1 := Lib.hid (show Own (w.alloc (.cells mm 31)) base 83 8 seC (.slice (some ⟨g, 0, none⟩) n cap) l from H.out.alloc _)
  generalize w.alloc (.cells mm 31) = w1 at *
  go_upto_region 2 with fail
  go_loopw [7] (fun i wr => ∃ k : Nat, k ≤ n ∧ i = .int .i64 k ∧ Kn w [(bx, mm, 31)] wr ∧ Below w1.heap.size w1 wr ∧ ∀ j y, j < k → l[j]? = some y → seK y ≠ kk) (fun i _ => n - (intOf i).toNat)
  case atStart => exact ⟨0, Nat.zero_le _, rfl, K0.out, Below.refl _ _, fun j y hj => absurd hj (Nat.not_lt_zero _)⟩
  case round =>
    obtain ⟨k, hk, rfl, hkn, hbw, hbe⟩ := hrel
    have HBE := Lib.hid hbe
    have HKN := Lib.hid hkn
    have HBW := Lib.hid hbw
    clear hbe hkn hbw K0
    by_cases hlt : k < n
    · obtain ⟨x, hx⟩ : ∃ x, l[k]? = some x := ⟨_, List.getElem?_eq_getElem (show k < l.length by rw [HN.out]; exact hlt)⟩
      have HXO := Lib.hid (HOK.out x (List.mem_of_getElem? hx))
      have HC0 := Lib.hid (show ∀ w', Kn wr [(bx, mm, 31)] w' → w'.cell? ⟨g, k * 8, none⟩ = some (.int .u16 (x.vid : Nat)) from fun w' hC => by
        have o := (H1.out.next HBW.out).next hC.below
        exact Own.at seC_len (by rw [HN.out]; exact o) k 0 x hx (by omega))
      obtain ⟨mx, hmx⟩ : ∃ mx, mx = macA (byteF x.mac) := ⟨_, rfl⟩
      have HMX := Lib.hid (show ∀ w', Kn wr [(bx, mm, 31)] w' → w'.rangeAt g (k * 8 + 1) mx.toList from fun w' hC j u hu => by
        have o := (H1.out.next HBW.out).next hC.below
        have hj : j < 6 := by
          have := (List.getElem?_eq_some_iff.1 hu).1
          rw [hmx] at this
          simpa using this
        have q := Own.at seC_len (by rw [HN.out]; exact o) k (1 + j) x hx (by omega)
        rw [Nat.add_assoc, q]
        exact se_mac x j u (by rw [hmx] at hu; simpa using hu))
      have HM6 := Lib.hid (show (Try.prog.info? 31).map (·.size) = some mx.size by rw [hmx]; kernel_rfl)
      obtain ⟨d, hd⟩ : ∃ d : Bool, d = decide (x.mac = numF m 6) := ⟨_, rfl⟩
      have HDD := Lib.hid hd
      have HEQ := Lib.hid (show ∀ W : World, (Op.equalIn 10000 31 (.agg mx) (.agg mm)).run Try.prog W = .ok d W from fun W => by
        rw [hd, hmx, HMM.out, ← eqMac_num HXO.out HM.out]
        exact equal_mac 9998 31 Try.underlying31 (byteF x.mac) m W)
      have hlt' : (k : Int) < n := by omega
      have HX := Lib.hid hx
      have K1 := Lib.hid (show Kn wr [(bx, mm, 31)] wr from ⟨HKN.out.all, Below.refl _ _⟩)
      clear hx hmx hd
      by_cases hv : x.vid = vid
      · have HE := Lib.hid (show ((x.vid : Int) == (vid : Int)) = true by rw [hv]; simp)
        have HV := Lib.hid hv
        clear hv
        go_upto_region 4 with fail
        refine wp_region_quiet (C := Kn wr [(bx, mm, 31)]) (by kernel_rfl) (by kernel_rfl) K1.out.drew ?_
        (refine q_val (v := ?_) (by rfl) ?_ ?_; rotate_left; (· (intro w hC; go_simp; try with_reducible rfl)); (try simp only [Act.put, List.getElem_toArray, List.getElem_cons_succ, List.getElem_cons_zero, List.setIfInBounds_toArray, List.set_cons_zero, List.set_cons_succ]))
        (refine q_val (v := ?_) (by rfl) ?_ ?_; rotate_left; (· (intro w hC; go_simp; try with_reducible rfl)); (try simp only [Act.put, List.getElem_toArray, List.getElem_cons_succ, List.getElem_cons_zero, List.setIfInBounds_toArray, List.set_cons_zero, List.set_cons_succ]))
        (refine q_val (v := ?_) (by rfl) ?_ ?_; rotate_left; (· (intro w hC; go_simp; try with_reducible rfl)); (try simp only [Act.put, List.getElem_toArray, List.getElem_cons_succ, List.getElem_cons_zero, List.setIfInBounds_toArray, List.set_cons_zero, List.set_cons_succ]))
        (refine q_val (v := ?_) (by rfl) ?_ ?_; rotate_left; (· (intro w hC; go_simp; try with_reducible rfl)); (try simp only [Act.put, List.getElem_toArray, List.getElem_cons_succ, List.getElem_cons_zero, List.setIfInBounds_toArray, List.set_cons_zero, List.set_cons_succ]))
        (refine q_val (v := ?_) (by rfl) ?_ ?_; rotate_left; (· (intro w hC; have q := HC0.out w hC; go_simp; try with_reducible rfl)); (try simp only [Act.put, List.getElem_toArray, List.getElem_cons_succ, List.getElem_cons_zero, List.setIfInBounds_toArray, List.set_cons_zero, List.set_cons_succ]))
        (refine q_val (v := ?_) (by rfl) ?_ ?_; rotate_left; (· (intro w hC; go_simp; try with_reducible rfl)); (try simp only [Act.put, List.getElem_toArray, List.getElem_cons_succ, List.getElem_cons_zero, List.setIfInBounds_toArray, List.set_cons_zero, List.set_cons_succ]))
        (refine q_val (v := ?_) (by rfl) ?_ ?_; rotate_left; (· (intro w hC; have q := HE.out; go_simp; try with_reducible rfl)); (try simp only [Act.put, List.getElem_toArray, List.getElem_cons_succ, List.getElem_cons_zero, List.setIfInBounds_toArray, List.set_cons_zero, List.set_cons_succ]))
        (refine q_val (v := ?_) (by rfl) ?_ ?_; rotate_left; (· (intro w hC; go_simp; try with_reducible rfl)); (try simp only [Act.put, List.getElem_toArray, List.getElem_cons_succ, List.getElem_cons_zero, List.setIfInBounds_toArray, List.set_cons_zero, List.set_cons_succ]))
        (refine q_val (v := ?_) (by rfl) ?_ ?_; rotate_left; (· (intro w hC; go_simp; try with_reducible rfl)); (try simp only [Act.put, List.getElem_toArray, List.getElem_cons_succ, List.getElem_cons_zero, List.setIfInBounds_toArray, List.set_cons_zero, List.set_cons_succ]))
        (refine q_val (v := ?_) (by rfl) ?_ ?_; rotate_left; (· (intro w hC; go_simp; try with_reducible rfl)); (try simp only [Act.put, List.getElem_toArray, List.getElem_cons_succ, List.getElem_cons_zero, List.setIfInBounds_toArray, List.set_cons_zero, List.set_cons_succ]))
        (refine q_val (v := ?_) (by rfl) ?_ ?_; rotate_left; (· (intro w hC; go_simp; try with_reducible rfl)); (try simp only [Act.put, List.getElem_toArray, List.getElem_cons_succ, List.getElem_cons_zero, List.setIfInBounds_toArray, List.set_cons_zero, List.set_cons_succ]))
        (refine q_val (v := ?_) (by rfl) ?_ ?_; rotate_left; (· (intro w hC; go_simp; try with_reducible rfl)); (try simp only [Act.put, List.getElem_toArray, List.getElem_cons_succ, List.getElem_cons_zero, List.setIfInBounds_toArray, List.set_cons_zero, List.set_cons_succ]))
        (refine q_val (v := .agg mx) (by rfl) (fun w hC => run_loadRange 31 _ rfl g (k * 8 + 1) rfl mx _ (HMX.out w hC) Try.underlying31 rfl HM6.out) ?_; (try simp only [Act.put, List.getElem_toArray, List.getElem_cons_succ, List.getElem_cons_zero, List.setIfInBounds_toArray, List.set_cons_zero, List.set_cons_succ]))
        (refine q_val (v := .agg mm) (by rfl) (fun w hC => run_loadVar_of 31 _ rfl bx rfl 31 mm _ (hC.at 0 rfl) Try.underlying31 rfl HM7.out) ?_; (try simp only [Act.put, List.getElem_toArray, List.getElem_cons_succ, List.getElem_cons_zero, List.setIfInBounds_toArray, List.set_cons_zero, List.set_cons_succ]))
        (refine q_val (v := ?_) (by rfl) ?_ ?_; rotate_left; (· (intro w hC; have q := HEQ.out; go_simp; try with_reducible rfl)); (try simp only [Act.put, List.getElem_toArray, List.getElem_cons_succ, List.getElem_cons_zero, List.setIfInBounds_toArray, List.set_cons_zero, List.set_cons_succ]))
        (refine q_val (v := ?_) (by rfl) ?_ ?_; rotate_left; (· (intro w hC; go_simp; try with_reducible rfl)); (try simp only [Act.put, List.getElem_toArray, List.getElem_cons_succ, List.getElem_cons_zero, List.setIfInBounds_toArray, List.set_cons_zero, List.set_cons_succ]))
        refine wpQuiet_nil ?_
        intro w5 hC5
        have K5 := Lib.hid hC5
        clear hC5
        cases d with
        | true =>
          have hma : x.mac = numF m 6 := of_decide_eq_true HDD.out.symm
          have R := Lib.hid (show (k : Int) = atK seK kk l from (atK_some seK kk l k x HX.out (by rw [HKK.out, ← hma, ← HV.out]; rfl) HBE.out).symm)
          clear hma
          go_wp2_with fail
          go_ret
          exact ⟨ret_int R.out, (HKN.out.next K5.out.below).below⟩
        | false =>
          have hma : ¬ x.mac = numF m 6 := of_decide_eq_false HDD.out.symm
          have HNE := Lib.hid (show seK x ≠ kk by
            rw [HKK.out]
            unfold seK
            rw [Ne, keyN_eq HXO.out (numF_lt HM.out)]
            exact fun q => hma q.2)
          clear hma
          go_wp2_with fail
          go_roundw
          case rel => exact ⟨k + 1, by omega, by go_num, HKN.out.next K5.out.below, HBW.out.trans (K5.out.below.mono HBW.out.size), next_ne HX.out HNE.out HBE.out⟩
          case measure => simp [intOf]; omega
      · have HE := Lib.hid (show ((x.vid : Int) == (vid : Int)) = false by simp; omega)
        have HNE := Lib.hid (show seK x ≠ kk by
          rw [HKK.out]
          unfold seK
          rw [Ne, keyN_eq HXO.out (numF_lt HM.out)]
          exact fun q => hv q.1)
        clear hv
        go_upto_region 4 with fail
        refine wp_region_quiet (C := Kn wr [(bx, mm, 31)]) (by kernel_rfl) (by kernel_rfl) K1.out.drew ?_
        (refine q_val (v := ?_) (by rfl) ?_ ?_; rotate_left; (· (intro w hC; go_simp; try with_reducible rfl)); (try simp only [Act.put, List.getElem_toArray, List.getElem_cons_succ, List.getElem_cons_zero, List.setIfInBounds_toArray, List.set_cons_zero, List.set_cons_succ]))
        (refine q_val (v := ?_) (by rfl) ?_ ?_; rotate_left; (· (intro w hC; go_simp; try with_reducible rfl)); (try simp only [Act.put, List.getElem_toArray, List.getElem_cons_succ, List.getElem_cons_zero, List.setIfInBounds_toArray, List.set_cons_zero, List.set_cons_succ]))
        (refine q_val (v := ?_) (by rfl) ?_ ?_; rotate_left; (· (intro w hC; go_simp; try with_reducible rfl)); (try simp only [Act.put, List.getElem_toArray, List.getElem_cons_succ, List.getElem_cons_zero, List.setIfInBounds_toArray, List.set_cons_zero, List.set_cons_succ]))
        (refine q_val (v := ?_) (by rfl) ?_ ?_; rotate_left; (· (intro w hC; go_simp; try with_reducible rfl)); (try simp only [Act.put, List.getElem_toArray, List.getElem_cons_succ, List.getElem_cons_zero, List.setIfInBounds_toArray, List.set_cons_zero, List.set_cons_succ]))
        (refine q_val (v := ?_) (by rfl) ?_ ?_; rotate_left; (· (intro w hC; have q := HC0.out w hC; go_simp; try with_reducible rfl)); (try simp only [Act.put, List.getElem_toArray, List.getElem_cons_succ, List.getElem_cons_zero, List.setIfInBounds_toArray, List.set_cons_zero, List.set_cons_succ]))
        (refine q_val (v := ?_) (by rfl) ?_ ?_; rotate_left; (· (intro w hC; go_simp; try with_reducible rfl)); (try simp only [Act.put, List.getElem_toArray, List.getElem_cons_succ, List.getElem_cons_zero, List.setIfInBounds_toArray, List.set_cons_zero, List.set_cons_succ]))
        (refine q_val (v := ?_) (by rfl) ?_ ?_; rotate_left; (· (intro w hC; have q := HE.out; go_simp; try with_reducible rfl)); (try simp only [Act.put, List.getElem_toArray, List.getElem_cons_succ, List.getElem_cons_zero, List.setIfInBounds_toArray, List.set_cons_zero, List.set_cons_succ]))
        (refine q_val (v := ?_) (by rfl) ?_ ?_; rotate_left; (· (intro w hC; go_simp; try with_reducible rfl)); (try simp only [Act.put, List.getElem_toArray, List.getElem_cons_succ, List.getElem_cons_zero, List.setIfInBounds_toArray, List.set_cons_zero, List.set_cons_succ]))
        (refine q_skip (by rfl) ?_; (try simp only [Act.put, List.getElem_toArray, List.getElem_cons_succ, List.getElem_cons_zero, List.setIfInBounds_toArray, List.set_cons_zero, List.set_cons_succ]))
        (refine q_skip (by rfl) ?_; (try simp only [Act.put, List.getElem_toArray, List.getElem_cons_succ, List.getElem_cons_zero, List.setIfInBounds_toArray, List.set_cons_zero, List.set_cons_succ]))
        (refine q_skip (by rfl) ?_; (try simp only [Act.put, List.getElem_toArray, List.getElem_cons_succ, List.getElem_cons_zero, List.setIfInBounds_toArray, List.set_cons_zero, List.set_cons_succ]))
        (refine q_skip (by rfl) ?_; (try simp only [Act.put, List.getElem_toArray, List.getElem_cons_succ, List.getElem_cons_zero, List.setIfInBounds_toArray, List.set_cons_zero, List.set_cons_succ]))
        (refine q_skip (by rfl) ?_; (try simp only [Act.put, List.getElem_toArray, List.getElem_cons_succ, List.getElem_cons_zero, List.setIfInBounds_toArray, List.set_cons_zero, List.set_cons_succ]))
        (refine q_skip (by rfl) ?_; (try simp only [Act.put, List.getElem_toArray, List.getElem_cons_succ, List.getElem_cons_zero, List.setIfInBounds_toArray, List.set_cons_zero, List.set_cons_succ]))
        (refine q_skip (by rfl) ?_; (try simp only [Act.put, List.getElem_toArray, List.getElem_cons_succ, List.getElem_cons_zero, List.setIfInBounds_toArray, List.set_cons_zero, List.set_cons_succ]))
        (refine q_val (v := ?_) (by rfl) ?_ ?_; rotate_left; (· (intro w hC; go_simp; try with_reducible rfl)); (try simp only [Act.put, List.getElem_toArray, List.getElem_cons_succ, List.getElem_cons_zero, List.setIfInBounds_toArray, List.set_cons_zero, List.set_cons_succ]))
        refine wpQuiet_nil ?_
        intro w5 hC5
        have K5 := Lib.hid hC5
        clear hC5
        go_wp2_with fail
        go_roundw
        case rel => exact ⟨k + 1, by omega, by go_num, HKN.out.next K5.out.below, HBW.out.trans (K5.out.below.mono HBW.out.size), next_ne HX.out HNE.out HBE.out⟩
        case measure => simp [intOf]; omega
    · have R := Lib.hid (show (-1 : Int) = atK seK kk l from (atK_none seK kk l (fun x hx => by
        obtain ⟨i, hi, rfl⟩ := List.mem_iff_getElem.1 hx
        exact HBE.out i _ (by have := HN.out; omega) (List.getElem?_eq_getElem hi))).symm)
      go_wp2_with fail
      go_ret
      exact ⟨ret_int R.out, HKN.out.below⟩

theorem rat10_any (base vid a : Nat) (ha : a < 281474976710656) (v : Value) (l : List Se) (w : World) (h : Own w base 83 8 seC v l) (hok : ∀ x ∈ l, seOk x) (hl : l.length ≤ 1000) :
    Calls Try.prog 32 #[v, .int .u16 (vid : Nat), mac (byteF a)] w fun e w' => e = .returned (.int .i64 (atK seK (keyN vid a) l)) ∧ Below w.heap.size w w' := by
  rcases h.cases with ⟨rfl, rfl⟩ | ⟨g, cap, rfl, -⟩
  · exact rat10_nil vid (byteF a) w
  · have := rat10_own base g cap vid (byteF a) (byteF_six a) l w h hok hl
    rw [numF_byteF, Nat.mod_eq_of_lt ha] at this
    exact this
end Go.Proofs.Ytilklfmcdgggfaa
