/- Entries of layer 9, and the document's own Less, good, At. -/
import Derived.Test.YtilklfmcdgggfaaKeyL
import Derived.Test.YtilklfmcdgggfaaIns
import Derived.Test.YtilklfmcdgggfaaEq
import Derived.Test.YtilklfmcdgggfaaTell
import Derived.Test.YtilklfmcdgggfaaQuietly
import Derived.Test.YtilklfmcdgggfaaRd
namespace Go.Proofs.Ytilklfmcdgggfaa
open Go.RowKit
attribute [local irreducible] wpQuiet
set_option linter.unusedSimpArgs false
set_option linter.unusedVariables false

/-- An entry: its VLAN, its address as a number, its port, its age. -/
structure En where
  vid : Nat
  mac : Nat
  port : Int
  age : Int
deriving DecidableEq
def enK (x : En) : Nat := keyN x.vid x.mac
def enOk (x : En) : Prop := x.mac < 281474976710656
abbrev enA (x : En) : Array Value := #[.int .u16 (x.vid : Nat), .int .u8 (byteF x.mac 0 : Nat), .int .u8 (byteF x.mac 1 : Nat), .int .u8 (byteF x.mac 2 : Nat), .int .u8 (byteF x.mac 3 : Nat), .int .u8 (byteF x.mac 4 : Nat), .int .u8 (byteF x.mac 5 : Nat), .int .i64 x.port, .int .i64 x.age]
def enC (x : En) : List Value := (enA x).toList
abbrev enV (x : En) : Value := .agg (enA x)
theorem enC_len (x : En) : (enC x).length = 9 := rfl
theorem enC_one (x : En) : ∀ u ∈ enC x, u.oneCell' = true := by
  intro u hu
  simp only [enC, List.mem_cons, List.not_mem_nil, or_false] at hu
  rcases hu with rfl | rfl | rfl | rfl | rfl | rfl | rfl | rfl | rfl <;> rfl
theorem enA_one (x : En) : (enA x).all (·.oneCell') = true := by simp [Value.oneCell']
theorem en_mac (x : En) (j : Nat) (u : Value) (h : (macA (byteF x.mac))[j]? = some u) : (enC x)[1 + j]? = some u := by
  match j, h with
  | 0, h => exact h
  | 1, h => exact h
  | 2, h => exact h
  | 3, h => exact h
  | 4, h => exact h
  | 5, h => exact h
  | j + 6, h => simp at h
theorem enSize : (Try.prog.info? 38).map (·.size) = some 9 := by kernel_rfl
theorem fdSize : (Try.prog.info? 28).map (·.size) = some 3 := by kernel_rfl
theorem enInfo : (Try.prog.info? 38).map (fun i => (i.zero, i.size, i.bytes)) = some (some (.agg #[.int .u16 0, .int .u8 0, .int .u8 0, .int .u8 0, .int .u8 0, .int .u8 0, .int .u8 0, .int .i64 0, .int .i64 0]), 9, 24) := by kernel_rfl
theorem enE : ElT Try.prog 26 38 9 enC := by
  obtain ⟨i, hi, hz, hsz, hby⟩ := info_parts enInfo
  exact ⟨Try.underlying26, ⟨i, _, _, hi, hz, hsz, hby, rfl, by omega⟩, by omega, enC_len, enC_one⟩

set_option maxRecDepth 100000 in
set_option maxHeartbeats 4000000 in
theorem rless9 (x y : En) (hx : enOk x) (hy : enOk y) (w : World) : Calls Try.prog 55 #[enV x, enV y] w fun e w' => e = .returned (.bool (decide (enK x < enK y))) ∧ Below w.heap.size w w' := by
  have R0 := Lib.hid (show decide (enK x < enK y) = (decide (x.vid < y.vid) || (decide (x.vid = y.vid) && decide (x.mac < y.mac))) by
    unfold enK
    rw [Bool.eq_iff_iff, decide_eq_true_eq, keyN_lt hx hy]
    simp)
  have hb := ((Below.refl w.heap.size w).alloc (Nat.le_refl _) (.cells (enA x) 38)).alloc (by simp) (.cells (enA y) 38)
  have K0 := Lib.hid (show Kn w [((w.alloc (.cells (enA x) 38)).heap.size, enA y, 38), (w.heap.size, enA x, 38)] ((w.alloc (.cells (enA x) 38)).alloc (.cells (enA y) 38)) from ((Kn.nil w).alloc (enA x) 38).alloc (enA y) 38)
  have HX := Lib.hid hx
  have HY := Lib.hid hy
  have HB := Lib.hid hb
  clear hx hy hb
  by_cases hv : x.vid = y.vid
  · have R := Lib.hid (show decide (x.mac < y.mac) = decide (enK x < enK y) by rw [R0.out, decide_eq_false (show ¬ x.vid < y.vid by omega), decide_eq_true hv]; simp)
    have e1 : ((x.vid : Int) == (y.vid : Int)) = true := by rw [hv]; simp
    have I1 := Lib.hid (show ∀ W : World, Calls Try.prog 24 #[mac (byteF x.mac)] W fun e w' => e = .returned (.int .u64 (x.mac : Nat)) ∧ Below W.heap.size W w' from fun W => by
      have := rint_any (byteF x.mac) W (byteF_six _)
      rwa [numF_byteF, Nat.mod_eq_of_lt HX.out] at this)
    have I2 := Lib.hid (show ∀ W : World, Calls Try.prog 24 #[mac (byteF y.mac)] W fun e w' => e = .returned (.int .u64 (y.mac : Nat)) ∧ Below W.heap.size W w' from fun W => by
      have := rint_any (byteF y.mac) W (byteF_six _)
      rwa [numF_byteF, Nat.mod_eq_of_lt HY.out] at this)
    obtain ⟨d, hd⟩ : ∃ d : Bool, d = decide (x.mac < y.mac) := ⟨_, rfl⟩
    rw [← hd] at R
    have e3 : decide (x.mac < y.mac) = d := hd.symm
    clear hv hd
    go_enter Try.func55, Try.ntmps55
    go_upto_region 3 with fail
    generalize hw1 : (w.alloc (.cells (enA x) 38)).alloc (.cells (enA y) 38) = w1 at *
    rw [World.size_alloc] at K0
    generalize hg : w.heap.size = g at *
    have HG := Lib.hid hg
    have HRX := Lib.hid (show ∀ w', Kn w [(g + 1, enA y, 38), (g, enA x, 38)] w' → w'.rangeAt g 1 (macA (byteF x.mac)).toList from fun w' hC i u hu => by
      rw [(hC.at 1 rfl).cell]
      have q := en_mac x i u (by simpa using hu)
      unfold enC at q
      rw [Array.getElem?_toList] at q
      exact q)
    have HRY := Lib.hid (show ∀ w', Kn w [(g + 1, enA y, 38), (g, enA x, 38)] w' → w'.rangeAt (g + 1) 1 (macA (byteF y.mac)).toList from fun w' hC i u hu => by
      rw [(hC.at 0 rfl).cell]
      have q := en_mac y i u (by simpa using hu)
      unfold enC at q
      rw [Array.getElem?_toList] at q
      exact q)
    have HZ6 := Lib.hid (show (Try.prog.info? 31).map (·.size) = some (macA (byteF x.mac)).size by kernel_rfl)
    have HZ7 := Lib.hid (show (Try.prog.info? 31).map (·.size) = some (macA (byteF y.mac)).size by kernel_rfl)
    clear hg hw1
    refine wp_region_quiet (C := Kn w [(g + 1, enA y, 38), (g, enA x, 38)]) (by kernel_rfl) (by kernel_rfl) K0.out.drew ?_
    (refine q_val (v := ?_) (by rfl) ?_ ?_; rotate_left; (· (intro w hC; go_simp; try with_reducible rfl)); (try simp only [Act.put, List.getElem_toArray, List.getElem_cons_succ, List.getElem_cons_zero, List.setIfInBounds_toArray, List.set_cons_zero, List.set_cons_succ]))
    (refine q_val (v := .agg (macA (byteF x.mac))) (by rfl) (fun w hC => run_loadRange 31 _ rfl g 1 rfl (macA (byteF x.mac)) _ (HRX.out w hC) Try.underlying31 rfl HZ6.out) ?_; (try simp only [Act.put, List.getElem_toArray, List.getElem_cons_succ, List.getElem_cons_zero, List.setIfInBounds_toArray, List.set_cons_zero, List.set_cons_succ]))
    (refine q_call (v := .int .u64 (x.mac : Nat)) 24 #[mac (byteF x.mac)] (by rfl) (fun w hC => by go_simp) (fun w hC => calls_in (I1.out w) (fun w' hb => hC.next hb)) ?_; (try simp only [Act.put, List.getElem_toArray, List.getElem_cons_succ, List.getElem_cons_zero, List.setIfInBounds_toArray, List.set_cons_zero, List.set_cons_succ]))
    (refine q_val (v := ?_) (by rfl) ?_ ?_; rotate_left; (· (intro w hC; go_simp; try with_reducible rfl)); (try simp only [Act.put, List.getElem_toArray, List.getElem_cons_succ, List.getElem_cons_zero, List.setIfInBounds_toArray, List.set_cons_zero, List.set_cons_succ]))
    (refine q_val (v := .agg (macA (byteF y.mac))) (by rfl) (fun w hC => run_loadRange 31 _ rfl (g + 1) 1 rfl (macA (byteF y.mac)) _ (HRY.out w hC) Try.underlying31 rfl HZ7.out) ?_; (try simp only [Act.put, List.getElem_toArray, List.getElem_cons_succ, List.getElem_cons_zero, List.setIfInBounds_toArray, List.set_cons_zero, List.set_cons_succ]))
    (refine q_call (v := .int .u64 (y.mac : Nat)) 24 #[mac (byteF y.mac)] (by rfl) (fun w hC => by go_simp) (fun w hC => calls_in (I2.out w) (fun w' hb => hC.next hb)) ?_; (try simp only [Act.put, List.getElem_toArray, List.getElem_cons_succ, List.getElem_cons_zero, List.setIfInBounds_toArray, List.set_cons_zero, List.set_cons_succ]))
    (refine q_val (v := ?_) (by rfl) ?_ ?_; rotate_left; (· (intro w hC; go_simp; try with_reducible rfl)); (try simp only [Act.put, List.getElem_toArray, List.getElem_cons_succ, List.getElem_cons_zero, List.setIfInBounds_toArray, List.set_cons_zero, List.set_cons_succ]))
    (refine q_val (v := ?_) (by rfl) ?_ ?_; rotate_left; (· (intro w hC; go_simp; try with_reducible rfl)); (try simp only [Act.put, List.getElem_toArray, List.getElem_cons_succ, List.getElem_cons_zero, List.setIfInBounds_toArray, List.set_cons_zero, List.set_cons_succ]))
    refine wpQuiet_nil ?_
    intro w5 hC5
    have K5 := Lib.hid hC5
    clear hC5
    go_wp2_with fail
    go_ret
    exact ⟨ret_bool R.out, K5.out.below⟩
  · have R := Lib.hid (show decide (x.vid < y.vid) = decide (enK x < enK y) by rw [R0.out, decide_eq_false hv]; simp)
    have e1 : ((x.vid : Int) == (y.vid : Int)) = false := by simp; omega
    clear hv
    go_enter Try.func55, Try.ntmps55
    go_wp2
    go_ret
    exact ⟨ret_bool R.out, HB.out⟩

/-- May an entry be? -/
def goodE (x : En) : Bool := decide (byteF x.mac 0 % 2 = 0) && decide (1 ≤ x.port) && decide (x.port ≤ 16)
set_option maxRecDepth 100000 in
set_option maxHeartbeats 4000000 in
theorem rgood9 (x : En) (w : World) : Calls Try.prog 41 #[enV x] w fun e w' => e = .returned (.bool (goodE x)) ∧ Below w.heap.size w w' := by
  obtain ⟨vid, a, port, age⟩ := x
  have HB := Lib.hid ((Below.refl w.heap.size w).alloc (Nat.le_refl _) (.cells (enA ⟨vid, a, port, age⟩) 38))
  have R0 := Lib.hid (show goodE ⟨vid, a, port, age⟩ = (decide (byteF a 0 % 2 = 0) && decide (1 ≤ port) && decide (port ≤ 16)) from rfl)
  by_cases h1 : byteF a 0 % 2 = 0
  · have e1 : ((byteF a 0 : Nat) : Int) % 2 = 0 := by omega
    cases h2 : decide (1 ≤ port) with
    | true =>
      have R := Lib.hid (show decide (port ≤ 16) = goodE ⟨vid, a, port, age⟩ by rw [R0.out, decide_eq_true h1, h2]; rfl)
      clear h1
      go_enter Try.func41, Try.ntmps41
      go_wp2
      go_ret
      exact ⟨ret_bool R.out, HB.out⟩
    | false =>
      have R := Lib.hid (show false = goodE ⟨vid, a, port, age⟩ by rw [R0.out, decide_eq_true h1, h2]; rfl)
      clear h1
      go_enter Try.func41, Try.ntmps41
      go_wp2
      go_ret
      exact ⟨ret_bool R.out, HB.out⟩
  · have R := Lib.hid (show false = goodE ⟨vid, a, port, age⟩ by rw [R0.out, decide_eq_false h1]; rfl)
    have e1 : ((byteF a 0 : Nat) : Int) % 2 = 1 := by omega
    clear h1
    go_enter Try.func41, Try.ntmps41
    go_wp2
    go_ret
    exact ⟨ret_bool R.out, HB.out⟩

set_option maxRecDepth 100000 in
set_option maxHeartbeats 8000000 in
theorem rat9_own (base g cap vid : Nat) (mo li : Int) (m : Nat → Nat) (hm : Six m) (l : List En) (w : World) (h : Own w base 38 9 enC (.slice (some ⟨g, 0, none⟩) l.length cap) l) (hok : ∀ x ∈ l, enOk x) (hl : l.length ≤ 1000) :
    Calls Try.prog 19 #[.agg #[.int .i64 mo, .int .i64 li, .slice (some ⟨g, 0, none⟩) l.length cap], .int .u16 (vid : Nat), mac m] w fun e w' => e = .returned (.int .i64 (atK enK (keyN vid (numF m 6)) l)) ∧ Below w.heap.size w w' := by
  obtain ⟨n, hn⟩ : ∃ n, l.length = n := ⟨_, rfl⟩
  rw [hn] at h ⊢
  have hn2 : (n : Int) ≤ 1000 := by omega
  have H := Lib.hid h
  have HN := Lib.hid hn
  have HOK := Lib.hid hok
  obtain ⟨kk, hkk⟩ : ∃ kk, kk = keyN vid (numF m 6) := ⟨_, rfl⟩
  rw [← hkk]
  have HKK := Lib.hid hkk
  have HM := Lib.hid hm
  obtain ⟨mm, hmm⟩ : ∃ mm, mm = macA m := ⟨_, rfl⟩
  have HMM := Lib.hid hmm
  have HM7 := Lib.hid (show (Try.prog.info? 31).map (·.size) = some mm.size by rw [hmm]; kernel_rfl)
  obtain ⟨fa, hfa⟩ : ∃ fa : Array Value, fa = #[.int .i64 mo, .int .i64 li, .slice (some ⟨g, 0, none⟩) n cap] := ⟨_, rfl⟩
  have HFA := Lib.hid hfa
  have K0 := Lib.hid (show Kn w [((w.alloc (.cells fa 28)).heap.size, mm, 31), (w.heap.size, fa, 28)] ((w.alloc (.cells fa 28)).alloc (.cells mm 31)) from ((Kn.nil w).alloc fa 28).alloc mm 31)
  have hone := Lib.hid (show mm.all (·.oneCell') = true by rw [hmm]; simp [Value.oneCell'])
  show Calls Try.prog 19 #[.agg #[.int .i64 mo, .int .i64 li, .slice (some ⟨g, 0, none⟩) n cap], .int .u16 (vid : Nat), .agg (macA m)] w _
  rw [← hmm, ← hfa]
  clear hfa
  clear h hn hl hkk hm hok hmm
  go_enter Try.func19, Try.ntmps19
  go_upto_region 1 with fail
  rw [World.size_alloc] at K0
  generalize hbx : w.heap.size + 1 = bx at *
  generalize hbf : w.heap.size = bf at *
  have H1 := Lib.hid (show Own ((w.alloc (.cells fa 28)).alloc (.cells mm 31)) base 38 9 enC (.slice (some ⟨g, 0, none⟩) n cap) l from (H.out.alloc _).alloc _)
  generalize (w.alloc (.cells fa 28)).alloc (.cells mm 31) = w1 at *
  go_upto_region 2 with fail
  go_loopw [7] (fun i wr => ∃ k : Nat, k ≤ n ∧ i = .int .i64 k ∧ Kn w [(bx, mm, 31), (bf, fa, 28)] wr ∧ Below w1.heap.size w1 wr ∧ ∀ j y, j < k → l[j]? = some y → enK y ≠ kk) (fun i _ => n - (intOf i).toNat)
  case atStart => exact ⟨0, Nat.zero_le _, rfl, K0.out, Below.refl _ _, fun j y hj => absurd hj (Nat.not_lt_zero _)⟩
  case round =>
    obtain ⟨k, hk, rfl, hkn, hbw, hbe⟩ := hrel
    have HBE := Lib.hid hbe
    have HKN := Lib.hid hkn
    have HBW := Lib.hid hbw
    clear hbe hkn hbw K0
    by_cases hlt : k < n
    · obtain ⟨x, hx⟩ : ∃ x, l[k]? = some x := ⟨_, List.getElem?_eq_getElem (show k < l.length by rw [HN.out]; exact hlt)⟩
      have HXO := Lib.hid (HOK.out x (List.mem_of_getElem? hx))
      have HS0 := Lib.hid (show ∀ w', Kn wr [(bx, mm, 31), (bf, fa, 28)] w' → w'.cell? ⟨bf, 2, none⟩ = some (.slice (some ⟨g, 0, none⟩) n cap) from fun w' hC => by rw [(hC.at 1 rfl).cell, HFA.out]; rfl)
      have cS := HS0.out wr ⟨HKN.out.all, Below.refl _ _⟩
      have HC0 := Lib.hid (show ∀ w', Kn wr [(bx, mm, 31), (bf, fa, 28)] w' → w'.cell? ⟨g, k * 9, none⟩ = some (.int .u16 (x.vid : Nat)) from fun w' hC => by
        have o := (H1.out.next HBW.out).next hC.below
        exact Own.at enC_len (by rw [HN.out]; exact o) k 0 x hx (by omega))
      obtain ⟨mx, hmx⟩ : ∃ mx, mx = macA (byteF x.mac) := ⟨_, rfl⟩
      have HMX := Lib.hid (show ∀ w', Kn wr [(bx, mm, 31), (bf, fa, 28)] w' → w'.rangeAt g (k * 9 + 1) mx.toList from fun w' hC j u hu => by
        have o := (H1.out.next HBW.out).next hC.below
        have hj : j < 6 := by
          have := (List.getElem?_eq_some_iff.1 hu).1
          rw [hmx] at this
          simpa using this
        have q := Own.at enC_len (by rw [HN.out]; exact o) k (1 + j) x hx (by omega)
        rw [Nat.add_assoc, q]
        exact en_mac x j u (by rw [hmx] at hu; simpa using hu))
      have HM6 := Lib.hid (show (Try.prog.info? 31).map (·.size) = some mx.size by rw [hmx]; kernel_rfl)
      obtain ⟨d, hd⟩ : ∃ d : Bool, d = decide (x.mac = numF m 6) := ⟨_, rfl⟩
      have HDD := Lib.hid hd
      have HEQ := Lib.hid (show ∀ W : World, (Op.equalIn 10000 31 (.agg mx) (.agg mm)).run Try.prog W = .ok d W from fun W => by
        rw [hd, hmx, HMM.out, ← eqMac_num HXO.out HM.out]
        exact equal_mac 9998 31 Try.underlying31 (byteF x.mac) m W)
      have hlt' : (k : Int) < n := by omega
      have HX := Lib.hid hx
      have K1 := Lib.hid (show Kn wr [(bx, mm, 31), (bf, fa, 28)] wr from ⟨HKN.out.all, Below.refl _ _⟩)
      clear hx hmx hd
      by_cases hv : x.vid = vid
      · have HE := Lib.hid (show ((x.vid : Int) == (vid : Int)) = true by rw [hv]; simp)
        have HV := Lib.hid hv
        clear hv
        go_upto_region 4 with fail
        refine wp_region_quiet (C := Kn wr [(bx, mm, 31), (bf, fa, 28)]) (by kernel_rfl) (by kernel_rfl) K1.out.drew ?_
        (refine q_val (v := ?_) (by rfl) ?_ ?_; rotate_left; (· (intro w hC; go_simp; try with_reducible rfl)); (try simp only [Act.put, List.getElem_toArray, List.getElem_cons_succ, List.getElem_cons_zero, List.setIfInBounds_toArray, List.set_cons_zero, List.set_cons_succ]))
        (refine q_val (v := ?_) (by rfl) ?_ ?_; rotate_left; (· (intro w hC; have q := HS0.out w hC; go_simp; try with_reducible rfl)); (try simp only [Act.put, List.getElem_toArray, List.getElem_cons_succ, List.getElem_cons_zero, List.setIfInBounds_toArray, List.set_cons_zero, List.set_cons_succ]))
        (refine q_val (v := ?_) (by rfl) ?_ ?_; rotate_left; (· (intro w hC; go_simp; try with_reducible rfl)); (try simp only [Act.put, List.getElem_toArray, List.getElem_cons_succ, List.getElem_cons_zero, List.setIfInBounds_toArray, List.set_cons_zero, List.set_cons_succ]))
        (refine q_val (v := ?_) (by rfl) ?_ ?_; rotate_left; (· (intro w hC; go_simp; try with_reducible rfl)); (try simp only [Act.put, List.getElem_toArray, List.getElem_cons_succ, List.getElem_cons_zero, List.setIfInBounds_toArray, List.set_cons_zero, List.set_cons_succ]))
        (refine q_val (v := ?_) (by rfl) ?_ ?_; rotate_left; (· (intro w hC; go_simp; try with_reducible rfl)); (try simp only [Act.put, List.getElem_toArray, List.getElem_cons_succ, List.getElem_cons_zero, List.setIfInBounds_toArray, List.set_cons_zero, List.set_cons_succ]))
        (refine q_val (v := ?_) (by rfl) ?_ ?_; rotate_left; (· (intro w hC; have q := HC0.out w hC; go_simp; try with_reducible rfl)); (try simp only [Act.put, List.getElem_toArray, List.getElem_cons_succ, List.getElem_cons_zero, List.setIfInBounds_toArray, List.set_cons_zero, List.set_cons_succ]))
        (refine q_val (v := ?_) (by rfl) ?_ ?_; rotate_left; (· (intro w hC; go_simp; try with_reducible rfl)); (try simp only [Act.put, List.getElem_toArray, List.getElem_cons_succ, List.getElem_cons_zero, List.setIfInBounds_toArray, List.set_cons_zero, List.set_cons_succ]))
        (refine q_val (v := ?_) (by rfl) ?_ ?_; rotate_left; (· (intro w hC; have q := HE.out; go_simp; try with_reducible rfl)); (try simp only [Act.put, List.getElem_toArray, List.getElem_cons_succ, List.getElem_cons_zero, List.setIfInBounds_toArray, List.set_cons_zero, List.set_cons_succ]))
        (refine q_val (v := ?_) (by rfl) ?_ ?_; rotate_left; (· (intro w hC; go_simp; try with_reducible rfl)); (try simp only [Act.put, List.getElem_toArray, List.getElem_cons_succ, List.getElem_cons_zero, List.setIfInBounds_toArray, List.set_cons_zero, List.set_cons_succ]))
        (refine q_val (v := ?_) (by rfl) ?_ ?_; rotate_left; (· (intro w hC; go_simp; try with_reducible rfl)); (try simp only [Act.put, List.getElem_toArray, List.getElem_cons_succ, List.getElem_cons_zero, List.setIfInBounds_toArray, List.set_cons_zero, List.set_cons_succ]))
        (refine q_val (v := ?_) (by rfl) ?_ ?_; rotate_left; (· (intro w hC; have q := HS0.out w hC; go_simp; try with_reducible rfl)); (try simp only [Act.put, List.getElem_toArray, List.getElem_cons_succ, List.getElem_cons_zero, List.setIfInBounds_toArray, List.set_cons_zero, List.set_cons_succ]))
        (refine q_val (v := ?_) (by rfl) ?_ ?_; rotate_left; (· (intro w hC; go_simp; try with_reducible rfl)); (try simp only [Act.put, List.getElem_toArray, List.getElem_cons_succ, List.getElem_cons_zero, List.setIfInBounds_toArray, List.set_cons_zero, List.set_cons_succ]))
        (refine q_val (v := ?_) (by rfl) ?_ ?_; rotate_left; (· (intro w hC; go_simp; try with_reducible rfl)); (try simp only [Act.put, List.getElem_toArray, List.getElem_cons_succ, List.getElem_cons_zero, List.setIfInBounds_toArray, List.set_cons_zero, List.set_cons_succ]))
        (refine q_val (v := ?_) (by rfl) ?_ ?_; rotate_left; (· (intro w hC; go_simp; try with_reducible rfl)); (try simp only [Act.put, List.getElem_toArray, List.getElem_cons_succ, List.getElem_cons_zero, List.setIfInBounds_toArray, List.set_cons_zero, List.set_cons_succ]))
        (refine q_val (v := .agg mx) (by rfl) (fun w hC => run_loadRange 31 _ rfl g (k * 9 + 1) rfl mx _ (HMX.out w hC) Try.underlying31 rfl HM6.out) ?_; (try simp only [Act.put, List.getElem_toArray, List.getElem_cons_succ, List.getElem_cons_zero, List.setIfInBounds_toArray, List.set_cons_zero, List.set_cons_succ]))
        (refine q_val (v := .agg mm) (by rfl) (fun w hC => run_loadVar_of 31 _ rfl bx rfl 31 mm _ (hC.at 0 rfl) Try.underlying31 rfl HM7.out) ?_; (try simp only [Act.put, List.getElem_toArray, List.getElem_cons_succ, List.getElem_cons_zero, List.setIfInBounds_toArray, List.set_cons_zero, List.set_cons_succ]))
        (refine q_val (v := ?_) (by rfl) ?_ ?_; rotate_left; (· (intro w hC; have q := HEQ.out; go_simp; try with_reducible rfl)); (try simp only [Act.put, List.getElem_toArray, List.getElem_cons_succ, List.getElem_cons_zero, List.setIfInBounds_toArray, List.set_cons_zero, List.set_cons_succ]))
        (refine q_val (v := ?_) (by rfl) ?_ ?_; rotate_left; (· (intro w hC; go_simp; try with_reducible rfl)); (try simp only [Act.put, List.getElem_toArray, List.getElem_cons_succ, List.getElem_cons_zero, List.setIfInBounds_toArray, List.set_cons_zero, List.set_cons_succ]))
        refine wpQuiet_nil ?_
        intro w5 hC5
        have K5 := Lib.hid hC5
        clear hC5
        cases d with
        | true =>
          have hma : x.mac = numF m 6 := of_decide_eq_true HDD.out.symm
          have R := Lib.hid (show (k : Int) = atK enK kk l from (atK_some enK kk l k x HX.out (by rw [HKK.out, ← hma, ← HV.out]; rfl) HBE.out).symm)
          clear hma
          go_wp2_with fail
          go_ret
          exact ⟨ret_int R.out, by have := (HKN.out.next K5.out.below).below; exact this⟩
        | false =>
          have hma : ¬ x.mac = numF m 6 := of_decide_eq_false HDD.out.symm
          have HNE := Lib.hid (show enK x ≠ kk by
            rw [HKK.out]
            unfold enK
            rw [Ne, keyN_eq HXO.out (numF_lt HM.out)]
            exact fun q => hma q.2)
          clear hma
          go_wp2_with fail
          go_roundw
          case rel => exact ⟨k + 1, by omega, by go_num, HKN.out.next K5.out.below, HBW.out.trans (K5.out.below.mono HBW.out.size), next_ne HX.out HNE.out HBE.out⟩
          case measure => simp [intOf]; omega
      · have HE := Lib.hid (show ((x.vid : Int) == (vid : Int)) = false by simp; omega)
        have HNE := Lib.hid (show enK x ≠ kk by
          rw [HKK.out]
          unfold enK
          rw [Ne, keyN_eq HXO.out (numF_lt HM.out)]
          exact fun q => hv q.1)
        clear hv
        go_upto_region 4 with fail
        refine wp_region_quiet (C := Kn wr [(bx, mm, 31), (bf, fa, 28)]) (by kernel_rfl) (by kernel_rfl) K1.out.drew ?_
        (refine q_val (v := ?_) (by rfl) ?_ ?_; rotate_left; (· (intro w hC; go_simp; try with_reducible rfl)); (try simp only [Act.put, List.getElem_toArray, List.getElem_cons_succ, List.getElem_cons_zero, List.setIfInBounds_toArray, List.set_cons_zero, List.set_cons_succ]))
        (refine q_val (v := ?_) (by rfl) ?_ ?_; rotate_left; (· (intro w hC; have q := HS0.out w hC; go_simp; try with_reducible rfl)); (try simp only [Act.put, List.getElem_toArray, List.getElem_cons_succ, List.getElem_cons_zero, List.setIfInBounds_toArray, List.set_cons_zero, List.set_cons_succ]))
        (refine q_val (v := ?_) (by rfl) ?_ ?_; rotate_left; (· (intro w hC; go_simp; try with_reducible rfl)); (try simp only [Act.put, List.getElem_toArray, List.getElem_cons_succ, List.getElem_cons_zero, List.setIfInBounds_toArray, List.set_cons_zero, List.set_cons_succ]))
        (refine q_val (v := ?_) (by rfl) ?_ ?_; rotate_left; (· (intro w hC; go_simp; try with_reducible rfl)); (try simp only [Act.put, List.getElem_toArray, List.getElem_cons_succ, List.getElem_cons_zero, List.setIfInBounds_toArray, List.set_cons_zero, List.set_cons_succ]))
        (refine q_val (v := ?_) (by rfl) ?_ ?_; rotate_left; (· (intro w hC; go_simp; try with_reducible rfl)); (try simp only [Act.put, List.getElem_toArray, List.getElem_cons_succ, List.getElem_cons_zero, List.setIfInBounds_toArray, List.set_cons_zero, List.set_cons_succ]))
        (refine q_val (v := ?_) (by rfl) ?_ ?_; rotate_left; (· (intro w hC; have q := HC0.out w hC; go_simp; try with_reducible rfl)); (try simp only [Act.put, List.getElem_toArray, List.getElem_cons_succ, List.getElem_cons_zero, List.setIfInBounds_toArray, List.set_cons_zero, List.set_cons_succ]))
        (refine q_val (v := ?_) (by rfl) ?_ ?_; rotate_left; (· (intro w hC; go_simp; try with_reducible rfl)); (try simp only [Act.put, List.getElem_toArray, List.getElem_cons_succ, List.getElem_cons_zero, List.setIfInBounds_toArray, List.set_cons_zero, List.set_cons_succ]))
        (refine q_val (v := ?_) (by rfl) ?_ ?_; rotate_left; (· (intro w hC; have q := HE.out; go_simp; try with_reducible rfl)); (try simp only [Act.put, List.getElem_toArray, List.getElem_cons_succ, List.getElem_cons_zero, List.setIfInBounds_toArray, List.set_cons_zero, List.set_cons_succ]))
        (refine q_val (v := ?_) (by rfl) ?_ ?_; rotate_left; (· (intro w hC; go_simp; try with_reducible rfl)); (try simp only [Act.put, List.getElem_toArray, List.getElem_cons_succ, List.getElem_cons_zero, List.setIfInBounds_toArray, List.set_cons_zero, List.set_cons_succ]))
        (refine q_skip (by rfl) ?_; (try simp only [Act.put, List.getElem_toArray, List.getElem_cons_succ, List.getElem_cons_zero, List.setIfInBounds_toArray, List.set_cons_zero, List.set_cons_succ]))
        (refine q_skip (by rfl) ?_; (try simp only [Act.put, List.getElem_toArray, List.getElem_cons_succ, List.getElem_cons_zero, List.setIfInBounds_toArray, List.set_cons_zero, List.set_cons_succ]))
        (refine q_skip (by rfl) ?_; (try simp only [Act.put, List.getElem_toArray, List.getElem_cons_succ, List.getElem_cons_zero, List.setIfInBounds_toArray, List.set_cons_zero, List.set_cons_succ]))
        (refine q_skip (by rfl) ?_; (try simp only [Act.put, List.getElem_toArray, List.getElem_cons_succ, List.getElem_cons_zero, List.setIfInBounds_toArray, List.set_cons_zero, List.set_cons_succ]))
        (refine q_skip (by rfl) ?_; (try simp only [Act.put, List.getElem_toArray, List.getElem_cons_succ, List.getElem_cons_zero, List.setIfInBounds_toArray, List.set_cons_zero, List.set_cons_succ]))
        (refine q_skip (by rfl) ?_; (try simp only [Act.put, List.getElem_toArray, List.getElem_cons_succ, List.getElem_cons_zero, List.setIfInBounds_toArray, List.set_cons_zero, List.set_cons_succ]))
        (refine q_skip (by rfl) ?_; (try simp only [Act.put, List.getElem_toArray, List.getElem_cons_succ, List.getElem_cons_zero, List.setIfInBounds_toArray, List.set_cons_zero, List.set_cons_succ]))
        (refine q_skip (by rfl) ?_; (try simp only [Act.put, List.getElem_toArray, List.getElem_cons_succ, List.getElem_cons_zero, List.setIfInBounds_toArray, List.set_cons_zero, List.set_cons_succ]))
        (refine q_val (v := ?_) (by rfl) ?_ ?_; rotate_left; (· (intro w hC; go_simp; try with_reducible rfl)); (try simp only [Act.put, List.getElem_toArray, List.getElem_cons_succ, List.getElem_cons_zero, List.setIfInBounds_toArray, List.set_cons_zero, List.set_cons_succ]))
        refine wpQuiet_nil ?_
        intro w5 hC5
        have K5 := Lib.hid hC5
        clear hC5
        go_wp2_with fail
        go_roundw
        case rel => exact ⟨k + 1, by omega, by go_num, HKN.out.next K5.out.below, HBW.out.trans (K5.out.below.mono HBW.out.size), next_ne HX.out HNE.out HBE.out⟩
        case measure => simp [intOf]; omega
    · have cS : wr.cell? ⟨bf, 2, none⟩ = some (.slice (some ⟨g, 0, none⟩) n cap) := by rw [(HKN.out.at 1 rfl).cell, HFA.out]; rfl
      have R := Lib.hid (show (-1 : Int) = atK enK kk l from (atK_none enK kk l (fun x hx => by
        obtain ⟨i, hi, rfl⟩ := List.mem_iff_getElem.1 hx
        exact HBE.out i _ (by have := HN.out; omega) (List.getElem?_eq_getElem hi))).symm)
      go_wp2_with fail
      go_ret
      exact ⟨ret_int R.out, by have := HKN.out.below; exact this⟩


set_option maxHeartbeats 4000000 in
theorem rat9_nil (vid : Nat) (mo li : Int) (m : Nat → Nat) (w : World) : Calls Try.prog 19 #[.agg #[.int .i64 mo, .int .i64 li, .slice none 0 0], .int .u16 (vid : Nat), mac m] w fun e w' => e = .returned (.int .i64 (-1)) ∧ Below w.heap.size w w' := by
  have HB := Lib.hid (((Below.refl w.heap.size w).alloc (Nat.le_refl _) (.cells #[.int .i64 mo, .int .i64 li, .slice none 0 0] 28)).alloc (by simp) (.cells (macA m) 31))
  go_enter Try.func19, Try.ntmps19
  go_wp2
  refine wp_loop_rounds 1 ?_
  rw [rounds_succ]
  go_wp2
  go_ret
  exact ⟨rfl, HB.out⟩

theorem rat9_any (base vid a : Nat) (ha : a < 281474976710656) (mo li : Int) (v : Value) (l : List En) (w : World) (h : Own w base 38 9 enC v l) (hok : ∀ x ∈ l, enOk x) (hl : l.length ≤ 1000) :
    Calls Try.prog 19 #[.agg #[.int .i64 mo, .int .i64 li, v], .int .u16 (vid : Nat), mac (byteF a)] w fun e w' => e = .returned (.int .i64 (atK enK (keyN vid a) l)) ∧ Below w.heap.size w w' := by
  rcases h.cases with ⟨rfl, rfl⟩ | ⟨g, cap, rfl, -⟩
  · exact rat9_nil vid mo li (byteF a) w
  · have := rat9_own base g cap vid mo li (byteF a) (byteF_six a) l w h hok hl
    rw [numF_byteF, Nat.mod_eq_of_lt ha] at this
    exact this
end Go.Proofs.Ytilklfmcdgggfaa
