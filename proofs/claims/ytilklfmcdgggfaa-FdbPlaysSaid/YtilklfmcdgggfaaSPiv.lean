/- sort.choosePivot_func, where the one that compares may make memory. -/
import Derived.Test.YtilklfmcdgggfaaSMed
import Derived.Sort.LotD4
namespace Go.Proofs.Ytilklfmcdgggfaa
open Go.Shelf Go.RowKit Go.Lib Go.Sort
set_option linter.unusedVariables false
set_option linter.unusedSimpArgs false

variable {α : Type} [Inhabited α] {enc : α → List Value} {k n : Nat} {w0 : World} {blk g sf : Nat} {lb sb : Array Value} {lt : α → α → Bool}

theorem hint_code (s : Nat) : hintCode (hintOf s) = if s = 0 then 1 else if s = 12 then 2 else 0 := by
  unfold hintOf
  split
  · rfl
  · split <;> rfl
theorem ret_pairI {a b a' b' : Int} (h1 : a = a') (h2 : b = b') : Ending.returned (.tuple #[.int .i64 a, .int .i64 b]) = .returned (.tuple #[.int .i64 a', .int .i64 b']) := by rw [h1, h2]

set_option maxHeartbeats 8000000 in
set_option maxRecDepth 100000 in
theorem pivot_any (S : SortBy g lb sf sb enc k n lt blk w0) {W : World} {d : Array α} (hW : Rw enc k n w0 blk d W) (a b : Nat) (hL : 12 < b - a) (hb : b ≤ n) :
    Calls Try.prog 80 #[.agg (twoA g lb sf sb), .int .i64 a, .int .i64 b] W fun e w' =>
      e = .returned (.tuple #[.int .i64 ((choosePivot lt d a b).1 : Nat), .int .i64 (hintCode (choosePivot lt d a b).2)]) ∧ Rw enc k n w0 blk d w' ∧ KB w0 W w' := by
  obtain ⟨W1, hW1⟩ : ∃ W1, W1 = W.alloc (.cells (twoA g lb sf sb) 125) := ⟨_, rfl⟩
  obtain ⟨B, hB⟩ : ∃ B, B = W.heap.size := ⟨_, rfl⟩
  obtain ⟨W2, hW2⟩ : ∃ W2, W2 = W1.alloc (.cells #[.int .i64 0] 3) := ⟨_, rfl⟩
  have hB1 : W1.heap.size = B + 1 := by rw [hW1, hB]; simp
  have R1 := Lib.hid (show Rw enc k n w0 blk d W1 by rw [hW1]; exact hW.alloc _)
  have R2 := Lib.hid (show Rw enc k n w0 blk d W2 by rw [hW2]; exact R1.out.alloc _)
  have X1 := Lib.hid (show Bx w0 W1 B (twoA g lb sf sb) 125 by rw [hW1, hB]; exact Bx.new hW.le _ _)
  have K1 := Lib.hid (show KB w0 W W1 by rw [hW1]; exact (KB.refl _ _).alloc _)
  have K2 := Lib.hid (show KB w0 W1 W2 by rw [hW2]; exact (KB.refl _ _).alloc _)
  have C2 := Lib.hid (show Bx w0 W2 (B + 1) #[.int .i64 ((0 : Nat) : Int)] 3 by rw [hW2, ← hB1]; exact Bx.new R1.out.le _ _)
  have X2 := Lib.hid (X1.out.kb K2.out)
  have HW1 := Lib.hid hW1
  have HW2 := Lib.hid hW2
  have HB := Lib.hid hB
  have HB1 := Lib.hid hB1
  clear hW hW1 hW2 hB hB1
  have HBW := Lib.hid (show W.heap.size ≤ B + 1 by have := HB.out; omega)
  have hf := S.few
  obtain ⟨L, hLL⟩ : ∃ L, L = b - a := ⟨_, rfl⟩
  obtain ⟨q, hq⟩ : ∃ q, q = L / 4 := ⟨_, rfl⟩
  obtain ⟨i1, hi1⟩ : ∃ i, i = a + q * 1 := ⟨_, rfl⟩
  obtain ⟨i2, hi2⟩ : ∃ i, i = a + q * 2 := ⟨_, rfl⟩
  obtain ⟨i3, hi3⟩ : ∃ i, i = a + q * 3 := ⟨_, rfl⟩
  have lsub : (b : Int) - (a : Int) = (L : Int) := by omega
  have qi : (L : Int) / 4 = (q : Int) := by omega
  have hq2 : 3 ≤ q ∧ 4 * q ≤ L := by omega
  have hLi : (12 : Int) < L := by omega
  have e1 : (a : Int) + (q : Int) = (i1 : Int) := by omega
  have e2 : (a : Int) + (q : Int) * 2 = (i2 : Int) := by omega
  have e3 : (a : Int) + (q : Int) * 3 = (i3 : Int) := by omega
  have NE := Lib.hid (show B ≠ B + 1 by omega)
  have b1 : 1 ≤ i1 ∧ i1 + 1 < n ∧ 1 ≤ i2 ∧ i2 + 1 < n ∧ 1 ≤ i3 ∧ i3 + 1 < n := by omega
  have BD := Lib.hid b1
  have RES := Lib.hid (show choosePivot lt d a b = ((rawPivot lt d a b).1, hintOf (rawPivot lt d a b).2) from choosePivot_eq lt d a b)
  have f0 := X2.out.cell 0
  have f1 := X2.out.cell 1
  simp only [List.getElem?_toArray, List.getElem?_cons_zero, List.getElem?_cons_succ] at f0 f1
  -- the end, whatever was found
  have fin : ∀ (p s : Nat), rawPivot lt d a b = (p, s) → ∀ w5, Bx w0 w5 (B + 1) #[.int .i64 (s : Nat)] 3 → True := fun _ _ _ _ _ => trivial
  clear fin
  by_cases h50 : 50 ≤ L
  · have h50i : (50 : Int) ≤ L := by omega
    have RP := Lib.hid (show rawPivot lt d a b = median lt d (medianAdjacent lt d i1 0).1 (medianAdjacent lt d i2 (medianAdjacent lt d i1 0).2).1 (medianAdjacent lt d i3 (medianAdjacent lt d i2 (medianAdjacent lt d i1 0).2).2).1 (medianAdjacent lt d i3 (medianAdjacent lt d i2 (medianAdjacent lt d i1 0).2).2).2 by
      unfold rawPivot
      simp only [← hLL, ← hq, ← hi1, ← hi2, ← hi3]
      rw [if_pos (by omega), if_pos (by omega)])
    clear hLL hq hi1 hi2 hi3 hq2 b1
    have m1 := medAdj_any S R2.out i1 0 (B + 1) BD.out.1 BD.out.2.1 C2.out (by omega)
    obtain ⟨⟨p1, s1⟩, hp1⟩ : ∃ r, r = medianAdjacent lt d i1 0 := ⟨_, rfl⟩
    have P1 := Lib.hid (show p1 < n ∧ s1 ≤ 3 by
      have a1 := median_mem lt d (i1 - 1) i1 (i1 + 1) 0
      have a2 := median_count lt d (i1 - 1) i1 (i1 + 1) 0
      have : median lt d (i1 - 1) i1 (i1 + 1) 0 = (p1, s1) := hp1.symm
      rw [this] at a1 a2
      have := BD.out
      simp only at a1 a2
      omega)
    rw [← hp1] at m1 RP
    obtain ⟨⟨p2, s2⟩, hp2⟩ : ∃ r, r = medianAdjacent lt d i2 s1 := ⟨_, rfl⟩
    have P2 := Lib.hid (show p2 < n ∧ s2 ≤ 6 by
      have a1 := median_mem lt d (i2 - 1) i2 (i2 + 1) s1
      have a2 := median_count lt d (i2 - 1) i2 (i2 + 1) s1
      have : median lt d (i2 - 1) i2 (i2 + 1) s1 = (p2, s2) := hp2.symm
      rw [this] at a1 a2
      have := BD.out
      have := P1.out.2
      simp only at a1 a2
      omega)
    simp only at RP
    rw [← hp2] at RP
    obtain ⟨⟨p3, s3⟩, hp3⟩ : ∃ r, r = medianAdjacent lt d i3 s2 := ⟨_, rfl⟩
    have P3 := Lib.hid (show p3 < n ∧ s3 ≤ 9 by
      have a1 := median_mem lt d (i3 - 1) i3 (i3 + 1) s2
      have a2 := median_count lt d (i3 - 1) i3 (i3 + 1) s2
      have : median lt d (i3 - 1) i3 (i3 + 1) s2 = (p3, s3) := hp3.symm
      rw [this] at a1 a2
      have := BD.out
      have := P2.out.2
      simp only at a1 a2
      omega)
    simp only at RP
    rw [← hp3] at RP
    simp only at RP
    obtain ⟨⟨p, s⟩, hps⟩ : ∃ r, r = median lt d p1 p2 p3 s3 := ⟨_, rfl⟩
    rw [← hps] at RP
    have R9 := Lib.hid (show choosePivot lt d a b = (p, hintOf s) by rw [RES.out, RP.out])
    have Q1 := Lib.hid hp1
    have Q2 := Lib.hid hp2
    have Q3 := Lib.hid hp3
    have Q4 := Lib.hid hps
    have HC := Lib.hid (hint_code s)
    clear hp1 hp2 hp3 hps RES RP
    go_enter Try.func80, Try.ntmps80
    go_upto_region 1 with fail
    rw [← HW1.out, ← HB.out]
    go_upto_region 3 with fail
    rw [← HW2.out, HB1.out]
    go_upto_region 9 with (go_at_call 88; refine m1.mono ?_; rintro e w3 ⟨rfl, hR, hC, hK⟩)
    have X3 := Lib.hid (X2.out.kx hK NE.out)
    have KK3 := Lib.hid hK
    have m2 := medAdj_any S hR i2 s1 (B + 1) BD.out.2.2.1 BD.out.2.2.2.1 hC (by have := P1.out.2; omega)
    rw [← Q2.out] at m2
    clear f0 f1 hR hC hK m1
    have f0 := X3.out.cell 0
    have f1 := X3.out.cell 1
    simp only [List.getElem?_toArray, List.getElem?_cons_zero, List.getElem?_cons_succ] at f0 f1
    go_upto_region 10 with (go_at_call 88; refine m2.mono ?_; rintro e w4 ⟨rfl, hR, hC, hK⟩)
    have X4 := Lib.hid (X3.out.kx hK NE.out)
    have KK4 := Lib.hid hK
    have m3 := medAdj_any S hR i3 s2 (B + 1) BD.out.2.2.2.2.1 BD.out.2.2.2.2.2 hC (by have := P2.out.2; omega)
    rw [← Q3.out] at m3
    clear f0 f1 hR hC hK m2
    have f0 := X4.out.cell 0
    have f1 := X4.out.cell 1
    simp only [List.getElem?_toArray, List.getElem?_cons_zero, List.getElem?_cons_succ] at f0 f1
    go_upto_region 11 with (go_at_call 88; refine m3.mono ?_; rintro e w5 ⟨rfl, hR, hC, hK⟩)
    have X5 := Lib.hid (X4.out.kx hK NE.out)
    have KK5 := Lib.hid hK
    have m4 := median_any S hR p1 p2 p3 s3 (B + 1) P1.out.1 P2.out.1 P3.out.1 hC (by have := P3.out.2; omega)
    rw [← Q4.out] at m4
    clear f0 f1 hR hC hK m3
    have f0 := X5.out.cell 0
    have f1 := X5.out.cell 1
    simp only [List.getElem?_toArray, List.getElem?_cons_zero, List.getElem?_cons_succ] at f0 f1
    go_upto_region 12 with (go_at_call 89; refine m4.mono ?_; rintro e w6 ⟨rfl, hR, hC, hK⟩)
    have HR := Lib.hid hR
    have KK6 := Lib.hid (KX.toKB (K1.out.trans K2.out) HBW.out (((KK3.out.trans KK4.out).trans KK5.out).trans hK))
    have cc := hC.cell 0
    simp only [List.getElem?_toArray, List.getElem?_cons_zero] at cc
    clear f0 f1 hR hC hK m4
    by_cases s0 : s = 0
    · have z : (s : Int) = 0 := by omega
      have zb : ((s : Int) == 0) = true := by simp [s0]
      go_wp2
      go_ret2
      exact ⟨ret_pairI (by rw [R9.out]) (by rw [R9.out, HC.out, if_pos s0]), HR.out, KK6.out⟩
    · by_cases s12 : s = 12
      · have zb : ((s : Int) == 0) = false := by simp; omega
        have zc : ((s : Int) == 12) = true := by simp; omega
        go_wp2
        go_ret2
        exact ⟨ret_pairI (by rw [R9.out]) (by rw [R9.out, HC.out, if_neg s0, if_pos s12]), HR.out, KK6.out⟩
      · have zb : ((s : Int) == 0) = false := by simp; omega
        have zc : ((s : Int) == 12) = false := by simp; omega
        go_wp2
        go_ret2
        exact ⟨ret_pairI (by rw [R9.out]) (by rw [R9.out, HC.out, if_neg s0, if_neg s12]), HR.out, KK6.out⟩
  · have h50i : (L : Int) < 50 := by omega
    have m1 := median_any S R2.out i1 i2 i3 0 (B + 1) (by omega) (by omega) (by omega) C2.out (by omega)
    have RP := Lib.hid (show rawPivot lt d a b = median lt d i1 i2 i3 0 by
      unfold rawPivot
      simp only [← hLL, ← hq, ← hi1, ← hi2, ← hi3]
      rw [if_pos (by omega), if_neg (by omega)])
    clear hLL hq hi1 hi2 hi3 hq2 b1
    obtain ⟨⟨p, s⟩, hps⟩ : ∃ r, r = median lt d i1 i2 i3 0 := ⟨_, rfl⟩
    rw [← hps] at m1
    have R9 := Lib.hid (show choosePivot lt d a b = (p, hintOf s) by rw [RES.out, RP.out, ← hps])
    have HC := Lib.hid (hint_code s)
    clear hps RES RP
    go_enter Try.func80, Try.ntmps80
    go_upto_region 1 with fail
    rw [← HW1.out, ← HB.out]
    go_upto_region 3 with fail
    rw [← HW2.out, HB1.out]
    go_upto_region 12 with (go_at_call 89; refine m1.mono ?_; rintro e w3 ⟨rfl, hR, hC, hK⟩)
    have HR := Lib.hid hR
    have KK6 := Lib.hid (KX.toKB (K1.out.trans K2.out) HBW.out hK)
    have cc := hC.cell 0
    simp only [List.getElem?_toArray, List.getElem?_cons_zero] at cc
    clear f0 f1 hR hC hK m1
    by_cases s0 : s = 0
    · have zb : ((s : Int) == 0) = true := by simp [s0]
      go_wp2
      go_ret2
      exact ⟨ret_pairI (by rw [R9.out]) (by rw [R9.out, HC.out, if_pos s0]), HR.out, KK6.out⟩
    · by_cases s12 : s = 12
      · have zb : ((s : Int) == 0) = false := by simp; omega
        have zc : ((s : Int) == 12) = true := by simp; omega
        go_wp2
        go_ret2
        exact ⟨ret_pairI (by rw [R9.out]) (by rw [R9.out, HC.out, if_neg s0, if_pos s12]), HR.out, KK6.out⟩
      · have zb : ((s : Int) == 0) = false := by simp; omega
        have zc : ((s : Int) == 12) = false := by simp; omega
        go_wp2
        go_ret2
        exact ⟨ret_pairI (by rw [R9.out]) (by rw [R9.out, HC.out, if_neg s0, if_neg s12]), HR.out, KK6.out⟩
end Go.Proofs.Ytilklfmcdgggfaa
