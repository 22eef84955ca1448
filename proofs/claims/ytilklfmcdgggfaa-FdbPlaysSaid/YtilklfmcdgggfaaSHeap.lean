/- sort.siftDown_func and heapSort_func, where the one that compares may make memory. -/
import Derived.Test.YtilklfmcdgggfaaSrt
import Derived.Deep.DeepCutAuto
import Derived.Deep.CutBlock
import Derived.Sort.WalkB3
namespace Go.Proofs.Ytilklfmcdgggfaa
open Go.Shelf Go.RowKit Go.Lib Go.Sort
set_option linter.unusedVariables false
set_option linter.unusedSimpArgs false

variable {α : Type} [Inhabited α] {enc : α → List Value} {k n : Nat} {w0 : World} {blk g sf : Nat} {lb sb : Array Value} {lt : α → α → Bool}
theorem sift_end (lt : α → α → Bool) (hi F r : Nat) (d : Array α) (h : hi ≤ 2 * r + 1) : siftDown lt hi F r d = d := by
  rw [siftDown, dif_pos h]
theorem sift_two (lt : α → α → Bool) (hi F r : Nat) (d : Array α) (h : 2 * r + 2 < hi) (h1 : lt d[F + (2 * r + 1)]! d[F + (2 * r + 2)]! = true) :
    siftDown lt hi F r d = if lt d[F + r]! d[F + (2 * r + 2)]! = true then siftDown lt hi F (2 * r + 2) (swp d (F + r) (F + (2 * r + 2))) else d := by
  have h1' : lt d[F + (2 * r + 1)]! d[F + (2 * r + 1) + 1]! = true := h1
  rw [siftDown, dif_neg (by omega), if_pos (by rw [h1']; simp; omega), dif_pos h]
  cases lt d[F + r]! d[F + (2 * r + 2)]! <;> simp
theorem sift_one (lt : α → α → Bool) (hi F r : Nat) (d : Array α) (h0 : 2 * r + 1 < hi) (h : ¬ 2 * r + 2 < hi ∨ lt d[F + (2 * r + 1)]! d[F + (2 * r + 2)]! = false) :
    siftDown lt hi F r d = if lt d[F + r]! d[F + (2 * r + 1)]! = true then siftDown lt hi F (2 * r + 1) (swp d (F + r) (F + (2 * r + 1))) else d := by
  have h' : ¬ 2 * r + 1 + 1 < hi ∨ lt d[F + (2 * r + 1)]! d[F + (2 * r + 1) + 1]! = false := h
  rw [siftDown, dif_neg (by omega), if_neg (by rcases h' with c | c <;> simp [c])]
  cases lt d[F + r]! d[F + (2 * r + 1)]! <;> simp

set_option maxHeartbeats 8000000 in
set_option maxRecDepth 100000 in
theorem sift_any (S : SortBy g lb sf sb enc k n lt blk w0) {W : World} {d : Array α} (hW : Rw enc k n w0 blk d W) (lo hi F : Nat) (hF : F + hi ≤ n) (hlo : lo ≤ n) :
    Calls Try.prog 85 #[.agg (twoA g lb sf sb), .int .i64 lo, .int .i64 hi, .int .i64 F] W fun e w' =>
      e = .returned (.tuple #[]) ∧ Rw enc k n w0 blk (Sort.siftDown lt hi F lo d) w' ∧ KB w0 W w' := by
  have eg := S.eg
  have hfew := S.few
  obtain ⟨W1, hW1⟩ : ∃ W1, W1 = W.alloc (.cells (twoA g lb sf sb) 125) := ⟨_, rfl⟩
  obtain ⟨B, hB⟩ : ∃ B, B = W.heap.size := ⟨_, rfl⟩
  have R1 := Lib.hid (show Rw enc k n w0 blk d W1 by rw [hW1]; exact hW.alloc _)
  have X1 := Lib.hid (show Bx w0 W1 B (twoA g lb sf sb) 125 by rw [hW1, hB]; exact Bx.new hW.le _ _)
  have K1 := Lib.hid (show KB w0 W W1 by rw [hW1]; exact (KB.refl _ _).alloc _)
  have HW1 := Lib.hid hW1
  have HB := Lib.hid hB
  clear hW1 hB hW
  obtain ⟨r, hr⟩ : ∃ r, r = siftDown lt hi F lo d := ⟨_, rfl⟩
  rw [← hr]
  have HRR := Lib.hid hr.symm
  clear hr
  go_enter Try.func85, Try.ntmps85
  go_upto_region 1 with fail
  rw [← HW1.out, ← HB.out]
  go_wp2_with fail
  go_loopw [8] (fun vi wr => ∃ (i : Nat) (dk : Array α), vi = .int .i64 i ∧ i ≤ n ∧ Rw enc k n w0 blk dk wr ∧ KB w0 W1 wr ∧ siftDown lt hi F i dk = r) (fun vi _ => hi - (intOf vi).toNat)
  case atStart => exact ⟨lo, d, rfl, hlo, R1.out, KB.refl _ _, HRR.out⟩
  case round =>
    obtain ⟨i, dk, rfl, hi_n, hR, hK, hP⟩ := hrel
    have HR := Lib.hid hR
    have HK := Lib.hid hK
    have HP := Lib.hid hP
    clear hR hK hP
    obtain ⟨c1, hc1⟩ : ∃ c, c = 2 * i + 1 := ⟨_, rfl⟩
    obtain ⟨c2, hc2⟩ : ∃ c, c = 2 * i + 2 := ⟨_, rfl⟩
    obtain ⟨q, hq⟩ : ∃ c, c = F + i := ⟨_, rfl⟩
    obtain ⟨p1, hp1⟩ : ∃ c, c = F + c1 := ⟨_, rfl⟩
    obtain ⟨p2, hp2⟩ : ∃ c, c = F + c2 := ⟨_, rfl⟩
    have ec1 : 2 * (i : Int) + 1 = (c1 : Int) := by omega
    have ec2 : (c1 : Int) + 1 = (c2 : Int) := by omega
    have eq0 : (F : Int) + (i : Int) = (q : Int) := by omega
    have ep1 : (F : Int) + (c1 : Int) = (p1 : Int) := by omega
    have ep2 : (p1 : Int) + 1 = (p2 : Int) := by omega
    have ep3 : (F : Int) + (c2 : Int) = (p2 : Int) := by omega
    have ST0 := Lib.hid (show hi ≤ c1 → siftDown lt hi F i dk = dk from fun h => sift_end lt hi F i dk (by omega))
    have ST2 := Lib.hid (show c2 < hi → lt dk[p1]! dk[p2]! = true → siftDown lt hi F i dk = if lt dk[q]! dk[p2]! = true then siftDown lt hi F c2 (swp dk q p2) else dk by
      rw [hp1, hp2, hq, hc1, hc2]; exact fun h h1 => sift_two lt hi F i dk h h1)
    have ST1 := Lib.hid (show c1 < hi → (¬ c2 < hi ∨ lt dk[p1]! dk[p2]! = false) → siftDown lt hi F i dk = if lt dk[q]! dk[p1]! = true then siftDown lt hi F c1 (swp dk q p1) else dk by
      rw [hp1, hp2, hq, hc1, hc2]; exact fun h h1 => sift_one lt hi F i dk h h1)
    have hbs : i < c1 ∧ i < c2 ∧ c1 < c2 ∧ c2 ≤ 2 * n + 2 ∧ p1 < F + c2 ∧ p2 ≤ F + c2 ∧ q < p1 ∧ p1 < p2 ∧ (c1 < hi → p1 < n) ∧ (c2 < hi → p2 < n) ∧ (c1 < hi → q < n) ∧ (c1 < hi → c1 ≤ n) ∧ (c2 < hi → c2 ≤ n) := by omega
    have HBS := Lib.hid hbs
    have hbn : c2 ≤ 2 * n + 2 ∧ p2 ≤ 3 * n + 3 ∧ q ≤ 3 * n ∧ p1 ≤ 3 * n + 3 ∧ F ≤ n ∧ c1 ≤ 2 * n + 1 := by omega
    have c0 := (X1.out.kb HK.out).cell 0
    simp only [List.getElem?_toArray, List.getElem?_cons_zero, List.getElem?_cons_succ] at c0
    clear hc1 hc2 hq hp1 hp2 hbs
    by_cases h1 : c1 < hi
    · have h1i : (c1 : Int) < (hi : Int) := by omega
      have b1 := HBS.out.2.2.2.2.2.2.2.2.1 h1
      have b2 := HBS.out.2.2.2.2.2.2.2.2.2.2.1 h1
      have HC1 := Lib.hid (HBS.out.2.2.2.2.2.2.2.2.2.2.2.1 h1)
      by_cases h2 : c2 < hi
      · have h2i : (c2 : Int) < (hi : Int) := by omega
        have b3 := HBS.out.2.2.2.2.2.2.2.2.2.1 h2
        have HC2 := Lib.hid (HBS.out.2.2.2.2.2.2.2.2.2.2.2.2 h2)
        have hl := S.less HR.out p1 p2 b1 b3
        cases hlv : lt dk[p1]! dk[p2]! with
        | true =>
          rw [hlv] at hl
          have HST := Lib.hid (ST2.out h2 hlv)
          go_upto_region 6 with (go_at_fn g; refine hl.mono ?_; rintro e w4 ⟨rfl, hR4, hK4⟩)
          have HR6 := Lib.hid hR4
          have HK6 := Lib.hid (HK.out.trans hK4)
          clear hR4 hK4 hl c0
          have c0 := (X1.out.kb HK6.out).cell 0
          simp only [List.getElem?_toArray, List.getElem?_cons_zero, List.getElem?_cons_succ] at c0
          have hl2 := S.less HR6.out q p2 b2 b3
          cases hlv2 : lt dk[q]! dk[p2]! with
          | true =>
            rw [hlv2] at hl2
            have HQ := Lib.hid (show siftDown lt hi F c2 (swp dk q p2) = r by rw [← HP.out, HST.out, if_pos hlv2])
            go_upto_region 7 with (go_at_fn g; refine hl2.mono ?_; rintro e w5 ⟨rfl, hR5, hK5⟩)
            have c1' := (X1.out.kb (HK6.out.trans hK5)).cell 1
            simp only [List.getElem?_toArray, List.getElem?_cons_zero, List.getElem?_cons_succ] at c1'
            obtain ⟨w6, hs6, hR6, hK6⟩ := S.swap hR5 q p2 b2 b3
            have HR7 := Lib.hid hR6
            have HK7 := Lib.hid ((HK6.out.trans hK5).trans hK6)
            clear hR5 hK5 hR6 hK6 hl2 c0
            go_wp2_with fail
            go_roundw
            case rel => exact ⟨c2, swp dk q p2, rfl, HC2.out, HR7.out, HK7.out, HQ.out⟩
            case measure => have := HBS.out; simp [intOf]; omega
          | false =>
            rw [hlv2] at hl2
            have HQ := Lib.hid (show dk = r by rw [← HP.out, HST.out, if_neg (by rw [hlv2]; decide)])
            go_wp2_with (go_at_fn g; refine hl2.mono ?_; rintro e w5 ⟨rfl, hR5, hK5⟩)
            (try simp only [Exit.inBlock, Exit.then]); refine bodyPost_ret (results_none rfl _ _ _) rfl ?_
            rw [← HQ.out]
            exact ⟨rfl, hR5, (K1.out.trans HK6.out).trans hK5⟩
        | false =>
          rw [hlv] at hl
          have HST := Lib.hid (ST1.out h1 (Or.inr hlv))
          go_upto_region 6 with (go_at_fn g; refine hl.mono ?_; rintro e w4 ⟨rfl, hR4, hK4⟩)
          have HR6 := Lib.hid hR4
          have HK6 := Lib.hid (HK.out.trans hK4)
          clear hR4 hK4 hl c0
          have c0 := (X1.out.kb HK6.out).cell 0
          simp only [List.getElem?_toArray, List.getElem?_cons_zero, List.getElem?_cons_succ] at c0
          have hl2 := S.less HR6.out q p1 b2 b1
          cases hlv2 : lt dk[q]! dk[p1]! with
          | true =>
            rw [hlv2] at hl2
            have HQ := Lib.hid (show siftDown lt hi F c1 (swp dk q p1) = r by rw [← HP.out, HST.out, if_pos hlv2])
            go_upto_region 7 with (go_at_fn g; refine hl2.mono ?_; rintro e w5 ⟨rfl, hR5, hK5⟩)
            have c1' := (X1.out.kb (HK6.out.trans hK5)).cell 1
            simp only [List.getElem?_toArray, List.getElem?_cons_zero, List.getElem?_cons_succ] at c1'
            obtain ⟨w6, hs6, hR6, hK6⟩ := S.swap hR5 q p1 b2 b1
            have HR7 := Lib.hid hR6
            have HK7 := Lib.hid ((HK6.out.trans hK5).trans hK6)
            clear hR5 hK5 hR6 hK6 hl2 c0
            go_wp2_with fail
            go_roundw
            case rel => exact ⟨c1, swp dk q p1, rfl, HC1.out, HR7.out, HK7.out, HQ.out⟩
            case measure => have := HBS.out; simp [intOf]; omega
          | false =>
            rw [hlv2] at hl2
            have HQ := Lib.hid (show dk = r by rw [← HP.out, HST.out, if_neg (by rw [hlv2]; decide)])
            go_wp2_with (go_at_fn g; refine hl2.mono ?_; rintro e w5 ⟨rfl, hR5, hK5⟩)
            (try simp only [Exit.inBlock, Exit.then]); refine bodyPost_ret (results_none rfl _ _ _) rfl ?_
            rw [← HQ.out]
            exact ⟨rfl, hR5, (K1.out.trans HK6.out).trans hK5⟩
      · have h2i : ¬ (c2 : Int) < (hi : Int) := by omega
        have HST := Lib.hid (ST1.out h1 (Or.inl h2))
        go_upto_region 6 with fail
        have HR6 := Lib.hid HR.out
        have HK6 := Lib.hid HK.out
        have hl2 := S.less HR6.out q p1 b2 b1
        cases hlv2 : lt dk[q]! dk[p1]! with
        | true =>
          rw [hlv2] at hl2
          have HQ := Lib.hid (show siftDown lt hi F c1 (swp dk q p1) = r by rw [← HP.out, HST.out, if_pos hlv2])
          go_upto_region 7 with (go_at_fn g; refine hl2.mono ?_; rintro e w5 ⟨rfl, hR5, hK5⟩)
          have c1' := (X1.out.kb (HK6.out.trans hK5)).cell 1
          simp only [List.getElem?_toArray, List.getElem?_cons_zero, List.getElem?_cons_succ] at c1'
          obtain ⟨w6, hs6, hR6, hK6⟩ := S.swap hR5 q p1 b2 b1
          have HR7 := Lib.hid hR6
          have HK7 := Lib.hid ((HK6.out.trans hK5).trans hK6)
          clear hR5 hK5 hR6 hK6 hl2 c0
          go_wp2_with fail
          go_roundw
          case rel => exact ⟨c1, swp dk q p1, rfl, HC1.out, HR7.out, HK7.out, HQ.out⟩
          case measure => have := HBS.out; simp [intOf]; omega
        | false =>
          rw [hlv2] at hl2
          have HQ := Lib.hid (show dk = r by rw [← HP.out, HST.out, if_neg (by rw [hlv2]; decide)])
          go_wp2_with (go_at_fn g; refine hl2.mono ?_; rintro e w5 ⟨rfl, hR5, hK5⟩)
          (try simp only [Exit.inBlock, Exit.then]); refine bodyPost_ret (results_none rfl _ _ _) rfl ?_
          rw [← HQ.out]
          exact ⟨rfl, hR5, (K1.out.trans HK6.out).trans hK5⟩
    · have h1i : ¬ (c1 : Int) < (hi : Int) := by omega
      have HQ := Lib.hid (show dk = r by rw [← HP.out, ST0.out (by omega)])
      go_wp2_with fail
      go_end0
      rw [← HQ.out]
      exact ⟨rfl, HR.out, K1.out.trans HK.out⟩

set_option maxHeartbeats 8000000 in
set_option maxRecDepth 100000 in
theorem heap_any (S : SortBy g lb sf sb enc k n lt blk w0) {W : World} {d : Array α} (hW : Rw enc k n w0 blk d W) (a b : Nat) (hab : a < b) (hb : b ≤ n) :
    Calls Try.prog 78 #[.agg (twoA g lb sf sb), .int .i64 a, .int .i64 b] W fun e w' =>
      e = .returned (.tuple #[]) ∧ Rw enc k n w0 blk (Sort.heapSort lt d a b) w' ∧ KB w0 W w' := by
  have eg := S.eg
  have hfew := S.few
  obtain ⟨W1, hW1⟩ : ∃ W1, W1 = W.alloc (.cells (twoA g lb sf sb) 125) := ⟨_, rfl⟩
  obtain ⟨B, hB⟩ : ∃ B, B = W.heap.size := ⟨_, rfl⟩
  have R1 := Lib.hid (show Rw enc k n w0 blk d W1 by rw [hW1]; exact hW.alloc _)
  have X1 := Lib.hid (show Bx w0 W1 B (twoA g lb sf sb) 125 by rw [hW1, hB]; exact Bx.new hW.le _ _)
  have K1 := Lib.hid (show KB w0 W W1 by rw [hW1]; exact (KB.refl _ _).alloc _)
  have HW1 := Lib.hid hW1
  have HB := Lib.hid hB
  clear hW1 hB hW
  obtain ⟨L, hL⟩ : ∃ L, L = b - a := ⟨_, rfl⟩
  obtain ⟨h, hh⟩ : ∃ h, h = (L - 1) / 2 := ⟨_, rfl⟩
  obtain ⟨d1, hd1⟩ : ∃ d1, d1 = heapBuild lt L a (h + 1) d := ⟨_, rfl⟩
  obtain ⟨d2, hd2⟩ : ∃ d2, d2 = heapPop lt a L d1 := ⟨_, rfl⟩
  have RES := Lib.hid (show Sort.heapSort lt d a b = d2 by rw [hd2, hd1, hh, hL]; rfl)
  have H1 := Lib.hid hd1.symm
  have H2 := Lib.hid hd2.symm
  have eL : (b : Int) - (a : Int) = (L : Int) := by omega
  obtain ⟨L1, hL1⟩ : ∃ x, x = L - 1 := ⟨_, rfl⟩
  have eL1 : (L : Int) - 1 = (L1 : Int) := by omega
  have eh : (L1 : Int) / 2 = (h : Int) := by omega
  have hbd : 1 ≤ L ∧ L ≤ n ∧ a + L ≤ n ∧ h + 1 ≤ L ∧ L1 + 1 ≤ L ∧ L ≤ L1 + 1 := by omega
  rw [RES.out]
  clear hd1 hd2 hh hL hL1
  go_enter Try.func78, Try.ntmps78
  go_upto_region 1 with fail
  rw [← HW1.out, ← HB.out]
  go_upto_block 0 with fail
  go_cut [] (fun wx => Rw enc k n w0 blk d1 wx ∧ KB w0 W1 wx)
  case first =>
    go_wp2_with fail
    clear eL eL1 eh
    go_loopw [9] (fun vi wr => ∃ (m : Nat) (dk : Array α), vi = .int .i64 ((m : Int) - 1) ∧ m ≤ L ∧ Rw enc k n w0 blk dk wr ∧ KB w0 W1 wr ∧ heapBuild lt L a m dk = d1) (fun vi _ => (intOf vi + 1).toNat)
    case atStart => exact ⟨h + 1, d, by congr 1; omega, by omega, R1.out, KB.refl _ _, H1.out⟩
    case round =>
      obtain ⟨m, dk, rfl, hm, hR, hK, hP⟩ := hrel
      have HR := Lib.hid hR
      have HK := Lib.hid hK
      have HP := Lib.hid hP
      clear hR hK hP
      have c0 := (X1.out.kb HK.out).cell 0
      have c1 := (X1.out.kb HK.out).cell 1
      simp only [List.getElem?_toArray, List.getElem?_cons_zero, List.getElem?_cons_succ] at c0 c1
      cases m with
      | zero =>
        have HQ := Lib.hid (show dk = d1 from HP.out)
        go_wp2_with fail
        go_meet
        rw [← HQ.out]
        exact ⟨HR.out, HK.out⟩
      | succ m =>
        have em : ((m + 1 : Nat) : Int) - 1 = (m : Int) := by omega
        have hs := sift_any S HR.out m L a (by omega) (by omega)
        have HQ := Lib.hid (show heapBuild lt L a m (siftDown lt L a m dk) = d1 from HP.out)
        rw [em]
        clear em
        go_wp2_with (go_at_call 85; refine hs.mono ?_; rintro e w5 ⟨rfl, hR5, hK5⟩)
        go_roundw
        case rel => exact ⟨m, _, rfl, by omega, hR5, HK.out.trans hK5, HQ.out⟩
        case measure => simp [intOf] <;> omega
  case rest =>
    obtain ⟨hRc, hKc⟩ := hcut
    have HR0 := Lib.hid hRc
    have HK0 := Lib.hid hKc
    clear hRc hKc
    go_wp2_with fail
    clear eL eh
    go_loopw [10] (fun vi wr => ∃ (m : Nat) (dk : Array α), vi = .int .i64 ((m : Int) - 1) ∧ m ≤ L ∧ Rw enc k n w0 blk dk wr ∧ KB w0 W1 wr ∧ heapPop lt a m dk = d2) (fun vi _ => (intOf vi + 1).toNat)
    case atStart => exact ⟨L, d1, by congr 1; omega, by omega, HR0.out, HK0.out, H2.out⟩
    case round =>
      obtain ⟨m, dk, rfl, hm, hR, hK, hP⟩ := hrel
      have HR := Lib.hid hR
      have HK := Lib.hid hK
      have HP := Lib.hid hP
      clear hR hK hP eL1
      have c1 := (X1.out.kb HK.out).cell 1
      simp only [List.getElem?_toArray, List.getElem?_cons_zero, List.getElem?_cons_succ] at c1
      cases m with
      | zero =>
        have HQ := Lib.hid (show dk = d2 from HP.out)
        go_wp2_with fail
        go_end0
        rw [← HQ.out]
        exact ⟨rfl, HR.out, K1.out.trans HK.out⟩
      | succ m =>
        have em : ((m + 1 : Nat) : Int) - 1 = (m : Int) := by omega
        obtain ⟨q, hq⟩ : ∃ q, q = a + m := ⟨_, rfl⟩
        have eqq : (a : Int) + (m : Int) = (q : Int) := by omega
        obtain ⟨w4, hs4, hR4, hK4⟩ := S.swap HR.out a q (by omega) (by omega)
        have hs := sift_any S hR4 0 m a (by omega) (by omega)
        have HQ := Lib.hid (show heapPop lt a m (siftDown lt m a 0 (swp dk a q)) = d2 by rw [hq]; exact HP.out)
        have HK4 := Lib.hid (HK.out.trans hK4)
        have c0' := (X1.out.kb HK4.out).cell 0
        have c1' := (X1.out.kb HK4.out).cell 1
        simp only [List.getElem?_toArray, List.getElem?_cons_zero, List.getElem?_cons_succ] at c0' c1'
        have hqn : q ≤ n := by omega
        rw [em]
        clear em hq hR4 hK4
        go_wp2_with (go_at_call 85; refine hs.mono ?_; rintro e w5 ⟨rfl, hR5, hK5⟩)
        go_roundw
        case rel => exact ⟨m, _, rfl, by omega, hR5, HK4.out.trans hK5, HQ.out⟩
        case measure => simp [intOf] <;> omega
end Go.Proofs.Ytilklfmcdgggfaa
