import Derived.Test.YtelohoomlgjjmaaDoorG18
import Derived.Deep.DeepCutAuto
import Derived.Deep.CutBlock
import Derived.Sort.WalkA6
import Derived.Sort.WalkB3
set_option linter.unusedSimpArgs false
set_option linter.unusedVariables false
namespace Go.Proofs.YtelohoomlgjjmaaDoor
section
/- sort.partialInsertionSort_func, where the one that compares may make memory. -/
open Go.Shelf Go.RowKit Go.Lib Go.Sort

variable {α : Type} [Inhabited α] {enc : α → List Value} {k n : Nat} {w0 : World} {blk g sf : Nat} {lb sb : Array Value} {lt : α → α → Bool}
theorem val_intP {a b : Nat} (h : a = b) : Value.int .i64 (a : Int) = .int .i64 (b : Int) := by rw [h]
theorem ret_boolP {x y : Bool} (h : x = y) : Ending.returned (.bool x) = .returned (.bool y) := by rw [h]
theorem cast_pred {j : Nat} (h : 1 ≤ j) : (((j - 1 : Nat) : Int)) = (j : Int) - 1 := by omega
theorem scanSorted_le (lt : α → α → Bool) (d : Array α) (b i : Nat) (h : i ≤ b) : i ≤ scanSorted lt d b i ∧ scanSorted lt d b i ≤ b := by
  obtain ⟨m, hm⟩ : ∃ m, b - i = m := ⟨_, rfl⟩
  induction m generalizing i with
  | zero =>
    rw [scanSorted_stop lt d b i (Or.inl (by omega))]
    omega
  | succ m ih =>
    cases c : lt d[i]! d[i - 1]! with
    | true => rw [scanSorted_stop lt d b i (Or.inr c)]; omega
    | false =>
      rw [scanSorted_go lt d b i (by omega) c]
      have := ih (i + 1) (by omega) (by omega)
      omega

set_option maxHeartbeats 8000000 in
set_option maxRecDepth 100000 in
theorem partial_any (S : SortBy g lb sf sb enc k n lt blk w0) {W : World} {d : Array α} (hW : Rw enc k n w0 blk d W) (a b : Nat) (hab : a + 1 ≤ b) (hb : b ≤ n) :
    Calls Tryd.prog 81 #[.agg (twoA g lb sf sb), .int .i64 a, .int .i64 b] W fun e w' =>
      e = .returned (.bool (Sort.partialInsertionSort lt d a b).2) ∧ Rw enc k n w0 blk (Sort.partialInsertionSort lt d a b).1 w' ∧ KB w0 W w' := by
  have eg := S.eg
  have hfew := S.few
  obtain ⟨W1, hW1⟩ : ∃ W1, W1 = W.alloc (.cells (twoA g lb sf sb) 141) := ⟨_, rfl⟩
  obtain ⟨B, hB⟩ : ∃ B, B = W.heap.size := ⟨_, rfl⟩
  have R1 := Lib.hid (show Rw enc k n w0 blk d W1 by rw [hW1]; exact hW.alloc _)
  have X1 := Lib.hid (show Bx w0 W1 B (twoA g lb sf sb) 141 by rw [hW1, hB]; exact Bx.new hW.le _ _)
  have K1 := Lib.hid (show KB w0 W W1 by rw [hW1]; exact (KB.refl _ _).alloc _)
  have HW1 := Lib.hid hW1
  have HB := Lib.hid hB
  clear hW1 hB hW
  obtain ⟨r, hr⟩ : ∃ r, r = partialIns lt a b 5 (a + 1) d := ⟨_, rfl⟩
  have RES := Lib.hid (show Sort.partialInsertionSort lt d a b = r by rw [hr]; rfl)
  have HRR := Lib.hid hr.symm
  clear hr
  go_enter Tryd.func81, Tryd.ntmps81
  go_upto_region 1 with fail
  rw [← HW1.out, ← HB.out]
  go_upto_block 0 with fail
  go_wp2_with fail
  go_loopw [7, 8] (fun vi vs wr => ∃ (i s : Nat) (dk : Array α), vi = .int .i64 i ∧ vs = .int .i64 s ∧ (a < i ∧ i ≤ b ∧ s ≤ 5) ∧ Rw enc k n w0 blk dk wr ∧ KB w0 W1 wr ∧ partialIns lt a b (5 - s) i dk = r) (fun _ vs _ => 5 - (intOf vs).toNat)
  case atStart => exact ⟨a + 1, 0, d, by go_num, by go_num, by omega, R1.out, KB.refl _ _, HRR.out⟩
  case round =>
    obtain ⟨i, s, dk, rfl, rfl, hbd, hR, hK, hP⟩ := hrel
    have HR := Lib.hid hR
    have HK := Lib.hid hK
    have HP := Lib.hid hP
    clear hR hK hP
    by_cases hs5 : s < 5
    · have hs5i : (s : Int) < 5 := by omega
      obtain ⟨I, hI⟩ : ∃ I, I = scanSorted lt dk b i := ⟨_, rfl⟩
      have hIb := scanSorted_le lt dk b i hbd.2.1
      rw [← hI] at hIb
      have HI := Lib.hid hI
      clear hI
      have HP2 := Lib.hid (show (if I = b then (dk, true) else if b - a < 50 then (dk, false) else partialIns lt a b (5 - (s + 1)) I (fixUp lt b I (fixDown lt a I (swp dk I (I - 1))))) = r by
        rw [← HP.out, show 5 - s = (5 - (s + 1)) + 1 by omega, partialIns_succ, ← HI.out])
      go_upto_block 2 with fail
      go_cut [7] (fun v wx => v = .int .i64 ((I : Nat) : Int) ∧ Rw enc k n w0 blk dk wx ∧ KB w0 W1 wx)
      case first =>
        go_wp2_with fail
        go_loopw [7] (fun vi wr => ∃ x' : Nat, vi = .int .i64 x' ∧ i ≤ x' ∧ x' ≤ b ∧ Rw enc k n w0 blk dk wr ∧ KB w0 W1 wr ∧ scanSorted lt dk b x' = I) (fun vi _ => b - (intOf vi).toNat)
        case atStart => exact ⟨i, rfl, Nat.le_refl _, hbd.2.1, HR.out, HK.out, HI.out.symm⟩
        case round =>
          obtain ⟨x', rfl, h1, h2, hR, hK, hs⟩ := hrel
          have HS := Lib.hid hs
          have HK2 := Lib.hid hK
          have HR2 := Lib.hid hR
          have c0 := (X1.out.kb hK).cell 0
          simp only [List.getElem?_toArray, List.getElem?_cons_zero, List.getElem?_cons_succ] at c0
          clear hs hK hR
          by_cases hle : x' < b
          · have hl := S.less HR2.out x' (x' - 1) (by omega) (by omega)
            rw [cast_pred (by omega)] at hl
            cases hlv : lt dk[x']! dk[x' - 1]! with
            | false =>
              rw [hlv] at hl
              go_wp2_with (go_at_fn g; refine hl.mono ?_; rintro e w3 ⟨rfl, hR3, hK3⟩)
              go_roundw
              case rel => exact ⟨x' + 1, by go_num, by omega, by omega, hR3, HK2.out.trans hK3, (scanSorted_go lt dk b x' hle hlv).symm.trans HS.out⟩
              case measure => simp [intOf]; omega
            | true =>
              rw [hlv] at hl
              go_wp2_with (go_at_fn g; refine hl.mono ?_; rintro e w3 ⟨rfl, hR3, hK3⟩)
              go_meet
              exact ⟨val_intP ((scanSorted_stop lt dk b x' (Or.inr hlv)).symm.trans HS.out), hR3, HK2.out.trans hK3⟩
          · go_wp2_with fail
            go_meet
            exact ⟨val_intP ((scanSorted_stop lt dk b x' (Or.inl hle)).symm.trans HS.out), HR2.out, HK2.out⟩
      case rest =>
        obtain ⟨rfl, hRc, hKc⟩ := hcut
        clear HR HK
        have HR := Lib.hid hRc
        have HK := Lib.hid hKc
        clear hRc hKc
        by_cases hIB : I = b
        · have e1 : ((I : Int) == (b : Int)) = true := by simp [hIB]
          have HQ := Lib.hid (show (dk, true) = r by rw [← HP2.out, if_pos hIB])
          clear hIB
          go_wp2_with fail
          go_ret
          rw [RES.out, ← HQ.out]
          exact ⟨rfl, HR.out, K1.out.trans HK.out⟩
        · have e1 : ((I : Int) == (b : Int)) = false := by simp; omega
          by_cases h50 : b - a < 50
          · have e2 : (b : Int) - (a : Int) < 50 := by omega
            have HQ := Lib.hid (show (dk, false) = r by rw [← HP2.out, if_neg hIB, if_pos h50])
            go_wp2_with fail
            go_ret
            rw [RES.out, ← HQ.out]
            exact ⟨rfl, HR.out, K1.out.trans HK.out⟩
          · have e2 : ¬ (b : Int) - (a : Int) < 50 := by omega
            have HQ := Lib.hid (show partialIns lt a b (5 - (s + 1)) I (fixUp lt b I (fixDown lt a I (swp dk I (I - 1)))) = r by rw [← HP2.out, if_neg hIB, if_neg h50])
            have c1 := (X1.out.kb HK.out).cell 1
            simp only [List.getElem?_toArray, List.getElem?_cons_zero, List.getElem?_cons_succ] at c1
            obtain ⟨w4, hs4, hR4, hK4⟩ := S.swap HR.out I (I - 1) (by omega) (by omega)
            rw [cast_pred (by omega)] at hs4
            obtain ⟨d4, hd4⟩ : ∃ d4, d4 = swp dk I (I - 1) := ⟨_, rfl⟩
            rw [← hd4] at hR4
            have HD4 := Lib.hid hd4
            have HR4 := Lib.hid hR4
            have HK4 := Lib.hid (HK.out.trans hK4)
            have hIlt : I < b := by omega
            clear hR4 hK4 hd4 HR HK HP2 HP hIB
            go_upto_if 47 with fail
            obtain ⟨d5, hd5⟩ : ∃ d5, d5 = fixDown lt a I d4 := ⟨_, rfl⟩
            have HD5 := Lib.hid hd5
            clear hd5
            go_cut [] (fun wx => Rw enc k n w0 blk d5 wx ∧ KB w0 W1 wx)
            case first =>
              by_cases h2 : 2 ≤ I - a
              · have e3 : (2 : Int) ≤ (I : Int) - (a : Int) := by omega
                have HF := Lib.hid (show shiftDown lt (I - 1) d4 = d5 by rw [HD5.out]; unfold fixDown; rw [if_pos h2])
                go_wp2_with fail
                clear c1 hs4
                go_loopw [9] (fun vj wr => ∃ (j : Nat) (dj : Array α), vj = .int .i64 j ∧ j < I ∧ Rw enc k n w0 blk dj wr ∧ KB w0 W1 wr ∧ shiftDown lt j dj = d5) (fun vj _ => (intOf vj).toNat)
                case atStart => exact ⟨I - 1, d4, by rw [cast_pred (by omega)], by omega, HR4.out, HK4.out, HF.out⟩
                case round =>
                  obtain ⟨j, dj, rfl, hjI, hRj, hKj, hsh⟩ := hrel
                  have HRj := Lib.hid hRj
                  have HKj := Lib.hid hKj
                  have HSH := Lib.hid hsh
                  have c0 := (X1.out.kb hKj).cell 0
                  simp only [List.getElem?_toArray, List.getElem?_cons_zero, List.getElem?_cons_succ] at c0
                  clear hRj hKj hsh
                  by_cases hj1 : 1 ≤ j
                  · have hj1i : (1 : Int) ≤ (j : Int) := by omega
                    have hl := S.less HRj.out j (j - 1) (by omega) (by omega)
                    rw [cast_pred hj1] at hl
                    cases hlv : lt dj[j]! dj[j - 1]! with
                    | true =>
                      rw [hlv] at hl
                      go_upto_region 17 with (go_at_fn g; refine hl.mono ?_; rintro e w5 ⟨rfl, hR5, hK5⟩)
                      have c1 := (X1.out.kb (HKj.out.trans hK5)).cell 1
                      simp only [List.getElem?_toArray, List.getElem?_cons_zero, List.getElem?_cons_succ] at c1
                      obtain ⟨w6, hs6, hR6, hK6⟩ := S.swap hR5 j (j - 1) (by omega) (by omega)
                      rw [cast_pred hj1] at hs6
                      have HR6 := Lib.hid hR6
                      have HK6 := Lib.hid ((HKj.out.trans hK5).trans hK6)
                      clear hR5 hK5 hR6 hK6 hl
                      go_wp2_with fail
                      go_roundw
                      case rel => exact ⟨j - 1, swp dj j (j - 1), by rw [cast_pred hj1], by omega, HR6.out, HK6.out, (shiftDown_go lt j dj hj1 hlv).symm.trans HSH.out⟩
                      case measure => simp [intOf]; omega
                    | false =>
                      rw [hlv] at hl
                      have HE := Lib.hid (show dj = d5 from (shiftDown_stop lt j dj (Or.inr hlv)).symm.trans HSH.out)
                      go_wp2_with (go_at_fn g; refine hl.mono ?_; rintro e w5 ⟨rfl, hR5, hK5⟩)
                      go_meet
                      rw [← HE.out]
                      exact ⟨hR5, HKj.out.trans hK5⟩
                  · have hj1i : ¬ (1 : Int) ≤ (j : Int) := by omega
                    have HE := Lib.hid (show dj = d5 from (shiftDown_stop lt j dj (Or.inl (by omega))).symm.trans HSH.out)
                    go_wp2_with fail
                    go_meet
                    rw [← HE.out]
                    exact ⟨HRj.out, HKj.out⟩
              · have e3 : ¬ (2 : Int) ≤ (I : Int) - (a : Int) := by omega
                have HE := Lib.hid (show d4 = d5 by rw [HD5.out]; unfold fixDown; rw [if_neg h2])
                go_wp2_with fail
                go_meet
                rw [← HE.out]
                exact ⟨HR4.out, HK4.out⟩
            case rest =>
              obtain ⟨hRc, hKc⟩ := hcut
              clear HR4 HK4 c1 hs4
              have HR4 := Lib.hid hRc
              have HK4 := Lib.hid hKc
              clear hRc hKc
              go_upto_if 70 with fail
              obtain ⟨d6, hd6⟩ : ∃ d6, d6 = fixUp lt b I d5 := ⟨_, rfl⟩
              have HD6 := Lib.hid hd6
              clear hd6
              have OUT := Lib.hid (show ∀ wx, Rw enc k n w0 blk d6 wx → KB w0 W1 wx → ∃ (i' s' : Nat) (dk' : Array α), Value.int .i64 (I : Int) = .int .i64 (i' : Int) ∧ Value.int .i64 ((s : Int) + 1) = .int .i64 (s' : Int) ∧ (a < i' ∧ i' ≤ b ∧ s' ≤ 5) ∧ Rw enc k n w0 blk dk' wx ∧ KB w0 W1 wx ∧ partialIns lt a b (5 - s') i' dk' = r from
                fun wx hr hk => ⟨I, s + 1, d6, rfl, by go_num, by omega, hr, hk, by rw [HD6.out, HD5.out, HD4.out]; exact HQ.out⟩)
              by_cases h2 : 2 ≤ b - I
              · have e3 : (2 : Int) ≤ (b : Int) - (I : Int) := by omega
                have HF := Lib.hid (show shiftUp lt b (I + 1) d5 = d6 by rw [HD6.out]; unfold fixUp; rw [if_pos h2])
                go_wp2_with fail
                go_loopw [10] (fun vj wr => ∃ (j : Nat) (dj : Array α), vj = .int .i64 j ∧ I < j ∧ j ≤ b ∧ Rw enc k n w0 blk dj wr ∧ KB w0 W1 wr ∧ shiftUp lt b j dj = d6) (fun vj _ => b - (intOf vj).toNat)
                case atStart => exact ⟨I + 1, d5, by go_num, by omega, by omega, HR4.out, HK4.out, HF.out⟩
                case round =>
                  obtain ⟨j, dj, rfl, hjI, hjb, hRj, hKj, hsh⟩ := hrel
                  have HRj := Lib.hid hRj
                  have HKj := Lib.hid hKj
                  have HSH := Lib.hid hsh
                  have c0 := (X1.out.kb hKj).cell 0
                  simp only [List.getElem?_toArray, List.getElem?_cons_zero, List.getElem?_cons_succ] at c0
                  clear hRj hKj hsh
                  by_cases hj1 : j < b
                  · have hl := S.less HRj.out j (j - 1) (by omega) (by omega)
                    rw [cast_pred (by omega)] at hl
                    cases hlv : lt dj[j]! dj[j - 1]! with
                    | true =>
                      rw [hlv] at hl
                      go_upto_region 23 with (go_at_fn g; refine hl.mono ?_; rintro e w5 ⟨rfl, hR5, hK5⟩)
                      have c1 := (X1.out.kb (HKj.out.trans hK5)).cell 1
                      simp only [List.getElem?_toArray, List.getElem?_cons_zero, List.getElem?_cons_succ] at c1
                      obtain ⟨w6, hs6, hR6, hK6⟩ := S.swap hR5 j (j - 1) (by omega) (by omega)
                      rw [cast_pred (by omega)] at hs6
                      have HR6 := Lib.hid hR6
                      have HK6 := Lib.hid ((HKj.out.trans hK5).trans hK6)
                      clear hR5 hK5 hR6 hK6 hl
                      go_wp2_with fail
                      go_roundw
                      case rel => exact ⟨j + 1, swp dj j (j - 1), by go_num, by omega, by omega, HR6.out, HK6.out, (shiftUp_go lt b j dj hj1 hlv).symm.trans HSH.out⟩
                      case measure => simp [intOf]; omega
                    | false =>
                      rw [hlv] at hl
                      have HE := Lib.hid (show dj = d6 from (shiftUp_stop lt b j dj (Or.inr hlv)).symm.trans HSH.out)
                      go_wp2_with (go_at_fn g; refine hl.mono ?_; rintro e w5 ⟨rfl, hR5, hK5⟩)
                      go_roundw
                      case rel => exact OUT.out _ (by rw [← HE.out]; exact hR5) (HKj.out.trans hK5)
                      case measure => simp [intOf]; omega
                  · have HE := Lib.hid (show dj = d6 from (shiftUp_stop lt b j dj (Or.inl hj1)).symm.trans HSH.out)
                    go_wp2_with fail
                    go_roundw
                    case rel => exact OUT.out _ (by rw [← HE.out]; exact HRj.out) (HKj.out)
                    case measure => simp [intOf]; omega
              · have e3 : ¬ (2 : Int) ≤ (b : Int) - (I : Int) := by omega
                have HE := Lib.hid (show d5 = d6 by rw [HD6.out]; unfold fixUp; rw [if_neg h2])
                go_wp2_with fail
                go_roundw
                case rel => exact OUT.out _ (by rw [← HE.out]; exact HR4.out) (HK4.out)
                case measure => simp [intOf]; omega
    · have hs : s = 5 := by omega
      have hs5i : ¬ (s : Int) < 5 := by omega
      have HQ := Lib.hid (show (dk, false) = r by rw [← HP.out, hs]; rfl)
      clear hs
      go_wp2_with fail
      go_ret
      rw [RES.out, ← HQ.out]
      exact ⟨rfl, HR.out, K1.out.trans HK.out⟩
end
section
/- sort.siftDown_func and heapSort_func, where the one that compares may make memory. -/
open Go.Shelf Go.RowKit Go.Lib Go.Sort

variable {α : Type} [Inhabited α] {enc : α → List Value} {k n : Nat} {w0 : World} {blk g sf : Nat} {lb sb : Array Value} {lt : α → α → Bool}
theorem sift_end (lt : α → α → Bool) (hi F r : Nat) (d : Array α) (h : hi ≤ 2 * r + 1) : siftDown lt hi F r d = d := by
  rw [siftDown, dif_pos h]
theorem sift_two (lt : α → α → Bool) (hi F r : Nat) (d : Array α) (h : 2 * r + 2 < hi) (h1 : lt d[F + (2 * r + 1)]! d[F + (2 * r + 2)]! = true) :
    siftDown lt hi F r d = if lt d[F + r]! d[F + (2 * r + 2)]! = true then siftDown lt hi F (2 * r + 2) (swp d (F + r) (F + (2 * r + 2))) else d := by
  have h1' : lt d[F + (2 * r + 1)]! d[F + (2 * r + 1) + 1]! = true := h1
  rw [siftDown, dif_neg (by omega), if_pos (by rw [h1']; simp; omega), dif_pos h]
  cases lt d[F + r]! d[F + (2 * r + 2)]! <;> simp
theorem sift_one (lt : α → α → Bool) (hi F r : Nat) (d : Array α) (h0 : 2 * r + 1 < hi) (h : ¬ 2 * r + 2 < hi ∨ lt d[F + (2 * r + 1)]! d[F + (2 * r + 2)]! = false) :
    siftDown lt hi F r d = if lt d[F + r]! d[F + (2 * r + 1)]! = true then siftDown lt hi F (2 * r + 1) (swp d (F + r) (F + (2 * r + 1))) else d := by
  have h' : ¬ 2 * r + 1 + 1 < hi ∨ lt d[F + (2 * r + 1)]! d[F + (2 * r + 1) + 1]! = false := h
  rw [siftDown, dif_neg (by omega), if_neg (by rcases h' with c | c <;> simp [c])]
  cases lt d[F + r]! d[F + (2 * r + 1)]! <;> simp

set_option maxHeartbeats 8000000 in
set_option maxRecDepth 100000 in
theorem sift_any (S : SortBy g lb sf sb enc k n lt blk w0) {W : World} {d : Array α} (hW : Rw enc k n w0 blk d W) (lo hi F : Nat) (hF : F + hi ≤ n) (hlo : lo ≤ n) :
    Calls Tryd.prog 85 #[.agg (twoA g lb sf sb), .int .i64 lo, .int .i64 hi, .int .i64 F] W fun e w' =>
      e = .returned (.tuple #[]) ∧ Rw enc k n w0 blk (Sort.siftDown lt hi F lo d) w' ∧ KB w0 W w' := by
  have eg := S.eg
  have hfew := S.few
  obtain ⟨W1, hW1⟩ : ∃ W1, W1 = W.alloc (.cells (twoA g lb sf sb) 141) := ⟨_, rfl⟩
  obtain ⟨B, hB⟩ : ∃ B, B = W.heap.size := ⟨_, rfl⟩
  have R1 := Lib.hid (show Rw enc k n w0 blk d W1 by rw [hW1]; exact hW.alloc _)
  have X1 := Lib.hid (show Bx w0 W1 B (twoA g lb sf sb) 141 by rw [hW1, hB]; exact Bx.new hW.le _ _)
  have K1 := Lib.hid (show KB w0 W W1 by rw [hW1]; exact (KB.refl _ _).alloc _)
  have HW1 := Lib.hid hW1
  have HB := Lib.hid hB
  clear hW1 hB hW
  obtain ⟨r, hr⟩ : ∃ r, r = siftDown lt hi F lo d := ⟨_, rfl⟩
  rw [← hr]
  have HRR := Lib.hid hr.symm
  clear hr
  go_enter Tryd.func85, Tryd.ntmps85
  go_upto_region 1 with fail
  rw [← HW1.out, ← HB.out]
  go_wp2_with fail
  go_loopw [8] (fun vi wr => ∃ (i : Nat) (dk : Array α), vi = .int .i64 i ∧ i ≤ n ∧ Rw enc k n w0 blk dk wr ∧ KB w0 W1 wr ∧ siftDown lt hi F i dk = r) (fun vi _ => hi - (intOf vi).toNat)
  case atStart => exact ⟨lo, d, rfl, hlo, R1.out, KB.refl _ _, HRR.out⟩
  case round =>
    obtain ⟨i, dk, rfl, hi_n, hR, hK, hP⟩ := hrel
    have HR := Lib.hid hR
    have HK := Lib.hid hK
    have HP := Lib.hid hP
    clear hR hK hP
    obtain ⟨c1, hc1⟩ : ∃ c, c = 2 * i + 1 := ⟨_, rfl⟩
    obtain ⟨c2, hc2⟩ : ∃ c, c = 2 * i + 2 := ⟨_, rfl⟩
    obtain ⟨q, hq⟩ : ∃ c, c = F + i := ⟨_, rfl⟩
    obtain ⟨p1, hp1⟩ : ∃ c, c = F + c1 := ⟨_, rfl⟩
    obtain ⟨p2, hp2⟩ : ∃ c, c = F + c2 := ⟨_, rfl⟩
    have ec1 : 2 * (i : Int) + 1 = (c1 : Int) := by omega
    have ec2 : (c1 : Int) + 1 = (c2 : Int) := by omega
    have eq0 : (F : Int) + (i : Int) = (q : Int) := by omega
    have ep1 : (F : Int) + (c1 : Int) = (p1 : Int) := by omega
    have ep2 : (p1 : Int) + 1 = (p2 : Int) := by omega
    have ep3 : (F : Int) + (c2 : Int) = (p2 : Int) := by omega
    have ST0 := Lib.hid (show hi ≤ c1 → siftDown lt hi F i dk = dk from fun h => sift_end lt hi F i dk (by omega))
    have ST2 := Lib.hid (show c2 < hi → lt dk[p1]! dk[p2]! = true → siftDown lt hi F i dk = if lt dk[q]! dk[p2]! = true then siftDown lt hi F c2 (swp dk q p2) else dk by
      rw [hp1, hp2, hq, hc1, hc2]; exact fun h h1 => sift_two lt hi F i dk h h1)
    have ST1 := Lib.hid (show c1 < hi → (¬ c2 < hi ∨ lt dk[p1]! dk[p2]! = false) → siftDown lt hi F i dk = if lt dk[q]! dk[p1]! = true then siftDown lt hi F c1 (swp dk q p1) else dk by
      rw [hp1, hp2, hq, hc1, hc2]; exact fun h h1 => sift_one lt hi F i dk h h1)
    have hbs : i < c1 ∧ i < c2 ∧ c1 < c2 ∧ c2 ≤ 2 * n + 2 ∧ p1 < F + c2 ∧ p2 ≤ F + c2 ∧ q < p1 ∧ p1 < p2 ∧ (c1 < hi → p1 < n) ∧ (c2 < hi → p2 < n) ∧ (c1 < hi → q < n) ∧ (c1 < hi → c1 ≤ n) ∧ (c2 < hi → c2 ≤ n) := by omega
    have HBS := Lib.hid hbs
    have hbn : c2 ≤ 2 * n + 2 ∧ p2 ≤ 3 * n + 3 ∧ q ≤ 3 * n ∧ p1 ≤ 3 * n + 3 ∧ F ≤ n ∧ c1 ≤ 2 * n + 1 := by omega
    have c0 := (X1.out.kb HK.out).cell 0
    simp only [List.getElem?_toArray, List.getElem?_cons_zero, List.getElem?_cons_succ] at c0
    clear hc1 hc2 hq hp1 hp2 hbs
    by_cases h1 : c1 < hi
    · have h1i : (c1 : Int) < (hi : Int) := by omega
      have b1 := HBS.out.2.2.2.2.2.2.2.2.1 h1
      have b2 := HBS.out.2.2.2.2.2.2.2.2.2.2.1 h1
      have HC1 := Lib.hid (HBS.out.2.2.2.2.2.2.2.2.2.2.2.1 h1)
      by_cases h2 : c2 < hi
      · have h2i : (c2 : Int) < (hi : Int) := by omega
        have b3 := HBS.out.2.2.2.2.2.2.2.2.2.1 h2
        have HC2 := Lib.hid (HBS.out.2.2.2.2.2.2.2.2.2.2.2.2 h2)
        have hl := S.less HR.out p1 p2 b1 b3
        cases hlv : lt dk[p1]! dk[p2]! with
        | true =>
          rw [hlv] at hl
          have HST := Lib.hid (ST2.out h2 hlv)
          go_upto_region 6 with (go_at_fn g; refine hl.mono ?_; rintro e w4 ⟨rfl, hR4, hK4⟩)
          have HR6 := Lib.hid hR4
          have HK6 := Lib.hid (HK.out.trans hK4)
          clear hR4 hK4 hl c0
          have c0 := (X1.out.kb HK6.out).cell 0
          simp only [List.getElem?_toArray, List.getElem?_cons_zero, List.getElem?_cons_succ] at c0
          have hl2 := S.less HR6.out q p2 b2 b3
          cases hlv2 : lt dk[q]! dk[p2]! with
          | true =>
            rw [hlv2] at hl2
            have HQ := Lib.hid (show siftDown lt hi F c2 (swp dk q p2) = r by rw [← HP.out, HST.out, if_pos hlv2])
            go_upto_region 7 with (go_at_fn g; refine hl2.mono ?_; rintro e w5 ⟨rfl, hR5, hK5⟩)
            have c1' := (X1.out.kb (HK6.out.trans hK5)).cell 1
            simp only [List.getElem?_toArray, List.getElem?_cons_zero, List.getElem?_cons_succ] at c1'
            obtain ⟨w6, hs6, hR6, hK6⟩ := S.swap hR5 q p2 b2 b3
            have HR7 := Lib.hid hR6
            have HK7 := Lib.hid ((HK6.out.trans hK5).trans hK6)
            clear hR5 hK5 hR6 hK6 hl2 c0
            go_wp2_with fail
            go_roundw
            case rel => exact ⟨c2, swp dk q p2, rfl, HC2.out, HR7.out, HK7.out, HQ.out⟩
            case measure => have := HBS.out; simp [intOf]; omega
          | false =>
            rw [hlv2] at hl2
            have HQ := Lib.hid (show dk = r by rw [← HP.out, HST.out, if_neg (by rw [hlv2]; decide)])
            go_wp2_with (go_at_fn g; refine hl2.mono ?_; rintro e w5 ⟨rfl, hR5, hK5⟩)
            (try simp only [Exit.inBlock, Exit.then]); refine bodyPost_ret (results_none rfl _ _ _) rfl ?_
            rw [← HQ.out]
            exact ⟨rfl, hR5, (K1.out.trans HK6.out).trans hK5⟩
        | false =>
          rw [hlv] at hl
          have HST := Lib.hid (ST1.out h1 (Or.inr hlv))
          go_upto_region 6 with (go_at_fn g; refine hl.mono ?_; rintro e w4 ⟨rfl, hR4, hK4⟩)
          have HR6 := Lib.hid hR4
          have HK6 := Lib.hid (HK.out.trans hK4)
          clear hR4 hK4 hl c0
          have c0 := (X1.out.kb HK6.out).cell 0
          simp only [List.getElem?_toArray, List.getElem?_cons_zero, List.getElem?_cons_succ] at c0
          have hl2 := S.less HR6.out q p1 b2 b1
          cases hlv2 : lt dk[q]! dk[p1]! with
          | true =>
            rw [hlv2] at hl2
            have HQ := Lib.hid (show siftDown lt hi F c1 (swp dk q p1) = r by rw [← HP.out, HST.out, if_pos hlv2])
            go_upto_region 7 with (go_at_fn g; refine hl2.mono ?_; rintro e w5 ⟨rfl, hR5, hK5⟩)
            have c1' := (X1.out.kb (HK6.out.trans hK5)).cell 1
            simp only [List.getElem?_toArray, List.getElem?_cons_zero, List.getElem?_cons_succ] at c1'
            obtain ⟨w6, hs6, hR6, hK6⟩ := S.swap hR5 q p1 b2 b1
            have HR7 := Lib.hid hR6
            have HK7 := Lib.hid ((HK6.out.trans hK5).trans hK6)
            clear hR5 hK5 hR6 hK6 hl2 c0
            go_wp2_with fail
            go_roundw
            case rel => exact ⟨c1, swp dk q p1, rfl, HC1.out, HR7.out, HK7.out, HQ.out⟩
            case measure => have := HBS.out; simp [intOf]; omega
          | false =>
            rw [hlv2] at hl2
            have HQ := Lib.hid (show dk = r by rw [← HP.out, HST.out, if_neg (by rw [hlv2]; decide)])
            go_wp2_with (go_at_fn g; refine hl2.mono ?_; rintro e w5 ⟨rfl, hR5, hK5⟩)
            (try simp only [Exit.inBlock, Exit.then]); refine bodyPost_ret (results_none rfl _ _ _) rfl ?_
            rw [← HQ.out]
            exact ⟨rfl, hR5, (K1.out.trans HK6.out).trans hK5⟩
      · have h2i : ¬ (c2 : Int) < (hi : Int) := by omega
        have HST := Lib.hid (ST1.out h1 (Or.inl h2))
        go_upto_region 6 with fail
        have HR6 := Lib.hid HR.out
        have HK6 := Lib.hid HK.out
        have hl2 := S.less HR6.out q p1 b2 b1
        cases hlv2 : lt dk[q]! dk[p1]! with
        | true =>
          rw [hlv2] at hl2
          have HQ := Lib.hid (show siftDown lt hi F c1 (swp dk q p1) = r by rw [← HP.out, HST.out, if_pos hlv2])
          go_upto_region 7 with (go_at_fn g; refine hl2.mono ?_; rintro e w5 ⟨rfl, hR5, hK5⟩)
          have c1' := (X1.out.kb (HK6.out.trans hK5)).cell 1
          simp only [List.getElem?_toArray, List.getElem?_cons_zero, List.getElem?_cons_succ] at c1'
          obtain ⟨w6, hs6, hR6, hK6⟩ := S.swap hR5 q p1 b2 b1
          have HR7 := Lib.hid hR6
          have HK7 := Lib.hid ((HK6.out.trans hK5).trans hK6)
          clear hR5 hK5 hR6 hK6 hl2 c0
          go_wp2_with fail
          go_roundw
          case rel => exact ⟨c1, swp dk q p1, rfl, HC1.out, HR7.out, HK7.out, HQ.out⟩
          case measure => have := HBS.out; simp [intOf]; omega
        | false =>
          rw [hlv2] at hl2
          have HQ := Lib.hid (show dk = r by rw [← HP.out, HST.out, if_neg (by rw [hlv2]; decide)])
          go_wp2_with (go_at_fn g; refine hl2.mono ?_; rintro e w5 ⟨rfl, hR5, hK5⟩)
          (try simp only [Exit.inBlock, Exit.then]); refine bodyPost_ret (results_none rfl _ _ _) rfl ?_
          rw [← HQ.out]
          exact ⟨rfl, hR5, (K1.out.trans HK6.out).trans hK5⟩
    · have h1i : ¬ (c1 : Int) < (hi : Int) := by omega
      have HQ := Lib.hid (show dk = r by rw [← HP.out, ST0.out (by omega)])
      go_wp2_with fail
      go_end0
      rw [← HQ.out]
      exact ⟨rfl, HR.out, K1.out.trans HK.out⟩

set_option maxHeartbeats 8000000 in
set_option maxRecDepth 100000 in
theorem heap_any (S : SortBy g lb sf sb enc k n lt blk w0) {W : World} {d : Array α} (hW : Rw enc k n w0 blk d W) (a b : Nat) (hab : a < b) (hb : b ≤ n) :
    Calls Tryd.prog 77 #[.agg (twoA g lb sf sb), .int .i64 a, .int .i64 b] W fun e w' =>
      e = .returned (.tuple #[]) ∧ Rw enc k n w0 blk (Sort.heapSort lt d a b) w' ∧ KB w0 W w' := by
  have eg := S.eg
  have hfew := S.few
  obtain ⟨W1, hW1⟩ : ∃ W1, W1 = W.alloc (.cells (twoA g lb sf sb) 141) := ⟨_, rfl⟩
  obtain ⟨B, hB⟩ : ∃ B, B = W.heap.size := ⟨_, rfl⟩
  have R1 := Lib.hid (show Rw enc k n w0 blk d W1 by rw [hW1]; exact hW.alloc _)
  have X1 := Lib.hid (show Bx w0 W1 B (twoA g lb sf sb) 141 by rw [hW1, hB]; exact Bx.new hW.le _ _)
  have K1 := Lib.hid (show KB w0 W W1 by rw [hW1]; exact (KB.refl _ _).alloc _)
  have HW1 := Lib.hid hW1
  have HB := Lib.hid hB
  clear hW1 hB hW
  obtain ⟨L, hL⟩ : ∃ L, L = b - a := ⟨_, rfl⟩
  obtain ⟨h, hh⟩ : ∃ h, h = (L - 1) / 2 := ⟨_, rfl⟩
  obtain ⟨d1, hd1⟩ : ∃ d1, d1 = heapBuild lt L a (h + 1) d := ⟨_, rfl⟩
  obtain ⟨d2, hd2⟩ : ∃ d2, d2 = heapPop lt a L d1 := ⟨_, rfl⟩
  have RES := Lib.hid (show Sort.heapSort lt d a b = d2 by rw [hd2, hd1, hh, hL]; rfl)
  have H1 := Lib.hid hd1.symm
  have H2 := Lib.hid hd2.symm
  have eL : (b : Int) - (a : Int) = (L : Int) := by omega
  obtain ⟨L1, hL1⟩ : ∃ x, x = L - 1 := ⟨_, rfl⟩
  have eL1 : (L : Int) - 1 = (L1 : Int) := by omega
  have eh : (L1 : Int) / 2 = (h : Int) := by omega
  have hbd : 1 ≤ L ∧ L ≤ n ∧ a + L ≤ n ∧ h + 1 ≤ L ∧ L1 + 1 ≤ L ∧ L ≤ L1 + 1 := by omega
  rw [RES.out]
  clear hd1 hd2 hh hL hL1
  go_enter Tryd.func77, Tryd.ntmps77
  go_upto_region 1 with fail
  rw [← HW1.out, ← HB.out]
  go_upto_block 0 with fail
  go_cut [] (fun wx => Rw enc k n w0 blk d1 wx ∧ KB w0 W1 wx)
  case first =>
    go_wp2_with fail
    clear eL eL1 eh
    go_loopw [9] (fun vi wr => ∃ (m : Nat) (dk : Array α), vi = .int .i64 ((m : Int) - 1) ∧ m ≤ L ∧ Rw enc k n w0 blk dk wr ∧ KB w0 W1 wr ∧ heapBuild lt L a m dk = d1) (fun vi _ => (intOf vi + 1).toNat)
    case atStart => exact ⟨h + 1, d, by congr 1; omega, by omega, R1.out, KB.refl _ _, H1.out⟩
    case round =>
      obtain ⟨m, dk, rfl, hm, hR, hK, hP⟩ := hrel
      have HR := Lib.hid hR
      have HK := Lib.hid hK
      have HP := Lib.hid hP
      clear hR hK hP
      have c0 := (X1.out.kb HK.out).cell 0
      have c1 := (X1.out.kb HK.out).cell 1
      simp only [List.getElem?_toArray, List.getElem?_cons_zero, List.getElem?_cons_succ] at c0 c1
      cases m with
      | zero =>
        have HQ := Lib.hid (show dk = d1 from HP.out)
        go_wp2_with fail
        go_meet
        rw [← HQ.out]
        exact ⟨HR.out, HK.out⟩
      | succ m =>
        have em : ((m + 1 : Nat) : Int) - 1 = (m : Int) := by omega
        have hs := sift_any S HR.out m L a (by omega) (by omega)
        have HQ := Lib.hid (show heapBuild lt L a m (siftDown lt L a m dk) = d1 from HP.out)
        rw [em]
        clear em
        go_wp2_with (go_at_call 85; refine hs.mono ?_; rintro e w5 ⟨rfl, hR5, hK5⟩)
        go_roundw
        case rel => exact ⟨m, _, rfl, by omega, hR5, HK.out.trans hK5, HQ.out⟩
        case measure => simp [intOf] <;> omega
  case rest =>
    obtain ⟨hRc, hKc⟩ := hcut
    have HR0 := Lib.hid hRc
    have HK0 := Lib.hid hKc
    clear hRc hKc
    go_wp2_with fail
    clear eL eh
    go_loopw [10] (fun vi wr => ∃ (m : Nat) (dk : Array α), vi = .int .i64 ((m : Int) - 1) ∧ m ≤ L ∧ Rw enc k n w0 blk dk wr ∧ KB w0 W1 wr ∧ heapPop lt a m dk = d2) (fun vi _ => (intOf vi + 1).toNat)
    case atStart => exact ⟨L, d1, by congr 1; omega, by omega, HR0.out, HK0.out, H2.out⟩
    case round =>
      obtain ⟨m, dk, rfl, hm, hR, hK, hP⟩ := hrel
      have HR := Lib.hid hR
      have HK := Lib.hid hK
      have HP := Lib.hid hP
      clear hR hK hP eL1
      have c1 := (X1.out.kb HK.out).cell 1
      simp only [List.getElem?_toArray, List.getElem?_cons_zero, List.getElem?_cons_succ] at c1
      cases m with
      | zero =>
        have HQ := Lib.hid (show dk = d2 from HP.out)
        go_wp2_with fail
        go_end0
        rw [← HQ.out]
        exact ⟨rfl, HR.out, K1.out.trans HK.out⟩
      | succ m =>
        have em : ((m + 1 : Nat) : Int) - 1 = (m : Int) := by omega
        obtain ⟨q, hq⟩ : ∃ q, q = a + m := ⟨_, rfl⟩
        have eqq : (a : Int) + (m : Int) = (q : Int) := by omega
        obtain ⟨w4, hs4, hR4, hK4⟩ := S.swap HR.out a q (by omega) (by omega)
        have hs := sift_any S hR4 0 m a (by omega) (by omega)
        have HQ := Lib.hid (show heapPop lt a m (siftDown lt m a 0 (swp dk a q)) = d2 by rw [hq]; exact HP.out)
        have HK4 := Lib.hid (HK.out.trans hK4)
        have c0' := (X1.out.kb HK4.out).cell 0
        have c1' := (X1.out.kb HK4.out).cell 1
        simp only [List.getElem?_toArray, List.getElem?_cons_zero, List.getElem?_cons_succ] at c0' c1'
        have hqn : q ≤ n := by omega
        rw [em]
        clear em hq hR4 hK4
        go_wp2_with (go_at_call 85; refine hs.mono ?_; rintro e w5 ⟨rfl, hR5, hK5⟩)
        go_roundw
        case rel => exact ⟨m, _, rfl, by omega, hR5, HK4.out.trans hK5, HQ.out⟩
        case measure => simp [intOf] <;> omega
end
end Go.Proofs.YtelohoomlgjjmaaDoor
