/- sort.insertionSort_func, where the one that compares may make memory. -/
import Derived.Test.YtilklfmcdgggfaaSrt
import Derived.Deep.DeepCutAuto
namespace Go.Proofs.Ytilklfmcdgggfaa
open Go.Shelf Go.RowKit Go.Lib Go.Sort
set_option linter.unusedVariables false
set_option linter.unusedSimpArgs false

variable {α : Type} [Inhabited α] {enc : α → List Value} {k n : Nat} {w0 : World} {blk g sf : Nat} {lb sb : Array Value} {lt : α → α → Bool}

set_option maxHeartbeats 4000000 in
set_option maxRecDepth 100000 in
theorem ins_any (S : SortBy g lb sf sb enc k n lt blk w0) {W : World} {d : Array α} (hW : Rw enc k n w0 blk d W) (a b : Nat) (hab : a ≤ b) (hb : b ≤ n) :
    Calls Try.prog 77 #[.agg (twoA g lb sf sb), .int .i64 a, .int .i64 b] W fun e w' => e = .returned (.tuple #[]) ∧ Rw enc k n w0 blk (Sort.insertionSort lt d a b) w' ∧ KB w0 W w' := by
  have eg := S.eg
  have hfew := S.few
  obtain ⟨W1, hW1⟩ : ∃ W1, W1 = W.alloc (.cells (twoA g lb sf sb) 125) := ⟨_, rfl⟩
  obtain ⟨B, hB⟩ : ∃ B, B = W.heap.size := ⟨_, rfl⟩
  have R1 := Lib.hid (show Rw enc k n w0 blk d W1 by rw [hW1]; exact hW.alloc _)
  have X1 := Lib.hid (show Bx w0 W1 B (twoA g lb sf sb) 125 by rw [hW1, hB]; exact Bx.new hW.le _ _)
  have K1 := Lib.hid (show KB w0 W W1 by rw [hW1]; exact (KB.refl _ _).alloc _)
  go_enter Try.func77, Try.ntmps77
  go_upto_region 1 with fail
  rw [← hW1, ← hB]
  clear hW1 hB hW
  go_wp2
  go_loopw [6] (fun vi wr => ∃ (i : Nat) (dk : Array α), vi = .int .i64 i ∧ a < i ∧ i ≤ b + 1 ∧ Rw enc k n w0 blk dk wr ∧ KB w0 W1 wr ∧ insOuter lt a b i dk = insOuter lt a b (a + 1) d) (fun vi _ => b + 1 - (intOf vi).toNat)
  case atStart => exact ⟨a + 1, d, by go_num, by omega, by omega, R1.out, KB.refl _ _, rfl⟩
  case round =>
    obtain ⟨i, dk, rfl, hai, hib, hR, hK, hO⟩ := hrel
    have HO := Lib.hid hO
    have HR := Lib.hid hR
    have HK := Lib.hid hK
    clear hO hR hK
    by_cases hlt : i < b
    · go_upto_region 5 with fail
      go_loopw [7] (fun vj wr2 => ∃ (j : Nat) (dj : Array α), vj = .int .i64 j ∧ a ≤ j ∧ j ≤ i ∧ Rw enc k n w0 blk dj wr2 ∧ KB w0 wr wr2 ∧ insInner lt a j dj = insInner lt a i dk) (fun vj _ => (intOf vj).toNat)
      case atStart => exact ⟨i, dk, rfl, by omega, Nat.le_refl _, HR.out, KB.refl _ _, rfl⟩
      case round =>
        obtain ⟨j, dj, rfl, haj, hji, hRj, hKj, hI⟩ := hrel
        have HI := Lib.hid hI
        have HRj := Lib.hid hRj
        have HKj := Lib.hid hKj
        have HX := Lib.hid (X1.out.kb (HK.out.trans hKj))
        have c0 := HX.out.cell 0
        have c1 := HX.out.cell 1
        simp only [List.getElem?_toArray, List.getElem?_cons_zero, List.getElem?_cons_succ] at c0 c1
        clear hI hRj hKj
        by_cases hja : a < j
        · have hl := S.less HRj.out j (j - 1) (by omega) (by omega)
          rw [show (((j - 1 : Nat) : Int)) = (j : Int) - 1 by omega] at hl
          cases hlv : lt dj[j]! dj[j - 1]! with
          | true =>
            rw [hlv] at hl
            go_upto_region 7 with (go_at_fn g; refine hl.mono ?_; rintro e w3 ⟨rfl, hR3, hK3⟩)
            have HR3 := Lib.hid hR3
            have HK3 := Lib.hid hK3
            have c1' := (HX.out.kb hK3).cell 1
            simp only [List.getElem?_toArray, List.getElem?_cons_zero, List.getElem?_cons_succ] at c1'
            obtain ⟨w4, hs, hR4, hK4⟩ := S.swap hR3 j (j - 1) (by omega) (by omega)
            rw [show (((j - 1 : Nat) : Int)) = (j : Int) - 1 by omega] at hs
            have HR4 := Lib.hid hR4
            have HK4 := Lib.hid hK4
            clear hR3 hK3 hR4 hK4 hl c0 c1
            go_wp2
            go_roundw
            case rel =>
              exact ⟨j - 1, swp dj j (j - 1), by congr 1 <;> omega, by omega, by omega, HR4.out, (HKj.out.trans HK3.out).trans HK4.out, by rw [← HI.out, insInner_go lt a j dj hja hlv]⟩
            case measure => simp [intOf]; omega
          | false =>
            rw [hlv] at hl
            go_wp2_with (go_at_fn g; refine hl.mono ?_; rintro e w3 ⟨rfl, hR3, hK3⟩)
            go_roundw
            case rel =>
              exact ⟨i + 1, dj, by go_num, by omega, by omega, hR3, (HK.out.trans HKj.out).trans hK3, by rw [← HO.out, insOuter_go _ _ _ _ _ hlt, ← HI.out, insInner_stop _ _ _ _ (Or.inr hlv)]⟩
            case measure => simp [intOf]; omega
        · go_wp2
          go_roundw
          case rel =>
            exact ⟨i + 1, dj, by go_num, by omega, by omega, HRj.out, HK.out.trans HKj.out, by rw [← HO.out, insOuter_go _ _ _ _ _ hlt, ← HI.out, insInner_stop _ _ _ _ (Or.inl (by omega))]⟩
          case measure => simp [intOf]; omega
    · go_wp2
      go_end0
      refine ⟨rfl, ?_, K1.out.trans HK.out⟩
      unfold Sort.insertionSort
      rw [← HO.out, insOuter_stop _ _ _ _ _ hlt]
      exact HR.out
end Go.Proofs.Ytilklfmcdgggfaa
