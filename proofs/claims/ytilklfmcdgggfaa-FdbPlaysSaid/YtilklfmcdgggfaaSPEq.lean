/- sort.partitionEqual_func, where the one that compares may make memory. -/
import Derived.Test.YtilklfmcdgggfaaSrt
import Derived.Deep.DeepCutAuto
import Derived.Deep.CutBlock
import Derived.Sort.WalkC
import Derived.Sort.LotC
namespace Go.Proofs.Ytilklfmcdgggfaa
open Go.Shelf Go.RowKit Go.Lib Go.Sort
set_option linter.unusedVariables false
set_option linter.unusedSimpArgs false

variable {α : Type} [Inhabited α] {enc : α → List Value} {k n : Nat} {w0 : World} {blk g sf : Nat} {lb sb : Array Value} {lt : α → α → Bool}
theorem val_intE {a b : Nat} (h : a = b) : Value.int .i64 (a : Int) = .int .i64 (b : Int) := by rw [h]
theorem ret_intE {a b : Nat} (h : a = b) : Ending.returned (.int .i64 (a : Int)) = .returned (.int .i64 (b : Int)) := by rw [h]

set_option maxHeartbeats 8000000 in
set_option maxRecDepth 100000 in
theorem parteq_any (S : SortBy g lb sf sb enc k n lt blk w0) {W : World} {d : Array α} (hW : Rw enc k n w0 blk d W) (a b pivot : Nat) (hab : a + 1 < b) (hb : b ≤ n) (hp : a ≤ pivot ∧ pivot < b) :
    Calls Try.prog 83 #[.agg (twoA g lb sf sb), .int .i64 a, .int .i64 b, .int .i64 pivot] W fun e w' =>
      e = .returned (.int .i64 ((partitionEqual lt d a b pivot).1 : Nat)) ∧ Rw enc k n w0 blk (partitionEqual lt d a b pivot).2 w' ∧ KB w0 W w' := by
  have eg := S.eg
  have hfew := S.few
  obtain ⟨W1, hW1⟩ : ∃ W1, W1 = W.alloc (.cells (twoA g lb sf sb) 125) := ⟨_, rfl⟩
  obtain ⟨B, hB⟩ : ∃ B, B = W.heap.size := ⟨_, rfl⟩
  have R1 := Lib.hid (show Rw enc k n w0 blk d W1 by rw [hW1]; exact hW.alloc _)
  have X1 := Lib.hid (show Bx w0 W1 B (twoA g lb sf sb) 125 by rw [hW1, hB]; exact Bx.new hW.le _ _)
  have K1 := Lib.hid (show KB w0 W W1 by rw [hW1]; exact (KB.refl _ _).alloc _)
  have HW1 := Lib.hid hW1
  have HB := Lib.hid hB
  clear hW1 hB hW
  obtain ⟨d1, hd1⟩ : ∃ d1, d1 = swp d a pivot := ⟨_, rfl⟩
  have HD1 := Lib.hid hd1
  obtain ⟨w2, hsw, hR2, hK2⟩ := S.swap R1.out a pivot (by omega) (by omega)
  rw [← hd1] at hR2
  clear hd1
  have HR0 := Lib.hid hR2
  have HK0 := Lib.hid hK2
  clear hR2 hK2
  obtain ⟨i0, hi0⟩ : ∃ i, i = a + 1 := ⟨_, rfl⟩
  obtain ⟨j0, hj0⟩ : ∃ j, j = b - 1 := ⟨_, rfl⟩
  have ei : (a : Int) + 1 = (i0 : Int) := by omega
  have ej : (b : Int) - 1 = (j0 : Int) := by omega
  have f1 := X1.out.cell 1
  simp only [List.getElem?_toArray, List.getElem?_cons_zero, List.getElem?_cons_succ] at f1
  go_enter Try.func83, Try.ntmps83
  go_upto_region 1 with fail
  rw [← HW1.out, ← HB.out]
  go_upto_region 2 with fail
  clear f1
  have RES2 := Lib.hid (show partitionEqual lt d a b pivot = partEqLoop lt a i0 j0 d1 by
    unfold partitionEqual
    rw [← HD1.out, ← hi0, ← hj0])
  have hb2 : a < i0 ∧ i0 ≤ n + 2 ∧ a ≤ j0 ∧ j0 < b := by omega
  have hb0 : i0 ≤ a + 1 ∧ a + 1 ≤ i0 ∧ j0 + 1 ≤ b ∧ b ≤ j0 + 1 := by omega
  clear hi0 hj0
  go_upto_block 0 with fail
  go_cut [9] (fun v wx => ∃ (i9 : Nat) (d9 : Array α), v = .int .i64 (i9 : Int) ∧ Rw enc k n w0 blk d9 wx ∧ KB w0 W1 wx ∧ partEqLoop lt a i0 j0 d1 = (i9, d9))
  case first =>
    go_wp2_with fail
    clear ei ej hsw
    go_loopw [9, 10] (fun vi vj wr => ∃ (i j : Nat) (dk : Array α), vi = .int .i64 i ∧ vj = .int .i64 j ∧ (a < i ∧ i ≤ n + 2 ∧ a ≤ j ∧ j < b) ∧ Rw enc k n w0 blk dk wr ∧ KB w0 W1 wr ∧ partEqLoop lt a i j dk = partEqLoop lt a i0 j0 d1) (fun vi vj _ => (intOf vj).toNat + 1 - (intOf vi).toNat)
    case atStart => exact ⟨i0, j0, d1, rfl, rfl, hb2, HR0.out, HK0.out, rfl⟩
    case round =>
      obtain ⟨i, j, dk, rfl, rfl, hbd, hRd, hKd, hpl⟩ := hrel
      have HPL := Lib.hid hpl
      clear HR0 HK0
      have HR0 := Lib.hid hRd
      have HK0 := Lib.hid hKd
      obtain ⟨i3, hi3⟩ : ∃ x, x = scanUp (fun x => !lt dk[a]! x) dk j i := ⟨_, rfl⟩
      obtain ⟨j3, hj3⟩ : ∃ x, x = scanDown (fun x => lt dk[a]! x) dk i3 j := ⟨_, rfl⟩
      have Hi3 := Lib.hid hi3
      have Hj3 := Lib.hid hj3
      have h3 : i ≤ i3 ∧ j3 ≤ j ∧ i3 ≤ n + 2 ∧ a ≤ j3 := by
        have s1 := scanUp_spec (fun x => !lt dk[a]! x) dk j _ i rfl
        have s2 := scanDown_spec (fun x => lt dk[a]! x) dk i3 j
        rw [← hi3] at s1
        rw [← hj3] at s2
        have s3 : i3 ≤ n + 2 := by
          by_cases q : i ≤ j + 1
          · have := s1.2.1 q; omega
          · have : i3 = i := by rw [hi3]; exact scanUp_end _ dk j i (Or.inl (by omega))
            omega
        refine ⟨s1.1, s2.1, s3, ?_⟩
        by_cases q : i3 ≤ j + 1
        · have := s2.2.1 q; omega
        · have : j3 = j := by rw [hj3]; exact scanDown_end _ dk i3 j (Or.inl (by omega))
          omega
      clear hpl hRd hKd hi3 hj3
      go_upto_block 2 with fail
      go_cut [9] (fun v wx => v = .int .i64 ((i3 : Nat) : Int) ∧ Rw enc k n w0 blk dk wx ∧ KB w0 W1 wx)
      case first =>
        go_wp2_with fail
        go_loopw [9] (fun vi wr => ∃ x' : Nat, vi = .int .i64 x' ∧ i ≤ x' ∧ x' ≤ n + 3 ∧ Rw enc k n w0 blk dk wr ∧ KB w0 W1 wr ∧ scanUp (fun x => !lt dk[a]! x) dk j x' = i3) (fun vi _ => j + 1 - (intOf vi).toNat)
        case atStart => exact ⟨i, rfl, Nat.le_refl _, by omega, HR0.out, HK0.out, Hi3.out.symm⟩
        case round =>
          obtain ⟨x', rfl, h1, h2, hR, hK, hs⟩ := hrel
          have HS := Lib.hid hs
          have HK := Lib.hid hK
          have HR := Lib.hid hR
          have c0 := (X1.out.kb hK).cell 0
          simp only [List.getElem?_toArray, List.getElem?_cons_zero, List.getElem?_cons_succ] at c0
          clear hs hK hR
          by_cases hle : x' ≤ j
          · have hl := S.less HR.out a x' (by omega) (by omega)
            cases hlv : lt dk[a]! dk[x']! with
            | false =>
              rw [hlv] at hl
              go_wp2_with (go_at_fn g; refine hl.mono ?_; rintro e w3 ⟨rfl, hR3, hK3⟩)
              go_roundw
              case rel => exact ⟨x' + 1, by go_num, by omega, by omega, hR3, HK.out.trans hK3, (scanUp_go (fun x => !lt dk[a]! x) dk j x' hle (by simp [hlv])).symm.trans HS.out⟩
              case measure => simp [intOf]; omega
            | true =>
              rw [hlv] at hl
              go_wp2_with (go_at_fn g; refine hl.mono ?_; rintro e w3 ⟨rfl, hR3, hK3⟩)
              go_meet
              exact ⟨val_intE ((scanUp_end (fun x => !lt dk[a]! x) dk j x' (Or.inr (by simp [hlv]))).symm.trans HS.out), hR3, HK.out.trans hK3⟩
          · go_wp2_with fail
            go_meet
            exact ⟨val_intE ((scanUp_end (fun x => !lt dk[a]! x) dk j x' (Or.inl hle)).symm.trans HS.out), HR.out, HK.out⟩
      case rest =>
        obtain ⟨rfl, hRc, hKc⟩ := hcut
        clear HR0 HK0
        have HR0 := Lib.hid hRc
        have HK0 := Lib.hid hKc
        clear hRc hKc
        go_upto_block 4 with fail
        go_cut [10] (fun v wx => v = .int .i64 ((j3 : Nat) : Int) ∧ Rw enc k n w0 blk dk wx ∧ KB w0 W1 wx)
        case first =>
          go_wp2_with fail
          go_loopw [10] (fun vi wr => ∃ x' : Nat, vi = .int .i64 x' ∧ a ≤ x' ∧ x' ≤ j ∧ Rw enc k n w0 blk dk wr ∧ KB w0 W1 wr ∧ scanDown (fun x => lt dk[a]! x) dk i3 x' = j3) (fun vi _ => (intOf vi).toNat)
          case atStart => exact ⟨j, rfl, by omega, Nat.le_refl _, HR0.out, HK0.out, Hj3.out.symm⟩
          case round =>
            obtain ⟨x', rfl, h1, h2, hR, hK, hs⟩ := hrel
            have HS := Lib.hid hs
            have HK := Lib.hid hK
            have HR := Lib.hid hR
            have c0 := (X1.out.kb hK).cell 0
            simp only [List.getElem?_toArray, List.getElem?_cons_zero, List.getElem?_cons_succ] at c0
            clear hs hK hR
            by_cases hle : i3 ≤ x'
            · have hl := S.less HR.out a x' (by omega) (by omega)
              cases hlv : lt dk[a]! dk[x']! with
              | true =>
                rw [hlv] at hl
                go_wp2_with (go_at_fn g; refine hl.mono ?_; rintro e w3 ⟨rfl, hR3, hK3⟩)
                go_roundw
                case rel => exact ⟨x' - 1, by go_num, by omega, by omega, hR3, HK.out.trans hK3, (scanDown_go (fun x => lt dk[a]! x) dk i3 x' hle (by omega) (by simp [hlv])).symm.trans HS.out⟩
                case measure => simp [intOf]; omega
              | false =>
                rw [hlv] at hl
                go_wp2_with (go_at_fn g; refine hl.mono ?_; rintro e w3 ⟨rfl, hR3, hK3⟩)
                go_meet
                exact ⟨val_intE ((scanDown_end (fun x => lt dk[a]! x) dk i3 x' (Or.inr (by simp [hlv]))).symm.trans HS.out), hR3, HK.out.trans hK3⟩
            · go_wp2_with fail
              go_meet
              exact ⟨val_intE ((scanDown_end (fun x => lt dk[a]! x) dk i3 x' (Or.inl hle)).symm.trans HS.out), HR.out, HK.out⟩
        case rest =>
          obtain ⟨rfl, hRc, hKc⟩ := hcut
          clear HR0 HK0
          have HR0 := Lib.hid hRc
          have HK0 := Lib.hid hKc
          clear hRc hKc
          have f1 := (X1.out.kb HK0.out).cell 1
          simp only [List.getElem?_toArray, List.getElem?_cons_zero, List.getElem?_cons_succ] at f1
          by_cases hgt3 : i3 > j3
          · go_wp2_with fail
            go_meet
            exact ⟨i3, dk, rfl, HR0.out, HK0.out, by rw [← HPL.out]; exact partEq_break lt a i j dk Hi3.out Hj3.out hgt3⟩
          · obtain ⟨w5, hs5, hR5, hK5⟩ := S.swap HR0.out i3 j3 (by omega) (by omega)
            have HR5 := Lib.hid hR5
            have HK5 := Lib.hid (HK0.out.trans hK5)
            clear hR5 hK5
            go_wp2_with fail
            go_roundw
            case rel => exact ⟨i3 + 1, j3 - 1, swp dk i3 j3, by go_num, by go_num, by omega, HR5.out, HK5.out, by rw [← HPL.out]; exact (partEq_go lt a i j dk Hi3.out Hj3.out hgt3).symm⟩
            case measure => simp [intOf]; omega
  case rest =>
    obtain ⟨i9, d9, rfl, hR9, hK9, hpe⟩ := hcut
    have HPE := Lib.hid hpe
    clear hpe
    go_wp2_with fail
    go_ret
    rw [RES2.out, HPE.out]
    exact ⟨rfl, hR9, K1.out.trans hK9⟩
end Go.Proofs.Ytilklfmcdgggfaa
