/- sort.partition_func and partitionEqual_func, where the one that compares may make memory. -/
import Derived.Test.YtilklfmcdgggfaaSrt
import Derived.Deep.DeepCutAuto
import Derived.Deep.CutBlock
import Derived.Sort.WalkC
import Derived.Sort.LotC
namespace Go.Proofs.Ytilklfmcdgggfaa
open Go.Shelf Go.RowKit Go.Lib Go.Sort
set_option linter.unusedVariables false
set_option linter.unusedSimpArgs false

variable {α : Type} [Inhabited α] {enc : α → List Value} {k n : Nat} {w0 : World} {blk g sf : Nat} {lb sb : Array Value} {lt : α → α → Bool}
theorem val_int {a b : Nat} (h : a = b) : Value.int .i64 (a : Int) = .int .i64 (b : Int) := by rw [h]
theorem ret_part {a a' : Int} {x y : Bool} (h1 : a = a') (h2 : x = y) : Ending.returned (.tuple #[.int .i64 a, .bool x]) = .returned (.tuple #[.int .i64 a', .bool y]) := by rw [h1, h2]
theorem partN_go (lt : α → α → Bool) (a i j : Nat) (dk : Array α) {i2 j2 : Nat} (hi2 : i2 = scanUp (fun x => lt x dk[a]!) dk j i) (hj2 : j2 = scanDown (fun x => !lt x dk[a]!) dk i2 j) (h : ¬ i2 > j2) : partLoop lt a i j dk = partLoop lt a (i2 + 1) (j2 - 1) (swp dk i2 j2) := by
  subst hi2; subst hj2
  rw [partLoop_eq, if_neg h]
theorem partN_break (lt : α → α → Bool) (a i j : Nat) (dk : Array α) {i2 j2 : Nat} (hi2 : i2 = scanUp (fun x => lt x dk[a]!) dk j i) (hj2 : j2 = scanDown (fun x => !lt x dk[a]!) dk i2 j) (h : i2 > j2) : partLoop lt a i j dk = (j2, dk) := by
  subst hi2; subst hj2
  rw [partLoop_eq, if_pos h]

set_option maxHeartbeats 8000000 in
set_option maxRecDepth 100000 in
theorem part_any (S : SortBy g lb sf sb enc k n lt blk w0) {W : World} {d : Array α} (hW : Rw enc k n w0 blk d W) (a b pivot : Nat) (hab : a + 1 < b) (hb : b ≤ n) (hp : a ≤ pivot ∧ pivot < b) :
    Calls Try.prog 84 #[.agg (twoA g lb sf sb), .int .i64 a, .int .i64 b, .int .i64 pivot] W fun e w' =>
      e = .returned (.tuple #[.int .i64 ((partition lt d a b pivot).1 : Nat), .bool (partition lt d a b pivot).2.1]) ∧ Rw enc k n w0 blk (partition lt d a b pivot).2.2 w' ∧ KB w0 W w' := by
  have eg := S.eg
  have hfew := S.few
  obtain ⟨W1, hW1⟩ : ∃ W1, W1 = W.alloc (.cells (twoA g lb sf sb) 125) := ⟨_, rfl⟩
  obtain ⟨B, hB⟩ : ∃ B, B = W.heap.size := ⟨_, rfl⟩
  have R1 := Lib.hid (show Rw enc k n w0 blk d W1 by rw [hW1]; exact hW.alloc _)
  have X1 := Lib.hid (show Bx w0 W1 B (twoA g lb sf sb) 125 by rw [hW1, hB]; exact Bx.new hW.le _ _)
  have K1 := Lib.hid (show KB w0 W W1 by rw [hW1]; exact (KB.refl _ _).alloc _)
  have HW1 := Lib.hid hW1
  have HB := Lib.hid hB
  clear hW1 hB hW
  obtain ⟨d1, hd1⟩ : ∃ d1, d1 = swp d a pivot := ⟨_, rfl⟩
  have HD1 := Lib.hid hd1
  obtain ⟨w2, hsw, hR2, hK2⟩ := S.swap R1.out a pivot (by omega) (by omega)
  rw [← hd1] at hR2
  clear hd1
  have HR0 := Lib.hid hR2
  have HK0 := Lib.hid hK2
  clear hR2 hK2
  obtain ⟨i0, hi0⟩ : ∃ i, i = a + 1 := ⟨_, rfl⟩
  obtain ⟨j0, hj0⟩ : ∃ j, j = b - 1 := ⟨_, rfl⟩
  have ei : (a : Int) + 1 = (i0 : Int) := by omega
  have ej : (b : Int) - 1 = (j0 : Int) := by omega
  have f1 := X1.out.cell 1
  simp only [List.getElem?_toArray, List.getElem?_cons_zero, List.getElem?_cons_succ] at f1
  go_enter Try.func84, Try.ntmps84
  go_upto_region 1 with fail
  rw [← HW1.out, ← HB.out]
  go_upto_region 2 with fail
  clear f1
  obtain ⟨i1, hi1⟩ : ∃ i, i = scanUp (fun x => lt x d1[a]!) d1 j0 i0 := ⟨_, rfl⟩
  obtain ⟨j1, hj1⟩ : ∃ j, j = scanDown (fun x => !lt x d1[a]!) d1 i1 j0 := ⟨_, rfl⟩
  have Hi1 := Lib.hid hi1
  have Hj1 := Lib.hid hj1
  have hij1 : i0 ≤ i1 ∧ i1 ≤ j0 + 1 ∧ j1 ≤ j0 ∧ i1 ≤ j1 + 1 := by
    have s1 := scanUp_spec (fun x => lt x d1[a]!) d1 j0 _ i0 rfl
    have s2 := scanDown_spec (fun x => !lt x d1[a]!) d1 i1 j0
    rw [← hi1] at s1
    rw [← hj1] at s2
    exact ⟨s1.1, s1.2.1 (by omega), s2.1, s2.2.1 (s1.2.1 (by omega))⟩
  have RES := Lib.hid (show partition lt d a b pivot = if i1 > j1 then (j1, true, swp d1 j1 a) else ((partLoop lt a (i1 + 1) (j1 - 1) (swp d1 i1 j1)).1, false, swp (partLoop lt a (i1 + 1) (j1 - 1) (swp d1 i1 j1)).2 (partLoop lt a (i1 + 1) (j1 - 1) (swp d1 i1 j1)).1 a) by
    unfold partition
    simp only [← HD1.out, ← hi0, ← hj0, ← hi1, ← hj1])
  have hb0 : i0 ≤ a + 1 ∧ a + 1 ≤ i0 ∧ j0 + 1 ≤ b ∧ b ≤ j0 + 1 := by omega
  clear hi1 hj1 hi0 hj0
  go_upto_block 0 with fail
  go_cut [10] (fun v wx => v = .int .i64 ((i1 : Nat) : Int) ∧ Rw enc k n w0 blk d1 wx ∧ KB w0 W1 wx)
  case first =>
    go_wp2_with fail
    go_loopw [10] (fun vi wr => ∃ x' : Nat, vi = .int .i64 x' ∧ i0 ≤ x' ∧ x' ≤ n + 3 ∧ Rw enc k n w0 blk d1 wr ∧ KB w0 W1 wr ∧ scanUp (fun x => lt x d1[a]!) d1 j0 x' = i1) (fun vi _ => j0 + 1 - (intOf vi).toNat)
    case atStart => exact ⟨i0, rfl, Nat.le_refl _, by omega, HR0.out, HK0.out, Hi1.out.symm⟩
    case round =>
      obtain ⟨x', rfl, h1, h2, hR, hK, hs⟩ := hrel
      have HS := Lib.hid hs
      have HK := Lib.hid hK
      have HR := Lib.hid hR
      have c0 := (X1.out.kb hK).cell 0
      simp only [List.getElem?_toArray, List.getElem?_cons_zero, List.getElem?_cons_succ] at c0
      clear hs hK hR
      by_cases hle : x' ≤ j0
      · have hl := S.less HR.out x' a (by omega) (by omega)
        cases hlv : lt d1[x']! d1[a]! with
        | true =>
          rw [hlv] at hl
          go_wp2_with (go_at_fn g; refine hl.mono ?_; rintro e w3 ⟨rfl, hR3, hK3⟩)
          go_roundw
          case rel => exact ⟨x' + 1, by go_num, by omega, by omega, hR3, HK.out.trans hK3, (scanUp_go (fun x => lt x d1[a]!) d1 j0 x' hle (by simp [hlv])).symm.trans HS.out⟩
          case measure => simp [intOf]; omega
        | false =>
          rw [hlv] at hl
          go_wp2_with (go_at_fn g; refine hl.mono ?_; rintro e w3 ⟨rfl, hR3, hK3⟩)
          go_meet
          exact ⟨val_int ((scanUp_end (fun x => lt x d1[a]!) d1 j0 x' (Or.inr (by simp [hlv]))).symm.trans HS.out), hR3, HK.out.trans hK3⟩
      · go_wp2_with fail
        go_meet
        exact ⟨val_int ((scanUp_end (fun x => lt x d1[a]!) d1 j0 x' (Or.inl hle)).symm.trans HS.out), HR.out, HK.out⟩
  case rest =>
    obtain ⟨rfl, hRc, hKc⟩ := hcut
    clear HR0 HK0
    have HR0 := Lib.hid hRc
    have HK0 := Lib.hid hKc
    clear hRc hKc
    go_upto_block 2 with fail
    go_cut [11] (fun v wx => v = .int .i64 ((j1 : Nat) : Int) ∧ Rw enc k n w0 blk d1 wx ∧ KB w0 W1 wx)
    case first =>
      go_wp2_with fail
      go_loopw [11] (fun vi wr => ∃ x' : Nat, vi = .int .i64 x' ∧ a ≤ x' ∧ x' ≤ j0 ∧ Rw enc k n w0 blk d1 wr ∧ KB w0 W1 wr ∧ scanDown (fun x => !lt x d1[a]!) d1 i1 x' = j1) (fun vi _ => (intOf vi).toNat)
      case atStart => exact ⟨j0, rfl, by omega, Nat.le_refl _, HR0.out, HK0.out, Hj1.out.symm⟩
      case round =>
        obtain ⟨x', rfl, h1, h2, hR, hK, hs⟩ := hrel
        have HS := Lib.hid hs
        have HK := Lib.hid hK
        have HR := Lib.hid hR
        have c0 := (X1.out.kb hK).cell 0
        simp only [List.getElem?_toArray, List.getElem?_cons_zero, List.getElem?_cons_succ] at c0
        clear hs hK hR
        by_cases hle : i1 ≤ x'
        · have hl := S.less HR.out x' a (by omega) (by omega)
          cases hlv : lt d1[x']! d1[a]! with
          | false =>
            rw [hlv] at hl
            go_wp2_with (go_at_fn g; refine hl.mono ?_; rintro e w3 ⟨rfl, hR3, hK3⟩)
            go_roundw
            case rel => exact ⟨x' - 1, by go_num, by omega, by omega, hR3, HK.out.trans hK3, (scanDown_go (fun x => !lt x d1[a]!) d1 i1 x' hle (by omega) (by simp [hlv])).symm.trans HS.out⟩
            case measure => simp [intOf]; omega
          | true =>
            rw [hlv] at hl
            go_wp2_with (go_at_fn g; refine hl.mono ?_; rintro e w3 ⟨rfl, hR3, hK3⟩)
            go_meet
            exact ⟨val_int ((scanDown_end (fun x => !lt x d1[a]!) d1 i1 x' (Or.inr (by simp [hlv]))).symm.trans HS.out), hR3, HK.out.trans hK3⟩
        · go_wp2_with fail
          go_meet
          exact ⟨val_int ((scanDown_end (fun x => !lt x d1[a]!) d1 i1 x' (Or.inl hle)).symm.trans HS.out), HR.out, HK.out⟩
    case rest =>
      obtain ⟨rfl, hRc, hKc⟩ := hcut
      clear HR0 HK0
      have HR0 := Lib.hid hRc
      have HK0 := Lib.hid hKc
      clear hRc hKc
      have f1 := (X1.out.kb HK0.out).cell 1
      simp only [List.getElem?_toArray, List.getElem?_cons_zero, List.getElem?_cons_succ] at f1
      by_cases hgt : i1 > j1
      · obtain ⟨w4, hs4, hR4, hK4⟩ := S.swap HR0.out j1 a (by omega) (by omega)
        have HR4 := Lib.hid hR4
        have HK4 := Lib.hid hK4
        clear hR4 hK4
        go_wp2_with fail
        go_ret2
        rw [RES.out, if_pos hgt]
        exact ⟨rfl, HR4.out, (K1.out.trans HK0.out).trans HK4.out⟩
      · obtain ⟨w4, hs4, hR4, hK4⟩ := S.swap HR0.out i1 j1 (by omega) (by omega)
        have HR4 := Lib.hid hR4
        have HK4 := Lib.hid (HK0.out.trans hK4)
        obtain ⟨i2, hi2⟩ : ∃ i, i = i1 + 1 := ⟨_, rfl⟩
        obtain ⟨j2, hj2⟩ : ∃ j, j = j1 - 1 := ⟨_, rfl⟩
        have ei2 : (i1 : Int) + 1 = (i2 : Int) := by omega
        have ej2 : (j1 : Int) - 1 = (j2 : Int) := by omega
        obtain ⟨d2, hd2⟩ : ∃ d2, d2 = swp d1 i1 j1 := ⟨_, rfl⟩
        have RES2 := Lib.hid (show partition lt d a b pivot = ((partLoop lt a i2 j2 d2).1, false, swp (partLoop lt a i2 j2 d2).2 (partLoop lt a i2 j2 d2).1 a) by rw [RES.out, if_neg hgt, ← hi2, ← hj2, ← hd2])
        rw [← hd2] at HR4
        have hb2 : a < i2 ∧ i2 ≤ n + 2 ∧ a ≤ j2 ∧ j2 < b := by omega
        clear hR4 hK4 hd2 hi2 hj2 RES HR0 HK0 Hi1 Hj1
        go_upto_block 4 with fail
        go_cut [11] (fun v wx => ∃ (j9 : Nat) (d9 : Array α), v = .int .i64 (j9 : Int) ∧ a ≤ j9 ∧ j9 < b ∧ Rw enc k n w0 blk d9 wx ∧ KB w0 W1 wx ∧ partLoop lt a i2 j2 d2 = (j9, d9))
        case first =>
          go_wp2_with fail
          clear f1 hs4 ei2 ej2
          go_loopw [10, 11] (fun vi vj wr => ∃ (i j : Nat) (dk : Array α), vi = .int .i64 i ∧ vj = .int .i64 j ∧ (a < i ∧ i ≤ n + 2 ∧ a ≤ j ∧ j < b) ∧ Rw enc k n w0 blk dk wr ∧ KB w0 W1 wr ∧ partLoop lt a i j dk = partLoop lt a i2 j2 d2) (fun vi vj _ => (intOf vj).toNat + 1 - (intOf vi).toNat)
          case atStart => exact ⟨i2, j2, d2, rfl, rfl, hb2, HR4.out, HK4.out, rfl⟩
          case round =>
            obtain ⟨i, j, dk, rfl, rfl, hbd, hRd, hKd, hpl⟩ := hrel
            have HPL := Lib.hid hpl
            have HR0 := Lib.hid hRd
            have HK0 := Lib.hid hKd
            obtain ⟨i3, hi3⟩ : ∃ x, x = scanUp (fun x => lt x dk[a]!) dk j i := ⟨_, rfl⟩
            obtain ⟨j3, hj3⟩ : ∃ x, x = scanDown (fun x => !lt x dk[a]!) dk i3 j := ⟨_, rfl⟩
            have Hi3 := Lib.hid hi3
            have Hj3 := Lib.hid hj3
            have h3 : i ≤ i3 ∧ j3 ≤ j ∧ i3 ≤ n + 2 ∧ (i ≤ j + 1 → i3 ≤ j3 + 1) ∧ a ≤ j3 := by
              have s1 := scanUp_spec (fun x => lt x dk[a]!) dk j _ i rfl
              have s2 := scanDown_spec (fun x => !lt x dk[a]!) dk i3 j
              rw [← hi3] at s1
              rw [← hj3] at s2
              have s3 : i3 ≤ n + 2 := by
                by_cases q : i ≤ j + 1
                · have := s1.2.1 q; omega
                · have : i3 = i := by rw [hi3]; exact scanUp_end _ dk j i (Or.inl (by omega))
                  omega
              refine ⟨s1.1, s2.1, s3, fun q => s2.2.1 (s1.2.1 q), ?_⟩
              by_cases q : i3 ≤ j + 1
              · have := s2.2.1 q; omega
              · have : j3 = j := by rw [hj3]; exact scanDown_end _ dk i3 j (Or.inl (by omega))
                omega
            clear hpl hRd hKd hi3 hj3 HR4 HK4
            go_upto_block 6 with fail
            go_cut [10] (fun v wx => v = .int .i64 ((i3 : Nat) : Int) ∧ Rw enc k n w0 blk dk wx ∧ KB w0 W1 wx)
            case first =>
              go_wp2_with fail
              go_loopw [10] (fun vi wr => ∃ x' : Nat, vi = .int .i64 x' ∧ i ≤ x' ∧ x' ≤ n + 3 ∧ Rw enc k n w0 blk dk wr ∧ KB w0 W1 wr ∧ scanUp (fun x => lt x dk[a]!) dk j x' = i3) (fun vi _ => j + 1 - (intOf vi).toNat)
              case atStart => exact ⟨i, rfl, Nat.le_refl _, by omega, HR0.out, HK0.out, Hi3.out.symm⟩
              case round =>
                obtain ⟨x', rfl, h1, h2, hR, hK, hs⟩ := hrel
                have HS := Lib.hid hs
                have HK := Lib.hid hK
                have HR := Lib.hid hR
                have c0 := (X1.out.kb hK).cell 0
                simp only [List.getElem?_toArray, List.getElem?_cons_zero, List.getElem?_cons_succ] at c0
                clear hs hK hR
                by_cases hle : x' ≤ j
                · have hl := S.less HR.out x' a (by omega) (by omega)
                  cases hlv : lt dk[x']! dk[a]! with
                  | true =>
                    rw [hlv] at hl
                    go_wp2_with (go_at_fn g; refine hl.mono ?_; rintro e w3 ⟨rfl, hR3, hK3⟩)
                    go_roundw
                    case rel => exact ⟨x' + 1, by go_num, by omega, by omega, hR3, HK.out.trans hK3, (scanUp_go (fun x => lt x dk[a]!) dk j x' hle (by simp [hlv])).symm.trans HS.out⟩
                    case measure => simp [intOf]; omega
                  | false =>
                    rw [hlv] at hl
                    go_wp2_with (go_at_fn g; refine hl.mono ?_; rintro e w3 ⟨rfl, hR3, hK3⟩)
                    go_meet
                    exact ⟨val_int ((scanUp_end (fun x => lt x dk[a]!) dk j x' (Or.inr (by simp [hlv]))).symm.trans HS.out), hR3, HK.out.trans hK3⟩
                · go_wp2_with fail
                  go_meet
                  exact ⟨val_int ((scanUp_end (fun x => lt x dk[a]!) dk j x' (Or.inl hle)).symm.trans HS.out), HR.out, HK.out⟩
            case rest =>
              obtain ⟨rfl, hRc, hKc⟩ := hcut
              clear HR0 HK0
              have HR0 := Lib.hid hRc
              have HK0 := Lib.hid hKc
              clear hRc hKc
              go_upto_block 8 with fail
              go_cut [11] (fun v wx => v = .int .i64 ((j3 : Nat) : Int) ∧ Rw enc k n w0 blk dk wx ∧ KB w0 W1 wx)
              case first =>
                go_wp2_with fail
                go_loopw [11] (fun vi wr => ∃ x' : Nat, vi = .int .i64 x' ∧ a ≤ x' ∧ x' ≤ j ∧ Rw enc k n w0 blk dk wr ∧ KB w0 W1 wr ∧ scanDown (fun x => !lt x dk[a]!) dk i3 x' = j3) (fun vi _ => (intOf vi).toNat)
                case atStart => exact ⟨j, rfl, by omega, Nat.le_refl _, HR0.out, HK0.out, Hj3.out.symm⟩
                case round =>
                  obtain ⟨x', rfl, h1, h2, hR, hK, hs⟩ := hrel
                  have HS := Lib.hid hs
                  have HK := Lib.hid hK
                  have HR := Lib.hid hR
                  have c0 := (X1.out.kb hK).cell 0
                  simp only [List.getElem?_toArray, List.getElem?_cons_zero, List.getElem?_cons_succ] at c0
                  clear hs hK hR
                  by_cases hle : i3 ≤ x'
                  · have hl := S.less HR.out x' a (by omega) (by omega)
                    cases hlv : lt dk[x']! dk[a]! with
                    | false =>
                      rw [hlv] at hl
                      go_wp2_with (go_at_fn g; refine hl.mono ?_; rintro e w3 ⟨rfl, hR3, hK3⟩)
                      go_roundw
                      case rel => exact ⟨x' - 1, by go_num, by omega, by omega, hR3, HK.out.trans hK3, (scanDown_go (fun x => !lt x dk[a]!) dk i3 x' hle (by omega) (by simp [hlv])).symm.trans HS.out⟩
                      case measure => simp [intOf]; omega
                    | true =>
                      rw [hlv] at hl
                      go_wp2_with (go_at_fn g; refine hl.mono ?_; rintro e w3 ⟨rfl, hR3, hK3⟩)
                      go_meet
                      exact ⟨val_int ((scanDown_end (fun x => !lt x dk[a]!) dk i3 x' (Or.inr (by simp [hlv]))).symm.trans HS.out), hR3, HK.out.trans hK3⟩
                  · go_wp2_with fail
                    go_meet
                    exact ⟨val_int ((scanDown_end (fun x => !lt x dk[a]!) dk i3 x' (Or.inl hle)).symm.trans HS.out), HR.out, HK.out⟩
              case rest =>
                obtain ⟨rfl, hRc, hKc⟩ := hcut
                clear HR0 HK0
                have HR0 := Lib.hid hRc
                have HK0 := Lib.hid hKc
                clear hRc hKc
                have f1 := (X1.out.kb HK0.out).cell 1
                simp only [List.getElem?_toArray, List.getElem?_cons_zero, List.getElem?_cons_succ] at f1
                by_cases hgt3 : i3 > j3
                · go_wp2_with fail
                  go_meet
                  exact ⟨j3, dk, rfl, by omega, by omega, HR0.out, HK0.out, by rw [← HPL.out]; exact partN_break lt a i j dk Hi3.out Hj3.out hgt3⟩
                · obtain ⟨w5, hs5, hR5, hK5⟩ := S.swap HR0.out i3 j3 (by omega) (by omega)
                  have HR5 := Lib.hid hR5
                  have HK5 := Lib.hid (HK0.out.trans hK5)
                  clear hR5 hK5
                  go_wp2_with fail
                  go_roundw
                  case rel => exact ⟨i3 + 1, j3 - 1, swp dk i3 j3, by go_num, by go_num, by omega, HR5.out, HK5.out, by rw [← HPL.out]; exact (partN_go lt a i j dk Hi3.out Hj3.out hgt3).symm⟩
                  case measure => simp [intOf]; omega
        case rest =>
          obtain ⟨j9, d9, rfl, h91, h92, hR9, hK9, hpe⟩ := hcut
          obtain ⟨w6, hs6, hR6, hK6⟩ := S.swap hR9 j9 a (by omega) (by omega)
          have HR6 := Lib.hid hR6
          have HK6 := Lib.hid ((K1.out.trans hK9).trans hK6)
          have c1 := (X1.out.kb hK9).cell 1
          simp only [List.getElem?_toArray, List.getElem?_cons_zero, List.getElem?_cons_succ] at c1
          have HPE := Lib.hid hpe
          clear hR6 hK6 hR9 hK9 hpe f1
          go_wp2_with fail
          go_ret2
          rw [RES2.out, HPE.out]
          exact ⟨rfl, HR6.out, HK6.out⟩
end Go.Proofs.Ytilklfmcdgggfaa
