/- VectorBest, walked: for every list of vectors it returns true. -/
import Derived.Test.YtkohnleeiajiiaaVBestA
namespace Go.Proofs.Ytkohnleeiajiiaa
open Go.RowKit
set_option linter.unusedSimpArgs false

attribute [local irreducible] wpQuiet

theorem vcA_ones (y : Vc) : ∀ u ∈ (vcA y).toList, u.oneCell' = true := by simp [Value.oneCell']
theorem size_alloc_le (w : World) (o : Obj) : w.heap.size ≤ (w.alloc o).heap.size := by simp

set_option maxRecDepth 100000 in
set_option maxHeartbeats 4000000 in
theorem best_walk (a : Option Addr) (len cap : Nat) (l : List Vc) (w : World) (h : IsVRow w a len l) (hcap : cap ≤ maxLen) (hlc : len ≤ cap) :
    Calls Try.prog 7 #[.slice a len cap] w fun e w' => e = .returned (.bool true) ∧ Below w.heap.size w w' := by
  obtain ⟨i0, hi, hz0, hi1, hi2⟩ := info_parts vinfo60
  have HI := Lib.hid hi
  have HZ := Lib.hid hz0
  have HI1 := Lib.hid hi1
  have HI2 := Lib.hid hi2
  have H := Lib.hid h
  have hml : len ≤ 9223372036854775807 := by unfold maxLen at hcap; omega
  clear h hcap hlc hi hz0 hi1 hi2
  go_enter Try.func7, Try.ntmps7
  go_wp2_with fail
  refine (speaks6_any _).mono ?_
  rintro e w1 ⟨rfl, hb1⟩
  have hq0 := hb1.size
  go_wp2_with fail
  go_loopw [3, 4, 5] (fun s3 s4 s5 wr => ∃ k : Nat, k ≤ len ∧ k ≤ 12 ∧ s5 = .int .i64 k ∧ s4 = .int .i64 (bestN l k) ∧ wr.ownsRow w.heap.size 60 4 s3 k (vcL (l.take k)) ∧ Below w.heap.size w wr) (fun _ _ i _ => 12 - (intOf i).toNat)
  case atStart => exact ⟨0, by omega, by omega, rfl, rfl, World.ownsRow_nil _ _ _ _, hb1⟩
  case round =>
    obtain ⟨k, hk, hk12, rfl, rfl, ho, hb⟩ := hrel
    clear hb1 hq0
    have hll := H.out.1
    by_cases hlt : k < len ∧ k < 12
    · obtain ⟨hlt, h12⟩ := hlt
      have h12' : (k : Int) < 12 := by omega
      obtain ⟨x, hx⟩ : ∃ x, a = some x := by
        rcases H.out.2 with ⟨rfl, h⟩ | ⟨x, hx, -⟩
        · omega
        · exact ⟨x, hx⟩
      subst hx
      obtain ⟨y, hy⟩ : ∃ y, y = l[k]! := ⟨_, rfl⟩
      have hc := H.out.at hb k hlt
      rw [← hy] at hc
      have hcc := hc.all
      have VS := Lib.hid (show vcL (l.take k) ++ (vcA y).toList = vcL (l.take (k + 1)) by rw [hy]; exact vcL_succ l k (by omega))
      have HY := Lib.hid hy
      have ho := Lib.hid ho
      have hbs := hb.size
      clear hy hll hc
      have hm1 : k + 1 ≤ maxLen := by unfold maxLen; omega
      have hm2 : (k + 1) * 32 ≤ 140737488355328 := by omega
      go_upto_region 9 with (first
        | (go_at_call 20; refine (vtold_any y _).mono ?_; rintro e w2 ⟨rfl, hb2⟩
           have ho2 := Lib.hid (own_keep ho.out hb2)
           have hb2s := hb2.size)
        | (at_builtin; refine wpList_append_own _ rfl _ _ 68 rfl w.heap.size 60 i0 (.agg nil4) 4 32 Try.underlying68 HI.out HZ.out HI1.out HI2.out rfl (Nat.succ_pos 3) u3 k (vcL (l.take k)) rfl (ho2.out.alloc _) ⟨w2.heap.size, 0, none⟩ 1 1 (vcA y).toList rfl rfl (cells_new _ _ _) (vcA_ones y) hm1 hm2 (Nat.le_trans (Nat.le_trans hbs hb2s) (size_alloc_le _ _)) ?_; intro v3 w3 hown3 hgrow3 _))
      have g3 := hgrow3.size
      have hB3 := ((hb.trans (hb2.mono hbs)).alloc (by omega) _).grown hgrow3 (by simp; omega) (fun q hq => (ho2.out.lt q hq).1)
      rw [VS.out] at hown3
      have hC0 : VbC w v3 (k + 1) (vcL (l.take (k + 1))) w3 := ⟨hB3, hown3⟩
      clear hgrow3 hown3 hB3 g3 ho ho2 hb2 hb2s hcc hb hbs VS
      by_cases hneg : bestN l k < 0
      · have hN : decide (bestN l k < 0) = true := by simp [hneg]
        have STEP := Lib.hid (show bestN l (k + 1) = (k : Int) by rw [bestN_succ, if_pos (.inl hneg)])
        clear hneg
        refine wp_region_quiet (C := VbC w v3 (k + 1) (vcL (l.take (k + 1)))) (by kernel_rfl) (by kernel_rfl) hC0.drew ?_
        (refine q_val (v := ?_) (by rfl) ?_ ?_; rotate_left; (· (intro w hC; go_simp; try with_reducible rfl)); (try simp only [Act.put, List.getElem_toArray, List.getElem_cons_succ, List.getElem_cons_zero, List.setIfInBounds_toArray, List.set_cons_zero, List.set_cons_succ]))
        (refine q_val (v := ?_) (by rfl) ?_ ?_; rotate_left; (· (intro w hC; go_simp; try with_reducible rfl)); (try simp only [Act.put, List.getElem_toArray, List.getElem_cons_succ, List.getElem_cons_zero, List.setIfInBounds_toArray, List.set_cons_zero, List.set_cons_succ]))
        (refine q_val (v := ?_) (by rfl) ?_ ?_; rotate_left; (· (intro w hC; go_simp; try with_reducible rfl)); (try simp only [Act.put, List.getElem_toArray, List.getElem_cons_succ, List.getElem_cons_zero, List.setIfInBounds_toArray, List.set_cons_zero, List.set_cons_succ]))
        (refine q_skip (by rfl) ?_; (try simp only [Act.put, List.getElem_toArray, List.getElem_cons_succ, List.getElem_cons_zero, List.setIfInBounds_toArray, List.set_cons_zero, List.set_cons_succ]))
        (refine q_skip (by rfl) ?_; (try simp only [Act.put, List.getElem_toArray, List.getElem_cons_succ, List.getElem_cons_zero, List.setIfInBounds_toArray, List.set_cons_zero, List.set_cons_succ]))
        (refine q_skip (by rfl) ?_; (try simp only [Act.put, List.getElem_toArray, List.getElem_cons_succ, List.getElem_cons_zero, List.setIfInBounds_toArray, List.set_cons_zero, List.set_cons_succ]))
        (refine q_skip (by rfl) ?_; (try simp only [Act.put, List.getElem_toArray, List.getElem_cons_succ, List.getElem_cons_zero, List.setIfInBounds_toArray, List.set_cons_zero, List.set_cons_succ]))
        (refine q_skip (by rfl) ?_; (try simp only [Act.put, List.getElem_toArray, List.getElem_cons_succ, List.getElem_cons_zero, List.setIfInBounds_toArray, List.set_cons_zero, List.set_cons_succ]))
        (refine q_skip (by rfl) ?_; (try simp only [Act.put, List.getElem_toArray, List.getElem_cons_succ, List.getElem_cons_zero, List.setIfInBounds_toArray, List.set_cons_zero, List.set_cons_succ]))
        (refine q_skip (by rfl) ?_; (try simp only [Act.put, List.getElem_toArray, List.getElem_cons_succ, List.getElem_cons_zero, List.setIfInBounds_toArray, List.set_cons_zero, List.set_cons_succ]))
        (refine q_skip (by rfl) ?_; (try simp only [Act.put, List.getElem_toArray, List.getElem_cons_succ, List.getElem_cons_zero, List.setIfInBounds_toArray, List.set_cons_zero, List.set_cons_succ]))
        (refine q_skip (by rfl) ?_; (try simp only [Act.put, List.getElem_toArray, List.getElem_cons_succ, List.getElem_cons_zero, List.setIfInBounds_toArray, List.set_cons_zero, List.set_cons_succ]))
        (refine q_val (v := ?_) (by rfl) ?_ ?_; rotate_left; (· (intro w hC; go_simp; try with_reducible rfl)); (try simp only [Act.put, List.getElem_toArray, List.getElem_cons_succ, List.getElem_cons_zero, List.setIfInBounds_toArray, List.set_cons_zero, List.set_cons_succ]))
        refine wpQuiet_nil ?_
        intro w' hC
        go_wp2
        go_roundw
        case rel => exact ⟨k + 1, by omega, by omega, by go_num, by rw [STEP.out], hC.own, hC.below⟩
        case measure => simp [intOf]; omega
      · have hN : decide (bestN l k < 0) = false := by simp; omega
        obtain ⟨b, hbb⟩ := Int.eq_ofNat_of_zero_le (show 0 ≤ bestN l k by omega)
        have hbk := (bestN_lt l k).2
        obtain ⟨z, hz⟩ : ∃ z, z = l[b]! := ⟨_, rfl⟩
        have L := Lib.hid (show bestN l (k + 1) = if lessV y z = true then (k : Int) else (b : Int) by rw [bestN_succ, hbb, ← HY.out, hz]; simp [show ¬ ((b : Int) < 0) by omega])
        have HZZ := Lib.hid hz
        clear hz
        have hb1 : (0 : Int) ≤ (b : Int) ∧ (b : Int) < (len : Int) := by omega
        have hbl : b < len := by omega
        rw [hbb] at hN ⊢
        clear hneg hbb hbk
        have AY : ∀ {W : World}, VbC w v3 (k + 1) (vcL (l.take (k + 1))) W → XAt W (x.add (k * 4)) y := fun hC => by rw [HY.out]; exact H.out.at hC.below k hlt
        have AZ : ∀ {W : World}, VbC w v3 (k + 1) (vcL (l.take (k + 1))) W → XAt W (x.add (b * 4)) z := fun hC => by rw [HZZ.out]; exact H.out.at hC.below b hbl
        refine wp_region_quiet (C := VbC w v3 (k + 1) (vcL (l.take (k + 1)))) (by kernel_rfl) (by kernel_rfl) hC0.drew ?_
        (refine q_val (v := ?_) (by rfl) ?_ ?_; rotate_left; (· (intro w hC; go_simp; try with_reducible rfl)); (try simp only [Act.put, List.getElem_toArray, List.getElem_cons_succ, List.getElem_cons_zero, List.setIfInBounds_toArray, List.set_cons_zero, List.set_cons_succ]))
        (refine q_val (v := ?_) (by rfl) ?_ ?_; rotate_left; (· (intro w hC; go_simp; try with_reducible rfl)); (try simp only [Act.put, List.getElem_toArray, List.getElem_cons_succ, List.getElem_cons_zero, List.setIfInBounds_toArray, List.set_cons_zero, List.set_cons_succ]))
        (refine q_val (v := ?_) (by rfl) ?_ ?_; rotate_left; (· (intro w hC; go_simp; try with_reducible rfl)); (try simp only [Act.put, List.getElem_toArray, List.getElem_cons_succ, List.getElem_cons_zero, List.setIfInBounds_toArray, List.set_cons_zero, List.set_cons_succ]))
        (refine q_val (v := ?_) (by rfl) ?_ ?_; rotate_left; (· (intro w hC; go_simp; try with_reducible rfl)); (try simp only [Act.put, List.getElem_toArray, List.getElem_cons_succ, List.getElem_cons_zero, List.setIfInBounds_toArray, List.set_cons_zero, List.set_cons_succ]))
        (refine q_val (v := ?_) (by rfl) ?_ ?_; rotate_left; (· (intro w hC; go_simp; try with_reducible rfl)); (try simp only [Act.put, List.getElem_toArray, List.getElem_cons_succ, List.getElem_cons_zero, List.setIfInBounds_toArray, List.set_cons_zero, List.set_cons_succ]))
        (refine q_val (v := ?_) (by rfl) ?_ ?_; rotate_left; (· (intro w hC; go_simp; try with_reducible rfl)); (try simp only [Act.put, List.getElem_toArray, List.getElem_cons_succ, List.getElem_cons_zero, List.setIfInBounds_toArray, List.set_cons_zero, List.set_cons_succ]))
        (refine q_val (v := ?_) (by rfl) ?_ ?_; rotate_left; (· (intro w hC; have hq := (AY hC).all; go_simp; try with_reducible rfl)); (try simp only [Act.put, List.getElem_toArray, List.getElem_cons_succ, List.getElem_cons_zero, List.setIfInBounds_toArray, List.set_cons_zero, List.set_cons_succ]))
        (refine q_val (v := ?_) (by rfl) ?_ ?_; rotate_left; (· (intro w hC; go_simp; try with_reducible rfl)); (try simp only [Act.put, List.getElem_toArray, List.getElem_cons_succ, List.getElem_cons_zero, List.setIfInBounds_toArray, List.set_cons_zero, List.set_cons_succ]))
        (refine q_val (v := ?_) (by rfl) ?_ ?_; rotate_left; (· (intro w hC; go_simp; try with_reducible rfl)); (try simp only [Act.put, List.getElem_toArray, List.getElem_cons_succ, List.getElem_cons_zero, List.setIfInBounds_toArray, List.set_cons_zero, List.set_cons_succ]))
        (refine q_val (v := ?_) (by rfl) ?_ ?_; rotate_left; (· (intro w hC; go_simp; try with_reducible rfl)); (try simp only [Act.put, List.getElem_toArray, List.getElem_cons_succ, List.getElem_cons_zero, List.setIfInBounds_toArray, List.set_cons_zero, List.set_cons_succ]))
        (refine q_val (v := ?_) (by rfl) ?_ ?_; rotate_left; (· (intro w hC; have hq := (AZ hC).all; go_simp; try with_reducible rfl)); (try simp only [Act.put, List.getElem_toArray, List.getElem_cons_succ, List.getElem_cons_zero, List.setIfInBounds_toArray, List.set_cons_zero, List.set_cons_succ]))
        (refine q_call (v := .bool (lessV y z)) 22 #[vcV y, vcV z] (by rfl) (fun w hC => by go_simp) (fun w hC => calls_in (rbetter_any y z w) (fun w' hb => hC.next hb)) ?_; (try simp only [Act.put, List.getElem_toArray, List.getElem_cons_succ, List.getElem_cons_zero, List.setIfInBounds_toArray, List.set_cons_zero, List.set_cons_succ]))
        (refine q_val (v := ?_) (by rfl) ?_ ?_; rotate_left; (· (intro w hC; go_simp; try with_reducible rfl)); (try simp only [Act.put, List.getElem_toArray, List.getElem_cons_succ, List.getElem_cons_zero, List.setIfInBounds_toArray, List.set_cons_zero, List.set_cons_succ]))
        refine wpQuiet_nil ?_
        intro w' hC
        cases hl : lessV y z with
        | true =>
          have STEP := Lib.hid L.out
          rw [if_pos hl] at STEP
          clear hl L
          go_wp2
          go_roundw
          case rel => exact ⟨k + 1, by omega, by omega, by go_num, by rw [STEP.out], hC.own, hC.below⟩
          case measure => simp [intOf]; omega
        | false =>
          have STEP := Lib.hid L.out
          rw [if_neg (by rw [hl]; simp)] at STEP
          clear hl L
          go_wp2
          go_roundw
          case rel => exact ⟨k + 1, by omega, by omega, by go_num, by rw [STEP.out], hC.own, hC.below⟩
          case measure => simp [intOf]; omega
    · have hkl : (l.take k).length = k := by simp; omega
      have hbest : bestN (l.take k) (l.take k).length = bestN l k := by rw [hkl]; exact bestN_take l k (by omega) k (Nat.le_refl _)
      have HB := Lib.hid hbest
      have hown : wr.ownsRow w.heap.size 60 4 u3 (l.take k).length (vcL (l.take k)) := by rw [hkl]; exact ho
      have HO := Lib.hid hown
      have h12 : (l.take k).length ≤ 12 := by rw [hkl]; exact hk12
      clear ho hown hbest hkl hll
      by_cases hkl : k < len
      · have h12' : ¬ (k : Int) < 12 := by omega
        go_wp2_with (go_at_call 25; refine (best_own w.heap.size u3 (l.take k) _ HO.out h12).mono ?_; rintro e w4 ⟨rfl, hb4⟩; rw [HB.out])
        go_ret
        exact ⟨rfl, hb.trans (hb4.mono hb.size)⟩
      · go_wp2_with (go_at_call 25; refine (best_own w.heap.size u3 (l.take k) _ HO.out h12).mono ?_; rintro e w4 ⟨rfl, hb4⟩; rw [HB.out])
        go_ret
        exact ⟨rfl, hb.trans (hb4.mono hb.size)⟩
end Go.Proofs.Ytkohnleeiajiiaa
