/- The document's own answer: how an address is shown. -/
import Derived.Test.YtegmhjdddcbanaaStep
namespace Go.Proofs.Ytegmhjdddcbanaa
open Go.RowKit

theorem showT_first2 (m : Nat → Nat) : (showT m 0).map bv ++ [Value.int .u8 (digN (m 0 / 16) : Nat), Value.int .u8 (digN (m 0 % 16) : Nat)] = (showT m 1).map bv := by
  have := showT_first m
  simpa using this

theorem showT_next2 (m : Nat → Nat) (k : Nat) (hk : 0 < k) : (showT m k).map bv ++ [Value.int .u8 58] ++ [Value.int .u8 (digN (m k / 16) : Nat), Value.int .u8 (digN (m k % 16) : Nat)] = (showT m (k + 1)).map bv := by
  have := showT_next m k hk
  simpa using this

set_option maxRecDepth 100000 in
set_option maxHeartbeats 2000000 in
theorem rshow_any (m : Nat → Nat) (w : World) (hm : Six m) : Calls Try.prog 18 #[mac m] w fun e w' => e = .returned (.string ⟨(showT m 6).toArray⟩) ∧ Below w.heap.size w w' := by
  have b0 : Below w.heap.size w w := Below.refl _ _
  have H := Lib.hid hm
  obtain ⟨i0, hi, hz0, hz1, hz2⟩ := info_parts Try.info5'
  have hi1 := Lib.hid hz1
  have hi2 := Lib.hid hz2
  obtain ⟨W, hW⟩ : ∃ W, W = w.alloc (Obj.cells (macA m) 22) := ⟨_, rfl⟩
  have rb : Blk W w.heap.size (macA m) 22 := by rw [hW]; exact Blk.new _ _ _
  have hb1 : Below w.heap.size w W := by rw [hW]; exact b0.alloc (Nat.le_refl _) _
  have hs1 : W.heap.size = w.heap.size + 1 := by rw [hW]; simp
  have hs1' : w.heap.size + 1 ≤ W.heap.size := by omega
  have HW := Lib.hid hW
  clear hz1 hz2 hm hW hs1
  go_enter Try.func18, Try.ntmps18
  go_wp2_with fail
  simp only [macA] at HW
  rw [← HW.out]
  clear HW b0
  generalize hBe : w.heap.size = B at *
  have HB := Lib.hid hBe
  clear hBe
  have hnil := World.ownsRow_nil W (B + 1) 5 1
  go_loopw [3, 4] (fun b i wr => ∃ (k n : Nat), k ≤ 6 ∧ i = .int .i64 (k : Int) ∧ (showT m k).length = n ∧ wr.ownsRow (B + 1) 5 1 b n ((showT m k).map bv) ∧ Below B w wr ∧ B + 1 ≤ wr.heap.size ∧ Blk wr B (macA m) 22) (fun _ i _ => 6 - (intOf i).toNat)
  case atStart => exact ⟨0, 0, by omega, rfl, rfl, hnil, hb1, hs1', rb⟩
  case round =>
    obtain ⟨k, n, hk, rfl, hn, hown, hb, hs, hr⟩ := hrel
    have HN := Lib.hid hn
    have ho := Lib.hid hown
    have HR := Lib.hid hr
    clear hn hown hb1 hs1' rb hnil hr
    by_cases hlt : k < 6
    · have hm := H.out.at k hlt
      have hc := HR.out.cell k
      rw [mac_at m k hlt] at hc
      obtain ⟨d1, hd1⟩ : ∃ d, d = m k / 16 := ⟨_, rfl⟩
      obtain ⟨d2, hd2⟩ : ∃ d, d = m k % 16 := ⟨_, rfl⟩
      have l1 : d1 < 16 := by omega
      have l2 : d2 < 16 := by omega
      have HW1 := Lib.hid (show IntKind.u8.wrap ((m k : Int) / 16) = (d1 : Int) by rw [IntKind.wrap_u8]; omega)
      have HW2 := Lib.hid (show (m k : Int) / 16 = (d1 : Int) by omega)
      have HW3 := Lib.hid (show IntKind.u8.wrap (Int.tmod (m k : Int) 16) = (d2 : Int) by rw [IntKind.wrap_u8, Int.tmod_eq_emod_of_nonneg (by omega)]; omega)
      have HW4 := Lib.hid (show Int.tmod (m k : Int) 16 = (d2 : Int) by rw [Int.tmod_eq_emod_of_nonneg (by omega)]; omega)
      have D1 := Lib.hid hd1
      have D2 := Lib.hid hd2
      clear hd1 hd2
      by_cases c : k = 0
      · subst c
        have hn0 : n = 0 := by have := HN.out; rw [← this]; rfl
        subst hn0
        go_wp2_with fail
        go_region_law (first
          | (refine step_append_own rfl _ _ 64 rfl (B + 1) 5 i0 (.int .u8 0) 1 1 Try.underlying64 hi hz0 hi1.out hi2.out rfl (by omega) u3 0 _ rfl (ho.out.drew.alloc _) ⟨wr.heap.size, 0, none⟩ 2 2 [.int .u8 (digN d1 : Nat), .int .u8 (digN d2 : Nat)] rfl rfl (cell_two_new _ _ _ _) (two_cell _ _ rfl rfl) (by unfold maxLen; omega) (by omega) (by simp; omega) ?_; intro v2 w2 hown2 hgrow2 _)
          | (go_simp; go_at_call 32; (first | rw [HW1.out] | rw [HW2.out] | rw [HW3.out] | rw [HW4.out]); refine (digit_any _ _ (by omega)).mono ?_; rintro e w' ⟨rfl, rfl⟩))
        all_goals
          have g2 := hgrow2.size
          simp at g2
          have hB2 := (hb.alloc (by omega) _).drew.grown hgrow2 (by simp; omega) (fun q hq => Nat.le_trans (Nat.le_succ _) (ho.out.lt q hq).1)
          have hR2 := Lib.hid (((HR.out.alloc _).drew).grown hgrow2 (fun e => by have := (ho.out.lt B e.symm).1; omega))
          have hs2 : B + 1 ≤ w2.heap.size := by omega
          rw [D1.out, D2.out, showT_first2] at hown2
          have ho2 := Lib.hid hown2
          clear hown2 hgrow2 g2
          go_wp2
          go_roundw
          case rel => exact ⟨1, 2, by omega, rfl, by rw [showT_len]; rfl, ho2.out, hB2, hs2, hR2.out⟩
          case measure => simp [intOf]
      · have hk0 : ¬ (k : Int) ≤ 0 := by omega
        have hn17 : n + 3 ≤ 17 := by
          have h := HN.out
          rw [showT_len, if_neg c] at h
          omega
        have hc' : 0 < k := by omega
        clear c
        go_wp2_with (first
          | (at_builtin; refine wpList_append_own _ rfl _ _ 64 rfl (B + 1) 5 i0 (.int .u8 0) 1 1 Try.underlying64 hi hz0 hi1.out hi2.out rfl (by omega) u3 n _ rfl (ho.out.alloc _) ⟨wr.heap.size, 0, none⟩ 1 1 [.int .u8 58] rfl rfl (cell_one_new _ _ _) (one_cell _ rfl) (by unfold maxLen; omega) (by omega) (by simp; omega) ?_; intro v1 w1 hown1 hgrow1 _))
        have g1 := hgrow1.size
        simp at g1
        have hB1 := (hb.alloc (by omega) _).grown hgrow1 (by simp; omega) (fun q hq => Nat.le_trans (Nat.le_succ _) (ho.out.lt q hq).1)
        have hR1 := Lib.hid ((HR.out.alloc _).grown hgrow1 (fun e => by have := (ho.out.lt B e.symm).1; omega))
        have hs1 : B + 1 ≤ w1.heap.size := by omega
        have ho1 := Lib.hid hown1
        have hc1 : w1.cell? ⟨B, k, none⟩ = some (.int .u8 (m k : Nat)) := by rw [hR1.out.cell, mac_at m k hlt]
        clear hown1 hgrow1 g1 hb hc
        go_region_law (first
          | (refine step_append_own rfl _ _ 64 rfl (B + 1) 5 i0 (.int .u8 0) 1 1 Try.underlying64 hi hz0 hi1.out hi2.out rfl (by omega) v1 (n + 1) _ rfl (ho1.out.drew.alloc _) ⟨w1.heap.size, 0, none⟩ 2 2 [.int .u8 (digN d1 : Nat), .int .u8 (digN d2 : Nat)] rfl rfl (cell_two_new _ _ _ _) (two_cell _ _ rfl rfl) (by unfold maxLen; omega) (by omega) (by simp; omega) ?_; intro v2 w2 hown2 hgrow2 _)
          | (go_simp; go_at_call 32; (first | rw [HW1.out] | rw [HW2.out] | rw [HW3.out] | rw [HW4.out]); refine (digit_any _ _ (by omega)).mono ?_; rintro e w' ⟨rfl, rfl⟩))
        all_goals
          have g2 := hgrow2.size
          simp at g2
          have hB2 := (hB1.alloc (by omega) _).drew.grown hgrow2 (by simp; omega) (fun q hq => Nat.le_trans (Nat.le_succ _) (ho1.out.lt q hq).1)
          have hR2 := Lib.hid (((hR1.out.alloc _).drew).grown hgrow2 (fun e => by have := (ho1.out.lt B e.symm).1; omega))
          have hs2 : B + 1 ≤ w2.heap.size := by omega
          rw [D1.out, D2.out, showT_next2 m k hc'] at hown2
          have ho2 := Lib.hid hown2
          clear hown2 hgrow2 g2 hB1 hc1
          go_wp2
          go_roundw
          case rel => exact ⟨k + 1, n + 3, by omega, by go_num, by have h := HN.out; rw [showT_len] at h ⊢; rw [if_neg (by omega)] at h ⊢; omega, ho2.out, hB2, hs2, hR2.out⟩
          case measure => simp [intOf]; omega
    · have hk6 : k = 6 := by omega
      subst hk6
      have hn17 : n = 17 := by have h := HN.out; rw [showT_len] at h; simpa using h.symm
      subst hn17
      obtain ⟨g, cap, hv⟩ : ∃ g cap, u3 = .slice (some ⟨g, 0, none⟩) 17 cap := by
        rcases ho.out.2 with ⟨_, h⟩ | ⟨g, cap, _, h, _⟩
        · omega
        · exact ⟨g, cap, h⟩
      subst hv
      have hh := (Has.of_owns ho.out).text (P := Try.prog) (cap := cap) 64 9 5 Try.underlying64 Try.underlying5 Try.underlying9 17 (by rw [showT_len]; rfl)
      go_wp2
      go_ret
      exact ⟨rfl, by rw [HB.out]; exact hb⟩
end Go.Proofs.Ytegmhjdddcbanaa
