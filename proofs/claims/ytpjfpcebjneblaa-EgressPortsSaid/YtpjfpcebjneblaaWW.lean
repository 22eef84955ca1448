/- With and Without. -/
import Derived.Test.YtpjfpcebjneblaaAll
namespace Go.Proofs.Ytpjfpcebjneblaa
open Go.RowKit
set_option linter.unusedSimpArgs false

def withS (s : Nat) (p : Int) : Nat := if isPort p = true then s ||| 2 ^ (p - 1).toNat else s
def withoutS (s : Nat) (p : Int) : Nat := if isPort p = true then s &&& (4294967295 - 2 ^ (p - 1).toNat) else s

theorem hasB_bit (s k : Nat) (h : k < 16) : hasB s ((k : Int) + 1) = s.testBit k := by rw [hasB_at s k h, Nat.testBit_eq_decide_div_mod_eq]
theorem withS_lt (s : Nat) (p : Int) (hs : s < 4294967296) : withS s p < 4294967296 := by
  unfold withS
  rcases port_cases p with h | ⟨k, hk, rfl⟩
  · rw [h]; exact hs
  · rw [isPort_at k hk, if_pos rfl, show ((k : Int) + 1 - 1).toNat = k by omega]
    have := pow_k k hk
    exact Nat.or_lt_two_pow (n := 32) hs (by omega)
theorem withoutS_lt (s : Nat) (p : Int) (hs : s < 4294967296) : withoutS s p < 4294967296 := by
  unfold withoutS
  split
  · exact Nat.lt_of_le_of_lt Nat.and_le_left hs
  · exact hs

theorem has_withS (s : Nat) (p q : Int) : hasB (withS s p) q = (hasB s q || (decide (q = p) && isPort p)) := by
  rcases port_cases p with h | ⟨k, hk, rfl⟩
  · unfold withS
    rw [h]
    simp
  · unfold withS
    rw [isPort_at k hk, if_pos rfl, show ((k : Int) + 1 - 1).toNat = k by omega, Bool.and_true]
    rcases port_cases q with h | ⟨j, hj, rfl⟩
    · rw [hasB_no h, hasB_no h]
      have : ¬ q = (k : Int) + 1 := fun e => by rw [e, isPort_at k hk] at h; cases h
      simp [this]
    · rw [hasB_bit _ j hj, hasB_bit _ j hj, Nat.testBit_or, Nat.testBit_two_pow]
      congr 1
      rw [decide_eq_decide]
      omega
theorem testBit_full (k j : Nat) (hk : k < 16) (hj : j < 16) : (4294967295 - 2 ^ k).testBit j = decide (j ≠ k) := by
  have h1 : 2 ^ k < 2 ^ 32 := Nat.pow_lt_pow_right (by omega) (by omega)
  rw [show 4294967295 - 2 ^ k = 2 ^ 32 - (2 ^ k + 1) by omega, Nat.testBit_two_pow_sub_succ h1, Nat.testBit_two_pow]
  simp only [decide_not]
  rw [decide_eq_true (show j < 32 by omega), Bool.true_and]
  congr 1
  rw [decide_eq_decide]
  omega
theorem has_withoutS (s : Nat) (p q : Int) : hasB (withoutS s p) q = (hasB s q && decide (q ≠ p)) := by
  rcases port_cases p with h | ⟨k, hk, rfl⟩
  · unfold withoutS
    rw [h]
    rcases port_cases q with hq | ⟨j, hj, rfl⟩
    · simp [hasB_no hq]
    · have : ((j : Int) + 1) ≠ p := fun e => by rw [← e, isPort_at j hj] at h; cases h
      simp [this]
  · unfold withoutS
    rw [isPort_at k hk, if_pos rfl, show ((k : Int) + 1 - 1).toNat = k by omega]
    rcases port_cases q with h | ⟨j, hj, rfl⟩
    · rw [hasB_no h, hasB_no h]
      rfl
    · rw [hasB_bit _ j hj, hasB_bit _ j hj, Nat.testBit_and, testBit_full k j hk hj]
      congr 1
      rw [decide_eq_decide]
      omega

theorem with_or (s : Nat) (p : Int) : s ||| bitN p = withS s p := by
  unfold withS bitN
  split
  · rfl
  · exact Nat.or_zero s
theorem pwith_any (s : Nat) (p : Int) (w : World) (hs : s < 4294967296) : Calls Try.prog 48 #[.int .u32 (s : Nat), .int .i64 p] w fun e w' => e = .returned (.int .u32 (withS s p : Nat)) ∧ w = w' := by
  have R := Lib.hid (show bits .or .u32 (s : Int) (bitN p : Nat) = (withS s p : Nat) by rw [u32_or_nat s _ hs (by have := bitN_lt p; omega), with_or])
  go_enter Try.func48, Try.ntmps48
  go_wp2_with (go_at_call 31; refine (bit_any _ _).mono ?_; rintro e w' ⟨rfl, rfl⟩)
  go_ret
  exact ⟨ret_num R.out, rfl⟩

theorem without_andNot (s : Nat) (p : Int) (hs : s < 4294967296) : s &&& (4294967295 - bitN p) = withoutS s p := by
  unfold withoutS bitN
  split
  · rfl
  · rw [Nat.sub_zero, show (4294967295 : Nat) = 2 ^ 32 - 1 from rfl, Nat.and_two_pow_sub_one_eq_mod, Nat.mod_eq_of_lt hs]
theorem without_any (s : Nat) (p : Int) (w : World) (hs : s < 4294967296) : Calls Try.prog 41 #[.int .u32 (s : Nat), .int .i64 p] w fun e w' => e = .returned (.int .u32 (withoutS s p : Nat)) ∧ w = w' := by
  have R := Lib.hid (show bits .andNot .u32 (s : Int) (bitN p : Nat) = (withoutS s p : Nat) by rw [u32_andNot_nat s _ hs (by have := bitN_lt p; omega), without_andNot s p hs])
  go_enter Try.func41, Try.ntmps41
  go_wp2_with (go_at_call 31; refine (bit_any _ _).mono ?_; rintro e w' ⟨rfl, rfl⟩)
  go_ret
  exact ⟨ret_num R.out, rfl⟩
end Go.Proofs.Ytpjfpcebjneblaa
