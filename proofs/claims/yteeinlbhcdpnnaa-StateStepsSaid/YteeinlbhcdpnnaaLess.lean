/- Which one of two vectors is better: plain arithmetic. -/
import Derived.Test.YteeinlbhcdpnnaaVEq
namespace Go.Proofs.Yteeinlbhcdpnnaa

theorem less_iff (x y : Vc) : lessV x y = true ↔ x.r < y.r ∨ (x.r = y.r ∧ (x.c < y.c ∨ (x.c = y.c ∧ (x.b < y.b ∨ (x.b = y.b ∧ x.p < y.p))))) := by
  unfold lessV
  by_cases h0 : x.r = y.r
  · rw [if_pos h0]
    by_cases h1 : x.c = y.c
    · rw [if_pos h1]
      by_cases h2 : x.b = y.b
      · rw [if_pos h2]; simp [h0, h1, h2]
      · rw [if_neg h2]; simp; omega
    · rw [if_neg h1]; simp; omega
  · rw [if_neg h0]; simp; omega

theorem less_no (x y : Vc) : lessV x y = false ↔ ¬ (x.r < y.r ∨ (x.r = y.r ∧ (x.c < y.c ∨ (x.c = y.c ∧ (x.b < y.b ∨ (x.b = y.b ∧ x.p < y.p)))))) := by
  rw [← less_iff]; simp

theorem eqV_iff (x y : Vc) : eqV x y = true ↔ x.r = y.r ∧ x.c = y.c ∧ x.b = y.b ∧ x.p = y.p := by unfold eqV; simp [and_assoc]
theorem eqV_no (x y : Vc) : eqV x y = false ↔ ¬ (x.r = y.r ∧ x.c = y.c ∧ x.b = y.b ∧ x.p = y.p) := by rw [← eqV_iff]; simp

/-- Just one is better, or they are the same. -/
theorem less_tri (x y : Vc) : (lessV x y = true ∧ lessV y x = false ∧ eqV x y = false) ∨ (lessV x y = false ∧ lessV y x = true ∧ eqV x y = false) ∨ (lessV x y = false ∧ lessV y x = false ∧ eqV x y = true) := by
  rw [less_iff, less_iff, less_no, less_no, eqV_iff, eqV_no]
  omega

theorem less_trans (x y z : Vc) (h : lessV x y = true) (k : lessV y z = true) : lessV x z = true := by
  rw [less_iff] at *
  omega

theorem less_plus (x y : Vc) (k : Nat) (hx : x.c + k ≤ 4294967295) (hy : y.c + k ≤ 4294967295) : lessV (plusV x k) (plusV y k) = lessV x y := by
  rw [Bool.eq_iff_iff, less_iff, less_iff, plusV_no x k (by omega), plusV_no y k (by omega)]
  show (x.r < y.r ∨ (x.r = y.r ∧ (x.c + k < y.c + k ∨ (x.c + k = y.c + k ∧ (x.b < y.b ∨ (x.b = y.b ∧ x.p < y.p)))))) ↔ _
  omega

theorem less_more (x : Vc) (h : x.c < 4294967296) : lessV (plusV x 1) x = false := by
  rw [less_no]
  by_cases c : 4294967295 < x.c + 1
  · rw [plusV_yes x 1 c]
    show ¬ (x.r < x.r ∨ (x.r = x.r ∧ (4294967295 < x.c ∨ (4294967295 = x.c ∧ (x.b < x.b ∨ (x.b = x.b ∧ x.p < x.p))))))
    omega
  · rw [plusV_no x 1 c]
    show ¬ (x.r < x.r ∨ (x.r = x.r ∧ (x.c + 1 < x.c ∨ (x.c + 1 = x.c ∧ (x.b < x.b ∨ (x.b = x.b ∧ x.p < x.p))))))
    omega
end Go.Proofs.Yteeinlbhcdpnnaa
