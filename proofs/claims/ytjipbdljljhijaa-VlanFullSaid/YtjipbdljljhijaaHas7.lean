/- Is a port in a set: the law's own question. -/
import Derived.Test.YtjipbdljljhijaaProg
import Derived.WalkKit
import Derived.Lib.Hide
import Derived.Deep.DeepCutAuto
namespace Go.Proofs.Ytjipbdljljhijaa
open Go.RowKit
set_option linter.unusedSimpArgs false

/-- Is a port in a set? -/
def hasB (s : Nat) (p : Int) : Bool := decide (1 ≤ p) && decide (p ≤ 16) && decide (s / 2 ^ (p - 1).toNat % 2 = 1)
theorem hasB_low {s : Nat} {p : Int} (h : p < 1) : hasB s p = false := by
  unfold hasB
  rw [decide_eq_false (by omega)]
  rfl
theorem hasB_high {s : Nat} {p : Int} (h : 16 < p) : hasB s p = false := by
  unfold hasB
  rw [decide_eq_false (show ¬ p ≤ 16 by omega), Bool.and_false, Bool.false_and]
theorem hasB_at (s k : Nat) (h : k < 16) : hasB s ((k : Int) + 1) = decide (s / 2 ^ k % 2 = 1) := by
  unfold hasB
  rw [decide_eq_true (by omega), decide_eq_true (by omega), show ((k : Int) + 1 - 1).toNat = k by omega]
  rfl

theorem ret_bool {a b : Bool} (h : a = b) : Ending.returned (.bool a) = .returned (.bool b) := by rw [h]

set_option maxHeartbeats 2000000 in
theorem lhas_any (s : Nat) (p : Int) (w : World) (hs : s < 4294967296) : Calls Try.prog 9 #[.int .u32 (s : Nat), .int .i64 p] w fun e w' => e = .returned (.bool (hasB s p)) ∧ w = w' := by
  by_cases h1 : p < 1
  · have R := Lib.hid (hasB_low (s := s) h1)
    have e1 : decide (p < 1) = true := by simpa using h1
    clear h1
    go_enter Try.func9, Try.ntmps9
    go_wp2
    go_ret
    exact ⟨ret_bool R.out.symm, rfl⟩
  have e1 : decide (p < 1) = false := by simpa using h1
  by_cases h2 : 16 < p
  · have R := Lib.hid (hasB_high (s := s) h2)
    have e2 : decide ((16 : Int) < p) = true := by simpa using h2
    clear h1 h2
    go_enter Try.func9, Try.ntmps9
    go_wp2
    go_ret
    exact ⟨ret_bool R.out.symm, rfl⟩
  have e2 : decide ((16 : Int) < p) = false := by simp; omega
  obtain ⟨k, rfl⟩ : ∃ k : Nat, p = (k : Int) + 1 := ⟨(p - 1).toNat, by omega⟩
  have hk : k < 16 := by omega
  have R := Lib.hid (hasB_at s k hk)
  clear h1 h2
  go_enter Try.func9, Try.ntmps9
  go_wp2
  clear e1 e2
  go_loop [0, 5] (fun t i => ∃ j u : Nat, j ≤ k ∧ i = .int .i64 ((j : Int) + 1) ∧ t = .int .u32 (u : Nat) ∧ u = s / 2 ^ j ∧ u < 4294967296) (fun _ i => (k + 1) - (intOf i).toNat)
  case atStart => exact ⟨0, s, by omega, rfl, rfl, by simp, hs⟩
  case round =>
    obtain ⟨j, u, hj, rfl, rfl, hu, hul⟩ := hrel
    have HU := Lib.hid hu
    clear hu
    by_cases hlt : j < k
    · have hlt' : (j : Int) + 1 < (k : Int) + 1 := by omega
      go_wp2
      go_round
      case rel => exact ⟨j + 1, u / 2, by omega, by go_num, by go_num, by rw [HU.out, Nat.div_div_eq_div_mul, Nat.pow_succ], by omega⟩
      case measure => simp [intOf]; omega
    · have hge : ¬ (j : Int) + 1 < (k : Int) + 1 := by omega
      have R2 := Lib.hid (show ((u : Int) % 2 == 1) = hasB s ((k : Int) + 1) by
        rw [R.out, show k = j by omega, ← HU.out, Bool.eq_iff_iff, beq_iff_eq, decide_eq_true_eq]
        omega)
      go_wp2
      go_ret
      exact ⟨ret_bool R2.out, rfl⟩
end Go.Proofs.Ytjipbdljljhijaa
