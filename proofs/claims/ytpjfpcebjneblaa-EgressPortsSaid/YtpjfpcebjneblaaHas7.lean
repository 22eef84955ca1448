/- Is a port in a set: the law's own question. -/
import Derived.Test.YtpjfpcebjneblaaProg
import Derived.WalkKit
import Derived.Lib.Hide
import Derived.Deep.DeepCutAuto
namespace Go.Proofs.Ytpjfpcebjneblaa
open Go.RowKit
set_option linter.unusedSimpArgs false

/-- Is a port in a set? -/
def hasB (s : Nat) (p : Int) : Bool := decide (1 ≤ p) && decide (p ≤ 16) && decide (s / 2 ^ (p - 1).toNat % 2 = 1)
theorem hasB_low {s : Nat} {p : Int} (h : p < 1) : hasB s p = false := by
  unfold hasB
  rw [decide_eq_false (by omega)]
  rfl
theorem hasB_high {s : Nat} {p : Int} (h : 16 < p) : hasB s p = false := by
  unfold hasB
  rw [decide_eq_false (show ¬ p ≤ 16 by omega), Bool.and_false, Bool.false_and]
theorem hasB_at (s k : Nat) (h : k < 16) : hasB s ((k : Int) + 1) = decide (s / 2 ^ k % 2 = 1) := by
  unfold hasB
  rw [decide_eq_true (by omega), decide_eq_true (by omega), show ((k : Int) + 1 - 1).toNat = k by omega]
  rfl

theorem ret_b7 {a b : Bool} (h : a = b) : Ending.returned (.bool a) = .returned (.bool b) := by rw [h]

end Go.Proofs.Ytpjfpcebjneblaa
