/- What wire.Bytes makes of a number. -/
import Derived.Test.YteeinlbhcdpnnaaWire
import Derived.Test.YteeinlbhcdpnnaaHas
namespace Go.Proofs.Yteeinlbhcdpnnaa
open Go.RowKit
theorem Try.info5 : (Try.prog.info? 5).map (fun i => (i.zero, i.size, i.bytes)) = some (some (.int .u8 0), 1, 1) := by kernel_rfl

theorem bytes_val (x k : Nat) : Value.int .u8 ((x : Int) / 2 ^ (8 * k) % 256) = bv (UInt8.ofNat (x / 256 ^ k % 256)) := by
  have e : (UInt8.ofNat (x / 256 ^ k % 256)).toNat = x / 256 ^ k % 256 := by simp
  unfold bv
  rw [e, show (256 : Nat) = 2 ^ 8 by decide, ← Nat.pow_mul]
  simp

end Go.Proofs.Yteeinlbhcdpnnaa
