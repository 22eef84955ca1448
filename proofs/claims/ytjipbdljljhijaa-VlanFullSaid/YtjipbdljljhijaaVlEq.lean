/- A VLAN is the same as itself. -/
import Derived.Test.YtjipbdljljhijaaRef8
import Derived.Shelf.Abstract
import Derived.Laws.StructEq
namespace Go.Proofs.Ytjipbdljljhijaa
open Go.RowKit

set_option maxRecDepth 100000 in
set_option maxHeartbeats 1000000 in
theorem equal_r53 (x : Vl) (w : World) : (Op.equalIn 10000 53 (.agg #[.int .u16 (x.vid : Nat), .int .u32 (x.mem : Nat), .int .u32 (x.unt : Nat)]) (.agg #[.int .u16 (x.vid : Nat), .int .u32 (x.mem : Nat), .int .u32 (x.unt : Nat)])).run Try.prog w = .ok true w := by
  have hS : Try.prog.underlying 53 = some (.struct (Try.prog.fieldsOf 53)) := by kernel_rfl
  have hp : Try.prog.stoodInHeld 53 = false := by kernel_rfl
  rw [show (10000 : Nat) = 9999 + 1 from rfl, run_equalIn_agg w 9999 53 _ _ hS hp]
  simp only [Program.fieldsOf, Try.underlying53]
  have u22 := Try.underlying22
  have u40 := Try.underlying40
  go_simp
  try simp

set_option maxRecDepth 100000 in
set_option maxHeartbeats 1000000 in
theorem equal_p48 (a b c : Int) (w : World) : (Op.equalIn 10000 48 (.agg #[.int .u16 a, .int .u32 b, .int .u32 c]) (.agg #[.int .u16 a, .int .u32 b, .int .u32 c])).run Try.prog w = .ok true w := by
  have hS : Try.prog.underlying 48 = some (.struct (Try.prog.fieldsOf 48)) := by kernel_rfl
  have hp : Try.prog.stoodInHeld 48 = false := by kernel_rfl
  rw [show (10000 : Nat) = 9999 + 1 from rfl, run_equalIn_agg w 9999 48 _ _ hS hp]
  simp only [Program.fieldsOf, Try.underlying48]
  have u24 := Try.underlying24
  have u40 := Try.underlying40
  go_simp
  try simp
end Go.Proofs.Ytjipbdljljhijaa
