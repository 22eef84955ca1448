/- The arguments of StateAssumes. -/
import Derived.Test.YteeinlbhcdpnnaaLq0
namespace Go.Proofs.Yteeinlbhcdpnnaa
open Go.RowKit
attribute [local irreducible] wpQuiet wpList
set_option linter.unusedSimpArgs false
set_option linter.unusedVariables false

def askA (y : Lq) (rl t0 t1 t2 : Nat) (dl : Int) : Array Value := #[.bool y.f0, .bool y.f1, .bool y.f2, .bool y.f3, .bool y.f4, .int .u8 (y.n0 : Nat), .int .u8 (y.n1 : Nat), .int .u8 (y.n2 : Nat), .int .u8 (y.v0 : Nat), .int .u8 (y.v1 : Nat), .int .u8 (y.v2 : Nat), .int .i32 y.k0, .int .i32 y.k1, .int .i32 y.k2, .int .i32 y.k3, .int .u8 (rl : Nat), .int .u8 (t0 : Nat), .int .u8 (t1 : Nat), .int .u8 (t2 : Nat), .int .i64 dl]
end Go.Proofs.Yteeinlbhcdpnnaa
