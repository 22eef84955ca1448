/- Frames: what the functions of package frame do that only compute, and the law's own. -/
import Derived.Test.YtkohnleeiajiiaaRdr
import Derived.Test.YtkohnleeiajiiaaTell
namespace Go.Proofs.Ytkohnleeiajiiaa
open Go.RowKit

/-- A frame's cells. -/
abbrev frA (d s : Nat → Nat) (tg : Bool) (pc : Nat) (de : Bool) (vi ty : Nat) (da : ByteArray) : Array Value :=
  #[.int .u8 (d 0 : Nat), .int .u8 (d 1 : Nat), .int .u8 (d 2 : Nat), .int .u8 (d 3 : Nat), .int .u8 (d 4 : Nat), .int .u8 (d 5 : Nat),
    .int .u8 (s 0 : Nat), .int .u8 (s 1 : Nat), .int .u8 (s 2 : Nat), .int .u8 (s 3 : Nat), .int .u8 (s 4 : Nat), .int .u8 (s 5 : Nat),
    .bool tg, .int .u8 (pc : Nat), .bool de, .int .u16 (vi : Nat), .int .u16 (ty : Nat), .string da]

/-- No frame. -/
abbrev nil18 : Array Value :=
  #[.int .u8 0, .int .u8 0, .int .u8 0, .int .u8 0, .int .u8 0, .int .u8 0, .int .u8 0, .int .u8 0, .int .u8 0, .int .u8 0, .int .u8 0, .int .u8 0,
    .bool false, .int .u8 0, .bool false, .int .u16 0, .int .u16 0, .string ⟨#[]⟩]

theorem size52 : (Try.prog.info? 41).map (·.size) = some 18 := by kernel_rfl
theorem frA_one (d s : Nat → Nat) (tg : Bool) (pc : Nat) (de : Bool) (vi ty : Nat) (da : ByteArray) : (frA d s tg pc de vi ty da).all (·.oneCell') = true := by simp [Value.oneCell']

/-- Is all well with a frame but for its length? -/
def okF (tg : Bool) (pc : Nat) (de : Bool) (vi ty : Nat) : Bool := if tg then decide (pc ≤ 7) && decide (vi ≤ 4094) else decide (pc = 0) && !de && decide (vi = 0) && decide (ty ≠ 33024)

end Go.Proofs.Ytkohnleeiajiiaa
