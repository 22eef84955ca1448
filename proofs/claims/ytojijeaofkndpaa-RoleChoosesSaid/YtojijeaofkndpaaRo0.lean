/- Ports and ways as layer 15 sees them; who is chosen. -/
import Derived.Test.YtojijeaofkndpaaKb3
import Derived.Test.YtojijeaofkndpaaLess
import Derived.Test.YtojijeaofkndpaaCst
namespace Go.Proofs.Ytojijeaofkndpaa
open Go.RowKit
attribute [local irreducible] wpQuiet wpList
set_option linter.unusedSimpArgs false
set_option linter.unusedVariables false

structure Rp where
  on : Bool
  hd : Bool
  v : Vc
  c : Nat
  i : Nat
def Rp.ok (x : Rp) : Prop := x.v.ok ∧ x.c < 4294967296 ∧ x.i < 65536
def rpA (x : Rp) : Array Value := #[.bool x.on, .bool x.hd, .int .u64 (x.v.r : Nat), .int .u32 (x.v.c : Nat), .int .u64 (x.v.b : Nat), .int .u16 (x.v.p : Nat), .int .u32 (x.c : Nat), .int .u16 (x.i : Nat)]
def lqA (x : Rp) : Array Value := #[.bool x.on, .bool x.hd, .int .u64 (x.v.r : Nat), .int .u64 (x.v.b : Nat), .int .u32 (x.v.c : Nat), .int .u32 (x.c : Nat), .int .u16 (x.v.p : Nat), .int .u16 (x.i : Nat)]
def rpC (x : Rp) : List Value := (rpA x).toList
abbrev nil8 : Array Value := #[.bool false, .bool false, .int .u64 0, .int .u32 0, .int .u64 0, .int .u16 0, .int .u32 0, .int .u16 0]
abbrev nilW : Array Value := #[.int .u64 0, .int .u32 0, .int .u64 0, .int .u16 0, .int .u16 0, .int .i64 0]
abbrev nilCh : Array Value := #[.int .u64 0, .int .u32 0, .int .i64 0, .slice none 0 0, .slice none 0 0]
/-- A way: its vector, its port's ID and number. -/
def wyA (v : Vc) (i : Nat) (k : Int) : Array Value := #[.int .u64 (v.r : Nat), .int .u32 (v.c : Nat), .int .u64 (v.b : Nat), .int .u16 (v.p : Nat), .int .u16 (i : Nat), .int .i64 k]
theorem size47 : (Try.prog.info? 47).map (·.size) = some 8 := by kernel_rfl
theorem size77 : (Try.prog.info? 77).map (·.size) = some 8 := by kernel_rfl
theorem size81 : (Try.prog.info? 81).map (·.size) = some 8 := by kernel_rfl
theorem size83 : (Try.prog.info? 83).map (·.size) = some 6 := by kernel_rfl
theorem size34c : (Try.prog.info? 34).map (·.size) = some 5 := by kernel_rfl
theorem size38 : (Try.prog.info? 38).map (·.size) = some 5 := by kernel_rfl
set_option maxRecDepth 100000 in
theorem z47 : ∀ W : World, (zeroValue 47).run Try.prog W = .ok (.agg nil8) W := fun W => Try.zeroValue47 W
set_option maxRecDepth 100000 in
theorem z77 : ∀ W : World, (zeroValue 77).run Try.prog W = .ok (.agg nil8) W := fun W => Try.zeroValue77 W
set_option maxRecDepth 100000 in
theorem z83 : ∀ W : World, (zeroValue 83).run Try.prog W = .ok (.agg nilW) W := fun W => Try.zeroValue83 W
set_option maxRecDepth 100000 in
theorem z34c : ∀ W : World, (zeroValue 34).run Try.prog W = .ok (.agg nilCh) W := fun W => Try.zeroValue34 W
set_option maxRecDepth 100000 in
theorem z38 : ∀ W : World, (zeroValue 38).run Try.prog W = .ok (.agg nilCh) W := fun W => Try.zeroValue38 W
set_option maxRecDepth 100000 in
theorem z42 : ∀ W : World, (zeroValue 42).run Try.prog W = .ok (.agg nil4) W := fun W => Try.zeroValue42 W

def wayB (self : Nat) (x : Rp) : Bool := x.on && (x.hd && decide (x.v.b ≠ self))
def aheadB (x y : Rp) : Bool := if eqV (plusV x.v x.c) (plusV y.v y.c) then decide (x.i < y.i) else lessV (plusV x.v x.c) (plusV y.v y.c)
/-- The role of a port that is no root port. -/
def roleN (self : Nat) (t : Vc) (x : Rp) : Int := if x.on then (if x.hd && lessV x.v t then (if x.v.b = self then 2 else 1) else 4) else 0
/-- The way through it. -/
def wayA (self : Nat) (x : Rp) (k : Int) : Array Value := if wayB self x then wyA (plusV x.v x.c) x.i k else nilW
end Go.Proofs.Ytojijeaofkndpaa
