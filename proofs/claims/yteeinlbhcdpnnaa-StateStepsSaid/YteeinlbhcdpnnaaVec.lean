/- Vectors: what the functions of package vector do with one or two, and the document's own answers. -/
import Derived.Test.YteeinlbhcdpnnaaEls
namespace Go.Proofs.Yteeinlbhcdpnnaa
open Go.RowKit

theorem ret_bool {a b : Bool} (h : a = b) : Ending.returned (.bool a) = .returned (.bool b) := by rw [h]
/-- A vector's numbers. -/
structure Vc where
  r : Nat
  c : Nat
  b : Nat
  p : Nat

def Vc.ok (x : Vc) : Prop := x.r < 18446744073709551616 ∧ x.c < 4294967296 ∧ x.b < 18446744073709551616 ∧ x.p < 65536

/-- .. as cells, and by value. -/
abbrev vcA (x : Vc) : Array Value := #[.int .u64 (x.r : Nat), .int .u32 (x.c : Nat), .int .u64 (x.b : Nat), .int .u16 (x.p : Nat)]
abbrev vcV (x : Vc) : Value := .agg (vcA x)
abbrev nil4 : Array Value := #[.int .u64 0, .int .u32 0, .int .u64 0, .int .u16 0]

/-- Is it better? -/
def lessV (x y : Vc) : Bool := if x.r = y.r then (if x.c = y.c then (if x.b = y.b then decide (x.p < y.p) else decide (x.b < y.b)) else decide (x.c < y.c)) else decide (x.r < y.r)
/-- One whose cost is more. -/
def plusV (x : Vc) (k : Nat) : Vc := { x with c := if 4294967295 < x.c + k then 4294967295 else x.c + k }

theorem plusV_ok {x : Vc} (h : x.ok) (k : Nat) : (plusV x k).ok := by
  obtain ⟨h1, h2, h3, h4⟩ := h
  refine ⟨h1, ?_, h3, h4⟩
  show (if 4294967295 < x.c + k then 4294967295 else x.c + k) < _
  split <;> omega

theorem sizeV : (Try.prog.info? 35).map (·.size) = some 4 := by kernel_rfl
theorem vcA_one (x : Vc) : (vcA x).all (·.oneCell') = true := by simp [Value.oneCell']

theorem plusV_yes (x : Vc) (k : Nat) (h : 4294967295 < x.c + k) : plusV x k = { x with c := 4294967295 } := by unfold plusV; rw [if_pos h]
theorem plusV_no (x : Vc) (k : Nat) (h : ¬ 4294967295 < x.c + k) : plusV x k = { x with c := x.c + k } := by unfold plusV; rw [if_neg h]

theorem two_new (w : World) (A : Array Value) (t : TypeId) : Blk ((w.alloc (Obj.cells A t)).alloc (Obj.cells A t)) (w.heap.size + 1) A t := by
  have := Blk.new (w.alloc (Obj.cells A t)) A t
  rwa [show (w.alloc (Obj.cells A t)).heap.size = w.heap.size + 1 by simp] at this

end Go.Proofs.Yteeinlbhcdpnnaa
