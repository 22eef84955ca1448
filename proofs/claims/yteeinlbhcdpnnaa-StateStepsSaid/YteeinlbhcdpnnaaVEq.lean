/- Two vectors are the same just where all four numbers are. -/
import Derived.Test.YteeinlbhcdpnnaaVec
import Derived.Shelf.Abstract
import Derived.Laws.StructEq
namespace Go.Proofs.Yteeinlbhcdpnnaa
open Go.RowKit

def eqV (x y : Vc) : Bool := decide (x.r = y.r) && decide (x.c = y.c) && decide (x.b = y.b) && decide (x.p = y.p)

theorem eqV_self (x : Vc) : eqV x x = true := by simp [eqV]

set_option maxRecDepth 100000 in
set_option maxHeartbeats 1000000 in
theorem equal_vc (x y : Vc) (w : World) : (Op.equalIn 10000 35 (vcV x) (vcV y)).run Try.prog w = .ok (eqV x y) w := by
  have hS : Try.prog.underlying 35 = some (.struct (Try.prog.fieldsOf 35)) := by kernel_rfl
  have hp : Try.prog.stoodInHeld 35 = false := by kernel_rfl
  rw [show (10000 : Nat) = 9999 + 1 from rfl, run_equalIn_agg w 9999 35 _ _ hS hp]
  simp only [Program.fieldsOf, Try.underlying35]
  have u22 := Try.underlying30
  have u23 := Try.underlying32
  have u24 := Try.underlying33
  have u29 := Try.underlying31
  go_simp
  simp only [Int.natCast_inj]
  unfold eqV
  by_cases h0 : x.r = y.r
  · by_cases h1 : x.c = y.c
    · by_cases h2 : x.b = y.b
      · by_cases h3 : x.p = y.p <;> simp [h0, h1, h2, h3]
      · simp [h0, h1, h2]
    · simp [h0, h1]
  · simp [h0]
end Go.Proofs.Yteeinlbhcdpnnaa
