/- StateSteps. -/
import Derived.Test.YteeinlbhcdpnnaaLs5a
import Derived.Test.YteeinlbhcdpnnaaLs5b
namespace Go.Proofs.Yteeinlbhcdpnnaa
open Go.RowKit
attribute [local irreducible] wpQuiet wpList
set_option linter.unusedSimpArgs false
set_option linter.unusedVariables false

theorem steps_5 (y : Lq) (hy : y.ok) (dl : Int) (x : Po) (u : Vc) (hxu : madeQ y = poU x u) (hbd : -2147483648 ≤ x.p19 ∧ x.p19 ≤ 2147483647) (cnd : x.p10 = 4 ∧ ¬ x.p11 = 2 ∧ ¬ 1 < x.p19 ∧ x.p11 = 1) (w : World) : Calls Try.prog 4 #[.agg (lqA y), .int .i64 dl] w fun e w' => e = .returned (.bool true) ∧ Below w.heap.size w w' := by
  rcases bool_two x.p5 with h5 | h5
  · exact steps_5a y hy dl x u hxu hbd cnd h5 w
  · exact steps_5b y hy dl x u hxu hbd cnd h5 w
end Go.Proofs.Yteeinlbhcdpnnaa
