/- InfoSwitches. -/
import Derived.Test.YtojijeaofkndpaaSw0
import Derived.Test.YtojijeaofkndpaaSw1
import Derived.Test.YtojijeaofkndpaaSw2
namespace Go.Proofs.Ytojijeaofkndpaa
open Go.RowKit
attribute [local irreducible] wpQuiet wpList
set_option linter.unusedSimpArgs false
set_option linter.unusedVariables false

theorem switches_law (x : Lp) (t0 t1 : Bool) (dl : Int) (w : World) : Calls Try.prog 7 #[.agg (lpA x), .agg #[.bool t0, .bool t1], .int .i64 dl] w fun e w' => e = .returned (.bool true) ∧ Below w.heap.size w w' := by
  cases hu : x.f0 with
  | false => exact switches_0 x x.f1 hu rfl t0 t1 dl w
  | true =>
    cases ha : x.f1 with
    | false => exact switches_1 x false hu ha t0 t1 dl w
    | true => exact switches_2 x false hu ha t0 t1 dl w
end Go.Proofs.Ytojijeaofkndpaa
