/- StateSteps. -/
import Derived.Test.YteeinlbhcdpnnaaLs0
import Derived.Test.YteeinlbhcdpnnaaLs1
import Derived.Test.YteeinlbhcdpnnaaLs2
import Derived.Test.YteeinlbhcdpnnaaLs3
import Derived.Test.YteeinlbhcdpnnaaLs4
import Derived.Test.YteeinlbhcdpnnaaLs5
namespace Go.Proofs.Yteeinlbhcdpnnaa
open Go.RowKit
attribute [local irreducible] wpQuiet wpList
set_option linter.unusedSimpArgs false
set_option linter.unusedVariables false

theorem steps_law (y : Lq) (hy : y.ok) (dl : Int) (w : World) : Calls Try.prog 4 #[.agg (lqA y), .int .i64 dl] w fun e w' => e = .returned (.bool true) ∧ Below w.heap.size w w' := by
  obtain ⟨b0, b1, b2, b3⟩ := made_bounds y hy
  have e := madeQ_U y
  by_cases h0 : (madeQ y).p10 = 4
  · by_cases h1 : (madeQ y).p11 = 2
    · exact steps_1 y hy dl (madeQ y) _ e.symm ⟨b2, b3⟩ ⟨h0, h1⟩ w
    · by_cases h2 : 1 < (madeQ y).p19
      · by_cases h3 : (madeQ y).p11 = 0
        · exact steps_2 y hy dl (madeQ y) _ e.symm ⟨b2, b3⟩ ⟨h0, h1, h2, h3⟩ w
        · exact steps_3 y hy dl (madeQ y) _ e.symm ⟨b2, b3⟩ ⟨h0, h1, h2, h3⟩ w
      · by_cases h3 : (madeQ y).p11 = 0
        · exact steps_4 y hy dl (madeQ y) _ e.symm ⟨b2, b3⟩ ⟨h0, h1, h2, h3⟩ w
        · exact steps_5 y hy dl (madeQ y) _ e.symm ⟨b2, b3⟩ ⟨h0, h1, h2, by omega⟩ w
  · exact steps_0 y hy dl (madeQ y) _ e.symm ⟨b2, b3⟩ h0 w
end Go.Proofs.Yteeinlbhcdpnnaa
