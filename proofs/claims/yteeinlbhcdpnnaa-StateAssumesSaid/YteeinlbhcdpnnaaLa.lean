/- StateAssumes. -/
import Derived.Test.YteeinlbhcdpnnaaLaa
import Derived.Test.YteeinlbhcdpnnaaLab
import Derived.Test.YteeinlbhcdpnnaaLac
namespace Go.Proofs.Yteeinlbhcdpnnaa
open Go.RowKit
attribute [local irreducible] wpQuiet wpList
set_option linter.unusedSimpArgs false
set_option linter.unusedVariables false

theorem assumes_law (y : Lq) (hy : y.ok) (rl t0 t1 t2 : Nat) (h0 : t0 < 256) (h1 : t1 < 256) (h2 : t2 < 256) (dl : Int) (w : World) : Calls Try.prog 3 #[.agg (askA y rl t0 t1 t2 dl)] w fun e w' => e = .returned (.bool true) ∧ Below w.heap.size w w' := by
  by_cases h : IntKind.i64.wrap (Int.tmod (rl : Nat) 5) = 4
  · by_cases g : (madeQ y).p10 = 4 ∧ (madeQ y).p12 = 1
    · exact assumes_c y hy rl t0 t1 t2 h0 h1 h2 dl ⟨h, g.1, g.2⟩ w
    · exact assumes_b y hy rl t0 t1 t2 h0 h1 h2 dl ⟨h, g⟩ w
  · exact assumes_a y hy rl t0 t1 t2 h0 h1 h2 dl h w
end Go.Proofs.Yteeinlbhcdpnnaa
