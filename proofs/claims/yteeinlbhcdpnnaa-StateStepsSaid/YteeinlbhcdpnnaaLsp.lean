/- StateSteps: ports. -/
import Derived.Test.YteeinlbhcdpnnaaLq1
namespace Go.Proofs.Yteeinlbhcdpnnaa
open Go.RowKit
attribute [local irreducible] wpQuiet wpList
set_option linter.unusedSimpArgs false
set_option linter.unusedVariables false

abbrev pW (x : Po) (u : Vc) (a : Bool) (b c : Int) : Po := ⟨x.p0, x.p1, x.p2, x.p3, x.p4, x.p5, x.p6, x.p7, x.p8, a, x.p10, b, x.p12, (u.r : Nat), (u.c : Nat), (u.b : Nat), (u.p : Nat), x.p17, x.p18, c, x.p20⟩
end Go.Proofs.Yteeinlbhcdpnnaa
