/- LinkFull, for any arguments. -/
import Derived.Test.YtiophmmcennjnaaLk5
import Derived.Test.YtiophmmcennjnaaLits
namespace Go.Proofs.Ytiophmmcennjnaa
open Go.RowKit
theorem full_law (a : Int) (b : Bool) (w : World) (ha : (Lit.int .u16 a).wf = true) : Calls Try.prog 4 #[.int .u16 a, .bool b] w fun e w' => e = .returned (.bool true) ∧ Below w.heap.size w w' := by
  obtain ⟨x, rfl, hx⟩ := nat_of_u16 ha
  exact full_walk x b w hx
end Go.Proofs.Ytiophmmcennjnaa
