/- VlanFull's walk over the developers' table. -/
import Derived.Test.YtjipbdljljhijaaTabOk8
import Derived.Test.YtjipbdljljhijaaFull
import Derived.Test.YtjipbdljljhijaaLits
namespace Go.Proofs.Ytjipbdljljhijaa
open Go.RowKit
theorem full_law (a b : Int) (w : World) (ha : (Lit.int .u16 a).wf = true) (hb : (Lit.int .u8 b).wf = true) : Calls Try.prog 6 #[.int .u16 a, .int .u8 b] w fun e w' => e = .returned (.bool true) ∧ Below w.heap.size w w' := by
  obtain ⟨x, rfl, hx⟩ := nat_of_u16 ha
  obtain ⟨y, rfl, hy⟩ := nat_of_u8 hb
  exact full_walk tab_ok x y w hx hy
end Go.Proofs.Ytjipbdljljhijaa
