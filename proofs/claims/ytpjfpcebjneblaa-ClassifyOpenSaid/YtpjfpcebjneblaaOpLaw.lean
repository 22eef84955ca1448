/- ClassifyOpen's walk, over arguments as they come. -/
import Derived.Test.YtpjfpcebjneblaaOp11
import Derived.Test.YtpjfpcebjneblaaLits
namespace Go.Proofs.Ytpjfpcebjneblaa
open Go.RowKit
set_option linter.unusedVariables false
theorem open_law (a b : Int) (no : Int) (tagged : Bool) (w : World) (ha : (Lit.int .u16 a).wf = true) (hb : (Lit.int .u16 b).wf = true) (hn : (Lit.int .i64 no).wf = true) :
    Calls Try.prog 4 #[.agg #[.int .u16 a, .int .u16 b], .int .i64 no, .bool tagged] w fun e w' => e = .returned (.bool true) ∧ Below w.heap.size w w' := by
  obtain ⟨x, rfl, hx⟩ := nat_of_u16 ha
  obtain ⟨y, rfl, hy⟩ := nat_of_u16 hb
  exact open_walk x y no tagged hx hy w
end Go.Proofs.Ytpjfpcebjneblaa
