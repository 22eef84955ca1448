/- ClassifyTells' walk, over arguments as they come. -/
import Derived.Test.YtpjfpcebjneblaaTel
import Derived.Test.YtpjfpcebjneblaaOpenQ
namespace Go.Proofs.Ytpjfpcebjneblaa
open Go.RowKit
set_option linter.unusedVariables false
theorem tells_law (x0 x1 : Int) (x2 : Bool) (x3 : Int) (x4 : Bool) (x5 : Int) (a : Option Addr) (len cap : Nat) (z : List (Nat × Nat)) (w : World) (h0 : (Lit.int .u16 x0).wf = true) (h5 : (Lit.int .u16 x5).wf = true) (h : IsPairs w a len cap z) :
    Calls Try.prog 3 #[.agg #[.int .u16 x0, .int .i64 x1, .bool x2, .int .i64 x3, .bool x4, .int .u16 x5, .slice a len cap]] w fun e w' => e = .returned (.bool true) ∧ Below w.heap.size w w' := by
  obtain ⟨x, rfl, hx⟩ := nat_of_u16 h0
  obtain ⟨y, rfl, hy⟩ := nat_of_u16 h5
  exact tells_walk x x1 x2 x3 x4 y a len cap z w h
end Go.Proofs.Ytpjfpcebjneblaa
