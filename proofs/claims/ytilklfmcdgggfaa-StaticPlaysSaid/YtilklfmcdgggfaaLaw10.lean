/- The walks of layer 10's statements over the developers' table. -/
import Derived.Test.YtilklfmcdgggfaaTab10
import Derived.Test.YtilklfmcdgggfaaFull10
import Derived.Test.YtilklfmcdgggfaaLits
namespace Go.Proofs.Ytilklfmcdgggfaa
open Go.RowKit
theorem plays10_law (a : Option Addr) (len cap : Nat) (acts : List Ac10) (w : World) (h : IsArg73 w a len cap acts) : Calls Try.prog 6 #[.slice a len cap] w fun e w' => e = .returned (.bool true) ∧ Below w.heap.size w w' :=
  plays10_walk tab_ok10 (speaks10_any tab_ok10) a len cap acts w h
theorem full10_law (a b : Int) (w : World) (ha : (Lit.int .u8 a).wf = true) (hb : (Lit.int .u8 b).wf = true) : Calls Try.prog 7 #[.int .u8 a, .int .u8 b] w fun e w' => e = .returned (.bool true) ∧ Below w.heap.size w w' := by
  obtain ⟨x, rfl, hx⟩ := nat_of_u8 ha
  obtain ⟨y, rfl, hy⟩ := nat_of_u8 hb
  exact full10_walk tab_ok10 x y w hx hy
end Go.Proofs.Ytilklfmcdgggfaa
