/- VlanPlays' walk over the developers' table. -/
import Derived.Test.YtjipbdljljhijaaTabOk8
import Derived.Test.YtjipbdljljhijaaSpeaks8
namespace Go.Proofs.Ytjipbdljljhijaa
open Go.RowKit
theorem plays_law (a : Option Addr) (len cap : Nat) (acts : List Ac) (w : World) (h : IsArg42 w a len cap acts) : Calls Try.prog 5 #[.slice a len cap] w fun e w' => e = .returned (.bool true) ∧ Below w.heap.size w w' :=
  plays_walk tab_ok (speaks8_any tab_ok) a len cap acts w h
end Go.Proofs.Ytjipbdljljhijaa
