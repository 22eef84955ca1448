/- LinkPlays, for any arguments. -/
import Derived.Test.YtiophmmcennjnaaLk8
namespace Go.Proofs.Ytiophmmcennjnaa
open Go.RowKit
theorem plays_law (a : Option Addr) (len cap : Nat) (z : List Ac) (w : World) (h : IsArg29 w a len cap z) : Calls Try.prog 3 #[.slice a len cap] w fun e w' => e = .returned (.bool true) ∧ Below w.heap.size w w' :=
  plays_walk z w a len cap h.2.1 h.1 h.2.2.2.1.1 h.2.2.2.1.2 h.2.2.1
end Go.Proofs.Ytiophmmcennjnaa
