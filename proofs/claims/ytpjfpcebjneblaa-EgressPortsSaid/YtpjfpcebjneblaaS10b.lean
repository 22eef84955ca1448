/- The document's own Good and Drop of layer 10. -/
import Derived.Test.YtpjfpcebjneblaaS10
import Derived.Test.YtpjfpcebjneblaaTell
import Derived.Deep.RegionHeld3
import Derived.IntWalk
namespace Go.Proofs.Ytpjfpcebjneblaa
open Go.RowKit
set_option linter.unusedSimpArgs false
set_option linter.unusedVariables false

/-- May it be? The error's number. -/
def goodS (x : Se) : Int := if x.vid < 1 ∨ 4094 < x.vid then 15 else if resB (byteF x.mac) = true then 6 else if 65535 < x.prt then 14 else 0

theorem ret_own {v : Value} {a b : Int} (h : a = b) : Ending.returned (.tuple #[v, .int .i64 a]) = .returned (.tuple #[v, .int .i64 b]) := by rw [h]

/-- Without the one of a key; the error's number. -/
def dropSE (l : List Se) (v : Nat) : Int := if atK seK v l < 0 then 11 else 0

end Go.Proofs.Ytpjfpcebjneblaa
