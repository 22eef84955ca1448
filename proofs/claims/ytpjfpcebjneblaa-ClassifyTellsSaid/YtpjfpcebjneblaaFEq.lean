/- A frame is the same as itself. -/
import Derived.Test.YtpjfpcebjneblaaFrm
import Derived.Test.YtpjfpcebjneblaaEq
import Derived.Test.YtpjfpcebjneblaaBks
namespace Go.Proofs.Ytpjfpcebjneblaa
open Go.RowKit

set_option maxRecDepth 100000 in
set_option maxHeartbeats 1000000 in
theorem equal_frame (d s : Nat → Nat) (tg : Bool) (pc : Nat) (de : Bool) (vi ty : Nat) (da : ByteArray) (w : World) :
    (Op.equalIn 10000 46 (.agg (frA d s tg pc de vi ty da)) (.agg (frA d s tg pc de vi ty da))).run Try.prog w = .ok true w := by
  have hS : Try.prog.underlying 46 = some (.struct (Try.prog.fieldsOf 46)) := by kernel_rfl
  have hp : Try.prog.stoodInHeld 46 = false := by kernel_rfl
  rw [show (10000 : Nat) = 9999 + 1 from rfl, run_equalIn_agg w 9999 46 _ _ hS hp]
  simp only [Program.fieldsOf, Try.underlying46]
  have u5 := Try.underlying5
  have u4 := Try.underlying4
  have u9 := Try.underlying9
  have u40 := Try.underlying22
  have e1 : ∀ W, (Op.equalIn 9999 44 (mac d) (mac d)).run Try.prog W = .ok true W := fun W => by rw [equal_mac 9997 44 Try.underlying44, eqMac_self]
  have e2 : ∀ W, (Op.equalIn 9999 44 (mac s) (mac s)).run Try.prog W = .ok true W := fun W => by rw [equal_mac 9997 44 Try.underlying44, eqMac_self]
  go_simp
end Go.Proofs.Ytpjfpcebjneblaa
