/- A frame is the same as itself. -/
import Derived.Test.YtkohnleeiajiiaaFrm
import Derived.Test.YtkohnleeiajiiaaEq
namespace Go.Proofs.Ytkohnleeiajiiaa
open Go.RowKit

theorem run_loadVar_of {P : Program} {o : Oper} {a : Act} {w : World} (ty : TypeId) (x : Operand) (ho : o.op = .load ty x) (g : Nat) (hx : a.eval x = .pointer (some ⟨g, 0, none⟩)) (t : TypeId) (cs : Array Value) (d : TypeDesc) (hg : Blk w g cs t)
    (hu : P.underlying ty = some d) (hd : (match d with | .struct _ | .array _ _ => true | _ => false) = true) (hi : (P.info? ty).map (·.size) = some cs.size) :
    (execOp a.eval o).run P w = .ok (.value (.agg cs)) w := by
  unfold execOp
  simp only [ho, hx, Instr.loadAt, Instr.sureAddr, Sem.run_bind, Sem.run_pure, Result.andThen_ok, run_loadVar_row w g t ty cs (0, 0) d hg hu hd hi]

set_option maxRecDepth 100000 in
set_option maxHeartbeats 1000000 in
theorem equal_frame (d s : Nat → Nat) (tg : Bool) (pc : Nat) (de : Bool) (vi ty : Nat) (da : ByteArray) (w : World) :
    (Op.equalIn 10000 41 (.agg (frA d s tg pc de vi ty da)) (.agg (frA d s tg pc de vi ty da))).run Try.prog w = .ok true w := by
  have hS : Try.prog.underlying 41 = some (.struct (Try.prog.fieldsOf 41)) := by kernel_rfl
  have hp : Try.prog.stoodInHeld 41 = false := by kernel_rfl
  rw [show (10000 : Nat) = 9999 + 1 from rfl, run_equalIn_agg w 9999 41 _ _ hS hp]
  simp only [Program.fieldsOf, Try.underlying41]
  have u5 := Try.underlying5
  have u4 := Try.underlying4
  have u9 := Try.underlying9
  have u40 := Try.underlying24
  have e1 : ∀ W, (Op.equalIn 9999 39 (mac d) (mac d)).run Try.prog W = .ok true W := fun W => by rw [equal_mac 9997 39 Try.underlying39, eqMac_self]
  have e2 : ∀ W, (Op.equalIn 9999 39 (mac s) (mac s)).run Try.prog W = .ok true W := fun W => by rw [equal_mac 9997 39 Try.underlying39, eqMac_self]
  go_simp
end Go.Proofs.Ytkohnleeiajiiaa
