/- A region as a whole: what stores, allocations, boxes, calls answer. -/
import Derived.Test.YtiophmmcennjnaaRg5
namespace Go.Proofs.Ytiophmmcennjnaa
open Go.RowKit
section
variable {P : Program} {o : Oper} {w w' : World} {ρ : Operand → Value} {K : Value → World → Prop} {x y : Operand} {ty : TypeId} {p : Addr} {v : Value} {cs : Array Value}
theorem stepW_val (h : (execOp ρ o).run P w = .ok (.value v) w') (hK : K v w') : stepW P o ρ K w := by
  unfold stepW
  rw [h]
  exact hK
theorem stepW_skip (h : (execOp ρ o).run P w = .ok .skip w') (hK : K undef w') : stepW P o ρ K w := by
  unfold stepW
  rw [h]
  exact hK
theorem stepW_call {f : FuncId} {args : Array Value} (h : (execOp ρ o).run P w = .ok (.enter f args) w) (hc : Calls P f args w fun e w'' => ∃ u, e = .returned u ∧ K u w'') : stepW P o ρ K w := by
  unfold stepW
  rw [h]
  exact hc
theorem stepW_load (ho : o.op = .load ty x) (hx : ρ x = .pointer (some p)) (hl : (Instr.loadAt ty (.pointer (some p))).run P w = .ok v w) (hK : K v w) : stepW P o ρ K w := by
  refine stepW_val (w' := w) (v := v) ?_ hK
  unfold execOp
  simp only [ho, hx, Sem.run_bind, Sem.run_pure, hl, Result.andThen]
theorem stepW_store (ho : o.op = .store ty x y) (hx : ρ x = .pointer (some p)) (hy : ρ y = v) (hs : (Instr.storeAt ty (.pointer (some p)) v).run P w = .ok () w') (hK : K undef w') : stepW P o ρ K w := by
  unfold stepW execOp
  simp only [ho, hx, hy, Sem.run_bind, Sem.run_pure, hs, Result.andThen]
  exact hK
theorem stepW_box (ho : o.op = .box ty x) (hx : ρ x = .agg cs) (hK : K (.pointer (some ⟨w.heap.size, 0, none⟩)) (w.alloc (.cells cs ty))) : stepW P o ρ K w := by
  unfold stepW execOp
  simp only [ho, hx, Instr.box, Sem.run_bind, newVar, Sem.run_pure]
  exact hK
theorem stepW_alloc {z : Array Value} (ho : o.op = .alloc ty) (hz : (zeroValue ty).run P w = .ok (.agg z) w) (hK : K (.pointer (some ⟨w.heap.size, 0, none⟩)) (w.alloc (.cells z ty))) : stepW P o ρ K w := by
  unfold stepW execOp
  simp only [ho, Instr.alloc, Sem.run_bind, hz, Result.andThen_ok, newVar, Sem.run_pure]
  exact hK
end
end Go.Proofs.Ytiophmmcennjnaa
