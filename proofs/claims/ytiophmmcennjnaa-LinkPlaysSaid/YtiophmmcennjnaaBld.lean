/- Structs that are built, made and stored as opaque rows; with no program in sight. -/
import Derived.Test.YtiophmmcennjnaaBks
namespace Go.Proofs.Ytiophmmcennjnaa
open Go.RowKit

/-- A struct that is built of some parts. -/
theorem run_build_of {P : Program} {o : Oper} {a : Act} {w : World} (t : TypeId) (parts : List (Nat × Operand)) (ho : o.op = .build t parts.toArray) (vals : List (Nat × Value)) (arr : Array Value)
    (hv : parts.map (fun x => (x.1, a.eval x.2)) = vals) (hb : P.built t vals = some arr) : (execOp a.eval o).run P w = .ok (.value (.agg arr)) w := by
  subst hv
  have e : (Array.map (fun x => (x.1, a.eval x.2)) parts.toArray).toList = parts.map (fun x => (x.1, a.eval x.2)) := by simp
  rw [← e] at hb
  unfold execOp
  simp only [ho, Sem.run_bind, run_build w t _ arr hb, Result.andThen_ok, Sem.run_pure]

/-- A struct that is made. -/
theorem wpList_alloc {P : Program} {ops : Array Oper} {Q : Exit → Act → World → Prop} {a : Act} {w : World} {rest : List Oper} {o : Oper} (t : TypeId) (ho : o.op = .alloc t) (hw : Region.wanted o (yielded ops a.tmps) = true) (z : Array Value)
    (hz : ∀ W : World, (zeroValue t).run P W = .ok (.agg z) W) (h : wpList P ops Q rest (a.put o.dst (.pointer (some ⟨w.heap.size, 0, none⟩))) (w.alloc (.cells z t))) : wpList P ops Q (o :: rest) a w := by
  refine BigFrame.wpList_want hw fun K hK => ?_
  unfold Oper.wp execOp
  simp only [ho, Instr.alloc, Sem.run_bind, hz, Result.andThen_ok, newVar, Sem.run_pure]
  exact hK _ _ h
end Go.Proofs.Ytiophmmcennjnaa
