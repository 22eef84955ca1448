/- An operation hangs on its operands alone. -/
import Derived.Test.YtiophmmcennjnaaKb3
namespace Go.Proofs.Ytiophmmcennjnaa
open Go.RowKit
set_option linter.unusedSimpArgs false
set_option linter.unusedVariables false

theorem map_congr_arr {α β : Type} {f g : α → β} {l : Array α} (h : ∀ x ∈ l, f x = g x) : l.map f = l.map g := Array.map_congr_left h
theorem exec_congr {ρ ρ' : Operand → Value} {o : Oper} (hs : ∀ cs b, o.op ≠ .select cs b) (h : ∀ x ∈ o.op.operands, ρ x = ρ' x) : execOp ρ o = execOp ρ' o := by
  obtain ⟨dst, op, type, pos, after, guard⟩ := o
  replace hs : ∀ cs b, op ≠ .select cs b := hs
  replace h : ∀ x ∈ op.operands, ρ x = ρ' x := h
  cases op
  case build t ps =>
    have e : (ps.map fun (i, x) => (i, ρ x)) = ps.map fun (i, x) => (i, ρ' x) := by
      refine map_congr_arr fun y hy => ?_
      obtain ⟨i, x⟩ := y
      have := h x (by simp [Op.operands]; exact ⟨i, hy⟩)
      simp [this]
    simp only [execOp, e]
  case buildSlice t n ps =>
    have e : (ps.map fun (i, x) => (i, ρ x)) = ps.map fun (i, x) => (i, ρ' x) := by
      refine map_congr_arr fun y hy => ?_
      obtain ⟨i, x⟩ := y
      have := h x (by simp [Op.operands]; exact ⟨i, hy⟩)
      simp [this]
    simp only [execOp, e]
  case makeFunc fn a b =>
    have e1 : a.map ρ = a.map ρ' := map_congr_arr fun x hx => h x (by simp [Op.operands, hx])
    have e2 : b.map ρ = b.map ρ' := map_congr_arr fun x hx => h x (by simp [Op.operands, hx])
    simp only [execOp, e1, e2]
  case makeMap t r =>
    cases r with
    | none => rfl
    | some r => have := h r (by simp [Op.operands]); simp [execOp, this]
  case slice t x lo hi mx =>
    have e0 := h x (by simp [Op.operands])
    have e1 : lo.map ρ = lo.map ρ' := by cases lo with | none => rfl | some r => simp [h r (by simp [Op.operands])]
    have e2 : hi.map ρ = hi.map ρ' := by cases hi with | none => rfl | some r => simp [h r (by simp [Op.operands])]
    have e3 : mx.map ρ = mx.map ρ' := by cases mx with | none => rfl | some r => simp [h r (by simp [Op.operands])]
    simp only [execOp, e0, e1, e2, e3]
  case call c =>
    have e : ∀ t, resolve ρ c t = resolve ρ' c t := fun t => by
      have e1 : c.args.map ρ = c.args.map ρ' := map_congr_arr fun x hx => h x (by simp [Op.operands, Call.operands, hx])
      unfold resolve
      cases hc : c.callee with
      | value f => simp [e1, h f (by simp [Op.operands, Call.operands, hc])]
      | invoke r m => simp [e1, h r (by simp [Op.operands, Call.operands, hc])]
      | builtin b => simp [e1]
    simp only [execOp, e]
  case go c =>
    have e : ∀ t, resolve ρ c t = resolve ρ' c t := fun t => by
      have e1 : c.args.map ρ = c.args.map ρ' := map_congr_arr fun x hx => h x (by simp [Op.operands, Call.operands, hx])
      unfold resolve
      cases hc : c.callee with
      | value f => simp [e1, h f (by simp [Op.operands, Call.operands, hc])]
      | invoke r m => simp [e1, h r (by simp [Op.operands, Call.operands, hc])]
      | builtin b => simp [e1]
    simp only [execOp, e]
  case defer c =>
    have e : ∀ t, resolve ρ c t = resolve ρ' c t := fun t => by
      have e1 : c.args.map ρ = c.args.map ρ' := map_congr_arr fun x hx => h x (by simp [Op.operands, Call.operands, hx])
      unfold resolve
      cases hc : c.callee with
      | value f => simp [e1, h f (by simp [Op.operands, Call.operands, hc])]
      | invoke r m => simp [e1, h r (by simp [Op.operands, Call.operands, hc])]
      | builtin b => simp [e1]
    simp only [execOp, e]
  case select cs b => exact absurd rfl (hs cs b)
  all_goals
    simp [Op.operands] at h
    simp [execOp, h]
end Go.Proofs.Ytiophmmcennjnaa
