/- A region as a whole: each operation over what it waits for, rgOnce, whatever the order. -/
import Derived.Test.YtiophmmcennjnaaRg0
namespace Go.Proofs.Ytiophmmcennjnaa
open Go.RowKit
set_option linter.unusedSimpArgs false
set_option linter.unusedVariables false

/-- Which operation writes a slot. -/
def wrOf (ops : Array Oper) (s : Nat) : Option Nat := (List.range ops.size).find? fun i => (ops[i]?.bind (·.dst)) == some s
/-- The slots, rgOnce these have come up. -/
def rgT (ops : Array Oper) (vs : Nat → Value) (t : Array Value) (L : Nat → Bool) : Array Value := t.mapIdx fun s old => match wrOf ops s with | some i => bif L i then vs i else old | none => old
def rgF (ops : Array Oper) (vs : Nat → Value) (a : Act) (L : Nat → Bool) : Act := { a with tmps := rgT ops vs a.tmps L }
/-- Each slot is written rgOnce, within the frame. -/
def rgOnce (ops : Array Oper) (n : Nat) : Bool := (List.range ops.size).all fun i => match ops[i]?.bind (·.dst) with | some s => (wrOf ops s == some i) && decide (s < n) | none => true
section
variable {ops : Array Oper} {vs : Nat → Value} {a : Act} {L : Nat → Bool} {i s : Nat} {o : Oper}
theorem wr_some (h : wrOf ops s = some i) : ∃ o, ops[i]? = some o ∧ o.dst = some s := by
  have q := List.find?_some h
  have q : ((ops[i]?.bind (·.dst)) == some s) = true := q
  rw [beq_iff_eq] at q
  cases c : ops[i]? with
  | none => rw [c] at q; cases q
  | some o => rw [c] at q; exact ⟨o, rfl, q⟩
theorem rgOnce_at {n : Nat} (h : rgOnce ops n = true) (ho : ops[i]? = some o) (hd : o.dst = some s) : wrOf ops s = some i ∧ s < n := by
  unfold rgOnce at h
  rw [List.all_eq_true] at h
  have q := h i (List.mem_range.2 (Array.getElem?_eq_some_iff.1 ho).1)
  rw [ho] at q
  simp only [Option.bind_some, hd] at q
  rw [Bool.and_eq_true, beq_iff_eq, decide_eq_true_iff] at q
  exact q
theorem rgT_at (t : Array Value) (k : Nat) : (rgT ops vs t L)[k]? = (t[k]?).map fun old => match wrOf ops k with | some i => bif L i then vs i else old | none => old := by
  unfold rgT
  rw [Array.getElem?_mapIdx]
theorem rgF_none : rgF ops vs a (fun _ => false) = a := by
  unfold rgF
  have e : rgT ops vs a.tmps (fun _ => false) = a.tmps := by
    refine Array.ext_getElem? fun k => ?_
    rw [rgT_at]
    cases a.tmps[k]? with
    | none => rfl
    | some v =>
      show some _ = some v
      congr 1
      split <;> rfl
  rw [e]
theorem rgF_put (h : rgOnce ops a.tmps.size = true) (ho : ops[i]? = some o) : (rgF ops vs a L).put o.dst (vs i) = rgF ops vs a (upd L i) := by
  cases hd : o.dst with
  | none =>
    show rgF ops vs a L = _
    unfold rgF
    have e : rgT ops vs a.tmps L = rgT ops vs a.tmps (upd L i) := by
      refine Array.ext_getElem? fun k => ?_
      rw [rgT_at, rgT_at]
      congr 1
      funext old
      cases c : wrOf ops k with
      | none => rfl
      | some j =>
        obtain ⟨o2, h1, h2⟩ := wr_some c
        have hj : j ≠ i := fun e => by subst e; rw [ho] at h1; injection h1 with h1; subst h1; rw [hd] at h2; cases h2
        show (bif L j then _ else _) = bif upd L i j then _ else _
        unfold upd
        rw [if_neg hj]
    rw [e]
  | some s =>
    obtain ⟨hw, hs⟩ := rgOnce_at h ho hd
    show ({ rgF ops vs a L with tmps := (rgT ops vs a.tmps L).setIfInBounds s (vs i) } : Act) = _
    unfold rgF
    have e : (rgT ops vs a.tmps L).setIfInBounds s (vs i) = rgT ops vs a.tmps (upd L i) := by
      refine Array.ext_getElem? fun k => ?_
      rw [Array.getElem?_setIfInBounds, rgT_at, rgT_at]
      by_cases c : s = k
      · subst c
        have hsz : s < (rgT ops vs a.tmps L).size := by unfold rgT; rw [Array.size_mapIdx]; exact hs
        rw [if_pos rfl, if_pos hsz, Array.getElem?_eq_getElem hs, hw]
        show some (vs i) = some (bif upd L i i then vs i else _)
        unfold upd
        rw [if_pos rfl]
        rfl
      · rw [if_neg c]
        congr 1
        funext old
        cases c2 : wrOf ops k with
        | none => rfl
        | some j =>
          obtain ⟨o2, h1, h2⟩ := wr_some c2
          have hj : j ≠ i := fun e => by subst e; rw [ho] at h1; injection h1 with h1; subst h1; rw [hd] at h2; injection h2 with h2; exact c h2
          show (bif L j then _ else _) = bif upd L i j then _ else _
          unfold upd
          rw [if_neg hj]
    rw [e]
/-- What operation i sees: what it waits for has come up, nothing else. -/
def view (ops : Array Oper) (vs : Nat → Value) (a : Act) (i : Nat) : Operand → Value
  | .tmp u => match wrOf ops u with | some j => bif (afters ops i).contains j then vs j else a.tmps.getD u undef | none => a.tmps.getD u undef
  | x => a.eval x
def depOk (ops : Array Oper) (i : Nat) : Operand → Bool
  | .tmp u => match wrOf ops u with | some j => (afters ops i).contains j || (afters ops j).contains i || decide (j = i) | none => true
  | _ => true
def depsOk (ops : Array Oper) : Bool := (List.range ops.size).all fun i => match ops[i]? with | some o => o.op.operands.toList.all (depOk ops i) | none => true
theorem view_eq (hn : rgOnce ops a.tmps.size = true) (hd : depsOk ops = true) (ho : ops[i]? = some o) (hL : L i = false) (ha : ∀ j ∈ afters ops i, L j = true) (hc : ∀ k, L k = true → ∀ j ∈ afters ops k, L j = true) {x : Operand} (hx : x ∈ o.op.operands) : (rgF ops vs a L).eval x = view ops vs a i x := by
  unfold depsOk at hd
  rw [List.all_eq_true] at hd
  have q := hd i (List.mem_range.2 (Array.getElem?_eq_some_iff.1 ho).1)
  rw [ho] at q
  have q : o.op.operands.toList.all (depOk ops i) = true := q
  rw [List.all_eq_true] at q
  have q := q x (by simpa using hx)
  cases x with
  | tmp u =>
    show (rgT ops vs a.tmps L).getD u undef = (match wrOf ops u with | some j => bif (afters ops i).contains j then vs j else a.tmps.getD u undef | none => a.tmps.getD u undef)
    have q : (match wrOf ops u with | some j => (afters ops i).contains j || (afters ops j).contains i || decide (j = i) | none => true) = true := q
    rw [Array.getD_eq_getD_getElem?, rgT_at]
    cases c : wrOf ops u with
    | none => simp [Array.getD_eq_getD_getElem?]
    | some j =>
      rw [c] at q
      obtain ⟨o2, h1, h2⟩ := wr_some c
      have hu : u < a.tmps.size := (rgOnce_at hn h1 h2).2
      rw [Array.getElem?_eq_getElem hu]
      show (bif L j then vs j else a.tmps[u]) = bif (afters ops i).contains j then vs j else a.tmps.getD u undef
      have hg : a.tmps.getD u undef = a.tmps[u] := by simp [Array.getD_eq_getD_getElem?, hu]
      rw [hg]
      cases c1 : (afters ops i).contains j with
      | true => rw [ha j (by simpa using c1)]
      | false =>
        have hj : L j = false := by
          cases c2 : L j with
          | false => rfl
          | true =>
            have q : ((afters ops i).contains j || (afters ops j).contains i || decide (j = i)) = true := q
            rw [c1] at q
            simp at q
            rcases q with q | q
            · have := hc j c2 i q; rw [hL] at this; cases this
            · subst q; rw [hL] at c2; cases c2
        rw [hj]
  | _ => rfl
end
end Go.Proofs.Ytiophmmcennjnaa
