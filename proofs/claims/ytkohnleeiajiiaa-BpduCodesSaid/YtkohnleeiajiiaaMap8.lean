/- Maps of eight numbers by their places. -/
import Derived.Test.YtkohnleeiajiiaaPduF
import Derived.Test.YtkohnleeiajiiaaInv
import Derived.Maps.OwnOps
import Derived.Maps.OwnSet
import Derived.Maps.Views
import Derived.Maps.RangeWalk
namespace Go.Proofs.Ytkohnleeiajiiaa
open Go.RowKit Go.Maps
set_option linter.unusedSimpArgs false
set_option linter.unusedVariables false

theorem law3 : Keyed Try.prog 3 := int_keyed Try.underlying3
theorem zero22 (w : World) : (zeroValue 22).run Try.prog w = .ok (.int .u64 0) w := by kernel_rfl

/-- The place j as a key. -/
abbrev kl (j : Nat) : Lit := .int .i64 (j : Nat)
theorem kl_inj {i j : Nat} (h : kl i = kl j) : i = j := by
  have : (i : Int) = j := by simpa [kl] using h
  omega
theorem kl_wf (j : Nat) (h : j < 8) : (Lit.int .i64 (j : Nat)).wf = true := by
  match j, h with
  | 0, _ => decide
  | 1, _ => decide
  | 2, _ => decide
  | 3, _ => decide
  | 4, _ => decide
  | 5, _ => decide
  | 6, _ => decide
  | 7, _ => decide
theorem u64_wf (x : Nat) (h : x < 18446744073709551616) : (Lit.int .u64 (x : Nat)).wf = true := by simp [Lit.wf, IntKind.min, IntKind.max, IntKind.bits, IntKind.signed]; omega

/-- Block b is a map that has, of the places below eight, those of f, and at each its number. -/
def MapAt (w : World) (b : Nat) (v : Nat → Nat) (f : List Bool) : Prop :=
  ∃ (D : DataW Unit) (n : Nat), w.ownsMap Try.prog 3 (plainElem Try.prog 22) b n D ∧ n ≤ f.count true ∧ IsMap D ∧ f.length = 8 ∧ (∀ k, Maps.has D k = true → ∃ j, j < 8 ∧ f.getD j false = true ∧ k = kl j) ∧
    ∀ j, j < 8 → f.getD j false = true → Maps.has D (kl j) = true ∧ ∀ z, D.atKey (kl j) z = .lit (.int .u64 (v j : Nat))

theorem MapAt.lt {w : World} {b : Nat} {v : Nat → Nat} {f : List Bool} (h : MapAt w b v f) : b < w.heap.size := by
  obtain ⟨D, n, ho, -⟩ := h
  exact ho.lt
theorem MapAt.kept {w w' : World} {b : Nat} {v : Nat → Nat} {f : List Bool} {r : Option Nat} (h : MapAt w b v f) (hg : w.grownBy w' r) (hr : some b ≠ r) : MapAt w' b v f := by
  obtain ⟨D, n, ho, h2⟩ := h
  exact ⟨D, n, ho.kept hg hr, h2⟩
theorem MapAt.below {w w' : World} {b : Nat} {v : Nat → Nat} {f : List Bool} (h : MapAt w b v f) (hb : Below w.heap.size w w') : MapAt w' b v f := h.kept (Below.grownBy hb none) (by simp)
theorem MapAt.drew {w : World} {b : Nat} {v : Nat → Nat} {f : List Bool} (h : MapAt w b v f) : MapAt w.drew b v f := h

theorem MapAt.made (w : World) (v : Nat → Nat) : MapAt (w.alloc (.map #[] 0)) w.heap.size v [false, false, false, false, false, false, false, false] := by
  refine ⟨.map [], 0, World.ownsMap_made _ _ _ _, by decide, isMap_empty, rfl, (fun k h => by cases h), fun j hj h => ?_⟩
  match j, hj with
  | 0, _ => cases h
  | 1, _ => cases h
  | 2, _ => cases h
  | 3, _ => cases h
  | 4, _ => cases h
  | 5, _ => cases h
  | 6, _ => cases h
  | 7, _ => cases h

theorem getD_set_same (f : List Bool) (j : Nat) (h : j < f.length) : (f.set j true).getD j false = true := by simp [h]
theorem getD_set_other (f : List Bool) (i j : Nat) (h : i ≠ j) : (f.set j true).getD i false = f.getD i false := by
  simp only [List.getD_eq_getElem?_getD]
  rw [List.getElem?_set_ne (by omega)]

theorem count_le (f : List Bool) : f.count true ≤ f.length := List.count_le_length
theorem count_put (f : List Bool) (j : Nat) (h : j < f.length) (hf : f.getD j false = false) : (f.set j true).count true = f.count true + 1 := by
  have hv : f[j] = false := by simpa [h] using hf
  rw [List.count_set h, hv]
  have a1 : (if (false == true) = true then 1 else 0) = 0 := by decide
  have a2 : (if (true == true) = true then 1 else 0) = 1 := by decide
  rw [a1, a2]
  omega

theorem MapAt.put {w : World} {b : Nat} {v : Nat → Nat} {f : List Bool} (h : MapAt w b v f) (j : Nat) (hj : j < 8) (hf : f.getD j false = false) (hv : v j < 18446744073709551616) :
    ∃ w2, (Instr.mapUpdate 90 (.map (some b)) (.int .i64 (j : Nat)) (.int .u64 (v j : Nat))).run Try.prog w = .ok () w2 ∧ MapAt w2 b v (f.set j true) ∧ w.grownBy w2 (some b) := by
  obtain ⟨D, n, ho, hn, hm, hl, h1, h2⟩ := h
  have hc := count_le f
  obtain ⟨w2, hrun, ho2, hg⟩ := ho.update law3 Try.underlying90 (by unfold maxLen; omega) (keyOf_int_mk Try.underlying3 (kl_wf j hj)) (plainElem_int Try.underlying22 (u64_wf _ hv))
  have hw : WideAt.IsKeyLit (kl j) := trivial
  refine ⟨w2, hrun, ⟨_, n + 1, ho2, by rw [count_put f j (by omega) hf]; omega, hm.put _ _, by simpa using hl, fun k hk => ?_, fun i hi hfi => ?_⟩, hg⟩
  · by_cases c : k = kl j
    · exact ⟨j, hj, getD_set_same f j (by omega), c⟩
    · rw [has_put_other c] at hk
      obtain ⟨i, hi, hfi, rfl⟩ := h1 k hk
      exact ⟨i, hi, by rw [getD_set_other f i j (fun e => c (by rw [e]))]; exact hfi, rfl⟩
  · by_cases c : i = j
    · subst c
      exact ⟨has_put_same hm hw _, fun z => atKey_put_same hm hw _ z⟩
    · have c' : kl i ≠ kl j := fun e => c (kl_inj e)
      rw [getD_set_other f i j c] at hfi
      obtain ⟨g1, g2⟩ := h2 i hi hfi
      exact ⟨by rw [has_put_other c', g1], fun z => by rw [atKey_put_other c', g2]⟩

theorem wp_insert {P : Program} {o : Oper} {a : Act} {w w' : World} {K : Act → World → Prop} {Q : Exit → Act → World → Prop} {m x v : Operand} {t : TypeId} {mv kv vv : Value} (hop : o.op = Op.insert t m x v)
    (hm : a.eval m = mv) (hx : a.eval x = kv) (hv : a.eval v = vv) (hrun : (Instr.mapUpdate t mv kv vv).run P w = .ok () w') (h : K (a.put o.dst undef) w') : o.wp P a w K Q := by
  unfold Oper.wp
  simp [execOp, hop, hm, hx, hv, hrun, Result.andThen]
  exact h

theorem wp_update {P : Program} {o : Oper} {a : Act} {w w' : World} {K : Act → World → Prop} {Q : Exit → Act → World → Prop} {m x v : Operand} {t : TypeId} {mv kv vv : Value} (hop : o.op = Op.mapUpdate t m x v)
    (hm : a.eval m = mv) (hx : a.eval x = kv) (hv : a.eval v = vv) (hrun : (Instr.mapUpdate t mv kv vv).run P w = .ok () w') (h : K (a.put o.dst undef) w') : o.wp P a w K Q := by
  unfold Oper.wp
  simp [execOp, hop, hm, hx, hv, hrun, Result.andThen]
  exact h
end Go.Proofs.Ytkohnleeiajiiaa
