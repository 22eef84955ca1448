/- Values that are states, wherever their lists lie; what is known of one stays. -/
import Derived.Test.YtpbdamnlfpfclaaMd
namespace Go.Proofs.Ytpbdamnlfpfclaa
open Go.RowKit
set_option linter.unusedVariables false

def IsSt (w : World) (s : St) (v : Value) : Prop := ∃ B v1 v2 v3 v4, v = stV s v1 v2 v3 v4 ∧ OwS w B s v1 v2 v3 v4
theorem IsSt.next {w w' : World} {s : St} {v : Value} (h : IsSt w s v) (hb : Below w.heap.size w w') : IsSt w' s v := by
  obtain ⟨B, v1, v2, v3, v4, e, o⟩ := h
  exact ⟨B, v1, v2, v3, v4, e, o.next hb⟩
theorem cold_is {w : World} {s : St} {v : Value} (h : IsSt w s v) : Calls Try.prog 7 #[v] w fun e w' => ∃ u, e = .returned u ∧ (IsSt w' (coldS s) u ∧ Below w.heap.size w w') := by
  obtain ⟨B, v1, v2, v3, v4, rfl, o⟩ := h
  exact (cold_st o).mono fun e w' ⟨u1, u2, u3, q1, q2, q3⟩ => ⟨_, q1, ⟨_, _, _, _, _, rfl, q2⟩, q3⟩
theorem clone_is {w : World} {s : St} {v : Value} (h : IsSt w s v) : Calls Try.prog 11 #[v] w fun e w' => ∃ u, e = .returned u ∧ (IsSt w' s u ∧ Below w.heap.size w w') := by
  obtain ⟨B, v1, v2, v3, v4, rfl, o⟩ := h
  exact (clone_any o).mono fun e w' ⟨u1, u2, u3, u4, q1, q2, q3, q4⟩ => ⟨_, q1, ⟨_, _, _, _, _, rfl, q2⟩, q4⟩
theorem same_is {w : World} {s t : St} {v u : Value} (h : IsSt w s v) (h2 : IsSt w t u) : Calls Try.prog 10 #[v, u] w fun e w' => e = .returned (.bool (sameB s t)) ∧ Below w.heap.size w w' := by
  obtain ⟨B, v1, v2, v3, v4, rfl, o⟩ := h
  obtain ⟨B', u1, u2, u3, u4, rfl, o'⟩ := h2
  exact same_any o o'
theorem cold_again (s : St) : coldS (coldS s) = coldS s := by
  unfold coldS
  simp only [List.map_map]
  congr 1
/-- A slice of one. -/
def IsOne (_w : World) (v : Value) : Prop := ∃ a m, v = .slice a 1 m
theorem IsOne.next {w w' : World} {v : Value} (h : IsOne w v) (_hb : Below w.heap.size w w') : IsOne w' v := h
/-- A list of one port. -/
def IsPo (w : World) (x : Po) (v : Value) : Prop := ∃ B, Own w B 50 21 poC v [x]
theorem IsPo.next {w w' : World} {x : Po} {v : Value} (h : IsPo w x v) (hb : Below w.heap.size w w') : IsPo w' x v := by
  obtain ⟨B, o⟩ := h
  exact ⟨B, o.next hb⟩
/-- The address of a port's field. -/
def IsEl (w : World) (x : Po) (j : Nat) (v : Value) : Prop := ∃ q, v = .pointer (some ⟨q, j, none⟩) ∧ q < w.heap.size ∧ ∀ i u, (poC x)[i]? = some u → w.cell? ⟨q, i, none⟩ = some u
theorem IsEl.next {w w' : World} {x : Po} {j : Nat} {v : Value} (h : IsEl w x j v) (hb : Below w.heap.size w w') : IsEl w' x j v := by
  obtain ⟨q, e, hq, hc⟩ := h
  exact ⟨q, e, Nat.lt_of_lt_of_le hq hb.size, fun i u hu => (hb.cell (p := ⟨q, i, none⟩) hq).trans (hc i u hu)⟩
theorem IsPo.el {w : World} {x : Po} {v : Value} (h : IsPo w x v) : ∃ q m, v = .slice (some ⟨q, 0, none⟩) 1 m ∧ 1 ≤ m ∧ IsEl w x 0 (.pointer (some ⟨q, 0, none⟩)) := by
  obtain ⟨B, o⟩ := h
  obtain ⟨a, m, rfl, hm, -⟩ := o.shape
  obtain ⟨q, rfl, -, hq, hr⟩ := Own.elem (k := 0) po_len o rfl
  refine ⟨q, m, rfl, hm, q, rfl, hq, fun i u hu => ?_⟩
  have := hr w (Below.refl _ _) i u hu
  simpa using this
end Go.Proofs.Ytpbdamnlfpfclaa
