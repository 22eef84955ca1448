/- A reader's numbers, whether there are enough bytes or not; and what package frame reads with it. -/
import Derived.Test.YtkohnleeiajiiaaAddr
namespace Go.Proofs.Ytkohnleeiajiiaa
open Go.RowKit

/-- Are there k bytes left? -/
def enough (rest : ByteArray) (sh : Bool) (k : Nat) : Prop := sh = false ∧ k ≤ rest.size
instance (rest : ByteArray) (sh : Bool) (k : Nat) : Decidable (enough rest sh k) := by unfold enough; infer_instance

/-- The number that is read; what is left; is it short then? -/
def nV (rest : ByteArray) (sh : Bool) (k : Nat) : Nat := if enough rest sh k then Nums.numL (rest.extract 0 k).data.toList else 0
def nR (rest : ByteArray) (sh : Bool) (k : Nat) : ByteArray := if enough rest sh k then rest.extract k rest.size else rest
def nS (rest : ByteArray) (sh : Bool) (k : Nat) : Bool := if enough rest sh k then false else true

theorem num_any (g k : Nat) (rest : ByteArray) (sh : Bool) (w : World) (h : Rd w g rest sh) (h1 : 1 ≤ k) (h8 : k ≤ 8) :
    Calls Try.prog 36 #[.pointer (some ⟨g, 0, none⟩), .int .i64 k] w fun e w' => e = .returned (.int .u64 (nV rest sh k : Nat)) ∧ Rd w' g (nR rest sh k) (nS rest sh k) ∧ w.grownBy w' (some g) := by
  by_cases c : enough rest sh k
  · have e1 : nV rest sh k = Nums.numL (rest.extract 0 k).data.toList := by unfold nV; rw [if_pos c]
    have e2 : nR rest sh k = rest.extract k rest.size := by unfold nR; rw [if_pos c]
    have e3 : nS rest sh k = false := by unfold nS; rw [if_pos c]
    rw [e1, e2, e3]
    obtain ⟨c1, c2⟩ := c
    subst c1
    exact num_good g k rest w h h1 h8 c2
  · have e1 : nV rest sh k = 0 := by unfold nV; rw [if_neg c]
    have e2 : nR rest sh k = rest := by unfold nR; rw [if_neg c]
    have e3 : nS rest sh k = true := by unfold nS; rw [if_neg c]
    rw [e1, e2, e3]
    refine num_bad g k rest sh w h (by omega) (by omega) ?_
    unfold enough at c
    cases sh with
    | true => exact .inl rfl
    | false => right; right; simp at c; omega

theorem nV_lt (rest : ByteArray) (sh : Bool) (k : Nat) : nV rest sh k < 256 ^ k := by
  unfold nV
  split
  · rename_i c
    have := Nums.numL_lt (rest.extract 0 k).data.toList
    have hl : (rest.extract 0 k).data.toList.length ≤ k := by simp; omega
    exact Nat.lt_of_lt_of_le this (Nat.pow_le_pow_right (by omega) hl)
  · exact Nat.pos_of_neZero _

end Go.Proofs.Ytkohnleeiajiiaa
