/- The document's own Set of a VLAN: a new one. -/
import Derived.Test.YtpjfpcebjneblaaRef8b
namespace Go.Proofs.Ytpjfpcebjneblaa
open Go.RowKit
set_option linter.unusedSimpArgs false
set_option linter.unusedVariables false

theorem posV_spec (vid : Nat) : ∀ l : List Vl, posV vid l ≤ l.length ∧ (∀ (j : Nat) (y : Vl), j < posV vid l → l[j]? = some y → y.vid < vid) ∧ (∀ y, l[posV vid l]? = some y → ¬ y.vid < vid)
  | [] => ⟨by simp [posV], fun j y hj => by simp [posV] at hj, fun y hy => by simp at hy⟩
  | z :: l => by
    obtain ⟨h1, h2, h3⟩ := posV_spec vid l
    by_cases c : z.vid < vid
    · have e : posV vid (z :: l) = posV vid l + 1 := by simp [posV, c]
      rw [e]
      refine ⟨by simp only [List.length_cons]; omega, fun j y hj hy => ?_, fun y hy => h3 y (by simpa using hy)⟩
      cases j with
      | zero =>
        simp only [List.getElem?_cons_zero, Option.some.injEq] at hy
        subst hy
        exact c
      | succ j => exact h2 j y (by omega) (by simpa using hy)
    · have e : posV vid (z :: l) = 0 := by simp [posV, c]
      rw [e]
      refine ⟨by omega, fun j y hj => absurd hj (Nat.not_lt_zero _), fun y hy => ?_⟩
      simp only [List.getElem?_cons_zero, Option.some.injEq] at hy
      subst hy
      exact c

theorem atV_neg {vid : Nat} {l : List Vl} (h : ¬ 0 ≤ atV vid l) : atV vid l = -1 := by have := (atV_lt vid l).1; omega
end Go.Proofs.Ytpjfpcebjneblaa
