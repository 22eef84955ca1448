/- What a port that hears one vector alone goes through. -/
import Derived.Test.YtojijeaofkndpaaIn6
import Derived.Test.YtojijeaofkndpaaKb3
namespace Go.Proofs.Ytojijeaofkndpaa
open Go.RowKit
attribute [local irreducible] wpQuiet wpList
set_option linter.unusedSimpArgs false
set_option linter.unusedVariables false

/-- The code from a statement on, that is in no loop. -/
def fromC (n : Nat) : Code → Option Code
  | .region id ops d => if id = n then some (.region id ops d) else none
  | .seq x y => match fromC n x with
    | some x' => some (.seq x' y)
    | none => fromC n y
  | .block _ c => fromC n c
  | .scope c => fromC n c
  | _ => none
noncomputable def tail8 (n : Nat) : Code := ((Try.f8.body.bind (fromC n)).getD .skip)
theorem wrap_i64 {x : Int} (h0 : -9223372036854775808 ≤ x) (h1 : x < 9223372036854775808) : IntKind.i64.wrap x = x := by
  simp [IntKind.wrap, IntKind.bits, IntKind.signed]
  omega
theorem first_p (y : Vc) (h tt : Int) (ht : IntKind.i64.wrap (3 * h) = tt) : hearP ⟨0, 0, false, 0, 0, false, true, true, true, false, 0, 0, 0, 0, 0, 0, 0, 0, 0, 3, 0⟩ ⟨0, 0, 0, 0⟩ y 0 ⟨0, 9, h, 3, 0, 0⟩ = ⟨0, 0, false, 0, 0, false, true, true, true, false, 0, 0, 2, (y.r : Nat), (y.c : Nat), (y.b : Nat), (y.p : Nat), 0, tt, 3, 0⟩ := by
  have hO : hearOld ⟨0, 0, false, 0, 0, false, true, true, true, false, 0, 0, 0, 0, 0, 0, 0, 0, 0, 3, 0⟩ 0 ⟨0, 9, h, 3, 0, 0⟩ = false := rfl
  have htk : takesB ⟨0, 0, false, 0, 0, false, true, true, true, false, 0, 0, 0, 0, 0, 0, 0, 0, 0, 3, 0⟩ ⟨0, 0, 0, 0⟩ y = true := by simp [takesB]
  unfold hearP hearT
  rw [hO, htk, ← ht]
  rfl
theorem first_n (y : Vc) (h : Int) : hearN ⟨0, 0, false, 0, 0, false, true, true, true, false, 0, 0, 0, 0, 0, 0, 0, 0, 0, 3, 0⟩ ⟨0, 0, 0, 0⟩ y 0 ⟨0, 9, h, 3, 0, 0⟩ = 3 := by
  have hO : hearOld ⟨0, 0, false, 0, 0, false, true, true, true, false, 0, 0, 0, 0, 0, 0, 0, 0, 0, 3, 0⟩ 0 ⟨0, 9, h, 3, 0, 0⟩ = false := rfl
  have htk : takesB ⟨0, 0, false, 0, 0, false, true, true, true, false, 0, 0, 0, 0, 0, 0, 0, 0, 0, 3, 0⟩ ⟨0, 0, 0, 0⟩ y = true := by simp [takesB]
  unfold hearN
  rw [hO, htk]
  rfl
theorem again_p (y : Vc) (h tt lf : Int) (ht : IntKind.i64.wrap (3 * h) = tt) : hearP ⟨0, 0, false, 0, 0, false, true, true, true, false, 0, 0, 2, (y.r : Nat), (y.c : Nat), (y.b : Nat), (y.p : Nat), 0, lf, 3, 0⟩ y y 0 ⟨0, 9, h, 3, 0, 0⟩ = ⟨0, 0, false, 0, 0, false, true, true, true, false, 0, 0, 2, (y.r : Nat), (y.c : Nat), (y.b : Nat), (y.p : Nat), 0, tt, 3, 0⟩ := by
  have hO : hearOld ⟨0, 0, false, 0, 0, false, true, true, true, false, 0, 0, 2, (y.r : Nat), (y.c : Nat), (y.b : Nat), (y.p : Nat), 0, lf, 3, 0⟩ 0 ⟨0, 9, h, 3, 0, 0⟩ = false := rfl
  have htk : takesB ⟨0, 0, false, 0, 0, false, true, true, true, false, 0, 0, 2, (y.r : Nat), (y.c : Nat), (y.b : Nat), (y.p : Nat), 0, lf, 3, 0⟩ y y = true := by simp [takesB, anewB]
  unfold hearP hearT
  rw [hO, htk, ← ht]
  rfl
theorem again_n (y : Vc) (h lf : Int) : hearN ⟨0, 0, false, 0, 0, false, true, true, true, false, 0, 0, 2, (y.r : Nat), (y.c : Nat), (y.b : Nat), (y.p : Nat), 0, lf, 3, 0⟩ y y 0 ⟨0, 9, h, 3, 0, 0⟩ = 2 := by
  have hO : hearOld ⟨0, 0, false, 0, 0, false, true, true, true, false, 0, 0, 2, (y.r : Nat), (y.c : Nat), (y.b : Nat), (y.p : Nat), 0, lf, 3, 0⟩ 0 ⟨0, 9, h, 3, 0, 0⟩ = false := rfl
  have htk : takesB ⟨0, 0, false, 0, 0, false, true, true, true, false, 0, 0, 2, (y.r : Nat), (y.c : Nat), (y.b : Nat), (y.p : Nat), 0, lf, 3, 0⟩ y y = true := by simp [takesB, anewB]
  unfold hearN
  rw [hO, htk]
  simp [eqV]
theorem lives_p (y : Vc) (lf lg : Int) (h1 : 1 < lf) (h2 : lf ≤ 30) (h3 : lg = lf - 1) : fadeP ⟨0, 0, false, 0, 0, false, true, true, true, false, 0, 0, 2, (y.r : Nat), (y.c : Nat), (y.b : Nat), (y.p : Nat), 0, lf, 3, 0⟩ = ⟨0, 0, false, 0, 0, false, true, true, true, false, 0, 0, 2, (y.r : Nat), (y.c : Nat), (y.b : Nat), (y.p : Nat), 0, lg, 3, 0⟩ := by
  unfold fadeP
  rw [if_pos rfl, if_pos h1, h3, show IntKind.i64.wrap (lf - 1) = lf - 1 from wrap_i64 (by omega) (by omega)]
theorem lives_b (y : Vc) (lf : Int) (h1 : 1 < lf) : fadeB ⟨0, 0, false, 0, 0, false, true, true, true, false, 0, 0, 2, (y.r : Nat), (y.c : Nat), (y.b : Nat), (y.p : Nat), 0, lf, 3, 0⟩ = false := by simp [fadeB, h1]
end Go.Proofs.Ytojijeaofkndpaa
