/- RoleOne: of the choice. -/
import Derived.Test.YtojijeaofkndpaaRo9
namespace Go.Proofs.Ytojijeaofkndpaa
open Go.RowKit
attribute [local irreducible] wpQuiet wpList
set_option linter.unusedSimpArgs false
set_option linter.unusedVariables false

noncomputable def tail4 (n : Nat) : Code := ((Try.f4.body.bind (fromC n)).getD .skip)
theorem root_le (self : Nat) (F : Option (Nat × Rp)) : rootN self F ≤ self := by
  cases F with
  | none => exact Nat.le_refl _
  | some y =>
    show (if y.2.v.r < self then y.2.v.r else self) ≤ self
    split <;> omega
theorem root_port (self : Nat) (F : Option (Nat × Rp)) : (rootN self F = self ↔ portN self F = 0) := by
  cases F with
  | none => exact ⟨fun _ => rfl, fun _ => rfl⟩
  | some y =>
    show ((if y.2.v.r < self then y.2.v.r else self) = self ↔ (if y.2.v.r < self then (y.1 : Int) + 1 else 0) = 0)
    by_cases c : y.2.v.r < self
    · rw [if_pos c, if_pos c]; omega
    · rw [if_neg c, if_neg c]; omega
theorem port_some {self : Nat} {F : Option (Nat × Rp)} {k : Nat} (h : portN self F = (k : Int) + 1) : ∃ y, F = some y ∧ y.1 = k := by
  cases F with
  | none => exact absurd (show (0 : Int) = (k : Int) + 1 from h) (by omega)
  | some y =>
    have h : (if y.2.v.r < self then (y.1 : Int) + 1 else 0) = (k : Int) + 1 := h
    refine ⟨y, rfl, ?_⟩
    by_cases c : y.2.v.r < self
    · rw [if_pos c] at h; omega
    · rw [if_neg c] at h; omega
theorem port_rng {self : Nat} {l : List Rp} {n : Nat} : 0 ≤ portN self (bestU self l n) ∧ portN self (bestU self l n) ≤ n := by
  cases c : bestU self l n with
  | none => exact ⟨Int.le_refl _, by show (0 : Int) ≤ n; omega⟩
  | some y =>
    have h := (best_some c).1
    show 0 ≤ (if y.2.v.r < self then (y.1 : Int) + 1 else 0) ∧ (if y.2.v.r < self then (y.1 : Int) + 1 else 0) ≤ n
    split <;> omega
theorem port_on {self : Nat} {l : List Rp} {n k : Nat} {x : Rp} (hx : l[k]? = some x) (h : portN self (bestU self l n) = (k : Int) + 1) : x.on = true ∧ x.hd = true := by
  obtain ⟨y, hy, rfl⟩ := port_some h
  obtain ⟨-, h2, h3⟩ := best_some hy
  rw [hx] at h2
  injection h2 with h2
  subst h2
  unfold wayB at h3
  rw [Bool.and_eq_true, Bool.and_eq_true] at h3
  exact ⟨h3.1, h3.2.1⟩
theorem take_at {α β : Type} (f : α → β) {l : List α} {n k : Nat} {x : α} (hk : k < n) (hx : l[k]? = some x) : ((l.take n).map f)[k]? = some (f x) := by
  rw [List.getElem?_map, List.getElem?_take_of_lt hk, hx]
  rfl
theorem roles_at {self R C : Nat} {P : Int} {l : List Rp} {n k : Nat} {x : Rp} (hl : l.length = n) (hk : k < n) (hx : l[k]? = some x) (hP : 0 ≤ P ∧ P ≤ n) : (rolesE self R C P l n)[k]? = some (if P = (k : Int) + 1 then 3 else roleN self (tellsV self R C x) x) := by
  have hr : (rolesK self R C l n)[k]? = some (roleN self (tellsV self R C x) x) := take_at (fun x => roleN self (tellsV self R C x) x) hk hx
  have hlen : (rolesK self R C l n).length = n := tk_len _ (by omega)
  unfold rolesE
  by_cases c : 0 < P
  · rw [if_pos c]
    by_cases e : P = (k : Int) + 1
    · rw [if_pos e, show (P - 1).toNat = k by omega, List.getElem?_set_self (by omega)]
    · rw [if_neg e, List.getElem?_set_ne (by omega), hr]
  · rw [if_neg c, if_neg (by omega), hr]
theorem rolesE_len {self R C : Nat} {P : Int} {l : List Rp} {n : Nat} (hl : l.length = n) : (rolesE self R C P l n).length = n := by
  have hlen : (rolesK self R C l n).length = n := tk_len _ (by omega)
  unfold rolesE
  split
  · rw [List.length_set, hlen]
  · exact hlen
end Go.Proofs.Ytojijeaofkndpaa
