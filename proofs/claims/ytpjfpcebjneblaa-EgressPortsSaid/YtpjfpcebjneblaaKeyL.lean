/- Lists whose elements have keys that are numbers; no program in sight. -/
import Derived.WalkKit
namespace Go.Proofs.Ytpjfpcebjneblaa
set_option linter.unusedVariables false
section
variable {α : Type} (key : α → Nat)

/-- The place of the first one that has a key, or -1. -/
def atK (v : Nat) : List α → Int
  | [] => -1
  | x :: l => if key x = v then 0 else if atK v l < 0 then -1 else atK v l + 1
theorem atK_none (v : Nat) : ∀ l : List α, (∀ x ∈ l, key x ≠ v) → atK key v l = -1
  | [], _ => rfl
  | y :: l, h => by
    have h0 := h y List.mem_cons_self
    have ih := atK_none v l (fun x hx => h x (List.mem_cons_of_mem _ hx))
    simp [atK, h0, ih]
theorem atK_some (v : Nat) : ∀ (l : List α) (k : Nat) (x : α), l[k]? = some x → key x = v → (∀ (j : Nat) (y : α), j < k → l[j]? = some y → key y ≠ v) → atK key v l = k
  | [], k, x, h, _, _ => by simp at h
  | y :: l, 0, x, h, hx, _ => by
    simp only [List.getElem?_cons_zero, Option.some.injEq] at h
    subst h
    simp [atK, hx]
  | y :: l, k + 1, x, h, hx, hb => by
    have h0 := hb 0 y (by omega) rfl
    have ih := atK_some v l k x (by simpa using h) hx (fun i z hi hz => hb (i + 1) z (by omega) (by simpa using hz))
    have : ¬ ((k : Int) < 0) := by omega
    simp [atK, h0, ih, this]
/-- What it says: there is one, or there is none. -/
theorem atK_cases (v : Nat) : ∀ l : List α, (atK key v l = -1 ∧ ∀ y ∈ l, key y ≠ v) ∨ ∃ (k : Nat) (x : α), atK key v l = k ∧ l[k]? = some x ∧ key x = v
  | [] => .inl ⟨rfl, by simp⟩
  | y :: l => by
    unfold atK
    by_cases c : key y = v
    · rw [if_pos c]; exact .inr ⟨0, y, rfl, rfl, c⟩
    · rw [if_neg c]
      rcases atK_cases v l with ⟨h, h2⟩ | ⟨k, x, h, h2, h3⟩
      · rw [h]
        refine .inl ⟨by simp, ?_⟩
        intro z hz
        rcases List.mem_cons.1 hz with rfl | hz
        · exact c
        · exact h2 z hz
      · rw [h, if_neg (by omega)]
        exact .inr ⟨k + 1, x, by omega, by simpa using h2, h3⟩

/-- How many stand ahead of a key. -/
def posK (v : Nat) : List α → Nat
  | [] => 0
  | y :: l => if key y < v then posK v l + 1 else 0
theorem posK_spec (v : Nat) : ∀ l : List α, posK key v l ≤ l.length ∧ (∀ (j : Nat) (y : α), j < posK key v l → l[j]? = some y → key y < v) ∧ (∀ y, l[posK key v l]? = some y → ¬ key y < v)
  | [] => ⟨by simp [posK], fun j y hj => by simp [posK] at hj, fun y hy => by simp at hy⟩
  | z :: l => by
    obtain ⟨h1, h2, h3⟩ := posK_spec v l
    by_cases c : key z < v
    · have e : posK key v (z :: l) = posK key v l + 1 := by simp [posK, c]
      rw [e]
      refine ⟨by simp only [List.length_cons]; omega, fun j y hj hy => ?_, fun y hy => h3 y (by simpa using hy)⟩
      cases j with
      | zero =>
        simp only [List.getElem?_cons_zero, Option.some.injEq] at hy
        subst hy
        exact c
      | succ j => exact h2 j y (by omega) (by simpa using hy)
    · have e : posK key v (z :: l) = 0 := by simp [posK, c]
      rw [e]
      refine ⟨by omega, fun j y hj => absurd hj (Nat.not_lt_zero _), fun y hy => ?_⟩
      simp only [List.getElem?_cons_zero, Option.some.injEq] at hy
      subst hy
      exact c
/-- One laid in at its place; one taken out. -/
def layK (l : List α) (x : α) : List α := l.take (posK key (key x) l) ++ [x] ++ l.drop (posK key (key x) l)
def cutK (v : Nat) (l : List α) : List α := if atK key v l < 0 then l else l.eraseIdx (atK key v l).toNat
theorem layK_len (l : List α) (x : α) : (layK key l x).length = l.length + 1 := by
  have := (posK_spec key (key x) l).1
  unfold layK
  simp
  omega
theorem cutK_len (v : Nat) (l : List α) : (cutK key v l).length ≤ l.length := by
  unfold cutK
  split
  · exact Nat.le_refl _
  · exact List.length_eraseIdx_le _ _
theorem cutK_none {v : Nat} {l : List α} (h : ∀ y ∈ l, key y ≠ v) : cutK key v l = l := by
  unfold cutK
  rw [atK_none key v l h, if_pos (by omega)]
end

/-- A VLAN's number and an address as one key. -/
def keyN (vid mac : Nat) : Nat := vid * 281474976710656 + mac
theorem keyN_lt {v a w b : Nat} (ha : a < 281474976710656) (hb : b < 281474976710656) : keyN v a < keyN w b ↔ v < w ∨ v = w ∧ a < b := by unfold keyN; omega
theorem keyN_eq {v a w b : Nat} (ha : a < 281474976710656) (hb : b < 281474976710656) : keyN v a = keyN w b ↔ v = w ∧ a = b := by unfold keyN; omega
end Go.Proofs.Ytpjfpcebjneblaa
