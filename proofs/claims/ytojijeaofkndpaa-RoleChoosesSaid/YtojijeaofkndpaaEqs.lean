/- slices.Equal and slices.Clone at the four lists of a state. -/
import Derived.Test.YtojijeaofkndpaaEls
import Derived.Test.YtojijeaofkndpaaQuietly
import Derived.Test.YtojijeaofkndpaaLastOp
import Derived.Test.YtojijeaofkndpaaBld
namespace Go.Proofs.Ytojijeaofkndpaa
open Go.RowKit
attribute [local irreducible] wpQuiet
set_option linter.unusedSimpArgs false
set_option linter.unusedVariables false

section
variable {α : Type} {enc : α → List Value} {size : Nat} {w w' : World} {base : Nat} {e : TypeId} {v : Value} {l : List α}
/-- Its address, its room. -/
theorem Own.shape (h : Own w base e size enc v l) : ∃ a c, v = .slice a l.length c ∧ l.length ≤ c ∧ c ≤ maxLen := by
  rcases h.cases with ⟨rfl, rfl⟩ | ⟨g, cap, rfl, -, -, h1, h2⟩
  · exact ⟨none, 0, rfl, Nat.le_refl _, by unfold maxLen; omega⟩
  · exact ⟨_, cap, rfl, h1, h2⟩
/-- An element of it. -/
theorem Own.elem (henc : ∀ x, (enc x).length = size) {a : Option Addr} {c : Nat} (h : Own w base e size enc (.slice a l.length c) l) {k : Nat} {x : α} (hx : l[k]? = some x) :
    ∃ g, a = some ⟨g, 0, none⟩ ∧ base ≤ g ∧ g < w.heap.size ∧ ∀ W, Below w.heap.size w W → W.rangeAt g (k * size) (enc x) := by
  have hk : k < l.length := (List.getElem?_eq_some_iff.1 hx).1
  rcases h.cases with ⟨h1, rfl⟩ | ⟨g, cap, h1, h2, h3, -, -⟩
  · simp at hk
  · injection h1 with h1 _ h4
    subst h1
    subst h4
    refine ⟨g, rfl, h2, h3, fun W hW j u hu => ?_⟩
    have hj : j < size := by have := (List.getElem?_eq_some_iff.1 hu).1; rw [henc] at this; exact this
    rw [(h.next hW).at henc k j x hx hj, hu]
end
theorem lists_ne {α : Type} {a b : List α} {k : Nat} {x y : α} (hx : a[k]? = some x) (hy : b[k]? = some y) (h : eqB x y = false) : eqB a b = false := eqB_ne fun e => by
  rw [e, hy] at hx
  rw [Option.some.inj hx, eqB_self] at h
  cases h
theorem lists_eq {α : Type} {a b : List α} {n : Nat} (ha : a.length = n) (hb : b.length = n) (h : ∀ j, j < n → a[j]? = b[j]?) : eqB a b = true := eqB_iff.2 (List.ext_getElem? fun j => by
  by_cases c : j < n
  · exact h j c
  · rw [List.getElem?_eq_none (by omega), List.getElem?_eq_none (by omega)])

end Go.Proofs.Ytojijeaofkndpaa
