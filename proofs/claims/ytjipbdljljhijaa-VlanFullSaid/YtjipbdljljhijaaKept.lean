/- Some blocks may have changed, and no others. -/
import Derived.Test.YtjipbdljljhijaaRef8c
namespace Go.Proofs.Ytjipbdljljhijaa
open Go.RowKit
set_option linter.unusedVariables false

/-- Other blocks than those from A on below B are as they were. -/
structure KeptO (A B : Nat) (w w' : World) : Prop where
  os : w'.os = w.os
  tape : w'.tape = w.tape
  output : w'.output = w.output
  size : w.heap.size ≤ w'.heap.size
  block : ∀ k, (k < A ∨ B ≤ k) → k < w.heap.size → w'.heap[k]? = w.heap[k]?

theorem KeptO.below {A B : Nat} {w w' : World} (h : KeptO A B w w') (hA : A ≤ w.heap.size) : Below A w w' :=
  ⟨h.os, h.tape, h.output, h.size, fun i hi => h.block i (.inl hi) (by omega)⟩
theorem KeptO.own {A B base : Nat} {w w' : World} {v : Value} {l : List Vl} (h : KeptO A B w w') (ho : Own w base 53 3 vlC v l) (hb : B ≤ base) : Own w' base 53 3 vlC v l := by
  refine ⟨ho.1, ?_⟩
  rcases ho.2 with hn | ⟨g, cap, cur, rfl, h2, h3, h4⟩
  · exact .inl hn
  · exact .inr ⟨g, cap, cur, rfl, h2, by rw [h.block g (.inr (by omega)) (Array.getElem?_eq_some_iff.1 h3).1]; exact h3, h4⟩

end Go.Proofs.Ytjipbdljljhijaa
