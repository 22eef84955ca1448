/- Some blocks may have changed, and no others. -/
import Derived.Test.YtpjfpcebjneblaaBks
namespace Go.Proofs.Ytpjfpcebjneblaa
open Go.RowKit
set_option linter.unusedVariables false

/-- Other blocks than those from A on below B are as they were. -/
structure KeptO (A B : Nat) (w w' : World) : Prop where
  os : w'.os = w.os
  tape : w'.tape = w.tape
  output : w'.output = w.output
  size : w.heap.size ≤ w'.heap.size
  block : ∀ k, (k < A ∨ B ≤ k) → k < w.heap.size → w'.heap[k]? = w.heap[k]?

theorem KeptO.below {A B : Nat} {w w' : World} (h : KeptO A B w w') (hA : A ≤ w.heap.size) : Below A w w' :=
  ⟨h.os, h.tape, h.output, h.size, fun i hi => h.block i (.inl hi) (by omega)⟩
end Go.Proofs.Ytpjfpcebjneblaa
