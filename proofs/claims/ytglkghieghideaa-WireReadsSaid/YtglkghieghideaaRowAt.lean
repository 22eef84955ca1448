/- The elements of a slice of integers that came in, cell by cell. -/
import Derived.Test.YtglkghieghideaaOpen
namespace Go.Proofs.Ytglkghieghideaa
open Go.RowKit

theorem IsRow.at {k : IntKind} {w : World} {a : Option Addr} {len cap : Nat} {zs : List Int} (h : IsRow k w a len cap zs) :
    len = 0 ∨ ∃ b off, a = some ⟨b, off, none⟩ ∧ b < w.heap.size ∧ ∀ j, j < len → w.cell? ⟨b, off + j, none⟩ = some (.int k (zs.getD j 0)) ∧ (Lit.int k (zs.getD j 0)).wf = true := by
  rcases h with ⟨_, h, _, _⟩ | ⟨x, rfl, hl, hm, hz, hc, hw⟩
  · exact .inl h
  · by_cases c : len = 0
    · exact .inl c
    · refine .inr ?_
      obtain ⟨b, off, spot⟩ := x
      have h0 := hc 0 (by omega)
      have hs : spot = none := by simpa [Addr.add] using World.cell?_spot h0
      subst hs
      have key : ∀ j, (⟨b, off, none⟩ : Addr).add j = ⟨b, off + j, none⟩ := by
        intro j
        cases j <;> simp [Addr.add]
      refine ⟨b, off, rfl, ?_, ?_⟩
      · have := World.block_lt_of_cell? (h := h0)
        simpa [key] using this
      · intro j hj
        have := hc j (by omega)
        rw [key] at this
        refine ⟨this, hw _ ?_⟩
        rw [List.getD_eq_getElem?_getD, List.getElem?_eq_getElem (by omega)]
        simp

end Go.Proofs.Ytglkghieghideaa
