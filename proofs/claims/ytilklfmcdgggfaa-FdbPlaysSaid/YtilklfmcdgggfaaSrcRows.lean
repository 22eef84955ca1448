/- A slice whose cells are known, by its elements. -/
import Derived.Test.YtilklfmcdgggfaaStrs
import Derived.Test.YtilklfmcdgggfaaLst
namespace Go.Proofs.Ytilklfmcdgggfaa
open Go.RowKit

theorem src_rows {α : Type} {w : World} {enc : α → List Value} {size : Nat} {sv : Value} {l : List α} (hl : ∀ x, (enc x).length = size) (hs : 0 < size) (h : Src w enc sv l) :
    ∃ A c, sv = .slice A l.length c ∧ RowsAt w A size enc l := by
  rcases h with ⟨rfl, rfl⟩ | ⟨ad, c, rfl, hc⟩
  · exact ⟨none, 0, rfl, .inl rfl⟩
  · refine ⟨some ad, c, rfl, ?_⟩
    cases l with
    | nil => exact .inl rfl
    | cons y l =>
      have h0 := cellsL_at hl (y :: l) 0 0 y rfl hs
      have hy : 0 < (enc y).length := by rw [hl]; exact hs
      rw [List.getElem?_eq_getElem hy] at h0
      have q := cell_spot (hc 0 _ (by simpa using h0))
      have e0 : ad.add 0 = ad := by
        unfold Addr.add
        split <;> simp_all
      rw [e0] at q
      obtain ⟨b, o, s⟩ := ad
      simp only at q
      obtain ⟨rfl, hb⟩ := q
      refine .inr ⟨b, o, rfl, hb, fun i x hx j u hu => ?_⟩
      have hj : j < size := by
        rw [← hl x]
        exact (List.getElem?_eq_some_iff.1 hu).1
      have := hc (i * size + j) u (by rw [cellsL_at hl (y :: l) i j x hx hj]; exact hu)
      rw [add_none] at this
      exact this
end Go.Proofs.Ytilklfmcdgggfaa
