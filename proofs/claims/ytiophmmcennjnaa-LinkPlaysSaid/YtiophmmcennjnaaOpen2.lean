/- How arguments are opened that are arrays of integers, or frames. -/
import Derived.Test.YtiophmmcennjnaaOpen
namespace Go.Proofs.Ytiophmmcennjnaa
open Go.ChangeShapes Go.WideShapes Go.ChangeAt Go.RowKit

section
variable {H : Type} {enc : TypeId × Value → H} {P : Program} {w : World} {base : Nat} {spare : Nat → Bool} {held : Bool}

/-- The elements of an array of integers that is read. -/
theorem arr_ints {n : Nat} {t e : TypeId} {k : IntKind} {fuel : Nat} {cs : List Value} {x : DataW H × List MemPlace} (ht : P.underlying t = some (.array n e)) (he : P.underlying e = some (.int k)) (hce : P.cellsOf e = 1) (hc : P.cellsOf t = n)
    (h : DataW.trod enc P w base spare held fuel t cs = some x) : cs.length = n ∧ ∀ i, i < n → ∃ a, cs[i]? = some (.int k a) ∧ (Lit.int k a).wf = true := by
  obtain ⟨xs, m, _, _, hl, hx, hi⟩ := DataW.trod_array ht h
  refine ⟨hl.trans hc, fun i hin => ?_⟩
  have h1 := hi i hin
  rw [hce, Nat.mul_one] at h1
  have hlen : i < cs.length := by omega
  rw [List.drop_eq_getElem_cons hlen, show List.take 1 (cs[i] :: List.drop (i + 1) cs) = [cs[i]] from rfl, List.getElem?_eq_getElem (by omega)] at h1
  obtain ⟨a, e1, _, w1⟩ := DataW.trod_int he h1
  simp only [List.cons.injEq, and_true] at e1
  exact ⟨a, by rw [List.getElem?_eq_getElem hlen, e1], w1⟩

theorem open_arr6 {t e : TypeId} {k : IntKind} {v : Value} {d : DataW H} {p : List MemPlace} {b0 : Nat} {r : Reach}
    (ht : P.underlying t = some (.array 6 e)) (he : P.underlying e = some (.int k)) (hc : P.cellsOf t = 6) (hce : P.cellsOf e = 1)
    (hv : Value.okWide P w r b0 t v) (h : DataW.Trod enc P w base spare held t v d p) :
    ∃ (a0 a1 a2 a3 a4 a5 : Int), v = .agg #[.int k a0, .int k a1, .int k a2, .int k a3, .int k a4, .int k a5] ∧ (Lit.int k a0).wf = true ∧ (Lit.int k a1).wf = true ∧ (Lit.int k a2).wf = true ∧ (Lit.int k a3).wf = true ∧ (Lit.int k a4).wf = true ∧ (Lit.int k a5).wf = true := by
  unfold Value.okWide at hv
  rw [ht] at hv
  obtain ⟨cs, rfl, hsz, _⟩ := hv
  obtain ⟨l⟩ := cs
  obtain ⟨fuel, hf⟩ := h
  obtain ⟨_, hi⟩ := arr_ints ht he hce hc hf
  match l, hsz.trans hc with
  | [c0, c1, c2, c3, c4, c5], _ =>
    obtain ⟨a0, e0, w0⟩ := hi 0 (by omega)
    obtain ⟨a1, e1, w1⟩ := hi 1 (by omega)
    obtain ⟨a2, e2, w2⟩ := hi 2 (by omega)
    obtain ⟨a3, e3, w3⟩ := hi 3 (by omega)
    obtain ⟨a4, e4, w4⟩ := hi 4 (by omega)
    obtain ⟨a5, e5, w5⟩ := hi 5 (by omega)
    simp [Value.cells] at e0 e1 e2 e3 e4 e5
    subst e0 e1 e2 e3 e4 e5
    exact ⟨a0, a1, a2, a3, a4, a5, rfl, w0, w1, w2, w3, w4, w5⟩

theorem open_arr2 {t e : TypeId} {k : IntKind} {v : Value} {d : DataW H} {p : List MemPlace} {b0 : Nat} {r : Reach}
    (ht : P.underlying t = some (.array 2 e)) (he : P.underlying e = some (.int k)) (hc : P.cellsOf t = 2) (hce : P.cellsOf e = 1)
    (hv : Value.okWide P w r b0 t v) (h : DataW.Trod enc P w base spare held t v d p) :
    ∃ (a0 a1 : Int), v = .agg #[.int k a0, .int k a1] ∧ (Lit.int k a0).wf = true ∧ (Lit.int k a1).wf = true := by
  unfold Value.okWide at hv
  rw [ht] at hv
  obtain ⟨cs, rfl, hsz, _⟩ := hv
  obtain ⟨l⟩ := cs
  obtain ⟨fuel, hf⟩ := h
  obtain ⟨_, hi⟩ := arr_ints ht he hce hc hf
  match l, hsz.trans hc with
  | [c0, c1], _ =>
    obtain ⟨a0, e0, w0⟩ := hi 0 (by omega)
    obtain ⟨a1, e1, w1⟩ := hi 1 (by omega)
    simp [Value.cells] at e0 e1
    subst e0 e1
    exact ⟨a0, a1, rfl, w0, w1⟩

end
end Go.Proofs.Ytiophmmcennjnaa
