/- How the plain state is opened. -/
import Derived.Test.YtojijeaofkndpaaOpen2
import Derived.Test.YtojijeaofkndpaaLits
namespace Go.Proofs.Ytojijeaofkndpaa
open Go.ChangeShapes Go.WideShapes Go.ChangeAt Go.RowKit Go.Deep
set_option linter.unusedVariables false
set_option linter.unusedSimpArgs false

theorem cellsR3 : Try.prog.cellsOf 3 = 1 := by kernel_rfl
theorem cellsR4 : Try.prog.cellsOf 4 = 1 := by kernel_rfl
theorem cellsR22 : Try.prog.cellsOf 22 = 1 := by kernel_rfl
theorem cellsR27 : Try.prog.cellsOf 30 = 1 := by kernel_rfl
theorem cellsR28 : Try.prog.cellsOf 98 = 14 := by kernel_rfl
theorem cellsR44 : Try.prog.cellsOf 40 = 1 := by kernel_rfl
section
variable {H : Type} {enc : TypeId × Value → H} {P : Program} {w : World} {base : Nat} {spare : Nat → Bool} {held : Bool}
theorem arr_bools {n : Nat} {t e : TypeId} {fuel : Nat} {cs : List Value} {x : DataW H × List MemPlace} (ht : P.underlying t = some (.array n e)) (he : P.underlying e = some .bool) (hce : P.cellsOf e = 1) (hc : P.cellsOf t = n)
    (h : DataW.trod enc P w base spare held fuel t cs = some x) : cs.length = n ∧ ∀ i, i < n → ∃ a, cs[i]? = some (.bool a) := by
  obtain ⟨xs, m, _, _, hl, hx, hi⟩ := DataW.trod_array ht h
  refine ⟨hl.trans hc, fun i hin => ?_⟩
  have h1 := hi i hin
  rw [hce, Nat.mul_one] at h1
  have hlen : i < cs.length := by omega
  rw [List.drop_eq_getElem_cons hlen, show List.take 1 (cs[i] :: List.drop (i + 1) cs) = [cs[i]] from rfl, List.getElem?_eq_getElem (by omega)] at h1
  obtain ⟨a, e1, _⟩ := DataW.trod_bool he h1
  simp only [List.cons.injEq, and_true] at e1
  exact ⟨a, by rw [List.getElem?_eq_getElem hlen, e1]⟩
/-- A field that is a slice. -/
theorem field_slice {t e : TypeId} {n : Nat} {c : Value} {z : DataW H × List MemPlace} (ht : Try.prog.underlying t = some (.slice e)) (hf : DataW.trod enc Try.prog w base spare held n t [c] = some z) :
    ∃ a len cap, c = .slice a len cap ∧ DataW.Trod enc Try.prog w base spare held t (.slice a len cap) z.1 z.2 := by
  have key : ∃ a len cap, c = .slice a len cap := by
    rcases open_slice ht hf with ⟨hcs, -⟩ | ⟨x, len', cap', m, n, D, Pl, hcs, -⟩
    · exact ⟨none, 0, 0, by simpa using hcs⟩
    · exact ⟨some x, len', cap', by simpa using hcs⟩
  obtain ⟨a, len, cap, rfl⟩ := key
  exact ⟨a, len, cap, rfl, n, by simpa [Value.cells] using hf⟩
end
end Go.Proofs.Ytojijeaofkndpaa
