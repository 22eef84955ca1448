/- How structs that came in are opened. -/
import Derived.Test.YtmbafeemiclmeaaOpen2
namespace Go.Proofs.Ytmbafeemiclmeaa
open Go.ChangeShapes Go.WideShapes Go.ChangeAt Go.RowKit
set_option linter.unusedVariables false
set_option linter.unusedSimpArgs false

theorem cellsS5 : Try.prog.cellsOf 5 = 1 := by kernel_rfl
theorem cellsS9 : Try.prog.cellsOf 9 = 1 := by kernel_rfl
theorem cellsS53 : Try.prog.cellsOf 53 = 2 := by kernel_rfl

section
variable {H : Type} {enc : TypeId × Value → H} {w : World} {base : Nat} {spare : Nat → Bool} {held : Bool}

set_option maxRecDepth 100000 in
theorem cells_s53 {cs : Array Value} {fuel : Nat} {x : DataW H × List MemPlace} (hsz : cs.toList.length = 2) (hf : DataW.trod enc Try.prog w base spare held fuel 53 cs.toList = some x) :
    ∃ (x0 : Int) (x1 : ByteArray), cs = #[.int .u8 x0, .string x1] ∧ (Lit.int .u8 x0).wf = true ∧ x1.size ≤ maxLen := by
  obtain ⟨l⟩ := cs
  obtain ⟨xs, n, _, _, _, hlen, hg⟩ := DataW.trod_struct Try.underlying53 hf
  match l, hsz with
  | [c0, c1], _ =>
    match xs, hlen with
    | [z0, z1], _ =>
      have g0 : DataW.trod enc Try.prog w base spare held n 5 (([c0, c1].drop 0).take (Try.prog.cellsOf 5)) = some z0 := hg 0 _ rfl
      have g1 : DataW.trod enc Try.prog w base spare held n 9 (([c0, c1].drop 1).take (Try.prog.cellsOf 9)) = some z1 := hg 1 _ rfl
      rw [cellsS5] at g0
      rw [cellsS9] at g1
      obtain ⟨x0, e0, _, w0⟩ := DataW.trod_int Try.underlying5 g0
      obtain ⟨x1, e1, _, w1⟩ := DataW.trod_string Try.underlying9 g1
      simp [Value.cells] at e0 e1
      subst e0 e1
      exact ⟨x0, x1, rfl, w0, w1⟩

set_option maxRecDepth 100000 in
theorem open_s53 {v : Value} {d : DataW H} {p : List MemPlace} {b0 : Nat} {r : Reach} (hv : Value.okWide Try.prog w r b0 53 v) (h : DataW.Trod enc Try.prog w base spare held 53 v d p) :
    ∃ (x0 : Int) (x1 : ByteArray), v = .agg #[.int .u8 x0, .string x1] ∧ (Lit.int .u8 x0).wf = true ∧ x1.size ≤ maxLen := by
  obtain ⟨cs, rfl, hsz⟩ := okWide_struct Try.underlying53 hv
  obtain ⟨fuel, hf⟩ := h
  obtain ⟨x0, x1, rfl, w0, w1⟩ := cells_s53 (by rw [Array.length_toList]; exact hsz.trans cellsS53) hf
  exact ⟨x0, x1, rfl, w0, w1⟩

end
end Go.Proofs.Ytmbafeemiclmeaa
