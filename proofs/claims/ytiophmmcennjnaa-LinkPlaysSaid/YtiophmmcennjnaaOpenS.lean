/- How structs that came in are opened. -/
import Derived.Test.YtiophmmcennjnaaOpen2
namespace Go.Proofs.Ytiophmmcennjnaa
open Go.ChangeShapes Go.WideShapes Go.ChangeAt Go.RowKit
set_option linter.unusedVariables false
set_option linter.unusedSimpArgs false

theorem cellsS3 : Try.prog.cellsOf 3 = 1 := by kernel_rfl
theorem cellsS4 : Try.prog.cellsOf 4 = 1 := by kernel_rfl
theorem cellsS5 : Try.prog.cellsOf 5 = 1 := by kernel_rfl
theorem cellsS9 : Try.prog.cellsOf 9 = 1 := by kernel_rfl
theorem cellsS29 : Try.prog.cellsOf 29 = 4 := by kernel_rfl

section
variable {H : Type} {enc : TypeId × Value → H} {w : World} {base : Nat} {spare : Nat → Bool} {held : Bool}

set_option maxRecDepth 100000 in
theorem cells_s29 {cs : Array Value} {fuel : Nat} {x : DataW H × List MemPlace} (hsz : cs.toList.length = 4) (hf : DataW.trod enc Try.prog w base spare held fuel 29 cs.toList = some x) :
    ∃ (x0 : Int) (x1 : Int) (x2 : ByteArray) (x3 : Bool), cs = #[.int .u8 x0, .int .i64 x1, .string x2, .bool x3] ∧ (Lit.int .u8 x0).wf = true ∧ (Lit.int .i64 x1).wf = true ∧ x2.size ≤ maxLen := by
  obtain ⟨l⟩ := cs
  obtain ⟨xs, n, _, _, _, hlen, hg⟩ := DataW.trod_struct Try.underlying29 hf
  match l, hsz with
  | [c0, c1, c2, c3], _ =>
    match xs, hlen with
    | [z0, z1, z2, z3], _ =>
      have g0 : DataW.trod enc Try.prog w base spare held n 5 (([c0, c1, c2, c3].drop 0).take (Try.prog.cellsOf 5)) = some z0 := hg 0 _ rfl
      have g1 : DataW.trod enc Try.prog w base spare held n 3 (([c0, c1, c2, c3].drop 1).take (Try.prog.cellsOf 3)) = some z1 := hg 1 _ rfl
      have g2 : DataW.trod enc Try.prog w base spare held n 9 (([c0, c1, c2, c3].drop 2).take (Try.prog.cellsOf 9)) = some z2 := hg 2 _ rfl
      have g3 : DataW.trod enc Try.prog w base spare held n 4 (([c0, c1, c2, c3].drop 3).take (Try.prog.cellsOf 4)) = some z3 := hg 3 _ rfl
      rw [cellsS5] at g0
      rw [cellsS3] at g1
      rw [cellsS9] at g2
      rw [cellsS4] at g3
      obtain ⟨x0, e0, _, w0⟩ := DataW.trod_int Try.underlying5 g0
      obtain ⟨x1, e1, _, w1⟩ := DataW.trod_int Try.underlying3 g1
      obtain ⟨x2, e2, _, w2⟩ := DataW.trod_string Try.underlying9 g2
      obtain ⟨x3, e3, _⟩ := DataW.trod_bool Try.underlying4 g3
      simp [Value.cells] at e0 e1 e2 e3
      subst e0 e1 e2 e3
      exact ⟨x0, x1, x2, x3, rfl, w0, w1, w2⟩

set_option maxRecDepth 100000 in
theorem open_s29 {v : Value} {d : DataW H} {p : List MemPlace} {b0 : Nat} {r : Reach} (hv : Value.okWide Try.prog w r b0 29 v) (h : DataW.Trod enc Try.prog w base spare held 29 v d p) :
    ∃ (x0 : Int) (x1 : Int) (x2 : ByteArray) (x3 : Bool), v = .agg #[.int .u8 x0, .int .i64 x1, .string x2, .bool x3] ∧ (Lit.int .u8 x0).wf = true ∧ (Lit.int .i64 x1).wf = true ∧ x2.size ≤ maxLen := by
  obtain ⟨cs, rfl, hsz⟩ := okWide_struct Try.underlying29 hv
  obtain ⟨fuel, hf⟩ := h
  obtain ⟨x0, x1, x2, x3, rfl, w0, w1, w2⟩ := cells_s29 (by rw [Array.length_toList]; exact hsz.trans cellsS29) hf
  exact ⟨x0, x1, x2, x3, rfl, w0, w1, w2⟩

end
end Go.Proofs.Ytiophmmcennjnaa
