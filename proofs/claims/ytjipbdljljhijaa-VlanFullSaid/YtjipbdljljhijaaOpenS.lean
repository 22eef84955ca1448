/- How structs that came in are opened. -/
import Derived.Test.YtjipbdljljhijaaOpen2
namespace Go.Proofs.Ytjipbdljljhijaa
open Go.ChangeShapes Go.WideShapes Go.ChangeAt Go.RowKit
set_option linter.unusedVariables false
set_option linter.unusedSimpArgs false

theorem cellsS22 : Try.prog.cellsOf 22 = 1 := by kernel_rfl
theorem cellsS40 : Try.prog.cellsOf 40 = 1 := by kernel_rfl
theorem cellsS42 : Try.prog.cellsOf 42 = 4 := by kernel_rfl

section
variable {H : Type} {enc : TypeId × Value → H} {w : World} {base : Nat} {spare : Nat → Bool} {held : Bool}

theorem cells_s42 {cs : Array Value} {fuel : Nat} {x : DataW H × List MemPlace} (hsz : cs.toList.length = 4) (hf : DataW.trod enc Try.prog w base spare held fuel 42 cs.toList = some x) :
    ∃ (x0 : Int) (x1 : Int) (x2 : Int) (x3 : Int), cs = #[.int .u16 x0, .int .u16 x1, .int .u32 x2, .int .u32 x3] ∧ (Lit.int .u16 x0).wf = true ∧ (Lit.int .u16 x1).wf = true ∧ (Lit.int .u32 x2).wf = true ∧ (Lit.int .u32 x3).wf = true := by
  obtain ⟨l⟩ := cs
  obtain ⟨xs, n, _, _, _, hlen, hg⟩ := DataW.trod_struct Try.underlying42 hf
  match l, hsz with
  | [c0, c1, c2, c3], _ =>
    match xs, hlen with
    | [z0, z1, z2, z3], _ =>
      have g0 : DataW.trod enc Try.prog w base spare held n 40 (([c0, c1, c2, c3].drop 0).take (Try.prog.cellsOf 40)) = some z0 := hg 0 _ rfl
      have g1 : DataW.trod enc Try.prog w base spare held n 40 (([c0, c1, c2, c3].drop 1).take (Try.prog.cellsOf 40)) = some z1 := hg 1 _ rfl
      have g2 : DataW.trod enc Try.prog w base spare held n 22 (([c0, c1, c2, c3].drop 2).take (Try.prog.cellsOf 22)) = some z2 := hg 2 _ rfl
      have g3 : DataW.trod enc Try.prog w base spare held n 22 (([c0, c1, c2, c3].drop 3).take (Try.prog.cellsOf 22)) = some z3 := hg 3 _ rfl
      rw [cellsS40] at g0
      rw [cellsS40] at g1
      rw [cellsS22] at g2
      rw [cellsS22] at g3
      obtain ⟨x0, e0, _, w0⟩ := DataW.trod_int Try.underlying40 g0
      obtain ⟨x1, e1, _, w1⟩ := DataW.trod_int Try.underlying40 g1
      obtain ⟨x2, e2, _, w2⟩ := DataW.trod_int Try.underlying22 g2
      obtain ⟨x3, e3, _, w3⟩ := DataW.trod_int Try.underlying22 g3
      simp [Value.cells] at e0 e1 e2 e3
      subst e0 e1 e2 e3
      exact ⟨x0, x1, x2, x3, rfl, w0, w1, w2, w3⟩

theorem open_s42 {v : Value} {d : DataW H} {p : List MemPlace} {b0 : Nat} {r : Reach} (hv : Value.okWide Try.prog w r b0 42 v) (h : DataW.Trod enc Try.prog w base spare held 42 v d p) :
    ∃ (x0 : Int) (x1 : Int) (x2 : Int) (x3 : Int), v = .agg #[.int .u16 x0, .int .u16 x1, .int .u32 x2, .int .u32 x3] ∧ (Lit.int .u16 x0).wf = true ∧ (Lit.int .u16 x1).wf = true ∧ (Lit.int .u32 x2).wf = true ∧ (Lit.int .u32 x3).wf = true := by
  obtain ⟨cs, rfl, hsz⟩ := okWide_struct Try.underlying42 hv
  obtain ⟨fuel, hf⟩ := h
  obtain ⟨x0, x1, x2, x3, rfl, w0, w1, w2, w3⟩ := cells_s42 (by rw [Array.length_toList]; exact hsz.trans cellsS42) hf
  exact ⟨x0, x1, x2, x3, rfl, w0, w1, w2, w3⟩

end
end Go.Proofs.Ytjipbdljljhijaa
