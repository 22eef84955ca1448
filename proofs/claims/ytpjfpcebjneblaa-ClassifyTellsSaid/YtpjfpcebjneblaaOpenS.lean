/- How structs that came in are opened. -/
import Derived.Test.YtpjfpcebjneblaaOpen2
namespace Go.Proofs.Ytpjfpcebjneblaa
open Go.ChangeShapes Go.WideShapes Go.ChangeAt Go.RowKit
set_option linter.unusedVariables false
set_option linter.unusedSimpArgs false

theorem cellsS4 : Try.prog.cellsOf 4 = 1 := by kernel_rfl
theorem cellsS5 : Try.prog.cellsOf 5 = 1 := by kernel_rfl
theorem cellsS22 : Try.prog.cellsOf 22 = 1 := by kernel_rfl
theorem cellsS76 : Try.prog.cellsOf 76 = 9 := by kernel_rfl

section
variable {H : Type} {enc : TypeId × Value → H} {w : World} {base : Nat} {spare : Nat → Bool} {held : Bool}

set_option maxRecDepth 100000 in
theorem cells_s76 {cs : Array Value} {fuel : Nat} {x : DataW H × List MemPlace} (hsz : cs.toList.length = 9) (hf : DataW.trod enc Try.prog w base spare held fuel 76 cs.toList = some x) :
    ∃ (x0 : Bool) (x1 : Int) (x2 : Bool) (x3 : Int) (x4 : Int) (x5 : Int) (x6 : Int) (x7 : Int) (x8 : Int), cs = #[.bool x0, .int .u8 x1, .bool x2, .int .u16 x3, .int .u16 x4, .int .u16 x5, .int .u16 x6, .int .u16 x7, .int .u16 x8] ∧ (Lit.int .u8 x1).wf = true ∧ (Lit.int .u16 x3).wf = true ∧ (Lit.int .u16 x4).wf = true ∧ (Lit.int .u16 x5).wf = true ∧ (Lit.int .u16 x6).wf = true ∧ (Lit.int .u16 x7).wf = true ∧ (Lit.int .u16 x8).wf = true := by
  obtain ⟨l⟩ := cs
  obtain ⟨xs, n, _, _, _, hlen, hg⟩ := DataW.trod_struct Try.underlying76 hf
  match l, hsz with
  | [c0, c1, c2, c3, c4, c5, c6, c7, c8], _ =>
    match xs, hlen with
    | [z0, z1, z2, z3, z4, z5, z6, z7, z8], _ =>
      have g0 : DataW.trod enc Try.prog w base spare held n 4 (([c0, c1, c2, c3, c4, c5, c6, c7, c8].drop 0).take (Try.prog.cellsOf 4)) = some z0 := hg 0 _ rfl
      have g1 : DataW.trod enc Try.prog w base spare held n 5 (([c0, c1, c2, c3, c4, c5, c6, c7, c8].drop 1).take (Try.prog.cellsOf 5)) = some z1 := hg 1 _ rfl
      have g2 : DataW.trod enc Try.prog w base spare held n 4 (([c0, c1, c2, c3, c4, c5, c6, c7, c8].drop 2).take (Try.prog.cellsOf 4)) = some z2 := hg 2 _ rfl
      have g3 : DataW.trod enc Try.prog w base spare held n 22 (([c0, c1, c2, c3, c4, c5, c6, c7, c8].drop 3).take (Try.prog.cellsOf 22)) = some z3 := hg 3 _ rfl
      have g4 : DataW.trod enc Try.prog w base spare held n 22 (([c0, c1, c2, c3, c4, c5, c6, c7, c8].drop 4).take (Try.prog.cellsOf 22)) = some z4 := hg 4 _ rfl
      have g5 : DataW.trod enc Try.prog w base spare held n 22 (([c0, c1, c2, c3, c4, c5, c6, c7, c8].drop 5).take (Try.prog.cellsOf 22)) = some z5 := hg 5 _ rfl
      have g6 : DataW.trod enc Try.prog w base spare held n 22 (([c0, c1, c2, c3, c4, c5, c6, c7, c8].drop 6).take (Try.prog.cellsOf 22)) = some z6 := hg 6 _ rfl
      have g7 : DataW.trod enc Try.prog w base spare held n 22 (([c0, c1, c2, c3, c4, c5, c6, c7, c8].drop 7).take (Try.prog.cellsOf 22)) = some z7 := hg 7 _ rfl
      have g8 : DataW.trod enc Try.prog w base spare held n 22 (([c0, c1, c2, c3, c4, c5, c6, c7, c8].drop 8).take (Try.prog.cellsOf 22)) = some z8 := hg 8 _ rfl
      rw [cellsS4] at g0
      rw [cellsS5] at g1
      rw [cellsS4] at g2
      rw [cellsS22] at g3
      rw [cellsS22] at g4
      rw [cellsS22] at g5
      rw [cellsS22] at g6
      rw [cellsS22] at g7
      rw [cellsS22] at g8
      obtain ⟨x0, e0, _⟩ := DataW.trod_bool Try.underlying4 g0
      obtain ⟨x1, e1, _, w1⟩ := DataW.trod_int Try.underlying5 g1
      obtain ⟨x2, e2, _⟩ := DataW.trod_bool Try.underlying4 g2
      obtain ⟨x3, e3, _, w3⟩ := DataW.trod_int Try.underlying22 g3
      obtain ⟨x4, e4, _, w4⟩ := DataW.trod_int Try.underlying22 g4
      obtain ⟨x5, e5, _, w5⟩ := DataW.trod_int Try.underlying22 g5
      obtain ⟨x6, e6, _, w6⟩ := DataW.trod_int Try.underlying22 g6
      obtain ⟨x7, e7, _, w7⟩ := DataW.trod_int Try.underlying22 g7
      obtain ⟨x8, e8, _, w8⟩ := DataW.trod_int Try.underlying22 g8
      simp [Value.cells] at e0 e1 e2 e3 e4 e5 e6 e7 e8
      subst e0 e1 e2 e3 e4 e5 e6 e7 e8
      exact ⟨x0, x1, x2, x3, x4, x5, x6, x7, x8, rfl, w1, w3, w4, w5, w6, w7, w8⟩

set_option maxRecDepth 100000 in
theorem open_s76 {v : Value} {d : DataW H} {p : List MemPlace} {b0 : Nat} {r : Reach} (hv : Value.okWide Try.prog w r b0 76 v) (h : DataW.Trod enc Try.prog w base spare held 76 v d p) :
    ∃ (x0 : Bool) (x1 : Int) (x2 : Bool) (x3 : Int) (x4 : Int) (x5 : Int) (x6 : Int) (x7 : Int) (x8 : Int), v = .agg #[.bool x0, .int .u8 x1, .bool x2, .int .u16 x3, .int .u16 x4, .int .u16 x5, .int .u16 x6, .int .u16 x7, .int .u16 x8] ∧ (Lit.int .u8 x1).wf = true ∧ (Lit.int .u16 x3).wf = true ∧ (Lit.int .u16 x4).wf = true ∧ (Lit.int .u16 x5).wf = true ∧ (Lit.int .u16 x6).wf = true ∧ (Lit.int .u16 x7).wf = true ∧ (Lit.int .u16 x8).wf = true := by
  obtain ⟨cs, rfl, hsz⟩ := okWide_struct Try.underlying76 hv
  obtain ⟨fuel, hf⟩ := h
  obtain ⟨x0, x1, x2, x3, x4, x5, x6, x7, x8, rfl, w1, w3, w4, w5, w6, w7, w8⟩ := cells_s76 (by rw [Array.length_toList]; exact hsz.trans cellsS76) hf
  exact ⟨x0, x1, x2, x3, x4, x5, x6, x7, x8, rfl, w1, w3, w4, w5, w6, w7, w8⟩

end
end Go.Proofs.Ytpjfpcebjneblaa
