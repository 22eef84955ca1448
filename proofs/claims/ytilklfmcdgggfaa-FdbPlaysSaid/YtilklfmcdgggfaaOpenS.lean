/- How structs that came in are opened. -/
import Derived.Test.YtilklfmcdgggfaaOpen2
namespace Go.Proofs.Ytilklfmcdgggfaa
open Go.ChangeShapes Go.WideShapes Go.ChangeAt Go.RowKit
set_option linter.unusedVariables false
set_option linter.unusedSimpArgs false

theorem cellsS3 : Try.prog.cellsOf 3 = 1 := by kernel_rfl
theorem cellsS5 : Try.prog.cellsOf 5 = 1 := by kernel_rfl
theorem cellsS30 : Try.prog.cellsOf 30 = 1 := by kernel_rfl
theorem cellsS31 : Try.prog.cellsOf 31 = 6 := by kernel_rfl
theorem cellsS33 : Try.prog.cellsOf 33 = 10 := by kernel_rfl
theorem cellsS71 : Try.prog.cellsOf 71 = 1 := by kernel_rfl
theorem cellsS73 : Try.prog.cellsOf 73 = 9 := by kernel_rfl

section
variable {H : Type} {enc : TypeId × Value → H} {w : World} {base : Nat} {spare : Nat → Bool} {held : Bool}

set_option maxRecDepth 100000 in
theorem cells_s33 {cs : Array Value} {fuel : Nat} {x : DataW H × List MemPlace} (hsz : cs.toList.length = 10) (hf : DataW.trod enc Try.prog w base spare held fuel 33 cs.toList = some x) :
    ∃ (x0 : Int) (x1 : Int) (x2_0 : Int) (x2_1 : Int) (x2_2 : Int) (x2_3 : Int) (x2_4 : Int) (x2_5 : Int) (x3 : Int) (x4 : Int), cs = #[.int .u8 x0, .int .u16 x1, .int .u8 x2_0, .int .u8 x2_1, .int .u8 x2_2, .int .u8 x2_3, .int .u8 x2_4, .int .u8 x2_5, .int .i64 x3, .int .i64 x4] ∧ (Lit.int .u8 x0).wf = true ∧ (Lit.int .u16 x1).wf = true ∧ (Lit.int .u8 x2_0).wf = true ∧ (Lit.int .u8 x2_1).wf = true ∧ (Lit.int .u8 x2_2).wf = true ∧ (Lit.int .u8 x2_3).wf = true ∧ (Lit.int .u8 x2_4).wf = true ∧ (Lit.int .u8 x2_5).wf = true ∧ (Lit.int .i64 x3).wf = true ∧ (Lit.int .i64 x4).wf = true := by
  obtain ⟨l⟩ := cs
  obtain ⟨xs, n, _, _, _, hlen, hg⟩ := DataW.trod_struct Try.underlying33 hf
  match l, hsz with
  | [c0, c1, c2, c3, c4, c5, c6, c7, c8, c9], _ =>
    match xs, hlen with
    | [z0, z1, z2, z3, z4], _ =>
      have g0 : DataW.trod enc Try.prog w base spare held n 5 (([c0, c1, c2, c3, c4, c5, c6, c7, c8, c9].drop 0).take (Try.prog.cellsOf 5)) = some z0 := hg 0 _ rfl
      have g1 : DataW.trod enc Try.prog w base spare held n 30 (([c0, c1, c2, c3, c4, c5, c6, c7, c8, c9].drop 1).take (Try.prog.cellsOf 30)) = some z1 := hg 1 _ rfl
      have g2 : DataW.trod enc Try.prog w base spare held n 31 (([c0, c1, c2, c3, c4, c5, c6, c7, c8, c9].drop 2).take (Try.prog.cellsOf 31)) = some z2 := hg 2 _ rfl
      have g3 : DataW.trod enc Try.prog w base spare held n 3 (([c0, c1, c2, c3, c4, c5, c6, c7, c8, c9].drop 8).take (Try.prog.cellsOf 3)) = some z3 := hg 3 _ rfl
      have g4 : DataW.trod enc Try.prog w base spare held n 3 (([c0, c1, c2, c3, c4, c5, c6, c7, c8, c9].drop 9).take (Try.prog.cellsOf 3)) = some z4 := hg 4 _ rfl
      rw [cellsS5] at g0
      rw [cellsS30] at g1
      rw [cellsS31] at g2
      rw [cellsS3] at g3
      rw [cellsS3] at g4
      obtain ⟨x0, e0, _, w0⟩ := DataW.trod_int Try.underlying5 g0
      obtain ⟨x1, e1, _, w1⟩ := DataW.trod_int Try.underlying30 g1
      obtain ⟨_, i2⟩ := arr_ints Try.underlying31 Try.underlying5 cellsS5 cellsS31 g2
      obtain ⟨x2_0, e2_0, w2_0⟩ := i2 0 (by omega)
      obtain ⟨x2_1, e2_1, w2_1⟩ := i2 1 (by omega)
      obtain ⟨x2_2, e2_2, w2_2⟩ := i2 2 (by omega)
      obtain ⟨x2_3, e2_3, w2_3⟩ := i2 3 (by omega)
      obtain ⟨x2_4, e2_4, w2_4⟩ := i2 4 (by omega)
      obtain ⟨x2_5, e2_5, w2_5⟩ := i2 5 (by omega)
      obtain ⟨x3, e3, _, w3⟩ := DataW.trod_int Try.underlying3 g3
      obtain ⟨x4, e4, _, w4⟩ := DataW.trod_int Try.underlying3 g4
      simp [Value.cells] at e0 e1 e2_0 e2_1 e2_2 e2_3 e2_4 e2_5 e3 e4
      subst e0 e1 e2_0 e2_1 e2_2 e2_3 e2_4 e2_5 e3 e4
      exact ⟨x0, x1, x2_0, x2_1, x2_2, x2_3, x2_4, x2_5, x3, x4, rfl, w0, w1, w2_0, w2_1, w2_2, w2_3, w2_4, w2_5, w3, w4⟩

set_option maxRecDepth 100000 in
theorem open_s33 {v : Value} {d : DataW H} {p : List MemPlace} {b0 : Nat} {r : Reach} (hv : Value.okWide Try.prog w r b0 33 v) (h : DataW.Trod enc Try.prog w base spare held 33 v d p) :
    ∃ (x0 : Int) (x1 : Int) (x2_0 : Int) (x2_1 : Int) (x2_2 : Int) (x2_3 : Int) (x2_4 : Int) (x2_5 : Int) (x3 : Int) (x4 : Int), v = .agg #[.int .u8 x0, .int .u16 x1, .int .u8 x2_0, .int .u8 x2_1, .int .u8 x2_2, .int .u8 x2_3, .int .u8 x2_4, .int .u8 x2_5, .int .i64 x3, .int .i64 x4] ∧ (Lit.int .u8 x0).wf = true ∧ (Lit.int .u16 x1).wf = true ∧ (Lit.int .u8 x2_0).wf = true ∧ (Lit.int .u8 x2_1).wf = true ∧ (Lit.int .u8 x2_2).wf = true ∧ (Lit.int .u8 x2_3).wf = true ∧ (Lit.int .u8 x2_4).wf = true ∧ (Lit.int .u8 x2_5).wf = true ∧ (Lit.int .i64 x3).wf = true ∧ (Lit.int .i64 x4).wf = true := by
  obtain ⟨cs, rfl, hsz⟩ := okWide_struct Try.underlying33 hv
  obtain ⟨fuel, hf⟩ := h
  obtain ⟨x0, x1, x2_0, x2_1, x2_2, x2_3, x2_4, x2_5, x3, x4, rfl, w0, w1, w2_0, w2_1, w2_2, w2_3, w2_4, w2_5, w3, w4⟩ := cells_s33 (by rw [Array.length_toList]; exact hsz.trans cellsS33) hf
  exact ⟨x0, x1, x2_0, x2_1, x2_2, x2_3, x2_4, x2_5, x3, x4, rfl, w0, w1, w2_0, w2_1, w2_2, w2_3, w2_4, w2_5, w3, w4⟩

set_option maxRecDepth 100000 in
theorem cells_s73 {cs : Array Value} {fuel : Nat} {x : DataW H × List MemPlace} (hsz : cs.toList.length = 9) (hf : DataW.trod enc Try.prog w base spare held fuel 73 cs.toList = some x) :
    ∃ (x0 : Int) (x1 : Int) (x2_0 : Int) (x2_1 : Int) (x2_2 : Int) (x2_3 : Int) (x2_4 : Int) (x2_5 : Int) (x3 : Int), cs = #[.int .u8 x0, .int .u16 x1, .int .u8 x2_0, .int .u8 x2_1, .int .u8 x2_2, .int .u8 x2_3, .int .u8 x2_4, .int .u8 x2_5, .int .u32 x3] ∧ (Lit.int .u8 x0).wf = true ∧ (Lit.int .u16 x1).wf = true ∧ (Lit.int .u8 x2_0).wf = true ∧ (Lit.int .u8 x2_1).wf = true ∧ (Lit.int .u8 x2_2).wf = true ∧ (Lit.int .u8 x2_3).wf = true ∧ (Lit.int .u8 x2_4).wf = true ∧ (Lit.int .u8 x2_5).wf = true ∧ (Lit.int .u32 x3).wf = true := by
  obtain ⟨l⟩ := cs
  obtain ⟨xs, n, _, _, _, hlen, hg⟩ := DataW.trod_struct Try.underlying73 hf
  match l, hsz with
  | [c0, c1, c2, c3, c4, c5, c6, c7, c8], _ =>
    match xs, hlen with
    | [z0, z1, z2, z3], _ =>
      have g0 : DataW.trod enc Try.prog w base spare held n 5 (([c0, c1, c2, c3, c4, c5, c6, c7, c8].drop 0).take (Try.prog.cellsOf 5)) = some z0 := hg 0 _ rfl
      have g1 : DataW.trod enc Try.prog w base spare held n 30 (([c0, c1, c2, c3, c4, c5, c6, c7, c8].drop 1).take (Try.prog.cellsOf 30)) = some z1 := hg 1 _ rfl
      have g2 : DataW.trod enc Try.prog w base spare held n 31 (([c0, c1, c2, c3, c4, c5, c6, c7, c8].drop 2).take (Try.prog.cellsOf 31)) = some z2 := hg 2 _ rfl
      have g3 : DataW.trod enc Try.prog w base spare held n 71 (([c0, c1, c2, c3, c4, c5, c6, c7, c8].drop 8).take (Try.prog.cellsOf 71)) = some z3 := hg 3 _ rfl
      rw [cellsS5] at g0
      rw [cellsS30] at g1
      rw [cellsS31] at g2
      rw [cellsS71] at g3
      obtain ⟨x0, e0, _, w0⟩ := DataW.trod_int Try.underlying5 g0
      obtain ⟨x1, e1, _, w1⟩ := DataW.trod_int Try.underlying30 g1
      obtain ⟨_, i2⟩ := arr_ints Try.underlying31 Try.underlying5 cellsS5 cellsS31 g2
      obtain ⟨x2_0, e2_0, w2_0⟩ := i2 0 (by omega)
      obtain ⟨x2_1, e2_1, w2_1⟩ := i2 1 (by omega)
      obtain ⟨x2_2, e2_2, w2_2⟩ := i2 2 (by omega)
      obtain ⟨x2_3, e2_3, w2_3⟩ := i2 3 (by omega)
      obtain ⟨x2_4, e2_4, w2_4⟩ := i2 4 (by omega)
      obtain ⟨x2_5, e2_5, w2_5⟩ := i2 5 (by omega)
      obtain ⟨x3, e3, _, w3⟩ := DataW.trod_int Try.underlying71 g3
      simp [Value.cells] at e0 e1 e2_0 e2_1 e2_2 e2_3 e2_4 e2_5 e3
      subst e0 e1 e2_0 e2_1 e2_2 e2_3 e2_4 e2_5 e3
      exact ⟨x0, x1, x2_0, x2_1, x2_2, x2_3, x2_4, x2_5, x3, rfl, w0, w1, w2_0, w2_1, w2_2, w2_3, w2_4, w2_5, w3⟩

set_option maxRecDepth 100000 in
theorem open_s73 {v : Value} {d : DataW H} {p : List MemPlace} {b0 : Nat} {r : Reach} (hv : Value.okWide Try.prog w r b0 73 v) (h : DataW.Trod enc Try.prog w base spare held 73 v d p) :
    ∃ (x0 : Int) (x1 : Int) (x2_0 : Int) (x2_1 : Int) (x2_2 : Int) (x2_3 : Int) (x2_4 : Int) (x2_5 : Int) (x3 : Int), v = .agg #[.int .u8 x0, .int .u16 x1, .int .u8 x2_0, .int .u8 x2_1, .int .u8 x2_2, .int .u8 x2_3, .int .u8 x2_4, .int .u8 x2_5, .int .u32 x3] ∧ (Lit.int .u8 x0).wf = true ∧ (Lit.int .u16 x1).wf = true ∧ (Lit.int .u8 x2_0).wf = true ∧ (Lit.int .u8 x2_1).wf = true ∧ (Lit.int .u8 x2_2).wf = true ∧ (Lit.int .u8 x2_3).wf = true ∧ (Lit.int .u8 x2_4).wf = true ∧ (Lit.int .u8 x2_5).wf = true ∧ (Lit.int .u32 x3).wf = true := by
  obtain ⟨cs, rfl, hsz⟩ := okWide_struct Try.underlying73 hv
  obtain ⟨fuel, hf⟩ := h
  obtain ⟨x0, x1, x2_0, x2_1, x2_2, x2_3, x2_4, x2_5, x3, rfl, w0, w1, w2_0, w2_1, w2_2, w2_3, w2_4, w2_5, w3⟩ := cells_s73 (by rw [Array.length_toList]; exact hsz.trans cellsS73) hf
  exact ⟨x0, x1, x2_0, x2_1, x2_2, x2_3, x2_4, x2_5, x3, rfl, w0, w1, w2_0, w2_1, w2_2, w2_3, w2_4, w2_5, w3⟩

end
end Go.Proofs.Ytilklfmcdgggfaa
