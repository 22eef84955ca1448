/- How structs that came in are opened. -/
import Derived.Test.YtkohnleeiajiiaaOpen2
namespace Go.Proofs.Ytkohnleeiajiiaa
open Go.ChangeShapes Go.WideShapes Go.ChangeAt Go.RowKit
set_option linter.unusedVariables false
set_option linter.unusedSimpArgs false

theorem cellsS4 : Try.prog.cellsOf 4 = 1 := by kernel_rfl
theorem cellsS5 : Try.prog.cellsOf 5 = 1 := by kernel_rfl
theorem cellsS9 : Try.prog.cellsOf 9 = 1 := by kernel_rfl
theorem cellsS22 : Try.prog.cellsOf 22 = 1 := by kernel_rfl
theorem cellsS23 : Try.prog.cellsOf 23 = 1 := by kernel_rfl
theorem cellsS24 : Try.prog.cellsOf 24 = 1 := by kernel_rfl
theorem cellsS26 : Try.prog.cellsOf 26 = 16 := by kernel_rfl
theorem cellsS27 : Try.prog.cellsOf 27 = 6 := by kernel_rfl
theorem cellsS54 : Try.prog.cellsOf 54 = 9 := by kernel_rfl
theorem cellsS57 : Try.prog.cellsOf 57 = 4 := by kernel_rfl

section
variable {H : Type} {enc : TypeId × Value → H} {w : World} {base : Nat} {spare : Nat → Bool} {held : Bool}

theorem cells_s26 {cs : Array Value} {fuel : Nat} {x : DataW H × List MemPlace} (hsz : cs.toList.length = 16) (hf : DataW.trod enc Try.prog w base spare held fuel 26 cs.toList = some x) :
    ∃ (x0 : Int) (x1 : Bool) (x2 : Bool) (x3 : Bool) (x4 : Bool) (x5 : Bool) (x6 : Bool) (x7 : Int) (x8 : Int) (x9 : Int) (x10 : Int) (x11 : Int) (x12 : Int) (x13 : Int) (x14 : Int) (x15 : Int), cs = #[.int .u8 x0, .bool x1, .bool x2, .bool x3, .bool x4, .bool x5, .bool x6, .int .u8 x7, .int .u64 x8, .int .u32 x9, .int .u64 x10, .int .u16 x11, .int .u16 x12, .int .u16 x13, .int .u16 x14, .int .u16 x15] ∧ (Lit.int .u8 x0).wf = true ∧ (Lit.int .u8 x7).wf = true ∧ (Lit.int .u64 x8).wf = true ∧ (Lit.int .u32 x9).wf = true ∧ (Lit.int .u64 x10).wf = true ∧ (Lit.int .u16 x11).wf = true ∧ (Lit.int .u16 x12).wf = true ∧ (Lit.int .u16 x13).wf = true ∧ (Lit.int .u16 x14).wf = true ∧ (Lit.int .u16 x15).wf = true := by
  obtain ⟨l⟩ := cs
  obtain ⟨xs, n, _, _, _, hlen, hg⟩ := DataW.trod_struct Try.underlying26 hf
  match l, hsz with
  | [c0, c1, c2, c3, c4, c5, c6, c7, c8, c9, c10, c11, c12, c13, c14, c15], _ =>
    match xs, hlen with
    | [z0, z1, z2, z3, z4, z5, z6, z7, z8, z9, z10, z11, z12, z13, z14, z15], _ =>
      have g0 : DataW.trod enc Try.prog w base spare held n 5 (([c0, c1, c2, c3, c4, c5, c6, c7, c8, c9, c10, c11, c12, c13, c14, c15].drop 0).take (Try.prog.cellsOf 5)) = some z0 := hg 0 _ rfl
      have g1 : DataW.trod enc Try.prog w base spare held n 4 (([c0, c1, c2, c3, c4, c5, c6, c7, c8, c9, c10, c11, c12, c13, c14, c15].drop 1).take (Try.prog.cellsOf 4)) = some z1 := hg 1 _ rfl
      have g2 : DataW.trod enc Try.prog w base spare held n 4 (([c0, c1, c2, c3, c4, c5, c6, c7, c8, c9, c10, c11, c12, c13, c14, c15].drop 2).take (Try.prog.cellsOf 4)) = some z2 := hg 2 _ rfl
      have g3 : DataW.trod enc Try.prog w base spare held n 4 (([c0, c1, c2, c3, c4, c5, c6, c7, c8, c9, c10, c11, c12, c13, c14, c15].drop 3).take (Try.prog.cellsOf 4)) = some z3 := hg 3 _ rfl
      have g4 : DataW.trod enc Try.prog w base spare held n 4 (([c0, c1, c2, c3, c4, c5, c6, c7, c8, c9, c10, c11, c12, c13, c14, c15].drop 4).take (Try.prog.cellsOf 4)) = some z4 := hg 4 _ rfl
      have g5 : DataW.trod enc Try.prog w base spare held n 4 (([c0, c1, c2, c3, c4, c5, c6, c7, c8, c9, c10, c11, c12, c13, c14, c15].drop 5).take (Try.prog.cellsOf 4)) = some z5 := hg 5 _ rfl
      have g6 : DataW.trod enc Try.prog w base spare held n 4 (([c0, c1, c2, c3, c4, c5, c6, c7, c8, c9, c10, c11, c12, c13, c14, c15].drop 6).take (Try.prog.cellsOf 4)) = some z6 := hg 6 _ rfl
      have g7 : DataW.trod enc Try.prog w base spare held n 5 (([c0, c1, c2, c3, c4, c5, c6, c7, c8, c9, c10, c11, c12, c13, c14, c15].drop 7).take (Try.prog.cellsOf 5)) = some z7 := hg 7 _ rfl
      have g8 : DataW.trod enc Try.prog w base spare held n 22 (([c0, c1, c2, c3, c4, c5, c6, c7, c8, c9, c10, c11, c12, c13, c14, c15].drop 8).take (Try.prog.cellsOf 22)) = some z8 := hg 8 _ rfl
      have g9 : DataW.trod enc Try.prog w base spare held n 23 (([c0, c1, c2, c3, c4, c5, c6, c7, c8, c9, c10, c11, c12, c13, c14, c15].drop 9).take (Try.prog.cellsOf 23)) = some z9 := hg 9 _ rfl
      have g10 : DataW.trod enc Try.prog w base spare held n 22 (([c0, c1, c2, c3, c4, c5, c6, c7, c8, c9, c10, c11, c12, c13, c14, c15].drop 10).take (Try.prog.cellsOf 22)) = some z10 := hg 10 _ rfl
      have g11 : DataW.trod enc Try.prog w base spare held n 24 (([c0, c1, c2, c3, c4, c5, c6, c7, c8, c9, c10, c11, c12, c13, c14, c15].drop 11).take (Try.prog.cellsOf 24)) = some z11 := hg 11 _ rfl
      have g12 : DataW.trod enc Try.prog w base spare held n 24 (([c0, c1, c2, c3, c4, c5, c6, c7, c8, c9, c10, c11, c12, c13, c14, c15].drop 12).take (Try.prog.cellsOf 24)) = some z12 := hg 12 _ rfl
      have g13 : DataW.trod enc Try.prog w base spare held n 24 (([c0, c1, c2, c3, c4, c5, c6, c7, c8, c9, c10, c11, c12, c13, c14, c15].drop 13).take (Try.prog.cellsOf 24)) = some z13 := hg 13 _ rfl
      have g14 : DataW.trod enc Try.prog w base spare held n 24 (([c0, c1, c2, c3, c4, c5, c6, c7, c8, c9, c10, c11, c12, c13, c14, c15].drop 14).take (Try.prog.cellsOf 24)) = some z14 := hg 14 _ rfl
      have g15 : DataW.trod enc Try.prog w base spare held n 24 (([c0, c1, c2, c3, c4, c5, c6, c7, c8, c9, c10, c11, c12, c13, c14, c15].drop 15).take (Try.prog.cellsOf 24)) = some z15 := hg 15 _ rfl
      rw [cellsS5] at g0
      rw [cellsS4] at g1
      rw [cellsS4] at g2
      rw [cellsS4] at g3
      rw [cellsS4] at g4
      rw [cellsS4] at g5
      rw [cellsS4] at g6
      rw [cellsS5] at g7
      rw [cellsS22] at g8
      rw [cellsS23] at g9
      rw [cellsS22] at g10
      rw [cellsS24] at g11
      rw [cellsS24] at g12
      rw [cellsS24] at g13
      rw [cellsS24] at g14
      rw [cellsS24] at g15
      obtain ⟨x0, e0, _, w0⟩ := DataW.trod_int Try.underlying5 g0
      obtain ⟨x1, e1, _⟩ := DataW.trod_bool Try.underlying4 g1
      obtain ⟨x2, e2, _⟩ := DataW.trod_bool Try.underlying4 g2
      obtain ⟨x3, e3, _⟩ := DataW.trod_bool Try.underlying4 g3
      obtain ⟨x4, e4, _⟩ := DataW.trod_bool Try.underlying4 g4
      obtain ⟨x5, e5, _⟩ := DataW.trod_bool Try.underlying4 g5
      obtain ⟨x6, e6, _⟩ := DataW.trod_bool Try.underlying4 g6
      obtain ⟨x7, e7, _, w7⟩ := DataW.trod_int Try.underlying5 g7
      obtain ⟨x8, e8, _, w8⟩ := DataW.trod_int Try.underlying22 g8
      obtain ⟨x9, e9, _, w9⟩ := DataW.trod_int Try.underlying23 g9
      obtain ⟨x10, e10, _, w10⟩ := DataW.trod_int Try.underlying22 g10
      obtain ⟨x11, e11, _, w11⟩ := DataW.trod_int Try.underlying24 g11
      obtain ⟨x12, e12, _, w12⟩ := DataW.trod_int Try.underlying24 g12
      obtain ⟨x13, e13, _, w13⟩ := DataW.trod_int Try.underlying24 g13
      obtain ⟨x14, e14, _, w14⟩ := DataW.trod_int Try.underlying24 g14
      obtain ⟨x15, e15, _, w15⟩ := DataW.trod_int Try.underlying24 g15
      simp [Value.cells] at e0 e1 e2 e3 e4 e5 e6 e7 e8 e9 e10 e11 e12 e13 e14 e15
      subst e0 e1 e2 e3 e4 e5 e6 e7 e8 e9 e10 e11 e12 e13 e14 e15
      exact ⟨x0, x1, x2, x3, x4, x5, x6, x7, x8, x9, x10, x11, x12, x13, x14, x15, rfl, w0, w7, w8, w9, w10, w11, w12, w13, w14, w15⟩

theorem open_s26 {v : Value} {d : DataW H} {p : List MemPlace} {b0 : Nat} {r : Reach} (hv : Value.okWide Try.prog w r b0 26 v) (h : DataW.Trod enc Try.prog w base spare held 26 v d p) :
    ∃ (x0 : Int) (x1 : Bool) (x2 : Bool) (x3 : Bool) (x4 : Bool) (x5 : Bool) (x6 : Bool) (x7 : Int) (x8 : Int) (x9 : Int) (x10 : Int) (x11 : Int) (x12 : Int) (x13 : Int) (x14 : Int) (x15 : Int), v = .agg #[.int .u8 x0, .bool x1, .bool x2, .bool x3, .bool x4, .bool x5, .bool x6, .int .u8 x7, .int .u64 x8, .int .u32 x9, .int .u64 x10, .int .u16 x11, .int .u16 x12, .int .u16 x13, .int .u16 x14, .int .u16 x15] ∧ (Lit.int .u8 x0).wf = true ∧ (Lit.int .u8 x7).wf = true ∧ (Lit.int .u64 x8).wf = true ∧ (Lit.int .u32 x9).wf = true ∧ (Lit.int .u64 x10).wf = true ∧ (Lit.int .u16 x11).wf = true ∧ (Lit.int .u16 x12).wf = true ∧ (Lit.int .u16 x13).wf = true ∧ (Lit.int .u16 x14).wf = true ∧ (Lit.int .u16 x15).wf = true := by
  obtain ⟨cs, rfl, hsz⟩ := okWide_struct Try.underlying26 hv
  obtain ⟨fuel, hf⟩ := h
  obtain ⟨x0, x1, x2, x3, x4, x5, x6, x7, x8, x9, x10, x11, x12, x13, x14, x15, rfl, w0, w7, w8, w9, w10, w11, w12, w13, w14, w15⟩ := cells_s26 (by rw [Array.length_toList]; exact hsz.trans cellsS26) hf
  exact ⟨x0, x1, x2, x3, x4, x5, x6, x7, x8, x9, x10, x11, x12, x13, x14, x15, rfl, w0, w7, w8, w9, w10, w11, w12, w13, w14, w15⟩

theorem cells_s54 {cs : Array Value} {fuel : Nat} {x : DataW H × List MemPlace} (hsz : cs.toList.length = 9) (hf : DataW.trod enc Try.prog w base spare held fuel 54 cs.toList = some x) :
    ∃ (x0_0 : Int) (x0_1 : Int) (x0_2 : Int) (x0_3 : Int) (x0_4 : Int) (x0_5 : Int) (x1 : Bool) (x2 : Int) (x3 : ByteArray), cs = #[.int .u8 x0_0, .int .u8 x0_1, .int .u8 x0_2, .int .u8 x0_3, .int .u8 x0_4, .int .u8 x0_5, .bool x1, .int .u16 x2, .string x3] ∧ (Lit.int .u8 x0_0).wf = true ∧ (Lit.int .u8 x0_1).wf = true ∧ (Lit.int .u8 x0_2).wf = true ∧ (Lit.int .u8 x0_3).wf = true ∧ (Lit.int .u8 x0_4).wf = true ∧ (Lit.int .u8 x0_5).wf = true ∧ (Lit.int .u16 x2).wf = true ∧ x3.size ≤ maxLen := by
  obtain ⟨l⟩ := cs
  obtain ⟨xs, n, _, _, _, hlen, hg⟩ := DataW.trod_struct Try.underlying54 hf
  match l, hsz with
  | [c0, c1, c2, c3, c4, c5, c6, c7, c8], _ =>
    match xs, hlen with
    | [z0, z1, z2, z3], _ =>
      have g0 : DataW.trod enc Try.prog w base spare held n 27 (([c0, c1, c2, c3, c4, c5, c6, c7, c8].drop 0).take (Try.prog.cellsOf 27)) = some z0 := hg 0 _ rfl
      have g1 : DataW.trod enc Try.prog w base spare held n 4 (([c0, c1, c2, c3, c4, c5, c6, c7, c8].drop 6).take (Try.prog.cellsOf 4)) = some z1 := hg 1 _ rfl
      have g2 : DataW.trod enc Try.prog w base spare held n 24 (([c0, c1, c2, c3, c4, c5, c6, c7, c8].drop 7).take (Try.prog.cellsOf 24)) = some z2 := hg 2 _ rfl
      have g3 : DataW.trod enc Try.prog w base spare held n 9 (([c0, c1, c2, c3, c4, c5, c6, c7, c8].drop 8).take (Try.prog.cellsOf 9)) = some z3 := hg 3 _ rfl
      rw [cellsS27] at g0
      rw [cellsS4] at g1
      rw [cellsS24] at g2
      rw [cellsS9] at g3
      obtain ⟨_, i0⟩ := arr_ints Try.underlying27 Try.underlying5 cellsS5 cellsS27 g0
      obtain ⟨x0_0, e0_0, w0_0⟩ := i0 0 (by omega)
      obtain ⟨x0_1, e0_1, w0_1⟩ := i0 1 (by omega)
      obtain ⟨x0_2, e0_2, w0_2⟩ := i0 2 (by omega)
      obtain ⟨x0_3, e0_3, w0_3⟩ := i0 3 (by omega)
      obtain ⟨x0_4, e0_4, w0_4⟩ := i0 4 (by omega)
      obtain ⟨x0_5, e0_5, w0_5⟩ := i0 5 (by omega)
      obtain ⟨x1, e1, _⟩ := DataW.trod_bool Try.underlying4 g1
      obtain ⟨x2, e2, _, w2⟩ := DataW.trod_int Try.underlying24 g2
      obtain ⟨x3, e3, _, w3⟩ := DataW.trod_string Try.underlying9 g3
      simp [Value.cells] at e0_0 e0_1 e0_2 e0_3 e0_4 e0_5 e1 e2 e3
      subst e0_0 e0_1 e0_2 e0_3 e0_4 e0_5 e1 e2 e3
      exact ⟨x0_0, x0_1, x0_2, x0_3, x0_4, x0_5, x1, x2, x3, rfl, w0_0, w0_1, w0_2, w0_3, w0_4, w0_5, w2, w3⟩

theorem open_s54 {v : Value} {d : DataW H} {p : List MemPlace} {b0 : Nat} {r : Reach} (hv : Value.okWide Try.prog w r b0 54 v) (h : DataW.Trod enc Try.prog w base spare held 54 v d p) :
    ∃ (x0_0 : Int) (x0_1 : Int) (x0_2 : Int) (x0_3 : Int) (x0_4 : Int) (x0_5 : Int) (x1 : Bool) (x2 : Int) (x3 : ByteArray), v = .agg #[.int .u8 x0_0, .int .u8 x0_1, .int .u8 x0_2, .int .u8 x0_3, .int .u8 x0_4, .int .u8 x0_5, .bool x1, .int .u16 x2, .string x3] ∧ (Lit.int .u8 x0_0).wf = true ∧ (Lit.int .u8 x0_1).wf = true ∧ (Lit.int .u8 x0_2).wf = true ∧ (Lit.int .u8 x0_3).wf = true ∧ (Lit.int .u8 x0_4).wf = true ∧ (Lit.int .u8 x0_5).wf = true ∧ (Lit.int .u16 x2).wf = true ∧ x3.size ≤ maxLen := by
  obtain ⟨cs, rfl, hsz⟩ := okWide_struct Try.underlying54 hv
  obtain ⟨fuel, hf⟩ := h
  obtain ⟨x0_0, x0_1, x0_2, x0_3, x0_4, x0_5, x1, x2, x3, rfl, w0_0, w0_1, w0_2, w0_3, w0_4, w0_5, w2, w3⟩ := cells_s54 (by rw [Array.length_toList]; exact hsz.trans cellsS54) hf
  exact ⟨x0_0, x0_1, x0_2, x0_3, x0_4, x0_5, x1, x2, x3, rfl, w0_0, w0_1, w0_2, w0_3, w0_4, w0_5, w2, w3⟩

theorem cells_s57 {cs : Array Value} {fuel : Nat} {x : DataW H × List MemPlace} (hsz : cs.toList.length = 4) (hf : DataW.trod enc Try.prog w base spare held fuel 57 cs.toList = some x) :
    ∃ (x0 : Int) (x1 : Int) (x2 : Int) (x3 : Int), cs = #[.int .u64 x0, .int .u32 x1, .int .u64 x2, .int .u16 x3] ∧ (Lit.int .u64 x0).wf = true ∧ (Lit.int .u32 x1).wf = true ∧ (Lit.int .u64 x2).wf = true ∧ (Lit.int .u16 x3).wf = true := by
  obtain ⟨l⟩ := cs
  obtain ⟨xs, n, _, _, _, hlen, hg⟩ := DataW.trod_struct Try.underlying57 hf
  match l, hsz with
  | [c0, c1, c2, c3], _ =>
    match xs, hlen with
    | [z0, z1, z2, z3], _ =>
      have g0 : DataW.trod enc Try.prog w base spare held n 22 (([c0, c1, c2, c3].drop 0).take (Try.prog.cellsOf 22)) = some z0 := hg 0 _ rfl
      have g1 : DataW.trod enc Try.prog w base spare held n 23 (([c0, c1, c2, c3].drop 1).take (Try.prog.cellsOf 23)) = some z1 := hg 1 _ rfl
      have g2 : DataW.trod enc Try.prog w base spare held n 22 (([c0, c1, c2, c3].drop 2).take (Try.prog.cellsOf 22)) = some z2 := hg 2 _ rfl
      have g3 : DataW.trod enc Try.prog w base spare held n 24 (([c0, c1, c2, c3].drop 3).take (Try.prog.cellsOf 24)) = some z3 := hg 3 _ rfl
      rw [cellsS22] at g0
      rw [cellsS23] at g1
      rw [cellsS22] at g2
      rw [cellsS24] at g3
      obtain ⟨x0, e0, _, w0⟩ := DataW.trod_int Try.underlying22 g0
      obtain ⟨x1, e1, _, w1⟩ := DataW.trod_int Try.underlying23 g1
      obtain ⟨x2, e2, _, w2⟩ := DataW.trod_int Try.underlying22 g2
      obtain ⟨x3, e3, _, w3⟩ := DataW.trod_int Try.underlying24 g3
      simp [Value.cells] at e0 e1 e2 e3
      subst e0 e1 e2 e3
      exact ⟨x0, x1, x2, x3, rfl, w0, w1, w2, w3⟩

theorem open_s57 {v : Value} {d : DataW H} {p : List MemPlace} {b0 : Nat} {r : Reach} (hv : Value.okWide Try.prog w r b0 57 v) (h : DataW.Trod enc Try.prog w base spare held 57 v d p) :
    ∃ (x0 : Int) (x1 : Int) (x2 : Int) (x3 : Int), v = .agg #[.int .u64 x0, .int .u32 x1, .int .u64 x2, .int .u16 x3] ∧ (Lit.int .u64 x0).wf = true ∧ (Lit.int .u32 x1).wf = true ∧ (Lit.int .u64 x2).wf = true ∧ (Lit.int .u16 x3).wf = true := by
  obtain ⟨cs, rfl, hsz⟩ := okWide_struct Try.underlying57 hv
  obtain ⟨fuel, hf⟩ := h
  obtain ⟨x0, x1, x2, x3, rfl, w0, w1, w2, w3⟩ := cells_s57 (by rw [Array.length_toList]; exact hsz.trans cellsS57) hf
  exact ⟨x0, x1, x2, x3, rfl, w0, w1, w2, w3⟩

end
end Go.Proofs.Ytkohnleeiajiiaa
