/- How a frame that came in is opened. -/
import Derived.Test.YtegmhjdddcbanaaOpen2
import Derived.Test.YtegmhjdddcbanaaFrm
namespace Go.Proofs.Ytegmhjdddcbanaa
open Go.ChangeShapes Go.WideShapes Go.ChangeAt Go.RowKit

theorem cells48 : Try.prog.cellsOf 48 = 18 := by kernel_rfl
theorem cells22 : Try.prog.cellsOf 22 = 6 := by kernel_rfl
theorem cells4 : Try.prog.cellsOf 4 = 1 := by kernel_rfl
theorem cells9 : Try.prog.cellsOf 9 = 1 := by kernel_rfl
theorem cells40 : Try.prog.cellsOf 40 = 1 := by kernel_rfl
theorem cellsB : Try.prog.cellsOf 5 = 1 := by kernel_rfl

section
variable {H : Type} {enc : TypeId × Value → H} {w : World} {base : Nat} {spare : Nat → Bool} {held : Bool}

theorem open_frame {v : Value} {d : DataW H} {p : List MemPlace} {b0 : Nat} {r : Reach}
    (hv : Value.okWide Try.prog w r b0 48 v) (h : DataW.Trod enc Try.prog w base spare held 48 v d p) :
    ∃ (x0 x1 x2 x3 x4 x5 y0 y1 y2 y3 y4 y5 : Int) (tg : Bool) (pc : Int) (de : Bool) (vi ty : Int) (da : ByteArray),
      v = .agg #[.int .u8 x0, .int .u8 x1, .int .u8 x2, .int .u8 x3, .int .u8 x4, .int .u8 x5, .int .u8 y0, .int .u8 y1, .int .u8 y2, .int .u8 y3, .int .u8 y4, .int .u8 y5, .bool tg, .int .u8 pc, .bool de, .int .u16 vi, .int .u16 ty, .string da] ∧
      (Lit.int .u8 x0).wf = true ∧ (Lit.int .u8 x1).wf = true ∧ (Lit.int .u8 x2).wf = true ∧ (Lit.int .u8 x3).wf = true ∧ (Lit.int .u8 x4).wf = true ∧ (Lit.int .u8 x5).wf = true ∧
      (Lit.int .u8 y0).wf = true ∧ (Lit.int .u8 y1).wf = true ∧ (Lit.int .u8 y2).wf = true ∧ (Lit.int .u8 y3).wf = true ∧ (Lit.int .u8 y4).wf = true ∧ (Lit.int .u8 y5).wf = true ∧
      (Lit.int .u8 pc).wf = true ∧ (Lit.int .u16 vi).wf = true ∧ (Lit.int .u16 ty).wf = true ∧ da.size ≤ maxLen := by
  obtain ⟨cs, rfl, hsz⟩ := okWide_struct Try.underlying48 hv
  obtain ⟨l⟩ := cs
  obtain ⟨fuel, hf⟩ := h
  obtain ⟨xs, n, _, _, _, hlen, hg⟩ := DataW.trod_struct Try.underlying48 hf
  match l, hsz.trans cells48 with
  | [c0, c1, c2, c3, c4, c5, c6, c7, c8, c9, c10, c11, c12, c13, c14, c15, c16, c17], _ =>
    match xs, hlen with
    | [z0, z1, z2, z3, z4, z5, z6, z7], _ =>
      have g0 := hg 0 { name := "Dst", type := 22, offset := 0, embedded := false, tag := "", pkgPath := "", byteOffset := 0 } rfl
      have g1 := hg 1 { name := "Src", type := 22, offset := 6, embedded := false, tag := "", pkgPath := "", byteOffset := 6 } rfl
      have g2 := hg 2 { name := "Tagged", type := 4, offset := 12, embedded := false, tag := "", pkgPath := "", byteOffset := 12 } rfl
      have g3 := hg 3 { name := "Pcp", type := 5, offset := 13, embedded := false, tag := "", pkgPath := "", byteOffset := 13 } rfl
      have g4 := hg 4 { name := "Dei", type := 4, offset := 14, embedded := false, tag := "", pkgPath := "", byteOffset := 14 } rfl
      have g5 := hg 5 { name := "Vid", type := 40, offset := 15, embedded := false, tag := "", pkgPath := "", byteOffset := 16 } rfl
      have g6 := hg 6 { name := "Type", type := 40, offset := 16, embedded := false, tag := "", pkgPath := "", byteOffset := 18 } rfl
      have g7 := hg 7 { name := "Data", type := 9, offset := 17, embedded := false, tag := "", pkgPath := "", byteOffset := 24 } rfl
      dsimp only at g0 g1 g2 g3 g4 g5 g6 g7
      rw [cells22] at g0 g1
      rw [cells4] at g2 g4
      rw [cellsB] at g3
      rw [cells40] at g5 g6
      rw [cells9] at g7
      obtain ⟨_, i0⟩ := arr_ints Try.underlying22 Try.underlying5 cellsB cells22 g0
      obtain ⟨_, i1⟩ := arr_ints Try.underlying22 Try.underlying5 cellsB cells22 g1
      obtain ⟨tg, e2, _⟩ := DataW.trod_bool Try.underlying4 g2
      obtain ⟨pc, e3, _, w3⟩ := DataW.trod_int Try.underlying5 g3
      obtain ⟨de, e4, _⟩ := DataW.trod_bool Try.underlying4 g4
      obtain ⟨vi, e5, _, w5⟩ := DataW.trod_int Try.underlying40 g5
      obtain ⟨ty, e6, _, w6⟩ := DataW.trod_int Try.underlying40 g6
      obtain ⟨da, e7, _, w7⟩ := DataW.trod_string Try.underlying9 g7
      obtain ⟨x0, a0, u0⟩ := i0 0 (by omega)
      obtain ⟨x1, a1, u1⟩ := i0 1 (by omega)
      obtain ⟨x2, a2, u2⟩ := i0 2 (by omega)
      obtain ⟨x3, a3, u3⟩ := i0 3 (by omega)
      obtain ⟨x4, a4, u4⟩ := i0 4 (by omega)
      obtain ⟨x5, a5, u5⟩ := i0 5 (by omega)
      obtain ⟨y0, b0, v0⟩ := i1 0 (by omega)
      obtain ⟨y1, b1, v1⟩ := i1 1 (by omega)
      obtain ⟨y2, b2, v2⟩ := i1 2 (by omega)
      obtain ⟨y3, b3, v3⟩ := i1 3 (by omega)
      obtain ⟨y4, b4, v4⟩ := i1 4 (by omega)
      obtain ⟨y5, b5, v5⟩ := i1 5 (by omega)
      simp [Value.cells] at a0 a1 a2 a3 a4 a5 b0 b1 b2 b3 b4 b5 e2 e3 e4 e5 e6 e7
      subst a0 a1 a2 a3 a4 a5 b0 b1 b2 b3 b4 b5 e2 e3 e4 e5 e6 e7
      exact ⟨x0, x1, x2, x3, x4, x5, y0, y1, y2, y3, y4, y5, tg, pc, de, vi, ty, da, rfl, u0, u1, u2, u3, u4, u5, v0, v1, v2, v3, v4, v5, w3, w5, w6, w7⟩
end
end Go.Proofs.Ytegmhjdddcbanaa
