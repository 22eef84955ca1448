/- How the arguments of layer 16's laws are opened. -/
import Derived.Test.YtojijeaofkndpaaOpen
import Derived.Test.YtojijeaofkndpaaOpen2
import Derived.Test.YtojijeaofkndpaaLits
import Derived.Test.YtojijeaofkndpaaOpenR
import Derived.Test.YtojijeaofkndpaaIn5
namespace Go.Proofs.Ytojijeaofkndpaa
open Go.ChangeShapes Go.WideShapes Go.ChangeAt Go.RowKit Go.Deep
set_option linter.unusedVariables false
set_option linter.unusedSimpArgs false

theorem cellsI3 : Try.prog.cellsOf 3 = 1 := by kernel_rfl
theorem cellsI4 : Try.prog.cellsOf 4 = 1 := by kernel_rfl
theorem cellsI5 : Try.prog.cellsOf 5 = 1 := by kernel_rfl
theorem cellsI22 : Try.prog.cellsOf 22 = 1 := by kernel_rfl
theorem cellsI30 : Try.prog.cellsOf 30 = 1 := by kernel_rfl
theorem cellsI40 : Try.prog.cellsOf 40 = 1 := by kernel_rfl
theorem cellsI49 : Try.prog.cellsOf 49 = 5 := by kernel_rfl
theorem cellsI50 : Try.prog.cellsOf 50 = 3 := by kernel_rfl
theorem cellsI52 : Try.prog.cellsOf 52 = 4 := by kernel_rfl
theorem cellsI53 : Try.prog.cellsOf 53 = 4 := by kernel_rfl
theorem cellsI55 : Try.prog.cellsOf 55 = 17 := by kernel_rfl
theorem cellsI71 : Try.prog.cellsOf 71 = 2 := by kernel_rfl
section
variable {H : Type} {enc : TypeId × Value → H} {w : World} {base : Nat} {spare : Nat → Bool} {held : Bool}
set_option maxRecDepth 100000 in
theorem cells_52 {l : List Value} {fuel : Nat} {x : DataW H × List MemPlace} (hsz : l.length = 4) (hf : DataW.trod enc Try.prog w base spare held fuel 52 l = some x) : ∃ v : Vc, v.ok ∧ l = (tvA v).toList := by
  obtain ⟨xs, n, _, _, _, hlen, hg⟩ := DataW.trod_struct Try.underlying52 hf
  match l, hsz with
  | [c0, c1, c2, c3], _ =>
    match xs, hlen with
    | [z0, z1, z2, z3], _ =>
      have g0 : DataW.trod enc Try.prog w base spare held n 22 (([c0, c1, c2, c3].drop 0).take (Try.prog.cellsOf 22)) = some z0 := hg 0 _ rfl
      have g1 : DataW.trod enc Try.prog w base spare held n 22 (([c0, c1, c2, c3].drop 1).take (Try.prog.cellsOf 22)) = some z1 := hg 1 _ rfl
      have g2 : DataW.trod enc Try.prog w base spare held n 30 (([c0, c1, c2, c3].drop 2).take (Try.prog.cellsOf 30)) = some z2 := hg 2 _ rfl
      have g3 : DataW.trod enc Try.prog w base spare held n 40 (([c0, c1, c2, c3].drop 3).take (Try.prog.cellsOf 40)) = some z3 := hg 3 _ rfl
      rw [cellsI22] at g0
      rw [cellsI22] at g1
      rw [cellsI30] at g2
      rw [cellsI40] at g3
      obtain ⟨x0, e0, _, w0⟩ := DataW.trod_int Try.underlying22 g0
      obtain ⟨n0, rfl, l0⟩ := nat_of_u64 w0
      obtain ⟨x1, e1, _, w1⟩ := DataW.trod_int Try.underlying22 g1
      obtain ⟨n1, rfl, l1⟩ := nat_of_u64 w1
      obtain ⟨x2, e2, _, w2⟩ := DataW.trod_int Try.underlying30 g2
      obtain ⟨n2, rfl, l2⟩ := nat_of_u32 w2
      obtain ⟨x3, e3, _, w3⟩ := DataW.trod_int Try.underlying40 g3
      obtain ⟨n3, rfl, l3⟩ := nat_of_u16 w3
      simp [Value.cells] at e0 e1 e2 e3
      subst e0 e1 e2 e3
      exact ⟨⟨n0, n2, n1, n3⟩, ⟨l0, l2, l1, l3⟩, rfl⟩
set_option maxRecDepth 100000 in
theorem cells_55 {l : List Value} {fuel : Nat} {x : DataW H × List MemPlace} (hsz : l.length = 17) (hf : DataW.trod enc Try.prog w base spare held fuel 55 l = some x) : ∃ x : Lp, x.v.ok ∧ l = (lpA x).toList := by
  obtain ⟨xs, n, _, _, _, hlen, hg⟩ := DataW.trod_struct Try.underlying55 hf
  match l, hsz with
  | [c0, c1, c2, c3, c4, c5, c6, c7, c8, c9, c10, c11, c12, c13, c14, c15, c16], _ =>
    match xs, hlen with
    | [z0, z1, z2, z3, z4], _ =>
      have g0 : DataW.trod enc Try.prog w base spare held n 49 (([c0, c1, c2, c3, c4, c5, c6, c7, c8, c9, c10, c11, c12, c13, c14, c15, c16].drop 0).take (Try.prog.cellsOf 49)) = some z0 := hg 0 _ rfl
      have g1 : DataW.trod enc Try.prog w base spare held n 50 (([c0, c1, c2, c3, c4, c5, c6, c7, c8, c9, c10, c11, c12, c13, c14, c15, c16].drop 5).take (Try.prog.cellsOf 50)) = some z1 := hg 1 _ rfl
      have g2 : DataW.trod enc Try.prog w base spare held n 52 (([c0, c1, c2, c3, c4, c5, c6, c7, c8, c9, c10, c11, c12, c13, c14, c15, c16].drop 8).take (Try.prog.cellsOf 52)) = some z2 := hg 2 _ rfl
      have g3 : DataW.trod enc Try.prog w base spare held n 53 (([c0, c1, c2, c3, c4, c5, c6, c7, c8, c9, c10, c11, c12, c13, c14, c15, c16].drop 12).take (Try.prog.cellsOf 53)) = some z3 := hg 3 _ rfl
      have g4 : DataW.trod enc Try.prog w base spare held n 40 (([c0, c1, c2, c3, c4, c5, c6, c7, c8, c9, c10, c11, c12, c13, c14, c15, c16].drop 16).take (Try.prog.cellsOf 40)) = some z4 := hg 4 _ rfl
      rw [cellsI49] at g0
      rw [cellsI50] at g1
      rw [cellsI52] at g2
      rw [cellsI53] at g3
      rw [cellsI40] at g4
      obtain ⟨_, i0⟩ := arr_bools Try.underlying49 Try.underlying4 cellsI4 cellsI49 g0
      obtain ⟨_, i1⟩ := arr_ints Try.underlying50 Try.underlying5 cellsI5 cellsI50 g1
      obtain ⟨_, i3⟩ := arr_ints Try.underlying53 Try.underlying3 cellsI3 cellsI53 g3
      obtain ⟨v, vok, ev⟩ := cells_52 rfl g2
      obtain ⟨y, ey, _, wy⟩ := DataW.trod_int Try.underlying40 g4
      obtain ⟨ny, rfl, _⟩ := nat_of_u16 wy
      obtain ⟨x0, e0⟩ := i0 0 (by omega)
      obtain ⟨x1, e1⟩ := i0 1 (by omega)
      obtain ⟨x2, e2⟩ := i0 2 (by omega)
      obtain ⟨x3, e3⟩ := i0 3 (by omega)
      obtain ⟨x4, e4⟩ := i0 4 (by omega)
      obtain ⟨x5, e5, u0⟩ := i1 0 (by omega)
      obtain ⟨m0, rfl, _⟩ := nat_of_u8 u0
      obtain ⟨x6, e6, u1⟩ := i1 1 (by omega)
      obtain ⟨m1, rfl, _⟩ := nat_of_u8 u1
      obtain ⟨x7, e7, u2⟩ := i1 2 (by omega)
      obtain ⟨m2, rfl, _⟩ := nat_of_u8 u2
      obtain ⟨x8, e8, _⟩ := i3 0 (by omega)
      obtain ⟨x9, e9, _⟩ := i3 1 (by omega)
      obtain ⟨x10, e10, _⟩ := i3 2 (by omega)
      obtain ⟨x11, e11, _⟩ := i3 3 (by omega)
      simp [Value.cells] at ey ev e0 e1 e2 e3 e4 e5 e6 e7 e8 e9 e10 e11
      obtain ⟨q0, q1, q2, q3⟩ := ev
      subst ey q0 q1 q2 q3 e0 e1 e2 e3 e4 e5 e6 e7 e8 e9 e10 e11
      exact ⟨⟨x0, x1, x2, x3, x4, m0, m1, m2, v, x8, x9, x10, x11, ny⟩, vok, rfl⟩
set_option maxRecDepth 100000 in
theorem open_s52 {v : Value} {d : DataW H} {p : List MemPlace} {b0 : Nat} {r : Reach} (hv : Value.okWide Try.prog w r b0 52 v) (h : DataW.Trod enc Try.prog w base spare held 52 v d p) : ∃ x : Vc, x.ok ∧ v = .agg (tvA x) := by
  obtain ⟨cs, rfl, hsz⟩ := okWide_struct Try.underlying52 hv
  obtain ⟨fuel, hf⟩ := h
  obtain ⟨x, hk, hx⟩ := cells_52 (by rw [Array.length_toList]; exact hsz.trans cellsI52) hf
  exact ⟨x, hk, by rw [← Array.toArray_toList (xs := cs), show cs.toList = (tvA x).toList from hx]⟩
set_option maxRecDepth 100000 in
theorem open_s55 {v : Value} {d : DataW H} {p : List MemPlace} {b0 : Nat} {r : Reach} (hv : Value.okWide Try.prog w r b0 55 v) (h : DataW.Trod enc Try.prog w base spare held 55 v d p) : ∃ x : Lp, x.v.ok ∧ v = .agg (lpA x) := by
  obtain ⟨cs, rfl, hsz⟩ := okWide_struct Try.underlying55 hv
  obtain ⟨fuel, hf⟩ := h
  obtain ⟨x, hk, hx⟩ := cells_55 (by rw [Array.length_toList]; exact hsz.trans cellsI55) hf
  exact ⟨x, hk, by rw [← Array.toArray_toList (xs := cs), show cs.toList = (lpA x).toList from hx]⟩
set_option maxRecDepth 100000 in
theorem open_s71 {v : Value} {d : DataW H} {p : List MemPlace} {b0 : Nat} {r : Reach} (hv : Value.okWide Try.prog w r b0 71 v) (h : DataW.Trod enc Try.prog w base spare held 71 v d p) : ∃ a b, v = .agg #[.bool a, .bool b] := by
  unfold Value.okWide at hv
  rw [Try.underlying71] at hv
  obtain ⟨cs, rfl, hsz, _⟩ := hv
  obtain ⟨l⟩ := cs
  obtain ⟨fuel, hf⟩ := h
  obtain ⟨_, hi⟩ := arr_bools Try.underlying71 Try.underlying4 cellsI4 cellsI71 hf
  match l, hsz.trans cellsI71 with
  | [c0, c1], _ =>
    obtain ⟨a0, e0⟩ := hi 0 (by omega)
    obtain ⟨a1, e1⟩ := hi 1 (by omega)
    simp [Value.cells] at e0 e1
    subst e0 e1
    exact ⟨a0, a1, rfl⟩
end
end Go.Proofs.Ytojijeaofkndpaa
