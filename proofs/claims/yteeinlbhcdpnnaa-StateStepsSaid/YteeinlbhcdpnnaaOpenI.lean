/- How the arguments of layer 17's laws are opened. -/
import Derived.Test.YteeinlbhcdpnnaaOpen
import Derived.Test.YteeinlbhcdpnnaaOpen2
import Derived.Test.YteeinlbhcdpnnaaLits
import Derived.Test.YteeinlbhcdpnnaaLq2
namespace Go.Proofs.Yteeinlbhcdpnnaa
open Go.ChangeShapes Go.WideShapes Go.ChangeAt Go.RowKit Go.Deep
set_option linter.unusedVariables false
set_option linter.unusedSimpArgs false

theorem cellsI3 : Try.prog.cellsOf 3 = 1 := by kernel_rfl
theorem cellsI4 : Try.prog.cellsOf 4 = 1 := by kernel_rfl
theorem cellsI5 : Try.prog.cellsOf 5 = 1 := by kernel_rfl
theorem cellsI21 : Try.prog.cellsOf 21 = 1 := by kernel_rfl
theorem cellsI22 : Try.prog.cellsOf 22 = 5 := by kernel_rfl
theorem cellsI23 : Try.prog.cellsOf 23 = 3 := by kernel_rfl
theorem cellsI24 : Try.prog.cellsOf 24 = 4 := by kernel_rfl
theorem cellsI26 : Try.prog.cellsOf 26 = 15 := by kernel_rfl
theorem cellsI28 : Try.prog.cellsOf 28 = 20 := by kernel_rfl
theorem arr_bools {H : Type} {enc : TypeId × Value → H} {P : Program} {w : World} {base : Nat} {spare : Nat → Bool} {held : Bool} {n : Nat} {t e : TypeId} {fuel : Nat} {cs : List Value} {x : DataW H × List MemPlace} (ht : P.underlying t = some (.array n e)) (he : P.underlying e = some .bool) (hce : P.cellsOf e = 1) (hc : P.cellsOf t = n)
    (h : DataW.trod enc P w base spare held fuel t cs = some x) : cs.length = n ∧ ∀ i, i < n → ∃ a, cs[i]? = some (.bool a) := by
  obtain ⟨xs, m, _, _, hl, hx, hi⟩ := DataW.trod_array ht h
  refine ⟨hl.trans hc, fun i hin => ?_⟩
  have h1 := hi i hin
  rw [hce, Nat.mul_one] at h1
  have hlen : i < cs.length := by omega
  rw [List.drop_eq_getElem_cons hlen, show List.take 1 (cs[i] :: List.drop (i + 1) cs) = [cs[i]] from rfl, List.getElem?_eq_getElem (by omega)] at h1
  obtain ⟨a, e1, _⟩ := DataW.trod_bool he h1
  simp only [List.cons.injEq, and_true] at e1
  exact ⟨a, by rw [List.getElem?_eq_getElem hlen, e1]⟩
section
variable {H : Type} {enc : TypeId × Value → H} {w : World} {base : Nat} {spare : Nat → Bool} {held : Bool}
set_option maxRecDepth 100000 in
theorem cells_lq {l : List Value} {fuel : Nat} {x : DataW H × List MemPlace} (hsz : l.length = 15) (hf : DataW.trod enc Try.prog w base spare held fuel 26 l = some x) : ∃ x : Lq, x.ok ∧ l = (lqA x).toList := by
  obtain ⟨xs, n, _, _, _, hlen, hg⟩ := DataW.trod_struct Try.underlying26 hf
  match l, hsz with
  | [c0, c1, c2, c3, c4, c5, c6, c7, c8, c9, c10, c11, c12, c13, c14], _ =>
    match xs, hlen with
    | [z0, z1, z2, z3], _ =>
      have g0 : DataW.trod enc Try.prog w base spare held n 22 (([c0, c1, c2, c3, c4, c5, c6, c7, c8, c9, c10, c11, c12, c13, c14].drop 0).take (Try.prog.cellsOf 22)) = some z0 := hg 0 _ rfl
      have g1 : DataW.trod enc Try.prog w base spare held n 23 (([c0, c1, c2, c3, c4, c5, c6, c7, c8, c9, c10, c11, c12, c13, c14].drop 5).take (Try.prog.cellsOf 23)) = some z1 := hg 1 _ rfl
      have g2 : DataW.trod enc Try.prog w base spare held n 23 (([c0, c1, c2, c3, c4, c5, c6, c7, c8, c9, c10, c11, c12, c13, c14].drop 8).take (Try.prog.cellsOf 23)) = some z2 := hg 2 _ rfl
      have g3 : DataW.trod enc Try.prog w base spare held n 24 (([c0, c1, c2, c3, c4, c5, c6, c7, c8, c9, c10, c11, c12, c13, c14].drop 11).take (Try.prog.cellsOf 24)) = some z3 := hg 3 _ rfl
      rw [cellsI22] at g0
      rw [cellsI23] at g1
      rw [cellsI23] at g2
      rw [cellsI24] at g3
      obtain ⟨_, i0⟩ := arr_bools Try.underlying22 Try.underlying4 cellsI4 cellsI22 g0
      obtain ⟨_, i1⟩ := arr_ints Try.underlying23 Try.underlying5 cellsI5 cellsI23 g1
      obtain ⟨_, i2⟩ := arr_ints Try.underlying23 Try.underlying5 cellsI5 cellsI23 g2
      obtain ⟨_, i3⟩ := arr_ints Try.underlying24 Try.underlying21 cellsI21 cellsI24 g3
      obtain ⟨x0, e0⟩ := i0 0 (by omega)
      obtain ⟨x1, e1⟩ := i0 1 (by omega)
      obtain ⟨x2, e2⟩ := i0 2 (by omega)
      obtain ⟨x3, e3⟩ := i0 3 (by omega)
      obtain ⟨x4, e4⟩ := i0 4 (by omega)
      obtain ⟨x5, e5, u0⟩ := i1 0 (by omega)
      obtain ⟨m0, rfl, _⟩ := nat_of_u8 u0
      obtain ⟨x6, e6, u1⟩ := i1 1 (by omega)
      obtain ⟨m1, rfl, _⟩ := nat_of_u8 u1
      obtain ⟨x7, e7, u2⟩ := i1 2 (by omega)
      obtain ⟨m2, rfl, _⟩ := nat_of_u8 u2
      obtain ⟨y0, f0, q0⟩ := i2 0 (by omega)
      obtain ⟨n0, rfl, l0⟩ := nat_of_u8 q0
      obtain ⟨y1, f1, q1⟩ := i2 1 (by omega)
      obtain ⟨n1, rfl, l1⟩ := nat_of_u8 q1
      obtain ⟨y2, f2, q2⟩ := i2 2 (by omega)
      obtain ⟨n2, rfl, l2⟩ := nat_of_u8 q2
      obtain ⟨x8, e8, r0⟩ := i3 0 (by omega)
      obtain ⟨x9, e9, r1⟩ := i3 1 (by omega)
      obtain ⟨x10, e10, r2⟩ := i3 2 (by omega)
      obtain ⟨x11, e11, r3⟩ := i3 3 (by omega)
      simp [Value.cells] at e0 e1 e2 e3 e4 e5 e6 e7 f0 f1 f2 e8 e9 e10 e11
      subst e0 e1 e2 e3 e4 e5 e6 e7 f0 f1 f2 e8 e9 e10 e11
      exact ⟨⟨x0, x1, x2, x3, x4, m0, m1, m2, n0, n1, n2, x8, x9, x10, x11⟩, ⟨l0, l1, l2, bounds_i32 r2⟩, rfl⟩
set_option maxRecDepth 100000 in
theorem cells_as {l : List Value} {fuel : Nat} {x : DataW H × List MemPlace} (hsz : l.length = 20) (hf : DataW.trod enc Try.prog w base spare held fuel 28 l = some x) : ∃ (y : Lq) (rl t0 t1 t2 : Nat) (dl : Int), y.ok ∧ (t0 < 256 ∧ t1 < 256 ∧ t2 < 256) ∧ l = (askA y rl t0 t1 t2 dl).toList := by
  obtain ⟨xs, n, _, _, _, hlen, hg⟩ := DataW.trod_struct Try.underlying28 hf
  match l, hsz with
  | [c0, c1, c2, c3, c4, c5, c6, c7, c8, c9, c10, c11, c12, c13, c14, c15, c16, c17, c18, c19], _ =>
    match xs, hlen with
    | [z0, z1, z2, z3], _ =>
      have g0 : DataW.trod enc Try.prog w base spare held n 26 (([c0, c1, c2, c3, c4, c5, c6, c7, c8, c9, c10, c11, c12, c13, c14, c15, c16, c17, c18, c19].drop 0).take (Try.prog.cellsOf 26)) = some z0 := hg 0 _ rfl
      have g1 : DataW.trod enc Try.prog w base spare held n 5 (([c0, c1, c2, c3, c4, c5, c6, c7, c8, c9, c10, c11, c12, c13, c14, c15, c16, c17, c18, c19].drop 15).take (Try.prog.cellsOf 5)) = some z1 := hg 1 _ rfl
      have g2 : DataW.trod enc Try.prog w base spare held n 23 (([c0, c1, c2, c3, c4, c5, c6, c7, c8, c9, c10, c11, c12, c13, c14, c15, c16, c17, c18, c19].drop 16).take (Try.prog.cellsOf 23)) = some z2 := hg 2 _ rfl
      have g3 : DataW.trod enc Try.prog w base spare held n 3 (([c0, c1, c2, c3, c4, c5, c6, c7, c8, c9, c10, c11, c12, c13, c14, c15, c16, c17, c18, c19].drop 19).take (Try.prog.cellsOf 3)) = some z3 := hg 3 _ rfl
      rw [cellsI26] at g0
      rw [cellsI5] at g1
      rw [cellsI23] at g2
      rw [cellsI3] at g3
      obtain ⟨y, hy, ey⟩ := cells_lq rfl g0
      obtain ⟨x1, e1, _, w1⟩ := DataW.trod_int Try.underlying5 g1
      obtain ⟨rl, rfl, _⟩ := nat_of_u8 w1
      obtain ⟨_, i2⟩ := arr_ints Try.underlying23 Try.underlying5 cellsI5 cellsI23 g2
      obtain ⟨y0, f0, q0⟩ := i2 0 (by omega)
      obtain ⟨n0, rfl, l0⟩ := nat_of_u8 q0
      obtain ⟨y1, f1, q1⟩ := i2 1 (by omega)
      obtain ⟨n1, rfl, l1⟩ := nat_of_u8 q1
      obtain ⟨y2, f2, q2⟩ := i2 2 (by omega)
      obtain ⟨n2, rfl, l2⟩ := nat_of_u8 q2
      obtain ⟨x3, e3, _⟩ := DataW.trod_int Try.underlying3 g3
      simp [Value.cells] at e1 f0 f1 f2 e3
      subst e1 f0 f1 f2 e3
      refine ⟨y, rl, n0, n1, n2, x3, hy, ⟨l0, l1, l2⟩, ?_⟩
      have h15 : (lqA y).toList = [c0, c1, c2, c3, c4, c5, c6, c7, c8, c9, c10, c11, c12, c13, c14] := ey.symm
      have hs : (askA y rl n0 n1 n2 x3).toList = (lqA y).toList ++ [.int .u8 (rl : Nat), .int .u8 (n0 : Nat), .int .u8 (n1 : Nat), .int .u8 (n2 : Nat), .int .i64 x3] := rfl
      rw [hs, h15]
      rfl
set_option maxRecDepth 100000 in
theorem open_lq {v : Value} {d : DataW H} {p : List MemPlace} {b0 : Nat} {r : Reach} (hv : Value.okWide Try.prog w r b0 26 v) (h : DataW.Trod enc Try.prog w base spare held 26 v d p) : ∃ x : Lq, x.ok ∧ v = .agg (lqA x) := by
  obtain ⟨cs, rfl, hsz⟩ := okWide_struct Try.underlying26 hv
  obtain ⟨fuel, hf⟩ := h
  obtain ⟨x, hk, hx⟩ := cells_lq (by rw [Array.length_toList]; exact hsz.trans cellsI26) hf
  refine ⟨x, hk, ?_⟩
  rw [← Array.toArray_toList (xs := cs), show cs.toList = (lqA x).toList from hx]
set_option maxRecDepth 100000 in
theorem open_as {v : Value} {d : DataW H} {p : List MemPlace} {b0 : Nat} {r : Reach} (hv : Value.okWide Try.prog w r b0 28 v) (h : DataW.Trod enc Try.prog w base spare held 28 v d p) : ∃ (y : Lq) (rl t0 t1 t2 : Nat) (dl : Int), (y.ok ∧ (t0 < 256 ∧ t1 < 256 ∧ t2 < 256)) ∧ v = .agg (askA y rl t0 t1 t2 dl) := by
  obtain ⟨cs, rfl, hsz⟩ := okWide_struct Try.underlying28 hv
  obtain ⟨fuel, hf⟩ := h
  obtain ⟨y, rl, t0, t1, t2, dl, h1, h2, hx⟩ := cells_as (by rw [Array.length_toList]; exact hsz.trans cellsI28) hf
  refine ⟨y, rl, t0, t1, t2, dl, ⟨h1, h2⟩, ?_⟩
  rw [← Array.toArray_toList (xs := cs), show cs.toList = (askA y rl t0 t1 t2 dl).toList from hx]
end
end Go.Proofs.Yteeinlbhcdpnnaa
