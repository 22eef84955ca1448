/- How the plain state is opened. -/
import Derived.Test.YtpbdamnlfpfclaaOpen2
import Derived.Test.YtpbdamnlfpfclaaLits
import Derived.Test.YtpbdamnlfpfclaaMdA
namespace Go.Proofs.Ytpbdamnlfpfclaa
open Go.ChangeShapes Go.WideShapes Go.ChangeAt Go.RowKit Go.Deep
set_option linter.unusedVariables false
set_option linter.unusedSimpArgs false

theorem cellsR3 : Try.prog.cellsOf 3 = 1 := by kernel_rfl
theorem cellsR4 : Try.prog.cellsOf 4 = 1 := by kernel_rfl
theorem cellsR22 : Try.prog.cellsOf 22 = 1 := by kernel_rfl
theorem cellsR23 : Try.prog.cellsOf 23 = 6 := by kernel_rfl
theorem cellsR24 : Try.prog.cellsOf 24 = 1 := by kernel_rfl
theorem cellsR25 : Try.prog.cellsOf 25 = 1 := by kernel_rfl
theorem cellsR26 : Try.prog.cellsOf 26 = 1 := by kernel_rfl
theorem cellsR27 : Try.prog.cellsOf 27 = 1 := by kernel_rfl
theorem cellsR28 : Try.prog.cellsOf 28 = 14 := by kernel_rfl
theorem cellsR30 : Try.prog.cellsOf 30 = 25 := by kernel_rfl
theorem cellsR44 : Try.prog.cellsOf 44 = 1 := by kernel_rfl
theorem cellsR67 : Try.prog.cellsOf 67 = 10 := by kernel_rfl
theorem cellsR68 : Try.prog.cellsOf 68 = 6 := by kernel_rfl
theorem cellsR70 : Try.prog.cellsOf 70 = 21 := by kernel_rfl
theorem cellsR71 : Try.prog.cellsOf 71 = 3 := by kernel_rfl
theorem cellsR73 : Try.prog.cellsOf 73 = 4 := by kernel_rfl

section
variable {H : Type} {enc : TypeId × Value → H} {P : Program} {w : World} {base : Nat} {spare : Nat → Bool} {held : Bool}
theorem arr_bools {n : Nat} {t e : TypeId} {fuel : Nat} {cs : List Value} {x : DataW H × List MemPlace} (ht : P.underlying t = some (.array n e)) (he : P.underlying e = some .bool) (hce : P.cellsOf e = 1) (hc : P.cellsOf t = n)
    (h : DataW.trod enc P w base spare held fuel t cs = some x) : cs.length = n ∧ ∀ i, i < n → ∃ a, cs[i]? = some (.bool a) := by
  obtain ⟨xs, m, _, _, hl, hx, hi⟩ := DataW.trod_array ht h
  refine ⟨hl.trans hc, fun i hin => ?_⟩
  have h1 := hi i hin
  rw [hce, Nat.mul_one] at h1
  have hlen : i < cs.length := by omega
  rw [List.drop_eq_getElem_cons hlen, show List.take 1 (cs[i] :: List.drop (i + 1) cs) = [cs[i]] from rfl, List.getElem?_eq_getElem (by omega)] at h1
  obtain ⟨a, e1, _⟩ := DataW.trod_bool he h1
  simp only [List.cons.injEq, and_true] at e1
  exact ⟨a, by rw [List.getElem?_eq_getElem hlen, e1]⟩
/-- A field that is a slice. -/
theorem field_slice {t e : TypeId} {n : Nat} {c : Value} {z : DataW H × List MemPlace} (ht : Try.prog.underlying t = some (.slice e)) (hf : DataW.trod enc Try.prog w base spare held n t [c] = some z) :
    ∃ a len cap, c = .slice a len cap ∧ DataW.Trod enc Try.prog w base spare held t (.slice a len cap) z.1 z.2 := by
  have key : ∃ a len cap, c = .slice a len cap := by
    rcases open_slice ht hf with ⟨hcs, -⟩ | ⟨x, len', cap', m, n, D, Pl, hcs, -⟩
    · exact ⟨none, 0, 0, by simpa using hcs⟩
    · exact ⟨some x, len', cap', by simpa using hcs⟩
  obtain ⟨a, len, cap, rfl⟩ := key
  exact ⟨a, len, cap, rfl, n, by simpa [Value.cells] using hf⟩
set_option maxRecDepth 100000 in
theorem cells_70 {l : List Value} {fuel : Nat} {x : DataW H × List MemPlace} (hsz : l.length = 21) (hf : DataW.trod enc Try.prog w base spare held fuel 70 l = some x) : ∃ p : Pp, l = ppC p := by
  obtain ⟨xs, n, _, _, _, hlen, hg⟩ := DataW.trod_struct Try.underlying70 hf
  match l, hsz with
  | [c0, c1, c2, c3, c4, c5, c6, c7, c8, c9, c10, c11, c12, c13, c14, c15, c16, c17, c18, c19, c20], _ =>
    match xs, hlen with
    | [z0, z1, z2, z3, z4, z5, z6], _ =>
      have g0 : DataW.trod enc Try.prog w base spare held n 67 (([c0, c1, c2, c3, c4, c5, c6, c7, c8, c9, c10, c11, c12, c13, c14, c15, c16, c17, c18, c19, c20].drop 0).take (Try.prog.cellsOf 67)) = some z0 := hg 0 _ rfl
      have g1 : DataW.trod enc Try.prog w base spare held n 68 (([c0, c1, c2, c3, c4, c5, c6, c7, c8, c9, c10, c11, c12, c13, c14, c15, c16, c17, c18, c19, c20].drop 10).take (Try.prog.cellsOf 68)) = some z1 := hg 1 _ rfl
      have g2 : DataW.trod enc Try.prog w base spare held n 27 (([c0, c1, c2, c3, c4, c5, c6, c7, c8, c9, c10, c11, c12, c13, c14, c15, c16, c17, c18, c19, c20].drop 16).take (Try.prog.cellsOf 27)) = some z2 := hg 2 _ rfl
      have g3 : DataW.trod enc Try.prog w base spare held n 22 (([c0, c1, c2, c3, c4, c5, c6, c7, c8, c9, c10, c11, c12, c13, c14, c15, c16, c17, c18, c19, c20].drop 17).take (Try.prog.cellsOf 22)) = some z3 := hg 3 _ rfl
      have g4 : DataW.trod enc Try.prog w base spare held n 27 (([c0, c1, c2, c3, c4, c5, c6, c7, c8, c9, c10, c11, c12, c13, c14, c15, c16, c17, c18, c19, c20].drop 18).take (Try.prog.cellsOf 27)) = some z4 := hg 4 _ rfl
      have g5 : DataW.trod enc Try.prog w base spare held n 22 (([c0, c1, c2, c3, c4, c5, c6, c7, c8, c9, c10, c11, c12, c13, c14, c15, c16, c17, c18, c19, c20].drop 19).take (Try.prog.cellsOf 22)) = some z5 := hg 5 _ rfl
      have g6 : DataW.trod enc Try.prog w base spare held n 44 (([c0, c1, c2, c3, c4, c5, c6, c7, c8, c9, c10, c11, c12, c13, c14, c15, c16, c17, c18, c19, c20].drop 20).take (Try.prog.cellsOf 44)) = some z6 := hg 6 _ rfl
      rw [cellsR67] at g0
      rw [cellsR68] at g1
      rw [cellsR27] at g2
      rw [cellsR22] at g3
      rw [cellsR27] at g4
      rw [cellsR22] at g5
      rw [cellsR44] at g6
      obtain ⟨_, i0⟩ := arr_ints Try.underlying67 Try.underlying3 cellsR3 cellsR67 g0
      obtain ⟨_, i1⟩ := arr_bools Try.underlying68 Try.underlying4 cellsR4 cellsR68 g1
      obtain ⟨x0, e0, _⟩ := i0 0 (by omega)
      obtain ⟨x1, e1, _⟩ := i0 1 (by omega)
      obtain ⟨x2, e2, _⟩ := i0 2 (by omega)
      obtain ⟨x3, e3, _⟩ := i0 3 (by omega)
      obtain ⟨x4, e4, _⟩ := i0 4 (by omega)
      obtain ⟨x5, e5, _⟩ := i0 5 (by omega)
      obtain ⟨x6, e6, _⟩ := i0 6 (by omega)
      obtain ⟨x7, e7, _⟩ := i0 7 (by omega)
      obtain ⟨x8, e8, _⟩ := i0 8 (by omega)
      obtain ⟨x9, e9, _⟩ := i0 9 (by omega)
      obtain ⟨x10, e10⟩ := i1 0 (by omega)
      obtain ⟨x11, e11⟩ := i1 1 (by omega)
      obtain ⟨x12, e12⟩ := i1 2 (by omega)
      obtain ⟨x13, e13⟩ := i1 3 (by omega)
      obtain ⟨x14, e14⟩ := i1 4 (by omega)
      obtain ⟨x15, e15⟩ := i1 5 (by omega)
      obtain ⟨x16, e16, _, _⟩ := DataW.trod_int Try.underlying27 g2
      obtain ⟨x17, e17, _, _⟩ := DataW.trod_int Try.underlying22 g3
      obtain ⟨x18, e18, _, _⟩ := DataW.trod_int Try.underlying27 g4
      obtain ⟨x19, e19, _, _⟩ := DataW.trod_int Try.underlying22 g5
      obtain ⟨x20, e20, _, _⟩ := DataW.trod_int Try.underlying44 g6
      simp [Value.cells] at e0 e1 e2 e3 e4 e5 e6 e7 e8 e9 e10 e11 e12 e13 e14 e15 e16 e17 e18 e19 e20
      subst e0 e1 e2 e3 e4 e5 e6 e7 e8 e9 e10 e11 e12 e13 e14 e15 e16 e17 e18 e19 e20
      exact ⟨⟨x0, x1, x2, x3, x4, x5, x6, x7, x8, x9, x10, x11, x12, x13, x14, x15, x16, x17, x18, x19, x20⟩, rfl⟩
theorem rows24 {a : Option Addr} {len cap : Nat} {d : DataW H} {p : List MemPlace} (h : DataW.Trod enc Try.prog w base spare held 24 (.slice a len cap) d p) : ∃ l, RowsOk w a len cap 21 ppC (fun _ => True) l := by
  have key : ∃ l : List Pp, l.length = len ∧ RowsAt w a 21 ppC l ∧ (∀ x ∈ l, True) ∧ (len ≤ cap ∧ cap ≤ maxLen) ∧ (a = none → len = 0 ∧ cap = 0) := by
    refine open_rows ppC (fun _ => True) Try.underlying24 cellsR70 (by decide) (fun _ => rfl) ?_ h
    intro fuel cs y hcs hf
    obtain ⟨p, hp⟩ := cells_70 hcs hf
    exact ⟨p, hp, trivial⟩
  obtain ⟨l, h1, h2, h3, h4, -⟩ := key
  exact ⟨l, h1, h2, h3, h4⟩
theorem rows25 {a : Option Addr} {len cap : Nat} {d : DataW H} {p : List MemPlace} (h : DataW.Trod enc Try.prog w base spare held 25 (.slice a len cap) d p) : ∃ l, RowsOk w a len cap 3 v3C V3.ok l := by
  have key : ∃ l : List V3, l.length = len ∧ RowsAt w a 3 v3C l ∧ (∀ x ∈ l, V3.ok x) ∧ (len ≤ cap ∧ cap ≤ maxLen) ∧ (a = none → len = 0 ∧ cap = 0) := by
    refine open_rows v3C V3.ok Try.underlying25 cellsR71 (by decide) (fun _ => rfl) ?_ h
    intro fuel cs y hcs hf
    match cs, hcs with
    | [c0, c1, c2], _ =>
    obtain ⟨_, i2⟩ := arr_ints Try.underlying71 Try.underlying44 cellsR44 cellsR71 hf
    obtain ⟨x0, e0, w0⟩ := i2 0 (by omega)
    obtain ⟨n0, rfl, l0⟩ := nat_of_u16 w0
    obtain ⟨x1, e1, w1⟩ := i2 1 (by omega)
    obtain ⟨n1, rfl, l1⟩ := nat_of_u16 w1
    obtain ⟨x2, e2, w2⟩ := i2 2 (by omega)
    obtain ⟨n2, rfl, l2⟩ := nat_of_u16 w2
    refine ⟨⟨n0, n1, n2⟩, ?_, l0, l1, l2⟩
    simp at e0 e1 e2
    rw [e0, e1, e2]
    rfl
  obtain ⟨l, h1, h2, h3, h4, -⟩ := key
  exact ⟨l, h1, h2, h3, h4⟩
theorem rows26 {a : Option Addr} {len cap : Nat} {d : DataW H} {p : List MemPlace} (h : DataW.Trod enc Try.prog w base spare held 26 (.slice a len cap) d p) : ∃ l, RowsOk w a len cap 4 v4C V4.ok l := by
  have key : ∃ l : List V4, l.length = len ∧ RowsAt w a 4 v4C l ∧ (∀ x ∈ l, V4.ok x) ∧ (len ≤ cap ∧ cap ≤ maxLen) ∧ (a = none → len = 0 ∧ cap = 0) := by
    refine open_rows v4C V4.ok Try.underlying26 cellsR73 (by decide) (fun _ => rfl) ?_ h
    intro fuel cs y hcs hf
    match cs, hcs with
    | [c0, c1, c2, c3], _ =>
    obtain ⟨_, i2⟩ := arr_ints Try.underlying73 Try.underlying44 cellsR44 cellsR73 hf
    obtain ⟨x0, e0, w0⟩ := i2 0 (by omega)
    obtain ⟨n0, rfl, l0⟩ := nat_of_u16 w0
    obtain ⟨x1, e1, w1⟩ := i2 1 (by omega)
    obtain ⟨n1, rfl, l1⟩ := nat_of_u16 w1
    obtain ⟨x2, e2, w2⟩ := i2 2 (by omega)
    obtain ⟨n2, rfl, l2⟩ := nat_of_u16 w2
    obtain ⟨x3, e3, w3⟩ := i2 3 (by omega)
    obtain ⟨n3, rfl, l3⟩ := nat_of_u16 w3
    refine ⟨⟨n0, n1, n2, n3⟩, ?_, l0, l1, l2, l3⟩
    simp at e0 e1 e2 e3
    rw [e0, e1, e2, e3]
    rfl
  obtain ⟨l, h1, h2, h3, h4, -⟩ := key
  exact ⟨l, h1, h2, h3, h4⟩

set_option maxRecDepth 100000 in
theorem open_s30 {v : Value} {d : DataW H} {p : List MemPlace} {b0 : Nat} {r : Reach} (hv : Value.okWide Try.prog w r b0 30 v) (h : DataW.Trod enc Try.prog w base spare held 30 v d p) :
    ∃ (s : Sd) (a1 : Option Addr) (n1 m1 : Nat) (a2 : Option Addr) (n2 m2 : Nat) (a3 : Option Addr) (n3 m3 : Nat) (a4 : Option Addr) (n4 m4 : Nat), v = .agg (inA s a1 n1 m1 a2 n2 m2 a3 n3 m3 a4 n4 m4) ∧
      RowsOk w a1 n1 m1 21 ppC (fun _ => True) s.ps ∧ RowsOk w a2 n2 m2 3 v3C V3.ok s.vs ∧ RowsOk w a3 n3 m3 3 v3C V3.ok s.ss ∧ RowsOk w a4 n4 m4 4 v4C V4.ok s.fs := by
  obtain ⟨cs, rfl, hsz⟩ := okWide_struct Try.underlying30 hv
  obtain ⟨fuel, hf⟩ := h
  have hsz : cs.toList.length = 25 := by rw [Array.length_toList]; exact hsz.trans cellsR30
  obtain ⟨l⟩ := cs
  have hf : DataW.trod enc Try.prog w base spare held fuel 30 l = some (d, p) := hf
  obtain ⟨xs, n, _, _, _, hlen, hg⟩ := DataW.trod_struct Try.underlying30 hf
  match l, hsz with
  | [c0, c1, c2, c3, c4, c5, c6, c7, c8, c9, c10, c11, c12, c13, c14, c15, c16, c17, c18, c19, c20, c21, c22, c23, c24], _ =>
    match xs, hlen with
    | [z0, z1, z2, z3, z4, z5, z6], _ =>
      have g0 : DataW.trod enc Try.prog w base spare held n 22 (([c0, c1, c2, c3, c4, c5, c6, c7, c8, c9, c10, c11, c12, c13, c14, c15, c16, c17, c18, c19, c20, c21, c22, c23, c24].drop 0).take (Try.prog.cellsOf 22)) = some z0 := hg 0 _ rfl
      have g1 : DataW.trod enc Try.prog w base spare held n 23 (([c0, c1, c2, c3, c4, c5, c6, c7, c8, c9, c10, c11, c12, c13, c14, c15, c16, c17, c18, c19, c20, c21, c22, c23, c24].drop 1).take (Try.prog.cellsOf 23)) = some z1 := hg 1 _ rfl
      have g2 : DataW.trod enc Try.prog w base spare held n 24 (([c0, c1, c2, c3, c4, c5, c6, c7, c8, c9, c10, c11, c12, c13, c14, c15, c16, c17, c18, c19, c20, c21, c22, c23, c24].drop 7).take (Try.prog.cellsOf 24)) = some z2 := hg 2 _ rfl
      have g3 : DataW.trod enc Try.prog w base spare held n 25 (([c0, c1, c2, c3, c4, c5, c6, c7, c8, c9, c10, c11, c12, c13, c14, c15, c16, c17, c18, c19, c20, c21, c22, c23, c24].drop 8).take (Try.prog.cellsOf 25)) = some z3 := hg 3 _ rfl
      have g4 : DataW.trod enc Try.prog w base spare held n 25 (([c0, c1, c2, c3, c4, c5, c6, c7, c8, c9, c10, c11, c12, c13, c14, c15, c16, c17, c18, c19, c20, c21, c22, c23, c24].drop 9).take (Try.prog.cellsOf 25)) = some z4 := hg 4 _ rfl
      have g5 : DataW.trod enc Try.prog w base spare held n 26 (([c0, c1, c2, c3, c4, c5, c6, c7, c8, c9, c10, c11, c12, c13, c14, c15, c16, c17, c18, c19, c20, c21, c22, c23, c24].drop 10).take (Try.prog.cellsOf 26)) = some z5 := hg 5 _ rfl
      have g6 : DataW.trod enc Try.prog w base spare held n 28 (([c0, c1, c2, c3, c4, c5, c6, c7, c8, c9, c10, c11, c12, c13, c14, c15, c16, c17, c18, c19, c20, c21, c22, c23, c24].drop 11).take (Try.prog.cellsOf 28)) = some z6 := hg 6 _ rfl
      rw [cellsR22] at g0
      rw [cellsR23] at g1
      rw [cellsR24] at g2
      rw [cellsR25] at g3
      rw [cellsR25] at g4
      rw [cellsR26] at g5
      rw [cellsR28] at g6
      obtain ⟨x0, e0, _, _⟩ := DataW.trod_int Try.underlying22 g0
      obtain ⟨_, i1⟩ := arr_ints Try.underlying23 Try.underlying3 cellsR3 cellsR23 g1
      obtain ⟨x1, e1, _⟩ := i1 0 (by omega)
      obtain ⟨x2, e2, _⟩ := i1 1 (by omega)
      obtain ⟨x3, e3, _⟩ := i1 2 (by omega)
      obtain ⟨x4, e4, _⟩ := i1 3 (by omega)
      obtain ⟨x5, e5, _⟩ := i1 4 (by omega)
      obtain ⟨x6, e6, _⟩ := i1 5 (by omega)
      obtain ⟨a1, n1, m1, e7, t1⟩ := field_slice Try.underlying24 g2
      obtain ⟨l1, h1⟩ := rows24 t1
      obtain ⟨a2, n2, m2, e8, t2⟩ := field_slice Try.underlying25 g3
      obtain ⟨l2, h2⟩ := rows25 t2
      obtain ⟨a3, n3, m3, e9, t3⟩ := field_slice Try.underlying25 g4
      obtain ⟨l3, h3⟩ := rows25 t3
      obtain ⟨a4, n4, m4, e10, t4⟩ := field_slice Try.underlying26 g5
      obtain ⟨l4, h4⟩ := rows26 t4
      obtain ⟨_, i6⟩ := arr_ints Try.underlying28 Try.underlying27 cellsR27 cellsR28 g6
      obtain ⟨y0, e11, _⟩ := i6 0 (by omega)
      obtain ⟨y1, e12, _⟩ := i6 1 (by omega)
      obtain ⟨y2, e13, _⟩ := i6 2 (by omega)
      obtain ⟨y3, e14, _⟩ := i6 3 (by omega)
      obtain ⟨y4, e15, _⟩ := i6 4 (by omega)
      obtain ⟨y5, e16, _⟩ := i6 5 (by omega)
      obtain ⟨y6, e17, _⟩ := i6 6 (by omega)
      obtain ⟨y7, e18, _⟩ := i6 7 (by omega)
      obtain ⟨y8, e19, _⟩ := i6 8 (by omega)
      obtain ⟨y9, e20, _⟩ := i6 9 (by omega)
      obtain ⟨y10, e21, _⟩ := i6 10 (by omega)
      obtain ⟨y11, e22, _⟩ := i6 11 (by omega)
      obtain ⟨y12, e23, _⟩ := i6 12 (by omega)
      obtain ⟨y13, e24, _⟩ := i6 13 (by omega)
      simp [Value.cells] at e0 e1 e2 e3 e4 e5 e6 e11 e12 e13 e14 e15 e16 e17 e18 e19 e20 e21 e22 e23 e24
      subst e0 e1 e2 e3 e4 e5 e6 e7 e8 e9 e10 e11 e12 e13 e14 e15 e16 e17 e18 e19 e20 e21 e22 e23 e24
      exact ⟨⟨⟨x0, x1, x2, x3, x4, x5⟩, x6, fun i => match i with | 0 => y0 | 1 => y1 | 2 => y2 | 3 => y3 | 4 => y4 | 5 => y5 | 6 => y6 | 7 => y7 | 8 => y8 | 9 => y9 | 10 => y10 | 11 => y11 | 12 => y12 | _ => y13, l1, l2, l3, l4⟩, a1, n1, m1, a2, n2, m2, a3, n3, m3, a4, n4, m4, rfl, h1, h2, h3, h4⟩
end
end Go.Proofs.Ytpbdamnlfpfclaa
