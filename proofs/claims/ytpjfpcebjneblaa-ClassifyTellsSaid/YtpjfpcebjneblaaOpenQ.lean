/- How structs that came in are opened, that hold slices of pairs. -/
import Derived.Test.YtpjfpcebjneblaaOpenS
import Derived.Test.YtpjfpcebjneblaaTelA
import Derived.Test.YtpjfpcebjneblaaLits
namespace Go.Proofs.Ytpjfpcebjneblaa
open Go.ChangeShapes Go.WideShapes Go.ChangeAt Go.RowKit Go.Deep
set_option linter.unusedVariables false
set_option linter.unusedSimpArgs false

theorem cellsQ3 : Try.prog.cellsOf 3 = 1 := by kernel_rfl
theorem cellsQ23 : Try.prog.cellsOf 23 = 1 := by kernel_rfl
theorem cellsQ25 : Try.prog.cellsOf 25 = 7 := by kernel_rfl
theorem cellsQ33 : Try.prog.cellsOf 33 = 2 := by kernel_rfl

section
variable {H : Type} {enc : TypeId × Value → H} {w : World} {base : Nat} {spare : Nat → Bool} {held : Bool}

/-- A field that is a slice. -/
theorem field_slice {t e : TypeId} {n : Nat} {c : Value} {z : DataW H × List MemPlace} (ht : Try.prog.underlying t = some (.slice e)) (hf : DataW.trod enc Try.prog w base spare held n t [c] = some z) :
    ∃ a len cap, c = .slice a len cap ∧ DataW.Trod enc Try.prog w base spare held t (.slice a len cap) z.1 z.2 := by
  have key : ∃ a len cap, c = .slice a len cap := by
    rcases open_slice ht hf with ⟨hcs, -⟩ | ⟨x, len', cap', m, n, D, Pl, hcs, -⟩
    · exact ⟨none, 0, 0, by simpa using hcs⟩
    · exact ⟨some x, len', cap', by simpa using hcs⟩
  obtain ⟨a, len, cap, rfl⟩ := key
  exact ⟨a, len, cap, rfl, n, by simpa [Value.cells] using hf⟩
/-- A slice of pairs. -/
theorem pairs_open {a : Option Addr} {len cap : Nat} {d : DataW H} {p : List MemPlace} (h : DataW.Trod enc Try.prog w base spare held 23 (.slice a len cap) d p) : ∃ l, IsPairs w a len cap l := by
  refine open_rows pC (fun x => x.1 < 65536 ∧ x.2 < 65536) Try.underlying23 cellsQ33 (by decide) (fun _ => rfl) ?_ h
  intro fuel cs y hcs hf
  match cs, hcs with
  | [c0, c1], _ =>
    obtain ⟨_, i2⟩ := arr_ints Try.underlying33 Try.underlying22 cellsS22 cellsQ33 hf
    obtain ⟨x0, e0, w0⟩ := i2 0 (by omega)
    obtain ⟨x1, e1, w1⟩ := i2 1 (by omega)
    obtain ⟨n0, rfl, l0⟩ := nat_of_u16 w0
    obtain ⟨n1, rfl, l1⟩ := nat_of_u16 w1
    refine ⟨(n0, n1), ?_, l0, l1⟩
    simp at e0 e1
    rw [e0, e1]
    rfl

set_option maxRecDepth 100000 in
theorem open_s25 {v : Value} {d : DataW H} {p : List MemPlace} {b0 : Nat} {r : Reach} (hv : Value.okWide Try.prog w r b0 25 v) (h : DataW.Trod enc Try.prog w base spare held 25 v d p) :
    ∃ (x0 : Int) (x1 : Int) (x2 : Bool) (x3 : Int) (x4 : Bool) (x5 : Int) (a : Option Addr) (len cap : Nat) (z : List (Nat × Nat)), v = .agg #[.int .u16 x0, .int .i64 x1, .bool x2, .int .i64 x3, .bool x4, .int .u16 x5, .slice a len cap] ∧
      (Lit.int .u16 x0).wf = true ∧ (Lit.int .u16 x5).wf = true ∧ IsPairs w a len cap z := by
  obtain ⟨cs, rfl, hsz⟩ := okWide_struct Try.underlying25 hv
  obtain ⟨fuel, hf⟩ := h
  have hsz : cs.toList.length = 7 := by rw [Array.length_toList]; exact hsz.trans cellsQ25
  obtain ⟨l⟩ := cs
  have hf : DataW.trod enc Try.prog w base spare held fuel 25 l = some (d, p) := hf
  obtain ⟨xs, n, _, _, _, hlen, hg⟩ := DataW.trod_struct Try.underlying25 hf
  match l, hsz with
  | [c0, c1, c2, c3, c4, c5, c6], _ =>
    match xs, hlen with
    | [z0, z1, z2, z3, z4, z5, z6], _ =>
      have g0 : DataW.trod enc Try.prog w base spare held n 22 (([c0, c1, c2, c3, c4, c5, c6].drop 0).take (Try.prog.cellsOf 22)) = some z0 := hg 0 _ rfl
      have g1 : DataW.trod enc Try.prog w base spare held n 3 (([c0, c1, c2, c3, c4, c5, c6].drop 1).take (Try.prog.cellsOf 3)) = some z1 := hg 1 _ rfl
      have g2 : DataW.trod enc Try.prog w base spare held n 4 (([c0, c1, c2, c3, c4, c5, c6].drop 2).take (Try.prog.cellsOf 4)) = some z2 := hg 2 _ rfl
      have g3 : DataW.trod enc Try.prog w base spare held n 3 (([c0, c1, c2, c3, c4, c5, c6].drop 3).take (Try.prog.cellsOf 3)) = some z3 := hg 3 _ rfl
      have g4 : DataW.trod enc Try.prog w base spare held n 4 (([c0, c1, c2, c3, c4, c5, c6].drop 4).take (Try.prog.cellsOf 4)) = some z4 := hg 4 _ rfl
      have g5 : DataW.trod enc Try.prog w base spare held n 22 (([c0, c1, c2, c3, c4, c5, c6].drop 5).take (Try.prog.cellsOf 22)) = some z5 := hg 5 _ rfl
      have g6 : DataW.trod enc Try.prog w base spare held n 23 (([c0, c1, c2, c3, c4, c5, c6].drop 6).take (Try.prog.cellsOf 23)) = some z6 := hg 6 _ rfl
      rw [cellsS22] at g0 g5
      rw [cellsQ3] at g1 g3
      rw [cellsS4] at g2 g4
      rw [cellsQ23] at g6
      obtain ⟨x0, e0, _, w0⟩ := DataW.trod_int Try.underlying22 g0
      obtain ⟨x1, e1, _, w1⟩ := DataW.trod_int Try.underlying3 g1
      obtain ⟨x2, e2, _⟩ := DataW.trod_bool Try.underlying4 g2
      obtain ⟨x3, e3, _, w3⟩ := DataW.trod_int Try.underlying3 g3
      obtain ⟨x4, e4, _⟩ := DataW.trod_bool Try.underlying4 g4
      obtain ⟨x5, e5, _, w5⟩ := DataW.trod_int Try.underlying22 g5
      obtain ⟨a, len, cap, e6, t6⟩ := field_slice Try.underlying23 g6
      obtain ⟨z, hz⟩ := pairs_open t6
      simp [Value.cells] at e0 e1 e2 e3 e4 e5
      subst e0 e1 e2 e3 e4 e5 e6
      exact ⟨x0, x1, x2, x3, x4, x5, a, len, cap, z, rfl, w0, w5, hz⟩
end
end Go.Proofs.Ytpjfpcebjneblaa
