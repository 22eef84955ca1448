/- How the ports of layer 15's laws are opened. -/
import Derived.Test.YtojijeaofkndpaaOpen
import Derived.Test.YtojijeaofkndpaaOpen2
import Derived.Test.YtojijeaofkndpaaLits
import Derived.Test.YtojijeaofkndpaaRo8
namespace Go.Proofs.Ytojijeaofkndpaa
open Go.ChangeShapes Go.WideShapes Go.ChangeAt Go.RowKit Go.Deep
set_option linter.unusedVariables false
set_option linter.unusedSimpArgs false

theorem cellsQ4 : Try.prog.cellsOf 4 = 1 := by kernel_rfl
theorem cellsQ22 : Try.prog.cellsOf 22 = 1 := by kernel_rfl
theorem cellsQ30 : Try.prog.cellsOf 30 = 1 := by kernel_rfl
theorem cellsQ40 : Try.prog.cellsOf 40 = 1 := by kernel_rfl
theorem cellsQ81 : Try.prog.cellsOf 81 = 8 := by kernel_rfl
section
variable {H : Type} {enc : TypeId × Value → H} {w : World} {base : Nat} {spare : Nat → Bool} {held : Bool}
set_option maxRecDepth 100000 in
theorem cells_81 {l : List Value} {fuel : Nat} {x : DataW H × List MemPlace} (hsz : l.length = 8) (hf : DataW.trod enc Try.prog w base spare held fuel 81 l = some x) : ∃ x : Rp, l = lqC x ∧ x.ok := by
  obtain ⟨xs, n, _, _, _, hlen, hg⟩ := DataW.trod_struct Try.underlying81 hf
  match l, hsz with
  | [c0, c1, c2, c3, c4, c5, c6, c7], _ =>
    match xs, hlen with
    | [z0, z1, z2, z3, z4, z5, z6, z7], _ =>
      have g0 : DataW.trod enc Try.prog w base spare held n 4 (([c0, c1, c2, c3, c4, c5, c6, c7].drop 0).take (Try.prog.cellsOf 4)) = some z0 := hg 0 _ rfl
      have g1 : DataW.trod enc Try.prog w base spare held n 4 (([c0, c1, c2, c3, c4, c5, c6, c7].drop 1).take (Try.prog.cellsOf 4)) = some z1 := hg 1 _ rfl
      have g2 : DataW.trod enc Try.prog w base spare held n 22 (([c0, c1, c2, c3, c4, c5, c6, c7].drop 2).take (Try.prog.cellsOf 22)) = some z2 := hg 2 _ rfl
      have g3 : DataW.trod enc Try.prog w base spare held n 22 (([c0, c1, c2, c3, c4, c5, c6, c7].drop 3).take (Try.prog.cellsOf 22)) = some z3 := hg 3 _ rfl
      have g4 : DataW.trod enc Try.prog w base spare held n 30 (([c0, c1, c2, c3, c4, c5, c6, c7].drop 4).take (Try.prog.cellsOf 30)) = some z4 := hg 4 _ rfl
      have g5 : DataW.trod enc Try.prog w base spare held n 30 (([c0, c1, c2, c3, c4, c5, c6, c7].drop 5).take (Try.prog.cellsOf 30)) = some z5 := hg 5 _ rfl
      have g6 : DataW.trod enc Try.prog w base spare held n 40 (([c0, c1, c2, c3, c4, c5, c6, c7].drop 6).take (Try.prog.cellsOf 40)) = some z6 := hg 6 _ rfl
      have g7 : DataW.trod enc Try.prog w base spare held n 40 (([c0, c1, c2, c3, c4, c5, c6, c7].drop 7).take (Try.prog.cellsOf 40)) = some z7 := hg 7 _ rfl
      rw [cellsQ4] at g0
      rw [cellsQ4] at g1
      rw [cellsQ22] at g2
      rw [cellsQ22] at g3
      rw [cellsQ30] at g4
      rw [cellsQ30] at g5
      rw [cellsQ40] at g6
      rw [cellsQ40] at g7
      obtain ⟨x0, e0, _⟩ := DataW.trod_bool Try.underlying4 g0
      obtain ⟨x1, e1, _⟩ := DataW.trod_bool Try.underlying4 g1
      obtain ⟨x2, e2, _, w2⟩ := DataW.trod_int Try.underlying22 g2
      obtain ⟨n2, rfl, l2⟩ := nat_of_u64 w2
      obtain ⟨x3, e3, _, w3⟩ := DataW.trod_int Try.underlying22 g3
      obtain ⟨n3, rfl, l3⟩ := nat_of_u64 w3
      obtain ⟨x4, e4, _, w4⟩ := DataW.trod_int Try.underlying30 g4
      obtain ⟨n4, rfl, l4⟩ := nat_of_u32 w4
      obtain ⟨x5, e5, _, w5⟩ := DataW.trod_int Try.underlying30 g5
      obtain ⟨n5, rfl, l5⟩ := nat_of_u32 w5
      obtain ⟨x6, e6, _, w6⟩ := DataW.trod_int Try.underlying40 g6
      obtain ⟨n6, rfl, l6⟩ := nat_of_u16 w6
      obtain ⟨x7, e7, _, w7⟩ := DataW.trod_int Try.underlying40 g7
      obtain ⟨n7, rfl, l7⟩ := nat_of_u16 w7
      simp [Value.cells] at e0 e1 e2 e3 e4 e5 e6 e7
      subst e0 e1 e2 e3 e4 e5 e6 e7
      exact ⟨⟨x0, x1, ⟨n2, n4, n3, n6⟩, n5, n7⟩, rfl, ⟨l2, l4, l3, l6⟩, l5, l7⟩
theorem rows23 {a : Option Addr} {len cap : Nat} {d : DataW H} {p : List MemPlace} (h : DataW.Trod enc Try.prog w base spare held 23 (.slice a len cap) d p) : ∃ l : List Rp, l.length = len ∧ RowsAt w a 8 lqC l ∧ (∀ x ∈ l, x.ok) ∧ (len ≤ cap ∧ cap ≤ maxLen) := by
  have key : ∃ l : List Rp, l.length = len ∧ RowsAt w a 8 lqC l ∧ (∀ x ∈ l, Rp.ok x) ∧ (len ≤ cap ∧ cap ≤ maxLen) ∧ (a = none → len = 0 ∧ cap = 0) := by
    refine open_rows lqC Rp.ok Try.underlying23 cellsQ81 (by decide) (fun _ => rfl) ?_ h
    intro fuel cs y hcs hf
    exact cells_81 hcs hf
  obtain ⟨l, h1, h2, h3, h4, -⟩ := key
  exact ⟨l, h1, h2, h3, h4⟩
end
end Go.Proofs.Ytojijeaofkndpaa
