/- How an image as it comes in is opened; the walk over it. -/
import Derived.Test.YtmbafeemiclmeaaTv13
import Derived.Test.YtmbafeemiclmeaaTv14
namespace Go.Proofs.Ytmbafeemiclmeaa
open Go.RowKit Go.Deep Go.ChangeShapes Go.WideShapes Go.ChangeAt
set_option linter.unusedVariables false
set_option linter.unusedSimpArgs false
theorem cellsQ49 : Try.prog.cellsOf 49 = 4 := by kernel_rfl
theorem cellsQ22 : Try.prog.cellsOf 22 = 1 := by kernel_rfl
theorem cellsQ47 : Try.prog.cellsOf 47 = 1 := by kernel_rfl
section
variable {H : Type} {enc : TypeId × Value → H} {w : World} {base : Nat} {spare : Nat → Bool} {held : Bool}
set_option maxRecDepth 100000 in
theorem cells_49 {l : List Value} {fuel : Nat} {x : DataW H × List MemPlace} (hsz : l.length = 4) (hf : DataW.trod enc Try.prog w base spare held fuel 49 l = some x) : ∃ (x0 : Nat) (a : Option Addr) (len cap : Nat) (pl : List Sec) (c : Nat) (more : ByteArray), l = [.int .u8 (x0 : Int), .slice a len cap, .int .u16 (c : Int), .string more] ∧ x0 < 256 ∧ c < 65536 ∧ more.size ≤ maxLen ∧ IsArg53 w a len cap pl := by
  obtain ⟨xs, n, _, _, _, hlen, hg⟩ := DataW.trod_struct Try.underlying49 hf
  match l, hsz with
  | [c0, c1, c2, c3], _ =>
    match xs, hlen with
    | [z0, z1, z2, z3], _ =>
      have g0 : DataW.trod enc Try.prog w base spare held n 5 (([c0, c1, c2, c3].drop 0).take (Try.prog.cellsOf 5)) = some z0 := hg 0 _ rfl
      have g1 : DataW.trod enc Try.prog w base spare held n 22 (([c0, c1, c2, c3].drop 1).take (Try.prog.cellsOf 22)) = some z1 := hg 1 _ rfl
      have g2 : DataW.trod enc Try.prog w base spare held n 47 (([c0, c1, c2, c3].drop 2).take (Try.prog.cellsOf 47)) = some z2 := hg 2 _ rfl
      have g3 : DataW.trod enc Try.prog w base spare held n 9 (([c0, c1, c2, c3].drop 3).take (Try.prog.cellsOf 9)) = some z3 := hg 3 _ rfl
      rw [cellsS5] at g0
      rw [cellsQ22] at g1
      rw [cellsQ47] at g2
      rw [cellsS9] at g3
      obtain ⟨x0, e0, _, w0⟩ := DataW.trod_int Try.underlying5 g0
      obtain ⟨n0, rfl, l0⟩ := nat_of_u8 w0
      obtain ⟨x2, e2, _, w2⟩ := DataW.trod_int Try.underlying47 g2
      obtain ⟨n2, rfl, l2⟩ := nat_of_u16 w2
      obtain ⟨x3, e3, _, w3⟩ := DataW.trod_string Try.underlying9 g3
      have hsl : ∃ a len cap, c1 = .slice a len cap := by
        rcases open_slice Try.underlying22 g1 with ⟨hcs, -⟩ | ⟨x, len', cap', m, n', D, Pl, hcs, -⟩
        · simp [Value.cells] at hcs; exact ⟨_, _, _, hcs⟩
        · simp [Value.cells] at hcs; exact ⟨_, _, _, hcs⟩
      obtain ⟨a, len, cap, rfl⟩ := hsl
      obtain ⟨y1, y2⟩ := open_row53 (d := z1.1) (p := z1.2) ⟨n, by simpa [Value.cells] using g1⟩
      simp [Value.cells] at e0 e2 e3
      subst e0 e2 e3
      exact ⟨n0, a, len, cap, y1, n2, x3, rfl, l0, l2, w3, y2⟩
set_option maxRecDepth 100000 in
theorem open_s49 {v : Value} {d : DataW H} {p : List MemPlace} {b0 : Nat} {r : Reach} (hv : Value.okWide Try.prog w r b0 49 v) (h : DataW.Trod enc Try.prog w base spare held 49 v d p) : ∃ (x0 : Nat) (a : Option Addr) (len cap : Nat) (pl : List Sec) (c : Nat) (more : ByteArray), v = .agg #[.int .u8 (x0 : Int), .slice a len cap, .int .u16 (c : Int), .string more] ∧ x0 < 256 ∧ c < 65536 ∧ more.size ≤ maxLen ∧ IsArg53 w a len cap pl := by
  obtain ⟨cs, rfl, hsz⟩ := okWide_struct Try.underlying49 hv
  obtain ⟨fuel, hf⟩ := h
  obtain ⟨x0, a, len, cap, pl, c, more, hx, h1⟩ := cells_49 (by rw [Array.length_toList]; exact hsz.trans cellsQ49) hf
  exact ⟨x0, a, len, cap, pl, c, more, by rw [← Array.toArray_toList (xs := cs), show cs.toList = _ from hx], h1⟩
end
theorem rots_law (x : Nat) (a : Option Addr) (len cap : Nat) (l : List Sec) (c : Nat) (more : ByteArray) (A : Int) (b : Int) (w : World) (hx : x < 256) (hc : c < 65536) (hmo : more.size ≤ maxLen) (h : IsArg53 w a len cap l) (hA : (Lit.int .i64 A).wf = true) (hb : (Lit.int .u32 b).wf = true) :
    Calls Try.prog 5 #[.agg #[.int .u8 x, .slice a len cap, .int .u16 c, .string more], .int .i64 A, .int .u32 b] w fun e w' => e = .returned (.bool true) ∧ Below w.heap.size w w' := by
  obtain ⟨n, rfl, hn⟩ := nat_of_u32 hb
  exact rots_walk x a len cap l c more A n w h hx hc hmo hA hn
end Go.Proofs.Ytmbafeemiclmeaa
