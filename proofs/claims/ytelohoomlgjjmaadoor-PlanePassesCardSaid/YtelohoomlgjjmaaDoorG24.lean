import Derived.Test.YtelohoomlgjjmaaDoorRows
import Derived.WalkKit
import Derived.ProofKit
import Derived.OpenShut
import Derived.ShutString
import Derived.ChangeOld
import Derived.Below
import Derived.Laws.IdiomArrays
import Derived.Lib.SmallJoins
import Derived.Test.YtelohoomlgjjmaaDoorG15
import Derived.Lay
import Derived.LaidSub
import Derived.LaidMore
import Derived.Stop.Joined
import Derived.Lib.LaidTab
set_option linter.unusedSimpArgs false
set_option linter.unusedVariables false
namespace Go.Proofs.YtelohoomlgjjmaaDoor
section
/- What the last step of every statement of this seat needs: how arguments are opened. -/
open Go.ChangeShapes Go.WideShapes Go.ChangeAt Go.RowKit

theorem own : ownKnob Tryd.prog.godebug = none := by kernel_rfl
theorem laidOut : laidOutB Tryd.prog = true := by kernel_rfl

/-- A slice of integers that came in: it is nil; or it leads to a row of 'cap' cells, the numbers 'zs', the first 'len' of which are its elements. -/
def IsRow (k : IntKind) (w : World) (a : Option Addr) (len cap : Nat) (zs : List Int) : Prop :=
  (a = none ∧ len = 0 ∧ cap = 0 ∧ zs = []) ∨
  ∃ x, a = some x ∧ len ≤ cap ∧ cap ≤ maxLen ∧ zs.length = cap ∧ (∀ i, i < zs.length → w.cell? (x.add i) = some (.int k (zs.getD i 0))) ∧ ∀ n ∈ zs, (Lit.int k n).wf = true

/-- An array of three integers that came in. -/
theorem open_arr3 {H : Type} {enc : TypeId × Value → H} {P : Program} {w : World} {t e : TypeId} {k : IntKind} {v : Value} {d : DataW H} {p : List MemPlace} {b0 : Nat} {r : Reach} {base : Nat} {spare : Nat → Bool} {held : Bool}
    (ht : P.underlying t = some (.array 3 e)) (he : P.underlying e = some (.int k)) (hc : P.cellsOf t = 3) (hce : P.cellsOf e = 1)
    (hv : Value.okWide P w r b0 t v) (h : DataW.Trod enc P w base spare held t v d p) :
    ∃ (b c f : Int) (_ : True), v = .agg #[.int k b, .int k c, .int k f] ∧ (Lit.int k b).wf = true ∧ (Lit.int k c).wf = true ∧ (Lit.int k f).wf = true := by
  unfold Value.okWide at hv
  rw [ht] at hv
  obtain ⟨cs, rfl, hsz, _⟩ := hv
  obtain ⟨c0, c1, c2, rfl⟩ := Joins.array3 (hsz.trans hc)
  obtain ⟨fuel, hf⟩ := h
  obtain ⟨y0, y1, y2, n, _, h0, h1, h2⟩ := trod_array3 ht hce hf
  obtain ⟨a0, e0, _, w0⟩ := DataW.trod_int he h0
  obtain ⟨a1, e1, _, w1⟩ := DataW.trod_int he h1
  obtain ⟨a2, e2, _, w2⟩ := DataW.trod_int he h2
  simp at e0 e1 e2
  subst e0 e1 e2
  exact ⟨a0, a1, a2, trivial, rfl, w0, w1, w2⟩
end
section
/- How arguments are opened that are arrays of integers, or frames. -/
open Go.ChangeShapes Go.WideShapes Go.ChangeAt Go.RowKit

section
variable {H : Type} {enc : TypeId × Value → H} {P : Program} {w : World} {base : Nat} {spare : Nat → Bool} {held : Bool}

/-- The elements of an array of integers that is read. -/
theorem arr_ints {n : Nat} {t e : TypeId} {k : IntKind} {fuel : Nat} {cs : List Value} {x : DataW H × List MemPlace} (ht : P.underlying t = some (.array n e)) (he : P.underlying e = some (.int k)) (hce : P.cellsOf e = 1) (hc : P.cellsOf t = n)
    (h : DataW.trod enc P w base spare held fuel t cs = some x) : cs.length = n ∧ ∀ i, i < n → ∃ a, cs[i]? = some (.int k a) ∧ (Lit.int k a).wf = true := by
  obtain ⟨xs, m, _, _, hl, hx, hi⟩ := DataW.trod_array ht h
  refine ⟨hl.trans hc, fun i hin => ?_⟩
  have h1 := hi i hin
  rw [hce, Nat.mul_one] at h1
  have hlen : i < cs.length := by omega
  rw [List.drop_eq_getElem_cons hlen, show List.take 1 (cs[i] :: List.drop (i + 1) cs) = [cs[i]] from rfl, List.getElem?_eq_getElem (by omega)] at h1
  obtain ⟨a, e1, _, w1⟩ := DataW.trod_int he h1
  simp only [List.cons.injEq, and_true] at e1
  exact ⟨a, by rw [List.getElem?_eq_getElem hlen, e1], w1⟩

theorem open_arr6 {t e : TypeId} {k : IntKind} {v : Value} {d : DataW H} {p : List MemPlace} {b0 : Nat} {r : Reach}
    (ht : P.underlying t = some (.array 6 e)) (he : P.underlying e = some (.int k)) (hc : P.cellsOf t = 6) (hce : P.cellsOf e = 1)
    (hv : Value.okWide P w r b0 t v) (h : DataW.Trod enc P w base spare held t v d p) :
    ∃ (a0 a1 a2 a3 a4 a5 : Int), v = .agg #[.int k a0, .int k a1, .int k a2, .int k a3, .int k a4, .int k a5] ∧ (Lit.int k a0).wf = true ∧ (Lit.int k a1).wf = true ∧ (Lit.int k a2).wf = true ∧ (Lit.int k a3).wf = true ∧ (Lit.int k a4).wf = true ∧ (Lit.int k a5).wf = true := by
  unfold Value.okWide at hv
  rw [ht] at hv
  obtain ⟨cs, rfl, hsz, _⟩ := hv
  obtain ⟨l⟩ := cs
  obtain ⟨fuel, hf⟩ := h
  obtain ⟨_, hi⟩ := arr_ints ht he hce hc hf
  match l, hsz.trans hc with
  | [c0, c1, c2, c3, c4, c5], _ =>
    obtain ⟨a0, e0, w0⟩ := hi 0 (by omega)
    obtain ⟨a1, e1, w1⟩ := hi 1 (by omega)
    obtain ⟨a2, e2, w2⟩ := hi 2 (by omega)
    obtain ⟨a3, e3, w3⟩ := hi 3 (by omega)
    obtain ⟨a4, e4, w4⟩ := hi 4 (by omega)
    obtain ⟨a5, e5, w5⟩ := hi 5 (by omega)
    simp [Value.cells] at e0 e1 e2 e3 e4 e5
    subst e0 e1 e2 e3 e4 e5
    exact ⟨a0, a1, a2, a3, a4, a5, rfl, w0, w1, w2, w3, w4, w5⟩

theorem open_arr2 {t e : TypeId} {k : IntKind} {v : Value} {d : DataW H} {p : List MemPlace} {b0 : Nat} {r : Reach}
    (ht : P.underlying t = some (.array 2 e)) (he : P.underlying e = some (.int k)) (hc : P.cellsOf t = 2) (hce : P.cellsOf e = 1)
    (hv : Value.okWide P w r b0 t v) (h : DataW.Trod enc P w base spare held t v d p) :
    ∃ (a0 a1 : Int), v = .agg #[.int k a0, .int k a1] ∧ (Lit.int k a0).wf = true ∧ (Lit.int k a1).wf = true := by
  unfold Value.okWide at hv
  rw [ht] at hv
  obtain ⟨cs, rfl, hsz, _⟩ := hv
  obtain ⟨l⟩ := cs
  obtain ⟨fuel, hf⟩ := h
  obtain ⟨_, hi⟩ := arr_ints ht he hce hc hf
  match l, hsz.trans hc with
  | [c0, c1], _ =>
    obtain ⟨a0, e0, w0⟩ := hi 0 (by omega)
    obtain ⟨a1, e1, w1⟩ := hi 1 (by omega)
    simp [Value.cells] at e0 e1
    subst e0 e1
    exact ⟨a0, a1, rfl, w0, w1⟩

end
end
section
/- Literals of unsigned numbers, as natural numbers. -/
open Go.RowKit

theorem nat_of_u8 {a : Int} (h : (Lit.int .u8 a).wf = true) : ∃ n : Nat, a = (n : Int) ∧ n < 256 := by
  have hb := bounds_u8 h
  obtain ⟨n, rfl⟩ := Int.eq_ofNat_of_zero_le hb.1
  exact ⟨n, rfl, by omega⟩
theorem nat_of_u16 {a : Int} (h : (Lit.int .u16 a).wf = true) : ∃ n : Nat, a = (n : Int) ∧ n < 65536 := by
  have hb := bounds_u16 h
  obtain ⟨n, rfl⟩ := Int.eq_ofNat_of_zero_le hb.1
  exact ⟨n, rfl, by omega⟩
theorem nat_of_u32 {a : Int} (h : (Lit.int .u32 a).wf = true) : ∃ n : Nat, a = (n : Int) ∧ n < 4294967296 := by
  have hb := bounds_u32 h
  obtain ⟨n, rfl⟩ := Int.eq_ofNat_of_zero_le hb.1
  exact ⟨n, rfl, by omega⟩
theorem nat_of_u64 {a : Int} (h : (Lit.int .u64 a).wf = true) : ∃ n : Nat, a = (n : Int) ∧ n < 18446744073709551616 := by
  have hb := bounds_u64 h
  obtain ⟨n, rfl⟩ := Int.eq_ofNat_of_zero_le hb.1
  exact ⟨n, rfl, by omega⟩
end
section
open Go.ChangeShapes Go.WideShapes Go.ChangeAt Go.RowKit Go.Deep
theorem cellsT5 : Tryd.prog.cellsOf 5 = 1 := by kernel_rfl
theorem cellsT23 : Tryd.prog.cellsOf 23 = 1 := by kernel_rfl
theorem cellsT4 : Tryd.prog.cellsOf 4 = 1 := by kernel_rfl
theorem cellsT86 : Tryd.prog.cellsOf 86 = 5 := by kernel_rfl
theorem cellsT45 : Tryd.prog.cellsOf 45 = 6 := by kernel_rfl
theorem cellsT24 : Tryd.prog.cellsOf 24 = 2 := by kernel_rfl
theorem cellsT25 : Tryd.prog.cellsOf 25 = 6 := by kernel_rfl
theorem cellsT22 : Tryd.prog.cellsOf 22 = 1 := by kernel_rfl
theorem cellsT26 : Tryd.prog.cellsOf 26 = 1 := by kernel_rfl
theorem cellsT27 : Tryd.prog.cellsOf 27 = 1 := by kernel_rfl
theorem cellsT29 : Tryd.prog.cellsOf 29 = 10 := by kernel_rfl
section
variable {H : Type} {enc : TypeId × Value → H} {w : World} {base : Nat} {spare : Nat → Bool} {held : Bool}
set_option maxRecDepth 100000 in
theorem cells_86 {l : List Value} {fuel : Nat} {x : DataW H × List MemPlace} (hsz : l.length = 5) (hf : DataW.trod enc Tryd.prog w base spare held fuel 86 l = some x) : ∃ x : Lp, l = lpC x ∧ x.ok := by
  obtain ⟨xs, n, _, _, _, hlen, hg⟩ := DataW.trod_struct Tryd.underlying86 hf
  match l, hsz with
  | [c0, c1, c2, c3, c4], _ =>
    match xs, hlen with
    | [z0, z1, z2, z3, z4], _ =>
      have g0 : DataW.trod enc Tryd.prog w base spare held n 4 (([c0, c1, c2, c3, c4].drop 0).take (Tryd.prog.cellsOf 4)) = some z0 := hg 0 _ rfl
      have g1 : DataW.trod enc Tryd.prog w base spare held n 5 (([c0, c1, c2, c3, c4].drop 1).take (Tryd.prog.cellsOf 5)) = some z1 := hg 1 _ rfl
      have g2 : DataW.trod enc Tryd.prog w base spare held n 5 (([c0, c1, c2, c3, c4].drop 2).take (Tryd.prog.cellsOf 5)) = some z2 := hg 2 _ rfl
      have g3 : DataW.trod enc Tryd.prog w base spare held n 4 (([c0, c1, c2, c3, c4].drop 3).take (Tryd.prog.cellsOf 4)) = some z3 := hg 3 _ rfl
      have g4 : DataW.trod enc Tryd.prog w base spare held n 5 (([c0, c1, c2, c3, c4].drop 4).take (Tryd.prog.cellsOf 5)) = some z4 := hg 4 _ rfl
      rw [cellsT4] at g0
      rw [cellsT5] at g1
      rw [cellsT5] at g2
      rw [cellsT4] at g3
      rw [cellsT5] at g4
      obtain ⟨x0, e0, _⟩ := DataW.trod_bool Tryd.underlying4 g0
      obtain ⟨x1, e1, _, w1⟩ := DataW.trod_int Tryd.underlying5 g1
      obtain ⟨n1, rfl, l1⟩ := nat_of_u8 w1
      obtain ⟨x2, e2, _, w2⟩ := DataW.trod_int Tryd.underlying5 g2
      obtain ⟨n2, rfl, l2⟩ := nat_of_u8 w2
      obtain ⟨x3, e3, _⟩ := DataW.trod_bool Tryd.underlying4 g3
      obtain ⟨x4, e4, _, w4⟩ := DataW.trod_int Tryd.underlying5 g4
      obtain ⟨n4, rfl, l4⟩ := nat_of_u8 w4
      simp [Value.cells] at e0 e1 e2 e3 e4
      subst e0 e1 e2 e3 e4
      exact ⟨⟨x0, n1, n2, x3, n4⟩, rfl, l1, l2, l4⟩
set_option maxRecDepth 100000 in
theorem cells_45 {l : List Value} {fuel : Nat} {x : DataW H × List MemPlace} (hsz : l.length = 6) (hf : DataW.trod enc Tryd.prog w base spare held fuel 45 l = some x) : ∃ x : Fg, l = fgC x ∧ x.ok := by
  obtain ⟨xs, n, _, _, _, hlen, hg⟩ := DataW.trod_struct Tryd.underlying45 hf
  match l, hsz with
  | [c0, c1, c2, c3, c4, c5], _ =>
    match xs, hlen with
    | [z0, z1, z2, z3, z4, z5], _ =>
      have g0 : DataW.trod enc Tryd.prog w base spare held n 5 (([c0, c1, c2, c3, c4, c5].drop 0).take (Tryd.prog.cellsOf 5)) = some z0 := hg 0 _ rfl
      have g1 : DataW.trod enc Tryd.prog w base spare held n 5 (([c0, c1, c2, c3, c4, c5].drop 1).take (Tryd.prog.cellsOf 5)) = some z1 := hg 1 _ rfl
      have g2 : DataW.trod enc Tryd.prog w base spare held n 5 (([c0, c1, c2, c3, c4, c5].drop 2).take (Tryd.prog.cellsOf 5)) = some z2 := hg 2 _ rfl
      have g3 : DataW.trod enc Tryd.prog w base spare held n 4 (([c0, c1, c2, c3, c4, c5].drop 3).take (Tryd.prog.cellsOf 4)) = some z3 := hg 3 _ rfl
      have g4 : DataW.trod enc Tryd.prog w base spare held n 5 (([c0, c1, c2, c3, c4, c5].drop 4).take (Tryd.prog.cellsOf 5)) = some z4 := hg 4 _ rfl
      have g5 : DataW.trod enc Tryd.prog w base spare held n 23 (([c0, c1, c2, c3, c4, c5].drop 5).take (Tryd.prog.cellsOf 23)) = some z5 := hg 5 _ rfl
      rw [cellsT5] at g0
      rw [cellsT5] at g1
      rw [cellsT5] at g2
      rw [cellsT4] at g3
      rw [cellsT5] at g4
      rw [cellsT23] at g5
      obtain ⟨x0, e0, _, w0⟩ := DataW.trod_int Tryd.underlying5 g0
      obtain ⟨n0, rfl, l0⟩ := nat_of_u8 w0
      obtain ⟨x1, e1, _, w1⟩ := DataW.trod_int Tryd.underlying5 g1
      obtain ⟨n1, rfl, l1⟩ := nat_of_u8 w1
      obtain ⟨x2, e2, _, w2⟩ := DataW.trod_int Tryd.underlying5 g2
      obtain ⟨n2, rfl, l2⟩ := nat_of_u8 w2
      obtain ⟨x3, e3, _⟩ := DataW.trod_bool Tryd.underlying4 g3
      obtain ⟨x4, e4, _, w4⟩ := DataW.trod_int Tryd.underlying5 g4
      obtain ⟨n4, rfl, l4⟩ := nat_of_u8 w4
      obtain ⟨x5, e5, _, w5⟩ := DataW.trod_int Tryd.underlying23 g5
      obtain ⟨n5, rfl, l5⟩ := nat_of_u16 w5
      simp [Value.cells] at e0 e1 e2 e3 e4 e5
      subst e0 e1 e2 e3 e4 e5
      exact ⟨⟨n0, n1, n2, x3, n4, n5⟩, rfl, l0, l1, l2, l4, l5⟩
theorem cells_24 {l : List Value} {fuel : Nat} {x : DataW H × List MemPlace} (hsz : l.length = 2) (hf : DataW.trod enc Tryd.prog w base spare held fuel 24 l = some x) : ∃ x : Nat × Nat, l = stC x ∧ (x.1 < 65536 ∧ x.2 < 65536) := by
  obtain ⟨_, i1⟩ := arr_ints Tryd.underlying24 Tryd.underlying23 cellsT23 cellsT24 hf
  obtain ⟨x0, e0, w0⟩ := i1 0 (by omega)
  obtain ⟨n0, rfl, l0⟩ := nat_of_u16 w0
  obtain ⟨x1, e1, w1⟩ := i1 1 (by omega)
  obtain ⟨n1, rfl, l1⟩ := nat_of_u16 w1
  match l, hsz with
  | [c0, c1], _ =>
    simp at e0 e1
    subst e0 e1
    exact ⟨(n0, n1), rfl, l0, l1⟩
set_option maxRecDepth 100000 in
theorem cells_25 {l : List Value} {fuel : Nat} {x : DataW H × List MemPlace} (hsz : l.length = 6) (hf : DataW.trod enc Tryd.prog w base spare held fuel 25 l = some x) : ∃ v : Nat → Nat, l = [.int .u16 (v 0 : Nat), .int .u16 (v 1 : Nat), .int .u16 (v 2 : Nat), .int .u16 (v 3 : Nat), .int .u16 (v 4 : Nat), .int .u16 (v 5 : Nat)] ∧ ∀ k, v k < 65536 := by
  obtain ⟨xs, m, _, _, hl, hx, hi⟩ := DataW.trod_array Tryd.underlying25 hf
  have g0 := hi 0 (by omega)
  have g1 := hi 1 (by omega)
  have g2 := hi 2 (by omega)
  rw [cellsT24] at g0 g1 g2
  match l, hsz with
  | [c0, c1, c2, c3, c4, c5], _ =>
    have hlen : xs.length = 3 := hx
    rw [List.getElem?_eq_getElem (by omega)] at g0 g1 g2
    obtain ⟨y0, q0, a0, b0⟩ := cells_24 (l := [c0, c1]) rfl g0
    obtain ⟨y1, q1, a1, b1⟩ := cells_24 (l := [c2, c3]) rfl g1
    obtain ⟨y2, q2, a2, b2⟩ := cells_24 (l := [c4, c5]) rfl g2
    unfold stC at q0 q1 q2
    simp only [List.cons.injEq, and_true] at q0 q1 q2
    obtain ⟨rfl, rfl⟩ := q0
    obtain ⟨rfl, rfl⟩ := q1
    obtain ⟨rfl, rfl⟩ := q2
    refine ⟨fun k => match k with | 0 => y0.1 | 1 => y0.2 | 2 => y1.1 | 3 => y1.2 | 4 => y2.1 | 5 => y2.2 | _ => 0, rfl, fun k => ?_⟩
    match k with
    | 0 => exact a0
    | 1 => exact b0
    | 2 => exact a1
    | 3 => exact b1
    | 4 => exact a2
    | 5 => exact b2
    | k + 6 => show 0 < 65536; omega
theorem rows22 {a : Option Addr} {len cap : Nat} {d : DataW H} {p : List MemPlace} (h : DataW.Trod enc Tryd.prog w base spare held 22 (.slice a len cap) d p) : ∃ l : List Lp, l.length = len ∧ RowsAt w a 5 lpC l ∧ (∀ x ∈ l, x.ok) ∧ (len ≤ cap ∧ cap ≤ maxLen) := by
  have key : ∃ l : List Lp, l.length = len ∧ RowsAt w a 5 lpC l ∧ (∀ x ∈ l, (fun x : Lp => x.ok) x) ∧ (len ≤ cap ∧ cap ≤ maxLen) ∧ (a = none → len = 0 ∧ cap = 0) := by
    refine open_rows lpC (fun x : Lp => x.ok) Tryd.underlying22 cellsT86 (by decide) (fun _ => rfl) ?_ h
    intro fuel cs y hcs hf
    exact cells_86 hcs hf
  obtain ⟨l, h1, h2, h3, h4, -⟩ := key
  exact ⟨l, h1, h2, h3, h4⟩
theorem rows27 {a : Option Addr} {len cap : Nat} {d : DataW H} {p : List MemPlace} (h : DataW.Trod enc Tryd.prog w base spare held 27 (.slice a len cap) d p) : ∃ l : List Fg, l.length = len ∧ RowsAt w a 6 fgC l ∧ (∀ x ∈ l, x.ok) ∧ (len ≤ cap ∧ cap ≤ maxLen) := by
  have key : ∃ l : List Fg, l.length = len ∧ RowsAt w a 6 fgC l ∧ (∀ x ∈ l, (fun x : Fg => x.ok) x) ∧ (len ≤ cap ∧ cap ≤ maxLen) ∧ (a = none → len = 0 ∧ cap = 0) := by
    refine open_rows fgC (fun x : Fg => x.ok) Tryd.underlying27 cellsT45 (by decide) (fun _ => rfl) ?_ h
    intro fuel cs y hcs hf
    exact cells_45 hcs hf
  obtain ⟨l, h1, h2, h3, h4, -⟩ := key
  exact ⟨l, h1, h2, h3, h4⟩
theorem rows26 {a : Option Addr} {len cap : Nat} {d : DataW H} {p : List MemPlace} (h : DataW.Trod enc Tryd.prog w base spare held 26 (.slice a len cap) d p) : ∃ l : List (Nat × Nat), l.length = len ∧ RowsAt w a 2 stC l ∧ (∀ x ∈ l, x.1 < 65536 ∧ x.2 < 65536) ∧ (len ≤ cap ∧ cap ≤ maxLen) := by
  have key : ∃ l : List (Nat × Nat), l.length = len ∧ RowsAt w a 2 stC l ∧ (∀ x ∈ l, (fun x : (Nat × Nat) => x.1 < 65536 ∧ x.2 < 65536) x) ∧ (len ≤ cap ∧ cap ≤ maxLen) ∧ (a = none → len = 0 ∧ cap = 0) := by
    refine open_rows stC (fun x : (Nat × Nat) => x.1 < 65536 ∧ x.2 < 65536) Tryd.underlying26 cellsT24 (by decide) (fun _ => rfl) ?_ h
    intro fuel cs y hcs hf
    exact cells_24 hcs hf
  obtain ⟨l, h1, h2, h3, h4, -⟩ := key
  exact ⟨l, h1, h2, h3, h4⟩
theorem open_slice1 {t e : TypeId} {fuel : Nat} {c : Value} {z : DataW H × List MemPlace} (ht : Tryd.prog.underlying t = some (.slice e)) (g : DataW.trod enc Tryd.prog w base spare held fuel t [c] = some z) : ∃ a len cap, c = .slice a len cap := by
  rcases open_slice ht g with ⟨hcs, -⟩ | ⟨x, len', cap', m, n', D, Pl, hcs, -⟩
  · simp [Value.cells] at hcs; exact ⟨_, _, _, hcs⟩
  · simp [Value.cells] at hcs; exact ⟨_, _, _, hcs⟩
set_option maxRecDepth 100000 in
theorem cells_29 {l : List Value} {fuel : Nat} {x : DataW H × List MemPlace} (hsz : l.length = 10) (hf : DataW.trod enc Tryd.prog w base spare held fuel 29 l = some x) : ∃ (x : Py) (ap az af : Option Addr) (np mp ns ms nf mf : Nat) (lp : List Lp) (lst : List (Nat × Nat)) (fs : List Fg), l = (plA x (.slice ap np mp) (.slice az ns ms) (.slice af nf mf)).toList ∧ x.ok ∧ RowsAt w ap 5 lpC lp ∧ RowsAt w az 2 stC lst ∧ RowsAt w af 6 fgC fs ∧ lp.length = np ∧ lst.length = ns ∧ fs.length = nf ∧ (np ≤ mp ∧ mp ≤ maxLen) ∧ (ns ≤ ms ∧ ms ≤ maxLen) ∧ (nf ≤ mf ∧ mf ≤ maxLen) ∧ (∀ y ∈ lp, y.ok) ∧ (∀ p ∈ lst, p.1 < 65536 ∧ p.2 < 65536) ∧ (∀ y ∈ fs, y.ok) := by
  obtain ⟨xs, n, _, _, _, hlen, hg⟩ := DataW.trod_struct Tryd.underlying29 hf
  match l, hsz with
  | [c0, c1, c2, c3, c4, c5, c6, c7, c8, c9], _ =>
    match xs, hlen with
    | [z0, z1, z2, z3, z4], _ =>
      have g0 : DataW.trod enc Tryd.prog w base spare held n 22 (([c0, c1, c2, c3, c4, c5, c6, c7, c8, c9].drop 0).take (Tryd.prog.cellsOf 22)) = some z0 := hg 0 _ rfl
      have g1 : DataW.trod enc Tryd.prog w base spare held n 25 (([c0, c1, c2, c3, c4, c5, c6, c7, c8, c9].drop 1).take (Tryd.prog.cellsOf 25)) = some z1 := hg 1 _ rfl
      have g2 : DataW.trod enc Tryd.prog w base spare held n 26 (([c0, c1, c2, c3, c4, c5, c6, c7, c8, c9].drop 7).take (Tryd.prog.cellsOf 26)) = some z2 := hg 2 _ rfl
      have g3 : DataW.trod enc Tryd.prog w base spare held n 5 (([c0, c1, c2, c3, c4, c5, c6, c7, c8, c9].drop 8).take (Tryd.prog.cellsOf 5)) = some z3 := hg 3 _ rfl
      have g4 : DataW.trod enc Tryd.prog w base spare held n 27 (([c0, c1, c2, c3, c4, c5, c6, c7, c8, c9].drop 9).take (Tryd.prog.cellsOf 27)) = some z4 := hg 4 _ rfl
      rw [cellsT22] at g0
      rw [cellsT25] at g1
      rw [cellsT26] at g2
      rw [cellsT5] at g3
      rw [cellsT27] at g4
      obtain ⟨v, hv, hvk⟩ := cells_25 (l := [c1, c2, c3, c4, c5, c6]) rfl g1
      obtain ⟨x3, e3, _, w3⟩ := DataW.trod_int Tryd.underlying5 g3
      obtain ⟨n3, rfl, l3⟩ := nat_of_u8 w3
      obtain ⟨ap, np, mp, rfl⟩ := open_slice1 Tryd.underlying22 g0
      obtain ⟨az, ns, ms, rfl⟩ := open_slice1 Tryd.underlying26 g2
      obtain ⟨af, nf, mf, rfl⟩ := open_slice1 Tryd.underlying27 g4
      obtain ⟨lp, p1, p2, p3, p4⟩ := rows22 (d := z0.1) (p := z0.2) ⟨n, by simpa [Value.cells] using g0⟩
      obtain ⟨lst, s1, s2, s3, s4⟩ := rows26 (d := z2.1) (p := z2.2) ⟨n, by simpa [Value.cells] using g2⟩
      obtain ⟨fs, f1, f2, f3, f4⟩ := rows27 (d := z4.1) (p := z4.2) ⟨n, by simpa [Value.cells] using g4⟩
      simp [Value.cells] at e3
      subst e3
      simp only [List.cons.injEq, and_true] at hv
      obtain ⟨rfl, rfl, rfl, rfl, rfl, rfl⟩ := hv
      exact ⟨⟨v, n3⟩, ap, az, af, np, mp, ns, ms, nf, mf, lp, lst, fs, rfl, ⟨hvk, l3⟩, p2, s2, f2, p1, s1, f1, p4, s4, f4, p3, s3, f3⟩
set_option maxRecDepth 100000 in
theorem open_play {v : Value} {d : DataW H} {p : List MemPlace} {b0 : Nat} {r : Reach} (hv : Value.okWide Tryd.prog w r b0 29 v) (h : DataW.Trod enc Tryd.prog w base spare held 29 v d p) : ∃ (x : Py) (ap az af : Option Addr) (np mp ns ms nf mf : Nat) (lp : List Lp) (lst : List (Nat × Nat)) (fs : List Fg), v = .agg (plA x (.slice ap np mp) (.slice az ns ms) (.slice af nf mf)) ∧ x.ok ∧ RowsAt w ap 5 lpC lp ∧ RowsAt w az 2 stC lst ∧ RowsAt w af 6 fgC fs ∧ lp.length = np ∧ lst.length = ns ∧ fs.length = nf ∧ (np ≤ mp ∧ mp ≤ maxLen) ∧ (ns ≤ ms ∧ ms ≤ maxLen) ∧ (nf ≤ mf ∧ mf ≤ maxLen) ∧ (∀ y ∈ lp, y.ok) ∧ (∀ p ∈ lst, p.1 < 65536 ∧ p.2 < 65536) ∧ (∀ y ∈ fs, y.ok) := by
  obtain ⟨cs, rfl, hsz⟩ := okWide_struct Tryd.underlying29 hv
  obtain ⟨fuel, hf⟩ := h
  obtain ⟨x, ap, az, af, np, mp, ns, ms, nf, mf, lp, lst, fs, hx, h1⟩ := cells_29 (by rw [Array.length_toList]; exact hsz.trans cellsT29) hf
  exact ⟨x, ap, az, af, np, mp, ns, ms, nf, mf, lp, lst, fs, by rw [← Array.toArray_toList (xs := cs), show cs.toList = _ from hx], h1⟩
end
theorem whys_laid {W : World} (h : laidMetH Tryd.prog [("girder/plane.whys", Rows.laid_girder_plane_whys)] W) : WhysAt W := by
  rw [MakeChecks.laidMetH_plain _ _ _ (by kernel_rfl)] at h
  have h1 := laidMet.filter (fun x => x.1 == "girder/plane.whys") h
  exact Lib.tabIs_of_head (g := 0) (t := 61) (e := 3) (n := 4) (k := .i64) (zs := [7, 3, 4, 5]) (rest := []) (by kernel_rfl) (by kernel_rfl) Tryd.underlying61 Tryd.underlying3 (by kernel_rfl) (by kernel_rfl) h1
end
end Go.Proofs.YtelohoomlgjjmaaDoor
