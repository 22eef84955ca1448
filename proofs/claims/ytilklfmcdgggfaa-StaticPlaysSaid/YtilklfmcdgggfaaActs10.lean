/- StaticPlays' acts that came in, as a list. -/
import Derived.Test.YtilklfmcdgggfaaStrs
import Derived.Test.YtilklfmcdgggfaaOpenS
import Derived.Test.YtilklfmcdgggfaaLits
import Derived.Test.YtilklfmcdgggfaaMac
namespace Go.Proofs.Ytilklfmcdgggfaa
open Go.RowKit Go.Deep

/-- Six bytes are those of a number. -/
theorem six_num (b0 b1 b2 b3 b4 b5 : Nat) (h0 : b0 < 256) (h1 : b1 < 256) (h2 : b2 < 256) (h3 : b3 < 256) (h4 : b4 < 256) (h5 : b5 < 256) :
    ∃ a, a < 281474976710656 ∧ byteF a 0 = b0 ∧ byteF a 1 = b1 ∧ byteF a 2 = b2 ∧ byteF a 3 = b3 ∧ byteF a 4 = b4 ∧ byteF a 5 = b5 := by
  let m : Nat → Nat := fun j => match j with | 0 => b0 | 1 => b1 | 2 => b2 | 3 => b3 | 4 => b4 | _ => b5
  have hs : Six m := ⟨h0, h1, h2, h3, h4, h5⟩
  have hn := numF_lt hs
  have e := byteF_numF hs
  generalize numF m 6 = n at *
  refine ⟨n, hn, ?_⟩
  unfold mac at e
  simp only [Value.agg.injEq, Array.mk.injEq, List.cons.injEq, Value.int.injEq, Int.natCast_inj, true_and, and_true] at e
  exact e

/-- An act: what, an entry. -/
structure Ac10 where
  what : Nat
  vid : Nat
  mac : Nat
  prt : Nat
abbrev acA10 (x : Ac10) : Array Value := #[.int .u8 (x.what : Nat), .int .u16 (x.vid : Nat), .int .u8 (byteF x.mac 0 : Nat), .int .u8 (byteF x.mac 1 : Nat), .int .u8 (byteF x.mac 2 : Nat), .int .u8 (byteF x.mac 3 : Nat), .int .u8 (byteF x.mac 4 : Nat), .int .u8 (byteF x.mac 5 : Nat), .int .u32 (x.prt : Nat)]
def acC10 (x : Ac10) : List Value := (acA10 x).toList
def acOk10 (x : Ac10) : Prop := x.what < 256 ∧ x.vid < 65536 ∧ x.mac < 281474976710656 ∧ x.prt < 4294967296

def IsArg73 (w : World) (a : Option Addr) (len cap : Nat) (l : List Ac10) : Prop :=
  l.length = len ∧ RowsAt w a 9 acC10 l ∧ (∀ x ∈ l, acOk10 x) ∧ (len ≤ cap ∧ cap ≤ maxLen) ∧ (a = none → len = 0 ∧ cap = 0)

theorem open_row73 {H : Type} {enc : TypeId × Value → H} {w : World} {base : Nat} {spare : Nat → Bool} {held : Bool} {a : Option Addr} {len cap : Nat} {d : DataW H} {p : List MemPlace}
    (h : DataW.Trod enc Try.prog w base spare held 67 (.slice a len cap) d p) : ∃ l, IsArg73 w a len cap l := by
  refine open_rows acC10 acOk10 Try.underlying67 cellsS73 (by decide) (fun _ => rfl) ?_ h
  intro fuel cs y hcs hf
  obtain ⟨x0, x1, m0, m1, m2, m3, m4, m5, x3, hv, w0, w1, q0, q1, q2, q3, q4, q5, w3⟩ := cells_s73 (cs := ⟨cs⟩) hcs hf
  have hv' : cs = [.int .u8 x0, .int .u16 x1, .int .u8 m0, .int .u8 m1, .int .u8 m2, .int .u8 m3, .int .u8 m4, .int .u8 m5, .int .u32 x3] := by simpa using congrArg Array.toList hv
  obtain ⟨x0, rfl, l0⟩ := nat_of_u8 w0
  obtain ⟨x1, rfl, l1⟩ := nat_of_u16 w1
  obtain ⟨m0, rfl, k0⟩ := nat_of_u8 q0
  obtain ⟨m1, rfl, k1⟩ := nat_of_u8 q1
  obtain ⟨m2, rfl, k2⟩ := nat_of_u8 q2
  obtain ⟨m3, rfl, k3⟩ := nat_of_u8 q3
  obtain ⟨m4, rfl, k4⟩ := nat_of_u8 q4
  obtain ⟨m5, rfl, k5⟩ := nat_of_u8 q5
  obtain ⟨x3, rfl, l3⟩ := nat_of_u32 w3
  obtain ⟨n, hn, b0, b1, b2, b3, b4, b5⟩ := six_num m0 m1 m2 m3 m4 m5 k0 k1 k2 k3 k4 k5
  refine ⟨⟨x0, x1, n, x3⟩, ?_, l0, l1, hn, l3⟩
  rw [hv']
  show _ = [_, _, _, _, _, _, _, _, _]
  simp only [b0, b1, b2, b3, b4, b5]
end Go.Proofs.Ytilklfmcdgggfaa
