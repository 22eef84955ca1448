/- VlanPlays' acts that came in, as a list. -/
import Derived.Test.YtjipbdljljhijaaStrs
import Derived.Test.YtjipbdljljhijaaOpenS
import Derived.Test.YtjipbdljljhijaaLits
namespace Go.Proofs.Ytjipbdljljhijaa
open Go.RowKit Go.Deep

/-- An act: what, and a VLAN. -/
structure Ac where
  what : Nat
  vid : Nat
  mem : Nat
  unt : Nat
def acC (x : Ac) : List Value := [.int .u16 (x.what : Nat), .int .u16 (x.vid : Nat), .int .u32 (x.mem : Nat), .int .u32 (x.unt : Nat)]
def acOk (x : Ac) : Prop := x.what < 65536 ∧ x.vid < 65536 ∧ x.mem < 4294967296 ∧ x.unt < 4294967296

def IsArg42 (w : World) (a : Option Addr) (len cap : Nat) (l : List Ac) : Prop :=
  l.length = len ∧ RowsAt w a 4 acC l ∧ (∀ x ∈ l, acOk x) ∧ (len ≤ cap ∧ cap ≤ maxLen) ∧ (a = none → len = 0 ∧ cap = 0)

theorem open_row42 {H : Type} {enc : TypeId × Value → H} {w : World} {base : Nat} {spare : Nat → Bool} {held : Bool} {a : Option Addr} {len cap : Nat} {d : DataW H} {p : List MemPlace}
    (h : DataW.Trod enc Try.prog w base spare held 36 (.slice a len cap) d p) : ∃ l, IsArg42 w a len cap l := by
  refine open_rows acC acOk Try.underlying36 cellsS42 (by decide) (fun _ => rfl) ?_ h
  intro fuel cs y hcs hf
  obtain ⟨x0, x1, x2, x3, hv, w0, w1, w2, w3⟩ := cells_s42 (cs := ⟨cs⟩) hcs hf
  have hv' : cs = [.int .u16 x0, .int .u16 x1, .int .u32 x2, .int .u32 x3] := by simpa using congrArg Array.toList hv
  obtain ⟨x0, rfl, l0⟩ := nat_of_u16 w0
  obtain ⟨x1, rfl, l1⟩ := nat_of_u16 w1
  obtain ⟨x2, rfl, l2⟩ := nat_of_u32 w2
  obtain ⟨x3, rfl, l3⟩ := nat_of_u32 w3
  exact ⟨⟨x0, x1, x2, x3⟩, hv', l0, l1, l2, l3⟩
end Go.Proofs.Ytjipbdljljhijaa
