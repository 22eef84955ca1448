/- LinkPlays' acts that came in, as a list. -/
import Derived.Test.YtiophmmcennjnaaLk7
import Derived.Test.YtiophmmcennjnaaOpenS
import Derived.Test.YtiophmmcennjnaaLits
namespace Go.Proofs.Ytiophmmcennjnaa
open Go.RowKit Go.Deep
def IsArg29 (w : World) (a : Option Addr) (len cap : Nat) (l : List Ac) : Prop :=
  l.length = len ∧ RowsAt w a 4 acC l ∧ (∀ x ∈ l, x.ok) ∧ (len ≤ cap ∧ cap ≤ maxLen) ∧ (a = none → len = 0 ∧ cap = 0)
theorem open_row29 {H : Type} {enc : TypeId × Value → H} {w : World} {base : Nat} {spare : Nat → Bool} {held : Bool} {a : Option Addr} {len cap : Nat} {d : DataW H} {p : List MemPlace}
    (h : DataW.Trod enc Try.prog w base spare held 22 (.slice a len cap) d p) : ∃ l, IsArg29 w a len cap l := by
  refine open_rows acC Ac.ok Try.underlying22 cellsS29 (by decide) (fun _ => rfl) ?_ h
  intro fuel cs y hcs hf
  obtain ⟨x0, x1, x2, x3, hv, w0, w1, w2⟩ := cells_s29 (cs := ⟨cs⟩) hcs hf
  have hv' : cs = [.int .u8 x0, .int .i64 x1, .string x2, .bool x3] := by simpa using congrArg Array.toList hv
  obtain ⟨x0, rfl, l0⟩ := nat_of_u8 w0
  have l1 := bounds_i64 w1
  exact ⟨⟨x0, x1, x2, x3⟩, hv', l0, l1.1, l1.2, w2⟩
end Go.Proofs.Ytiophmmcennjnaa
