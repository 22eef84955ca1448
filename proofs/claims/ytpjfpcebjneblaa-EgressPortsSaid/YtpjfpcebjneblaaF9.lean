/- Entries of layer 9, and the document's own Less, good, At. -/
import Derived.Test.YtpjfpcebjneblaaKeyL
import Derived.Test.YtpjfpcebjneblaaIns
import Derived.Test.YtpjfpcebjneblaaEq
import Derived.Test.YtpjfpcebjneblaaTell
import Derived.Test.YtpjfpcebjneblaaQuietly
import Derived.Test.YtpjfpcebjneblaaRd
namespace Go.Proofs.Ytpjfpcebjneblaa
open Go.RowKit
attribute [local irreducible] wpQuiet
set_option linter.unusedSimpArgs false
set_option linter.unusedVariables false

/-- An entry: its VLAN, its address as a number, its port, its age. -/
structure En where
  vid : Nat
  mac : Nat
  port : Int
  age : Int
deriving DecidableEq
def enK (x : En) : Nat := keyN x.vid x.mac
def enOk (x : En) : Prop := x.mac < 281474976710656
abbrev enA (x : En) : Array Value := #[.int .u16 (x.vid : Nat), .int .u8 (byteF x.mac 0 : Nat), .int .u8 (byteF x.mac 1 : Nat), .int .u8 (byteF x.mac 2 : Nat), .int .u8 (byteF x.mac 3 : Nat), .int .u8 (byteF x.mac 4 : Nat), .int .u8 (byteF x.mac 5 : Nat), .int .i64 x.port, .int .i64 x.age]
def enC (x : En) : List Value := (enA x).toList
abbrev enV (x : En) : Value := .agg (enA x)
theorem enC_len (x : En) : (enC x).length = 9 := rfl
theorem enC_one (x : En) : ∀ u ∈ enC x, u.oneCell' = true := by
  intro u hu
  simp only [enC, List.mem_cons, List.not_mem_nil, or_false] at hu
  rcases hu with rfl | rfl | rfl | rfl | rfl | rfl | rfl | rfl | rfl <;> rfl
theorem enA_one (x : En) : (enA x).all (·.oneCell') = true := by simp [Value.oneCell']
theorem en_mac (x : En) (j : Nat) (u : Value) (h : (macA (byteF x.mac))[j]? = some u) : (enC x)[1 + j]? = some u := by
  match j, h with
  | 0, h => exact h
  | 1, h => exact h
  | 2, h => exact h
  | 3, h => exact h
  | 4, h => exact h
  | 5, h => exact h
  | j + 6, h => simp at h
/-- May an entry be? -/
def goodE (x : En) : Bool := decide (byteF x.mac 0 % 2 = 0) && decide (1 ≤ x.port) && decide (x.port ≤ 16)
end Go.Proofs.Ytpjfpcebjneblaa
