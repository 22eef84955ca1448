/- Entries of layer 10, and the document's own At. -/
import Derived.Test.YtpjfpcebjneblaaKeyL
import Derived.Test.YtpjfpcebjneblaaLst
import Derived.Test.YtpjfpcebjneblaaBks
import Derived.Test.YtpjfpcebjneblaaEq
import Derived.Test.YtpjfpcebjneblaaAddr
import Derived.Test.YtpjfpcebjneblaaQuietly
import Derived.Test.YtpjfpcebjneblaaRd
namespace Go.Proofs.Ytpjfpcebjneblaa
open Go.RowKit
attribute [local irreducible] wpQuiet
set_option linter.unusedSimpArgs false
set_option linter.unusedVariables false

/-- An entry: its VLAN, its address as a number, its ports. -/
structure Se where
  vid : Nat
  mac : Nat
  prt : Nat
deriving DecidableEq
def seK (x : Se) : Nat := keyN x.vid x.mac
def seOk (x : Se) : Prop := x.mac < 281474976710656
abbrev seA (x : Se) : Array Value := #[.int .u16 (x.vid : Nat), .int .u8 (byteF x.mac 0 : Nat), .int .u8 (byteF x.mac 1 : Nat), .int .u8 (byteF x.mac 2 : Nat), .int .u8 (byteF x.mac 3 : Nat), .int .u8 (byteF x.mac 4 : Nat), .int .u8 (byteF x.mac 5 : Nat), .int .u32 (x.prt : Nat)]
def seC (x : Se) : List Value := (seA x).toList
abbrev seV (x : Se) : Value := .agg (seA x)
theorem seC_len (x : Se) : (seC x).length = 8 := rfl
theorem seC_one (x : Se) : ∀ u ∈ seC x, u.oneCell' = true := by
  intro u hu
  simp only [seC, List.mem_cons, List.not_mem_nil, or_false] at hu
  rcases hu with rfl | rfl | rfl | rfl | rfl | rfl | rfl | rfl <;> rfl
theorem seA_one (x : Se) : (seA x).all (·.oneCell') = true := by simp [Value.oneCell']
theorem se_mac (x : Se) (j : Nat) (u : Value) (h : (macA (byteF x.mac))[j]? = some u) : (seC x)[1 + j]? = some u := by
  match j, h with
  | 0, h => exact h
  | 1, h => exact h
  | 2, h => exact h
  | 3, h => exact h
  | 4, h => exact h
  | 5, h => exact h
  | j + 6, h => simp at h
end Go.Proofs.Ytpjfpcebjneblaa
