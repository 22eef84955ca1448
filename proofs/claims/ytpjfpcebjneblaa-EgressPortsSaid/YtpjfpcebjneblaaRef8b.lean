/- The document's own Set of a VLAN. -/
import Derived.Test.YtpjfpcebjneblaaRef8
import Derived.Test.YtpjfpcebjneblaaBks
namespace Go.Proofs.Ytpjfpcebjneblaa
open Go.RowKit
set_option linter.unusedSimpArgs false
set_option linter.unusedVariables false

/-- How many stand ahead of a number. -/
def posV (vid : Nat) : List Vl → Nat
  | [] => 0
  | y :: l => if y.vid < vid then posV vid l + 1 else 0
theorem posV_is (vid : Nat) : ∀ (l : List Vl) (k : Nat), (∀ (j : Nat) (y : Vl), j < k → l[j]? = some y → y.vid < vid) → k ≤ l.length → (∀ y, l[k]? = some y → ¬ y.vid < vid) → posV vid l = k
  | [], k, _, hk, _ => by simp at hk; simp [posV, hk]
  | y :: l, 0, _, _, h => by
    have := h y rfl
    simp [posV, this]
  | y :: l, k + 1, hb, hk, h => by
    have h0 := hb 0 y (by omega) rfl
    have ih := posV_is vid l k (fun j z hj hz => hb (j + 1) z (by omega) (by simpa using hz)) (by simpa using hk) (fun z hz => h z (by simpa using hz))
    simp [posV, h0, ih]

/-- With a VLAN; the error's number. -/
def setV (l : List Vl) (x : Vl) : List Vl := if goodV x ≠ 0 then l else if 0 ≤ atV x.vid l then l.set (atV x.vid l).toNat x else if 16 ≤ l.length then l else l.take (posV x.vid l) ++ [x] ++ l.drop (posV x.vid l)
def setVE (l : List Vl) (x : Vl) : Int := if goodV x ≠ 0 then goodV x else if 0 ≤ atV x.vid l then 0 else if 16 ≤ l.length then 13 else 0

abbrev vlA (x : Vl) : Array Value := #[.int .u16 (x.vid : Nat), .int .u32 (x.mem : Nat), .int .u32 (x.unt : Nat)]
theorem vlA_one (x : Vl) : (vlA x).all (·.oneCell') = true := by simp [Value.oneCell']
end Go.Proofs.Ytpjfpcebjneblaa
