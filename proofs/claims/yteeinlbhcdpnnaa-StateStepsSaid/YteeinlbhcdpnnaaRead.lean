/- What a reader of package wire does: its two cells are what is left, and whether it is short. -/
import Derived.Test.YteeinlbhcdpnnaaRef
namespace Go.Proofs.Yteeinlbhcdpnnaa
open Go.RowKit

/-- Block g is a reader. -/
def Rd (w : World) (g : Nat) (rest : ByteArray) (short : Bool) : Prop := Has w g [.string rest, .bool short]

/-- How a reader ends. -/
def endN (rest : ByteArray) (short : Bool) : Int := if short then 2 else if rest.size = 0 then 0 else 3

theorem byteAt {w : World} {g : Nat} {t : ByteArray} (h : Has w g (t.data.toList.map bv)) (k : Nat) (hk : k < t.size) :
    ∃ c : UInt8, w.cell? ⟨g, k, none⟩ = some (.int .u8 (c.toNat : Int)) ∧ Nums.numL (t.data.toList.take (k + 1)) = 256 * Nums.numL (t.data.toList.take k) + c.toNat := by
  have hl : k < t.data.toList.length := by rw [Array.length_toList]; exact hk
  refine ⟨t.data.toList[k], ?_, numL_take_succ _ _ hl⟩
  have := h.cellAt k (by simpa using hl)
  rw [List.getElem_map] at this
  exact this

theorem num_walk (a b : Nat) (c : UInt8) (e : a = 256 * b + c.toNat) (l : a < 18446744073709551616) :
    Value.int .u64 (bits .or .u64 (IntKind.u64.wrap ((b : Int) * 256)) (IntKind.u64.wrap (c.toNat : Int))) = Value.int .u64 (a : Int) := by
  have hc := c.toNat_lt
  have e1 : IntKind.u64.wrap ((b : Int) * 256) = ((b * 256 : Nat) : Int) := by rw [IntKind.wrap_u64]; omega
  have e2 : IntKind.u64.wrap (c.toNat : Int) = (c.toNat : Int) := by rw [IntKind.wrap_u64]; omega
  rw [e1, e2, u64_or_nat _ _ (by omega) (by omega), nat_join 8 _ _ (by omega) (by omega), e, Nat.mul_comm]

theorem numL_take_lt (l : List UInt8) (k : Nat) (h : k ≤ 8) : Nums.numL (l.take k) < 18446744073709551616 := by
  have h1 := Nums.numL_lt (l.take k)
  have p : 256 ^ (l.take k).length ≤ 256 ^ 8 := Nat.pow_le_pow_right (by omega) (by simp; omega)
  exact Nat.lt_of_lt_of_le h1 p

end Go.Proofs.Yteeinlbhcdpnnaa
