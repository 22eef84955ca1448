/- Two addresses are the same just where all six bytes are. -/
import Derived.Test.YteeinlbhcdpnnaaMac
import Derived.Shelf.Abstract
import Derived.Laws.StructEq
namespace Go.Proofs.Yteeinlbhcdpnnaa
open Go.RowKit

def eqMac (f g : Nat → Nat) : Bool := decide (f 0 = g 0) && decide (f 1 = g 1) && decide (f 2 = g 2) && decide (f 3 = g 3) && decide (f 4 = g 4) && decide (f 5 = g 5)

theorem eqMac_self (f : Nat → Nat) : eqMac f f = true := by simp [eqMac]

theorem equal_mac (d : Nat) (t : TypeId) (ht : Try.prog.underlying t = some (.array 6 5)) (f g : Nat → Nat) (w : World) :
    (Op.equalIn (d + 2) t (mac f) (mac g)).run Try.prog w = .ok (eqMac f g) w := by
  have ha := fun W => run_isAgg_plain (P := Try.prog) (t := 5) Try.underlying5 rfl W
  obtain ⟨i, hi, _⟩ := info_parts Try.info5'
  have hs := fun W => run_sizeOf (P := Try.prog) (w := W) hi
  rw [Try.cells5] at hs
  have u5 := Try.underlying5
  rw [show d + 2 = (d + 1) + 1 from rfl, Op.equalIn]
  simp only [Sem.run_bind, run_underlying ht, Result.andThen_ok]
  simp only [Std.Legacy.Range.forIn_eq_forIn_range', Std.Legacy.Range.size, Nat.sub_zero, Nat.add_sub_cancel, Nat.div_one, List.range'_succ, List.range'_zero, List.forIn_cons, List.forIn_nil]
  go_simp
  simp only [Int.natCast_inj]
  unfold eqMac
  by_cases h0 : f 0 = g 0
  · by_cases h1 : f 1 = g 1
    · by_cases h2 : f 2 = g 2
      · by_cases h3 : f 3 = g 3
        · by_cases h4 : f 4 = g 4
          · by_cases h5 : f 5 = g 5 <;> simp [h0, h1, h2, h3, h4, h5]
          · simp [h0, h1, h2, h3, h4]
        · simp [h0, h1, h2, h3]
      · simp [h0, h1, h2]
    · simp [h0, h1]
  · simp [h0]
end Go.Proofs.Yteeinlbhcdpnnaa
