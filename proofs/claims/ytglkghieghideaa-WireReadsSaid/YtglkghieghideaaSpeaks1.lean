/- The first lines of layer 1's statements, and bytes of any size. -/
import Derived.Test.YtglkghieghideaaRead
namespace Go.Proofs.Ytglkghieghideaa
open Go.RowKit

/-- The bytes of a number in whatever size. -/
def bytesS (x : Nat) (n : Int) : ByteArray := if 1 ≤ n ∧ n ≤ 8 then ⟨(Nums.bytesN x n.toNat).toArray⟩ else ⟨#[]⟩

theorem bytes_any (x : Nat) (n : Int) (w : World) :
    Calls Try.prog 9 #[.int .u64 x, .int .i64 n] w fun e w' => e = .returned (.string (bytesS x n)) ∧ Below w.heap.size w w' := by
  by_cases h : 1 ≤ n ∧ n ≤ 8
  · obtain ⟨N, rfl⟩ := Int.eq_ofNat_of_zero_le (show 0 ≤ n by omega)
    refine (bytes_yes x N w (by omega) (by omega)).mono ?_
    rintro e w' ⟨rfl, hb⟩
    exact ⟨by unfold bytesS; rw [if_pos h]; rfl, hb⟩
  · refine (bytes_no x n w (by omega)).mono ?_
    rintro e w' ⟨rfl, rfl⟩
    exact ⟨by unfold bytesS; rw [if_neg h], Below.refl _ _⟩

theorem rbytes_any (x : Nat) (n : Int) (w : World) (hx : x < 18446744073709551616) :
    Calls Try.prog 10 #[.int .u64 x, .int .i64 n] w fun e w' => e = .returned (.string (bytesS x n)) ∧ Below w.heap.size w w' := by
  by_cases h : 1 ≤ n ∧ n ≤ 8
  · obtain ⟨N, rfl⟩ := Int.eq_ofNat_of_zero_le (show 0 ≤ n by omega)
    refine (rbytes_yes x N w (by omega) (by omega) hx).mono ?_
    rintro e w' ⟨rfl, hb⟩
    exact ⟨by unfold bytesS; rw [if_pos h]; rfl, hb⟩
  · refine (rbytes_no x n w (by omega)).mono ?_
    rintro e w' ⟨rfl, rfl⟩
    exact ⟨by unfold bytesS; rw [if_neg h], Below.refl _ _⟩

theorem Rd.below {w w' : World} {B g : Nat} {r : ByteArray} {s : Bool} (h : Rd w g r s) (hb : Below B w w') (hg : g < B) : Rd w' g r s := Has.below h hb hg

set_option maxHeartbeats 400000 in
theorem speaks_any (w : World) : Calls Try.prog 8 #[] w fun e w' => e = .returned (.bool true) ∧ Below w.heap.size w w' := by
  have b0 : Below w.heap.size w w := Below.refl _ _
  have hf : Nums.fieldN 2748 4 8 = 171 := by decide
  go_enter Try.func8, Try.ntmps8
  go_wp2_with (fail)
  refine (read_any _ _).mono ?_
  rintro e w1 ⟨rfl, hr, hb1, _⟩
  go_wp2_with (fail)
  refine (bytes_yes 258 2 w1 (by omega) (by omega)).mono ?_
  rintro e w2 ⟨rfl, hb2⟩
  have hr2 := hr.below hb2 (Has.lt hr (by simp))
  rw [show Nums.bytesN 258 2 = [1, 2] by decide]
  go_wp2_with (fail)
  refine (num_good _ 2 _ w2 hr2 (by omega) (by omega) (by decide)).mono ?_
  rintro e w3 ⟨rfl, hr3, hg3⟩
  rw [show (Nums.numL (ByteArray.extract { data := #[1, 2, 120] } 0 2).data.toList : Int) = 258 by decide]
  rw [show (ByteArray.extract { data := #[1, 2, 120] } 2 (ByteArray.size { data := #[1, 2, 120] })) = ⟨#[120]⟩ by decide] at hr3
  go_wp2_with (fail)
  refine (left_any _ _ _ _ hr3).mono ?_
  rintro e w4 ⟨rfl, rfl⟩
  go_wp2_with (fail)
  refine (end_any _ _ _ _ hr3).mono ?_
  rintro e w4 ⟨rfl, rfl⟩
  rw [show endN ⟨#[120]⟩ false = 3 by decide]
  go_wp2_with (fail)
  refine (raw_good _ 1 _ w3 hr3 (by decide)).mono ?_
  rintro e w4 ⟨rfl, hr4, hg4⟩
  rw [show (ByteArray.extract { data := #[120] } 0 1) = ⟨#[120]⟩ by decide]
  rw [show (ByteArray.extract { data := #[120] } 1 (ByteArray.size { data := #[120] })) = ⟨#[]⟩ by decide] at hr4
  go_wp2_with (fail)
  refine (end_any _ _ _ _ hr4).mono ?_
  rintro e w5 ⟨rfl, rfl⟩
  rw [show endN ⟨#[]⟩ false = 0 by decide]
  go_wp2_with (fail)
  refine (field_any 2748 4 8 w4 (by omega)).mono ?_
  rintro e w5 ⟨rfl, rfl⟩
  rw [hf]
  go_wp2_with (fail)
  go_ret
  have h1 := (hb1.trans (hb2.mono hb1.size)).grown hg3 (Nat.le_trans hb1.size hb2.size) (by simp)
  exact ⟨rfl, h1.grown hg4 h1.size (by simp)⟩

end Go.Proofs.Ytglkghieghideaa
