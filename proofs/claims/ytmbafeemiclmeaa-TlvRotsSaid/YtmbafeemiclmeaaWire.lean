/- What each function of package wire that only computes does, and the document's own answers for them. -/
import Derived.Test.YtmbafeemiclmeaaRows
import Derived.Test.YtmbafeemiclmeaaNums
import Derived.WalkKit
import Derived.WalkSpells
import Derived.WalkLawsBesides
import Derived.IntWalk
import Derived.Lib.Hide
namespace Go.Proofs.Ytmbafeemiclmeaa
open Go.RowKit

theorem ret_int {k : IntKind} {a b : Int} (h : a = b) : Ending.returned (.int k a) = .returned (.int k b) := by rw [h]

def goodSizeB (n : Int) : Bool := decide (1 ≤ n) && decide (n ≤ 8)

set_option maxHeartbeats 400000 in
theorem goodSize_any (n : Int) (w : World) :
    Calls Try.prog 40 #[.int .i64 n] w fun e w' => e = .returned (.bool (goodSizeB n)) ∧ w = w' := by
  unfold goodSizeB
  by_cases h1 : 1 ≤ n
  · go_enter Try.func40, Try.ntmps40
    go_wp2
    go_ret
    exact ⟨by simp; omega, rfl⟩
  · go_enter Try.func40, Try.ntmps40
    go_wp2
    go_ret
    exact ⟨by simp; omega, rfl⟩

theorem maskN_walk (a n : Int) (h : Nums.good a n) :
    IntKind.u64.wrap (18446744073709551615 / 2 ^ (64 - n).toNat * 2 ^ a.toNat) = (Nums.maskN a n : Int) := by
  have l := Nums.maskN_lt a n
  obtain ⟨h1, h2, h3, h4⟩ := h
  have e : (18446744073709551615 : Int) / 2 ^ (64 - n).toNat = ((2 ^ n.toNat - 1 : Nat) : Int) := by
    have := Nums.full_div n.toNat (by omega)
    rw [← this, show (64 - n).toNat = 64 - n.toNat by omega]
    simp
  have m : Nums.maskN a n = (2 ^ n.toNat - 1) * 2 ^ a.toNat := by unfold Nums.maskN; rw [if_pos ⟨h1, h2, h3, h4⟩]
  rw [e, IntKind.wrap_u64, m]
  rw [m] at l
  have c : ((2 ^ n.toNat - 1 : Nat) : Int) * 2 ^ a.toNat = (((2 ^ n.toNat - 1) * 2 ^ a.toNat : Nat) : Int) := by simp
  rw [c]
  omega

theorem field_walk (x : Nat) (a n : Int) (hx : x < 18446744073709551616) (h : Nums.good a n) :
    bits .and .u64 (x : Int) (Nums.maskN a n : Int) / 2 ^ a.toNat = (Nums.fieldN x a n : Int) := by
  rw [u64_and_nat x _ hx (Nums.maskN_lt a n), ← Nums.fieldN_eq x a n h]
  simp

theorem with_walk (x : Nat) (a n : Int) (v : Nat) (hx : x < 18446744073709551616) (h : Nums.good a n) :
    bits .or .u64 (bits .andNot .u64 (x : Int) (Nums.maskN a n : Int)) (bits .and .u64 (IntKind.u64.wrap ((v : Int) * 2 ^ a.toNat)) (Nums.maskN a n : Int)) = (Nums.withN x a n v : Int) := by
  have l := Nums.maskN_lt a n
  have e : IntKind.u64.wrap ((v : Int) * 2 ^ a.toNat) = ((v * 2 ^ a.toNat % 18446744073709551616 : Nat) : Int) := by
    rw [IntKind.wrap_u64]; simp
  rw [u64_andNot_nat x _ hx l, e, u64_and_nat _ _ (by omega) l]
  have h1 : x &&& (18446744073709551615 - Nums.maskN a n) < 2 ^ 64 := Nat.and_lt_two_pow _ (by omega)
  have h2 : (v * 2 ^ a.toNat % 18446744073709551616) &&& Nums.maskN a n < 2 ^ 64 := Nat.and_lt_two_pow _ (by omega)
  rw [u64_or_nat _ _ (by omega) (by omega)]
  unfold Nums.withN
  rw [if_pos h]

end Go.Proofs.Ytmbafeemiclmeaa
