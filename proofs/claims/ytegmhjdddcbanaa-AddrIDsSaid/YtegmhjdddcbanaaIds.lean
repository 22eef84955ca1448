/- Bridges' IDs; and the first line of each statement of layer 3. -/
import Derived.Test.YtegmhjdddcbanaaTell
namespace Go.Proofs.Ytegmhjdddcbanaa
open Go.RowKit

/-- An ID as a number. -/
def idN (p x : Nat) : Nat := p * 281474976710656 + x

theorem idN_lt (p x : Nat) (hp : p < 65536) (hx : x < 281474976710656) : idN p x < 18446744073709551616 := by unfold idN; omega

theorem pow48 (i : Nat) (h : 48 ≤ i) : 281474976710656 ≤ 2 ^ i := Nat.pow_le_pow_right (n := 2) (by omega) h
theorem pow64 (i : Nat) (h : 64 ≤ i) : 18446744073709551616 ≤ 2 ^ i := Nat.pow_le_pow_right (n := 2) (by omega) h

theorem with_id (x p : Nat) (hp : p < 65536) (hx : x < 281474976710656) : Nums.withN x 48 16 p = idN p x := by
  have hg : Nums.good 48 16 := by unfold Nums.good; omega
  apply Nat.eq_of_testBit_eq
  intro i
  by_cases hi : i < 64
  · rw [Nums.testBit_withN x 48 16 p i hg hi]
    have e : idN p x = p <<< 48 ||| x := by
      unfold idN
      rw [Nat.shiftLeft_eq, Nat.mul_comm, show (281474976710656 : Nat) = 2 ^ 48 by decide, Nat.two_pow_add_eq_or_of_lt (by simpa using hx), Nat.mul_comm]
    rw [e, Nat.testBit_or, Nat.testBit_shiftLeft]
    show (if 48 ≤ i ∧ i < 48 + 16 then p.testBit (i - 48) else x.testBit i) = _
    by_cases c : 48 ≤ i
    · rw [if_pos ⟨c, by omega⟩]
      have : x.testBit i = false := Nat.testBit_lt_two_pow (Nat.lt_of_lt_of_le hx (pow48 i c))
      simp [c, this]
    · rw [if_neg (by omega)]
      simp [c]
  · have h1 : Nums.withN x 48 16 p < 2 ^ i := Nat.lt_of_lt_of_le (Nums.withN_lt x 48 16 p (by omega)) (pow64 i (by omega))
    have h2 : idN p x < 2 ^ i := Nat.lt_of_lt_of_le (idN_lt p x hp hx) (pow64 i (by omega))
    rw [Nat.testBit_lt_two_pow h1, Nat.testBit_lt_two_pow h2]

set_option maxHeartbeats 400000 in
theorem makeID_any (p : Nat) (m : Nat → Nat) (w : World) (hp : p < 65536) (hm : Six m) : Calls Try.prog 20 #[.int .u16 p, mac m] w fun e w' => e = .returned (.int .u64 (idN p (numF m 6) : Nat)) ∧ Below w.heap.size w w' := by
  have b0 : Below w.heap.size w w := Below.refl _ _
  have hb := b0.alloc (Nat.le_refl _) (Obj.cells (macA m) 25)
  have hx := numF_lt hm
  have hw := Lib.hid (with_id (numF m 6) p hp hx)
  have H := Lib.hid hm
  clear hm
  go_enter Try.func20, Try.ntmps20
  go_wp2_with (first
    | (go_at_call 11; refine (int_any m _ H.out).mono ?_; rintro e w1 ⟨rfl, hb1⟩)
    | (go_at_call 33; refine (with_any (numF m 6) 48 16 p _ (by omega)).mono ?_; rintro e w2 ⟨rfl, rfl⟩; rw [hw.out]))
  go_ret
  exact ⟨rfl, hb.trans (hb1.mono hb.size)⟩

theorem field_id (d : Nat) (hd : d < 18446744073709551616) : Nums.fieldN d 48 16 = d / 281474976710656 := by
  unfold Nums.fieldN
  rw [if_pos (by unfold Nums.good; omega)]
  show d / 2 ^ 48 % 2 ^ 16 = _
  omega

set_option maxHeartbeats 400000 in
theorem priority_any (d : Nat) (w : World) (hd : d < 18446744073709551616) : Calls Try.prog 21 #[.int .u64 d] w fun e w' => e = .returned (.int .u16 (d / 281474976710656 : Nat)) ∧ w = w' := by
  have hf := Lib.hid (field_id d hd)
  have hql : d / 281474976710656 < 65536 := by omega
  go_enter Try.func21, Try.ntmps21
  go_wp2_with (first
    | (go_at_call 30; refine (field_any d 48 16 _ hd).mono ?_; rintro e w2 ⟨rfl, rfl⟩; rw [hf.out]))
  go_ret
  exact ⟨ret_int (by simp), rfl⟩

set_option maxHeartbeats 400000 in
theorem idmac_any (d : Nat) (w : World) : Calls Try.prog 22 #[.int .u64 d] w fun e w' => e = .returned (mac (byteF d)) ∧ Below w.heap.size w w' := by
  have r0 := Blk.new w nil6 25
  have hb := (Below.refl w.heap.size w).alloc (Nat.le_refl _) (Obj.cells nil6 25)
  have hi := Lib.hid size25
  have ho := Lib.hid (macA_one (byteF d))
  have R := Lib.hid r0
  clear r0
  go_enter Try.func22, Try.ntmps22
  go_wp2_with (first
    | (go_at_call 13; refine (fromInt_any d _).mono ?_; rintro e w1 ⟨rfl, hb1⟩
       have r1 := Lib.hid (R.out.below hb1 (by simp)))
    | (refine wpList_store_row rfl 25 _ _ rfl w.heap.size (macA (byteF d)) rfl rfl 25 nil6 r1.out hi.out rfl ho.out ?_))
  exact bodyPost_ret (v := mac (byteF d)) (results_cell_row Try.results22 _ _ w.heap.size 25 (macA (byteF d)) (0, 0) _ rfl (r1.out.row _) Try.underlying25 rfl hi.out) rfl ⟨rfl, below_setRow (hb.trans (hb1.mono hb.size)) (Nat.le_refl _) _⟩

end Go.Proofs.Ytegmhjdddcbanaa
