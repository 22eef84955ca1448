/- Frames: their size, and what stands in a tag. -/
import Derived.Test.YtpjfpcebjneblaaFrm
namespace Go.Proofs.Ytpjfpcebjneblaa
open Go.RowKit

/-- How many bytes it has. -/
def lenF (tg : Bool) (da : ByteArray) : Nat := if tg then 18 + da.size else 14 + da.size

set_option maxRecDepth 100000 in
set_option maxHeartbeats 1000000 in
theorem size_any (d s : Nat → Nat) (tg : Bool) (pc : Nat) (de : Bool) (vi ty : Nat) (da : ByteArray) (w : World) (hd : da.size ≤ 1600) :
    Calls Try.prog 44 #[.agg (frA d s tg pc de vi ty da)] w fun e w' => e = .returned (.int .i64 (lenF tg da : Nat)) ∧ Below w.heap.size w w' := by
  obtain ⟨arr, harr⟩ : ∃ arr, arr = frA d s tg pc de vi ty da := ⟨_, rfl⟩
  have a12 : arr[12]? = some (.bool tg) := by rw [harr]; rfl
  have a13 : arr[13]? = some (.int .u8 (pc : Nat)) := by rw [harr]; rfl
  have a14 : arr[14]? = some (.bool de) := by rw [harr]; rfl
  have a15 : arr[15]? = some (.int .u16 (vi : Nat)) := by rw [harr]; rfl
  have a16 : arr[16]? = some (.int .u16 (ty : Nat)) := by rw [harr]; rfl
  have a17 : arr[17]? = some (.string da) := by rw [harr]; rfl
  rw [← harr]
  clear harr
  have h1 : (da.size : Int) ≤ 1600 := by omega
  cases tg with
  | true =>
    go_enter Try.func44, Try.ntmps44
    go_wp2
    go_ret
    exact ⟨ret_int (by simp [lenF]), (Below.refl _ _).alloc (Nat.le_refl _) _⟩
  | false =>
    go_enter Try.func44, Try.ntmps44
    go_wp2
    go_ret
    exact ⟨ret_int (by simp [lenF]), (Below.refl _ _).alloc (Nat.le_refl _) _⟩

theorem pow64' (i : Nat) (h : 64 ≤ i) : 18446744073709551616 ≤ 2 ^ i := Nat.pow_le_pow_right (n := 2) (by omega) h

/-- What stands in a tag. -/
def tagN (pc : Nat) (de : Bool) (vi : Nat) : Nat := 8192 * pc + vi + if de then 4096 else 0

theorem with_pcp (vi pc : Nat) (hv : vi ≤ 4094) (hp : pc ≤ 7) : Nums.withN vi 13 3 pc = 8192 * pc + vi := by
  have h : ∀ p : Fin 8, ∀ v : Fin 4095, Nums.withN v.val 13 3 p.val = 8192 * p.val + v.val := by
    intro p v
    have hg : Nums.good 13 3 := by unfold Nums.good; omega
    apply Nat.eq_of_testBit_eq
    intro i
    have hv := v.isLt
    have hp := p.isLt
    have hw := Nums.withN_lt v.val 13 3 p.val (by omega)
    have e : 8192 * p.val + v.val = p.val <<< 13 ||| v.val := by
      rw [Nat.shiftLeft_eq, Nat.mul_comm p.val, show (8192 : Nat) = 2 ^ 13 by decide, Nat.two_pow_add_eq_or_of_lt (by simpa using (by omega : v.val < 8192))]
    by_cases hi : i < 64
    · rw [Nums.testBit_withN v.val 13 3 p.val i hg hi, e, Nat.testBit_or, Nat.testBit_shiftLeft]
      show (if 13 ≤ i ∧ i < 13 + 3 then p.val.testBit (i - 13) else v.val.testBit i) = _
      by_cases c : 13 ≤ i
      · have hz : v.val.testBit i = false := Nat.testBit_lt_two_pow (Nat.lt_of_lt_of_le (by omega : v.val < 2 ^ 13) (Nat.pow_le_pow_right (by omega) c))
        by_cases c2 : i < 16
        · rw [if_pos ⟨c, c2⟩]; simp [c, hz]
        · rw [if_neg (by omega), hz]
          have : p.val.testBit (i - 13) = false := Nat.testBit_lt_two_pow (Nat.lt_of_lt_of_le (by omega : p.val < 2 ^ 3) (Nat.pow_le_pow_right (by omega) (by omega)))
          simp [c, this]
      · rw [if_neg (by omega)]; simp [c]
    · rw [Nat.testBit_lt_two_pow (Nat.lt_of_lt_of_le hw (pow64' i (by omega))), Nat.testBit_lt_two_pow (Nat.lt_of_lt_of_le (by omega : 8192 * p.val + v.val < 18446744073709551616) (pow64' i (by omega)))]
  exact h ⟨pc, by omega⟩ ⟨vi, by omega⟩

theorem with_dei (x : Nat) (hx : x < 65536) (hb : x / 4096 % 2 = 0) : Nums.withN x 12 1 1 = x + 4096 := by
  have hg : Nums.good 12 1 := by unfold Nums.good; omega
  have hw := Nums.withN_lt x 12 1 1 (by omega)
  have e : x + 4096 = (x / 8192) <<< 13 ||| (1 <<< 12 ||| x % 4096) := by
    have e1 : 1 <<< 12 ||| x % 4096 = 4096 + x % 4096 := by
      rw [show (1 <<< 12 : Nat) = 2 ^ 12 * 1 by decide, ← Nat.two_pow_add_eq_or_of_lt (by omega : x % 4096 < 2 ^ 12)]
    rw [e1, Nat.shiftLeft_eq, Nat.mul_comm (x / 8192), ← Nat.two_pow_add_eq_or_of_lt (by omega : 4096 + x % 4096 < 2 ^ 13)]
    omega
  have e2 : x = (x / 8192) <<< 13 ||| x % 4096 := by
    rw [Nat.shiftLeft_eq, Nat.mul_comm (x / 8192), ← Nat.two_pow_add_eq_or_of_lt (by omega : x % 4096 < 2 ^ 13)]
    omega
  apply Nat.eq_of_testBit_eq
  intro i
  by_cases hi : i < 64
  · rw [Nums.testBit_withN x 12 1 1 i hg hi]
    show (if 12 ≤ i ∧ i < 12 + 1 then (1 : Nat).testBit (i - 12) else x.testBit i) = _
    rw [e, Nat.testBit_or, Nat.testBit_or, Nat.testBit_shiftLeft, Nat.testBit_shiftLeft]
    by_cases c : i = 12
    · subst c
      simp
    · rw [if_neg (by omega)]
      conv => lhs; rw [e2]
      rw [Nat.testBit_or, Nat.testBit_shiftLeft]
      have h1 : (decide (i ≥ 12) && (1 : Nat).testBit (i - 12)) = false := by
        by_cases c2 : 12 ≤ i
        · obtain ⟨j, hj⟩ : ∃ j, i - 12 = j + 1 := ⟨i - 13, by omega⟩
          rw [hj]
          simp [Nat.testBit_succ]
        · simp [c2]
      rw [h1, Bool.false_or]
  · rw [Nat.testBit_lt_two_pow (Nat.lt_of_lt_of_le hw (pow64' i (by omega))), Nat.testBit_lt_two_pow (Nat.lt_of_lt_of_le (by omega : x + 4096 < 18446744073709551616) (pow64' i (by omega)))]

set_option maxRecDepth 100000 in
set_option maxHeartbeats 1000000 in
theorem tag_any (d s : Nat → Nat) (pc : Nat) (de : Bool) (vi ty : Nat) (da : ByteArray) (w : World) (hp : pc ≤ 7) (hv : vi ≤ 4094) :
    Calls Try.prog 46 #[.agg (frA d s true pc de vi ty da)] w fun e w' => e = .returned (.int .u64 (tagN pc de vi : Nat)) ∧ Below w.heap.size w w' := by
  obtain ⟨arr, harr⟩ : ∃ arr, arr = frA d s true pc de vi ty da := ⟨_, rfl⟩
  have a12 : arr[12]? = some (.bool true) := by rw [harr]; rfl
  have a13 : arr[13]? = some (.int .u8 (pc : Nat)) := by rw [harr]; rfl
  have a14 : arr[14]? = some (.bool de) := by rw [harr]; rfl
  have a15 : arr[15]? = some (.int .u16 (vi : Nat)) := by rw [harr]; rfl
  have a16 : arr[16]? = some (.int .u16 (ty : Nat)) := by rw [harr]; rfl
  have a17 : arr[17]? = some (.string da) := by rw [harr]; rfl
  rw [← harr]
  clear harr
  have h1 := Lib.hid (with_pcp vi pc hv hp)
  cases de with
  | true =>
    have h2 := Lib.hid (with_dei (8192 * pc + vi) (by omega) (by omega))
    have h3 := Lib.hid (show tagN pc true vi = 8192 * pc + vi + 4096 by simp [tagN])
    have hl : 8192 * pc + vi < 65536 := by omega
    generalize 8192 * pc + vi = x at *
    go_enter Try.func46, Try.ntmps46
    go_wp2_with (first
      | (go_at_call 53; (with_reducible refine (with_any vi 13 3 pc _ (by omega)).mono ?_); rintro e w' ⟨rfl, rfl⟩; rw [h1.out])
      | (go_at_call 53; refine (with_any x 12 1 1 _ (by omega)).mono ?_; rintro e w' ⟨rfl, rfl⟩; rw [h2.out]))
    go_ret
    exact ⟨ret_int (by rw [h3.out]; simp), (Below.refl _ _).alloc (Nat.le_refl _) _⟩
  | false =>
    have h3 := Lib.hid (show tagN pc false vi = 8192 * pc + vi by simp [tagN])
    generalize 8192 * pc + vi = x at *
    go_enter Try.func46, Try.ntmps46
    go_wp2_with (first
      | (go_at_call 53; (with_reducible refine (with_any vi 13 3 pc _ (by omega)).mono ?_); rintro e w' ⟨rfl, rfl⟩; rw [h1.out]))
    go_ret
    exact ⟨ret_int (by rw [h3.out]), (Below.refl _ _).alloc (Nat.le_refl _) _⟩
end Go.Proofs.Ytpjfpcebjneblaa
