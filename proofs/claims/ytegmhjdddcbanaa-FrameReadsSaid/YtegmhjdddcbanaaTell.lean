/- What the functions of package addr tell of an address, and the document's own answers. -/
import Derived.Test.YtegmhjdddcbanaaAddr
namespace Go.Proofs.Ytegmhjdddcbanaa
open Go.RowKit

set_option maxHeartbeats 400000 in
theorem group_any (m : Nat → Nat) (w : World) (hm : Six m) : Calls Try.prog 15 #[mac m] w fun e w' => e = .returned (.bool (decide (m 0 % 2 = 1))) ∧ Below w.heap.size w w' := by
  have b0 : Below w.heap.size w w := Below.refl _ _
  have h0 := hm.1
  have hb : (bits BinOp.and IntKind.u8 (m 0 : Int) 1 == 1) = decide (m 0 % 2 = 1) := by
    rw [show (1 : Int) = ((1 : Nat) : Int) from rfl, u8_and_nat (m 0) 1 (by omega) (by omega), nat_mask1]
    by_cases c : m 0 % 2 = 1
    · rw [c]; rfl
    · rw [decide_eq_false c]; simp; omega
  have H := Lib.hid hb
  clear hb hm
  go_enter Try.func15, Try.ntmps15
  go_wp2
  go_ret
  exact ⟨congrArg (fun b => Ending.returned (Value.bool b)) H.out, b0.alloc (Nat.le_refl _) _⟩

theorem ret_bool {a b : Bool} (h : a = b) : Ending.returned (.bool a) = .returned (.bool b) := by rw [h]

/-- Is it an address that no bridge forwards? -/
def resB (m : Nat → Nat) : Bool := decide (m 0 = 1) && decide (m 1 = 128) && decide (m 2 = 194) && decide (m 3 = 0) && decide (m 4 = 0) && decide (m 5 < 16)

set_option maxHeartbeats 400000 in
theorem rreserved_any (m : Nat → Nat) (w : World) : Calls Try.prog 17 #[mac m] w fun e w' => e = .returned (.bool (resB m)) ∧ Below w.heap.size w w' := by
  have b0 : Below w.heap.size w w := Below.refl _ _
  go_enter Try.func17, Try.ntmps17
  go_wp2
  all_goals
    go_ret
    exact ⟨ret_bool (by unfold resB; rw [Bool.eq_iff_iff]; simp; omega), b0.alloc (Nat.le_refl _) _⟩

theorem first5 (w : World) (g : Nat) (m : Nat → Nat) (t : TypeId) (hm : Six m) (h : Blk w g (macA m) t) :
    (convert 64 9 (.slice (some ⟨g, 0, none⟩) 5 6)).run Try.prog w = .ok (.string ⟨#[UInt8.ofNat (m 0), UInt8.ofNat (m 1), UInt8.ofNat (m 2), UInt8.ofNat (m 3), UInt8.ofNat (m 4)]⟩) w := by
  obtain ⟨h0, h1, h2, h3, h4, h5⟩ := hm
  have hh : Has w g ([UInt8.ofNat (m 0), UInt8.ofNat (m 1), UInt8.ofNat (m 2), UInt8.ofNat (m 3), UInt8.ofNat (m 4)].map bv) := by
    intro j hj
    refine ⟨?_, h.free j⟩
    rw [h.cell j]
    match j, hj with
    | 0, _ => simp [bv]; omega
    | 1, _ => simp [bv]; omega
    | 2, _ => simp [bv]; omega
    | 3, _ => simp [bv]; omega
    | 4, _ => simp [bv]; omega
  exact hh.text (P := Try.prog) (cap := 6) 64 9 5 Try.underlying64 Try.underlying5 Try.underlying9 5 rfl

theorem ofNat_eq (n c : Nat) (hn : n < 256) (hc : c < 256) : UInt8.ofNat n = UInt8.ofNat c ↔ n = c := by
  constructor
  · intro h
    have := congrArg UInt8.toNat h
    simp at this
    omega
  · intro h
    rw [h]

theorem front_iff (m : Nat → Nat) (hm : Six m) : (UInt8.ofNat (m 0) = 1 ∧ UInt8.ofNat (m 1) = 128 ∧ UInt8.ofNat (m 2) = 194 ∧ UInt8.ofNat (m 3) = 0 ∧ UInt8.ofNat (m 4) = 0) ↔ (m 0 = 1 ∧ m 1 = 128 ∧ m 2 = 194 ∧ m 3 = 0 ∧ m 4 = 0) := by
  obtain ⟨h0, h1, h2, h3, h4, h5⟩ := hm
  have e0 := ofNat_eq (m 0) 1 h0 (by omega)
  have e1 := ofNat_eq (m 1) 128 h1 (by omega)
  have e2 := ofNat_eq (m 2) 194 h2 (by omega)
  have e3 := ofNat_eq (m 3) 0 h3 (by omega)
  have e4 := ofNat_eq (m 4) 0 h4 (by omega)
  exact and_congr e0 (and_congr e1 (and_congr e2 (and_congr e3 e4)))

set_option maxHeartbeats 400000 in
theorem reserved_any (m : Nat → Nat) (w : World) (hm : Six m) : Calls Try.prog 16 #[mac m] w fun e w' => e = .returned (.bool (resB m)) ∧ Below w.heap.size w w' := by
  have b0 : Below w.heap.size w w := Below.refl _ _
  have h5 := first5 _ _ m 25 hm (Blk.new w (macA m) 25)
  have hk := Lib.hid (front_iff m hm)
  clear hm
  go_enter Try.func16, Try.ntmps16
  go_wp2
  all_goals
    rename_i hh
    rw [hk.out] at hh
    go_ret
    exact ⟨ret_bool (by unfold resB; rw [Bool.eq_iff_iff]; simp; omega), b0.alloc (Nat.le_refl _) _⟩

/-- The digit of a number below 16. -/
def digN (n : Nat) : Nat := (if n < 10 then 48 + n else 87 + n) % 256

theorem digN_small (n : Nat) (h : n < 10) : ((digN n : Nat) : Int) = 48 + (n : Int) := by unfold digN; rw [if_pos h]; omega
theorem digN_great (n : Nat) (h : ¬ n < 10) : ((digN n : Nat) : Int) = (87 + (n : Int)) % 256 := by unfold digN; rw [if_neg h]; omega

set_option maxHeartbeats 400000 in
theorem digit_any (n : Nat) (w : World) (hn : n < 256) : Calls Try.prog 32 #[.int .u8 n] w fun e w' => e = .returned (.int .u8 (digN n : Nat)) ∧ w = w' := by
  by_cases c : n < 10
  · have H := Lib.hid (digN_small n c)
    go_enter Try.func32, Try.ntmps32
    go_wp2
    go_ret
    exact ⟨ret_int H.out.symm, rfl⟩
  · have H := Lib.hid (digN_great n c)
    go_enter Try.func32, Try.ntmps32
    go_wp2
    go_ret
    exact ⟨ret_int H.out.symm, rfl⟩

/-- What a digit tells, a small or a great one; none: 16. -/
def hexN (c : Nat) : Nat := if 48 ≤ c ∧ c ≤ 57 then c - 48 else if 97 ≤ c ∧ c ≤ 102 then c - 87 else if 65 ≤ c ∧ c ≤ 70 then c - 55 else 16

def hexOk (c : Nat) : Bool := decide (hexN c < 16)
def hexV (c : Nat) : Nat := if hexN c < 16 then hexN c else 0

theorem ret_two {k : IntKind} {a a' : Int} {b b' : Bool} (h : a = a') (g : b = b') : Ending.returned (.tuple #[.int k a, .bool b]) = .returned (.tuple #[.int k a', .bool b']) := by rw [h, g]

set_option maxHeartbeats 400000 in
theorem parseDigit_any (c : Nat) (w : World) (hc : c < 256) : Calls Try.prog 48 #[.int .u8 c] w fun e w' => e = .returned (.tuple #[.int .u8 (hexV c : Nat), .bool (hexOk c)]) ∧ w = w' := by
  have h : (48 ≤ c ∧ c ≤ 57 ∧ ((hexV c : Nat) : Int) = (c : Int) - 48 ∧ hexOk c = true) ∨ (97 ≤ c ∧ c ≤ 102 ∧ ((hexV c : Nat) : Int) = (c : Int) - 87 ∧ hexOk c = true) ∨ (65 ≤ c ∧ c ≤ 70 ∧ ((hexV c : Nat) : Int) = (c : Int) - 55 ∧ hexOk c = true)
      ∨ ((c < 48 ∨ (57 < c ∧ c < 65) ∨ (70 < c ∧ c < 97) ∨ 102 < c) ∧ hexV c = 0 ∧ hexOk c = false) := by
    unfold hexV hexOk hexN
    by_cases h1 : 48 ≤ c ∧ c ≤ 57
    · left; rw [if_pos h1, if_pos (by omega)]; exact ⟨by omega, by omega, by omega, by simp; omega⟩
    · right
      rw [if_neg h1]
      by_cases h2 : 97 ≤ c ∧ c ≤ 102
      · left; rw [if_pos h2, if_pos (by omega)]; exact ⟨by omega, by omega, by omega, by simp; omega⟩
      · right
        rw [if_neg h2]
        by_cases h3 : 65 ≤ c ∧ c ≤ 70
        · left; rw [if_pos h3, if_pos (by omega)]; exact ⟨by omega, by omega, by omega, by simp; omega⟩
        · right; rw [if_neg h3, if_neg (by omega)]; exact ⟨by omega, rfl, by simp⟩
  rcases h with ⟨h1, h2, h3, h4⟩ | ⟨h1, h2, h3, h4⟩ | ⟨h1, h2, h3, h4⟩ | ⟨h1, h3, h4⟩
  · have H3 := Lib.hid h3
    have H4 := Lib.hid h4
    clear h3 h4
    go_enter Try.func48, Try.ntmps48
    go_wp2
    go_ret2
    exact ⟨ret_two (by have := H3.out; omega) H4.out.symm, rfl⟩
  · have H3 := Lib.hid h3
    have H4 := Lib.hid h4
    clear h3 h4
    go_enter Try.func48, Try.ntmps48
    go_wp2
    go_ret2
    exact ⟨ret_two (by have := H3.out; omega) H4.out.symm, rfl⟩
  · have H3 := Lib.hid h3
    have H4 := Lib.hid h4
    clear h3 h4
    go_enter Try.func48, Try.ntmps48
    go_wp2
    go_ret2
    exact ⟨ret_two (by have := H3.out; omega) H4.out.symm, rfl⟩
  · have H3 := Lib.hid h3
    have H4 := Lib.hid h4
    clear h3 h4
    rcases h1 with h1 | ⟨h1, h2⟩ | ⟨h1, h2⟩ | h1
    all_goals
      go_enter Try.func48, Try.ntmps48
      go_wp2
      go_ret2
      exact ⟨ret_two (by have := H3.out; omega) H4.out.symm, rfl⟩

theorem hexV_lt (c : Nat) : hexV c < 16 := by unfold hexV; split <;> omega

/-- Two digits' byte. -/
def pairV (a b : Nat) : Nat := 16 * hexV a + hexV b

theorem pair_walk (a b : Nat) : bits .or .u8 (bits .or .u8 0 (hexV a : Int) * 16 % 256) (hexV b : Int) = (pairV a b : Nat) := by
  have h1 := hexV_lt a
  have h2 := hexV_lt b
  have e0 : bits .or .u8 0 (hexV a : Int) = ((hexV a : Nat) : Int) := by
    rw [show (0 : Int) = ((0 : Nat) : Int) from rfl, u8_or_nat _ _ (by omega) (by omega), Nat.zero_or]
  have e1 : ((hexV a : Int) * 16 % 256) = ((hexV a * 16 : Nat) : Int) := by omega
  rw [e0, e1, u8_or_nat _ _ (by omega) (by omega), nat_join 4 _ _ (by omega) (by omega)]
  unfold pairV
  rw [Nat.mul_comm]

set_option maxHeartbeats 1000000 in
theorem parseByte_yes (a b : UInt8) (w : World) (h : hexOk a.toNat = true ∧ hexOk b.toNat = true) : Calls Try.prog 29 #[.string ⟨#[a, b]⟩] w fun e w' => e = .returned (.tuple #[.int .u8 (pairV a.toNat b.toNat : Nat), .bool true]) ∧ w = w' := by
  have ha := a.toNat_lt
  have hb := b.toNat_lt
  have hp := Lib.hid (pair_walk a.toNat b.toNat)
  have h1 := hexV_lt a.toNat
  have h2 := hexV_lt b.toNat
  have o1 := Lib.hid h.1
  have o2 := Lib.hid h.2
  clear h
  go_enter Try.func29, Try.ntmps29
  go_wp2_with (fail)
  refine wp_loop_rounds 3 ?_
  rw [rounds_succ]
  go_wp2_with (go_at_call 48; refine (parseDigit_any a.toNat _ ha).mono ?_; rintro e w' ⟨rfl, rfl⟩; rw [o1.out])
  rw [rounds_succ]
  go_wp2_with (go_at_call 48; refine (parseDigit_any b.toNat _ hb).mono ?_; rintro e w' ⟨rfl, rfl⟩; rw [o2.out])
  rw [rounds_succ]
  go_wp2
  go_ret2
  exact ⟨ret_two hp.out rfl, rfl⟩

set_option maxHeartbeats 1000000 in
theorem parseByte_no (a b : UInt8) (w : World) (h : hexOk a.toNat = false ∨ hexOk b.toNat = false) : Calls Try.prog 29 #[.string ⟨#[a, b]⟩] w fun e w' => e = .returned (.tuple #[.int .u8 0, .bool false]) ∧ w = w' := by
  have ha := a.toNat_lt
  have hb := b.toNat_lt
  have H := Lib.hid h
  clear h
  cases hq : hexOk a.toNat with
  | false =>
    have o1 := Lib.hid hq
    clear hq
    go_enter Try.func29, Try.ntmps29
    go_wp2_with (fail)
    refine wp_loop_rounds 3 ?_
    rw [rounds_succ]
    go_wp2_with (go_at_call 48; refine (parseDigit_any a.toNat _ ha).mono ?_; rintro e w' ⟨rfl, rfl⟩; rw [o1.out])
    go_ret2
    exact ⟨rfl, rfl⟩
  | true =>
    have o1 := Lib.hid hq
    have o2 := Lib.hid (show hexOk b.toNat = false by have := H.out; rw [hq] at this; simpa using this)
    clear hq
    go_enter Try.func29, Try.ntmps29
    go_wp2_with (fail)
    refine wp_loop_rounds 3 ?_
    rw [rounds_succ]
    go_wp2_with (go_at_call 48; refine (parseDigit_any a.toNat _ ha).mono ?_; rintro e w' ⟨rfl, rfl⟩; rw [o1.out])
    rw [rounds_succ]
    go_wp2_with (go_at_call 48; refine (parseDigit_any b.toNat _ hb).mono ?_; rintro e w' ⟨rfl, rfl⟩; rw [o2.out])
    go_ret2
    exact ⟨rfl, rfl⟩
end Go.Proofs.Ytegmhjdddcbanaa
