/- Has, and All: the ports of a set, rising. -/
import Derived.Test.YtpjfpcebjneblaaHas7
import Derived.Test.YtpjfpcebjneblaaRng
import Derived.IntWalk
import Derived.Laws.BitsAllLaws
namespace Go.Proofs.Ytpjfpcebjneblaa
open Go.RowKit Go.Shelf
set_option linter.unusedSimpArgs false
set_option linter.unusedVariables false
attribute [local go_sem] Oper.semAt_some

def isPort (p : Int) : Bool := decide (1 ≤ p) && decide (p ≤ 16)
theorem hasB_no {s : Nat} {p : Int} (h : isPort p = false) : hasB s p = false := by
  unfold hasB
  unfold isPort at h
  rw [h, Bool.false_and]
theorem isPort_at (k : Nat) (h : k < 16) : isPort ((k : Int) + 1) = true := by unfold isPort; rw [decide_eq_true (by omega), decide_eq_true (by omega)]; rfl
theorem port_cases (p : Int) : isPort p = false ∨ ∃ k : Nat, k < 16 ∧ p = (k : Int) + 1 := by
  cases h : isPort p with
  | false => exact .inl rfl
  | true =>
    right
    have hp : 1 ≤ p ∧ p ≤ 16 := by
      unfold isPort at h
      simpa using h
    exact ⟨(p - 1).toNat, by omega, by omega⟩
theorem pow_k (k : Nat) (h : k < 16) : 2 ^ k < 65536 := Nat.pow_lt_pow_right (by omega) h
theorem pow_int (k : Nat) (hk : k < 16) : (2 : Int) ^ k % 4294967296 = ((2 ^ k : Nat) : Int) := by
  have h : (2 : Int) ^ k = ((2 ^ k : Nat) : Int) := by simp
  have := pow_k k hk
  rw [h]
  generalize (2 ^ k : Nat) = n at *
  omega
theorem ret_num {k : IntKind} {a b : Int} (h : a = b) : Ending.returned (.int k a) = .returned (.int k b) := by rw [h]

/-- A port's bit; none of what is no port. -/
def bitN (p : Int) : Nat := if isPort p = true then 2 ^ (p - 1).toNat else 0
theorem bitN_no {p : Int} (h : isPort p = false) : bitN p = 0 := by unfold bitN; rw [h]; rfl
theorem bitN_at (k : Nat) (h : k < 16) : bitN ((k : Int) + 1) = 2 ^ k := by unfold bitN; rw [isPort_at k h, if_pos rfl, show ((k : Int) + 1 - 1).toNat = k by omega]
theorem bitN_lt (p : Int) : bitN p < 65536 := by
  rcases port_cases p with h | ⟨k, hk, rfl⟩
  · rw [bitN_no h]; omega
  · rw [bitN_at k hk]; exact pow_k k hk

theorem bit_any (p : Int) (w : World) : Calls Try.prog 31 #[.int .i64 p] w fun e w' => e = .returned (.int .u32 (bitN p : Nat)) ∧ w = w' := by
  by_cases h1 : p < 1
  · have R := Lib.hid (show ((0 : Nat) : Int) = (bitN p : Nat) by rw [bitN_no (by unfold isPort; rw [decide_eq_false (by omega)]; rfl)])
    have e1 : decide (p < 1) = true := by simpa using h1
    clear h1
    go_enter Try.func31, Try.ntmps31
    go_wp2
    go_ret
    exact ⟨ret_num R.out, rfl⟩
  have e1 : decide (p < 1) = false := by simpa using h1
  by_cases h2 : 16 < p
  · have R := Lib.hid (show ((0 : Nat) : Int) = (bitN p : Nat) by rw [bitN_no (by unfold isPort; rw [decide_eq_false (show ¬ p ≤ 16 by omega), Bool.and_false])])
    have e2 : decide ((16 : Int) < p) = true := by simpa using h2
    clear h1 h2
    go_enter Try.func31, Try.ntmps31
    go_wp2
    go_ret
    exact ⟨ret_num R.out, rfl⟩
  have e2 : decide ((16 : Int) < p) = false := by simp; omega
  obtain ⟨k, rfl⟩ : ∃ k : Nat, p = (k : Int) + 1 := ⟨(p - 1).toNat, by omega⟩
  have hk : k < 16 := by omega
  have hk1 : (0 : Int) ≤ k := by omega
  have hk2 : (k : Int) < 16 := by omega
  have R := Lib.hid (show (2 : Int) ^ k % 4294967296 = (bitN ((k : Int) + 1) : Nat) by rw [bitN_at k hk, pow_int k hk])
  clear h1 h2
  go_enter Try.func31, Try.ntmps31
  go_wp2
  go_ret
  exact ⟨ret_num R.out, rfl⟩

theorem and_pow (s k : Nat) (hk : k < 16) : (s &&& 2 ^ k = 0) ↔ s / 2 ^ k % 2 = 0 := by
  have key : (s &&& 2 ^ k = 0) ↔ s.testBit k = false := by
    constructor
    · intro h
      have := congrArg (fun x => x.testBit k) h
      simpa [Nat.testBit_and, Nat.testBit_two_pow] using this
    · intro h
      apply Nat.eq_of_testBit_eq
      intro i
      rw [Nat.testBit_and, Nat.testBit_two_pow, Nat.zero_testBit]
      by_cases e : k = i
      · subst e
        rw [h]
        rfl
      · rw [decide_eq_false e, Bool.and_false]
  rw [key, Nat.testBit_eq_decide_div_mod_eq, decide_eq_false_iff_not]
  omega
theorem has_eq (s : Nat) (p : Int) : (s &&& bitN p != 0) = hasB s p := by
  rcases port_cases p with h | ⟨k, hk, rfl⟩
  · rw [hasB_no h, bitN_no h]
    simp
  · rw [bitN_at k hk, hasB_at s k hk, Bool.eq_iff_iff, bne_iff_ne, decide_eq_true_eq, ne_eq, and_pow s k hk]
    omega

theorem has_any (s : Nat) (p : Int) (w : World) (hs : s < 4294967296) : Calls Try.prog 13 #[.int .u32 (s : Nat), .int .i64 p] w fun e w' => e = .returned (.bool (hasB s p)) ∧ w = w' := by
  have R := Lib.hid (has_eq s p)
  have R2 := Lib.hid (u32_and_nat s (bitN p) hs (by have := bitN_lt p; omega))
  have R3 := Lib.hid (show ((((s &&& bitN p : Nat) : Int) != 0) = (s &&& bitN p != 0)) by rw [Bool.eq_iff_iff, bne_iff_ne, bne_iff_ne]; omega)
  go_enter Try.func13, Try.ntmps13
  go_wp2_with (go_at_call 31; refine (bit_any _ _).mono ?_; rintro e w' ⟨rfl, rfl⟩)
  go_ret
  refine ⟨ret_b7 ?_, rfl⟩
  rw [R2.out]
  exact R3.out.trans R.out

/-- The ports of a set among the first k; all of them. -/
def upto (s k : Nat) : List Int := ((List.range k).map fun j : Nat => (j : Int) + 1).filter (hasB s)
def portsL (s : Nat) : List Int := upto s 16
theorem upto_yes {s k : Nat} (h : hasB s ((k : Int) + 1) = true) : upto s (k + 1) = upto s k ++ [(k : Int) + 1] := by
  unfold upto
  rw [List.range_succ, List.map_append, List.filter_append]
  simp [h]
theorem upto_no {s k : Nat} (h : hasB s ((k : Int) + 1) = false) : upto s (k + 1) = upto s k := by
  unfold upto
  rw [List.range_succ, List.map_append, List.filter_append]
  simp [h]
theorem upto_prefix (s : Nat) : ∀ (k n : Nat), k ≤ n → upto s k <+: upto s n := by
  intro k n h
  induction n with
  | zero => rw [show k = 0 by omega]; exact List.prefix_refl _
  | succ n ih =>
    rcases Nat.eq_or_lt_of_le h with rfl | c
    · exact List.prefix_refl _
    · refine (ih (by omega)).trans ?_
      cases q : hasB s ((n : Int) + 1) with
      | true => rw [upto_yes q]; exact List.prefix_append _ _
      | false => rw [upto_no q]; exact List.prefix_refl _
theorem upto_len (s k : Nat) : (upto s k).length ≤ k := by
  unfold upto
  exact Nat.le_trans (List.length_filter_le _ _) (by simp)

end Go.Proofs.Ytpjfpcebjneblaa
