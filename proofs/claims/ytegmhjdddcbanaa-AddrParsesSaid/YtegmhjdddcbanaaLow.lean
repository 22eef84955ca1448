/- Small and great digits: plain arithmetic for the document's own answer to a text as an address. -/
import Derived.Test.YtegmhjdddcbanaaParse
import Derived.Test.YtegmhjdddcbanaaShow
namespace Go.Proofs.Ytegmhjdddcbanaa
open Go.RowKit

/-- A to F as a to f. -/
def lowN (c : Nat) : Nat := if 65 ≤ c ∧ c ≤ 70 then c + 32 else c
def low (c : UInt8) : UInt8 := UInt8.ofNat (lowN c.toNat)

theorem lowN_lt (c : Nat) (h : c < 256) : lowN c < 256 := by unfold lowN; split <;> omega
theorem low_nat (c : UInt8) : (low c).toNat = lowN c.toNat := by
  have := lowN_lt c.toNat c.toNat_lt
  unfold low
  simp
  omega

theorem hexN_low (c : Nat) : hexN (lowN c) = hexN c := by
  unfold lowN
  by_cases h : 65 ≤ c ∧ c ≤ 70
  · rw [if_pos h]
    unfold hexN
    rw [if_neg (by omega), if_pos (by omega), if_neg (by omega), if_neg (by omega), if_pos h]
    omega
  · rw [if_neg h]

/-- A digit is one of a small one's. -/
theorem dig_iff (c k : Nat) (hk : k < 16) : digN k = lowN c ↔ hexN c = k := by
  unfold digN lowN hexN
  by_cases h : 65 ≤ c ∧ c ≤ 70
  · have n1 : ¬ (48 ≤ c ∧ c ≤ 57) := by omega
    have n2 : ¬ (97 ≤ c ∧ c ≤ 102) := by omega
    rw [if_pos h, if_neg n1, if_neg n2, if_pos h]
    split <;> omega
  · rw [if_neg h]
    by_cases h1 : 48 ≤ c ∧ c ≤ 57
    · rw [if_pos h1]; split <;> omega
    · rw [if_neg h1]
      by_cases h2 : 97 ≤ c ∧ c ≤ 102
      · rw [if_pos h2]; split <;> omega
      · rw [if_neg h2, if_neg h]; split <;> omega

theorem dig_low (c : UInt8) : UInt8.ofNat (digN (hexV c.toNat)) = low c ↔ hexOk c.toNat = true := by
  have hc := c.toNat_lt
  unfold low
  rw [ofNat_eq _ _ (digN_lt _) (lowN_lt _ hc)]
  unfold hexV hexOk
  by_cases h : hexN c.toNat < 16
  · rw [if_pos h, dig_iff _ _ h]
    simp [h]
  · rw [if_neg h, dig_iff _ _ (by omega)]
    simp [h]
    omega

theorem colon_low (c : UInt8) : 58 = low c ↔ c.toNat = 58 := by
  have hc := c.toNat_lt
  unfold low
  rw [show (58 : UInt8) = UInt8.ofNat 58 from rfl, ofNat_eq _ _ (by omega) (lowN_lt _ hc)]
  unfold lowN
  split <;> omega

theorem pair_hi (a b : Nat) : pairV a b / 16 = hexV a := by
  have := hexV_lt b
  unfold pairV
  omega
theorem pair_lo (a b : Nat) : pairV a b % 16 = hexV b := by
  have := hexV_lt b
  unfold pairV
  omega
theorem pair_lt (a b : Nat) : pairV a b < 256 := by
  have := hexV_lt a
  have := hexV_lt b
  unfold pairV
  omega

theorem list17 {α : Type} (l : List α) (h : l.length = 17) : ∃ c0 c1 c2 c3 c4 c5 c6 c7 c8 c9 c10 c11 c12 c13 c14 c15 c16, l = [c0, c1, c2, c3, c4, c5, c6, c7, c8, c9, c10, c11, c12, c13, c14, c15, c16] := by
  match l, h with
  | [c0, c1, c2, c3, c4, c5, c6, c7, c8, c9, c10, c11, c12, c13, c14, c15, c16], _ => exact ⟨_, _, _, _, _, _, _, _, _, _, _, _, _, _, _, _, _, rfl⟩

/-- What is shown is what was told, small: just where all is told well. -/
theorem shown_iff (s : ByteArray) (h : s.size = 17) : showT (valAt s) 6 = s.data.toList.map low ↔ allOk s = true := by
  obtain ⟨c0, c1, c2, c3, c4, c5, c6, c7, c8, c9, c10, c11, c12, c13, c14, c15, c16, hl⟩ := list17 s.data.toList (by rw [Array.length_toList]; exact h)
  have e : ∀ i, atN s i = (([c0, c1, c2, c3, c4, c5, c6, c7, c8, c9, c10, c11, c12, c13, c14, c15, c16] : List UInt8).getD i 0).toNat := fun i => by unfold atN; rw [hl]
  rw [hl]
  simp only [showT, valAt, allOk, okAt, e, pair_hi, pair_lo]
  simp [dig_low, colon_low]
  constructor
  · intro h; simp only [h, and_self]
  · intro h; simp only [h, and_self]

end Go.Proofs.Ytegmhjdddcbanaa
