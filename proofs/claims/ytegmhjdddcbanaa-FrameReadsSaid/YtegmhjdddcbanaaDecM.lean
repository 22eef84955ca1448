/- What a reader finds in a text, place by place. -/
import Derived.Test.YtegmhjdddcbanaaDec
namespace Go.Proofs.Ytegmhjdddcbanaa
open Go.RowKit

theorem ext_list (s : ByteArray) (a b : Nat) : (s.extract a b).data.toList = (s.data.toList.drop a).take (b - a) := by
  simp only [ByteArray.data_extract, Array.toList_extract, List.extract_eq_take_drop]

theorem ext_ext (s : ByteArray) (a k : Nat) (_ : a + k ≤ s.size) : (s.extract a s.size).extract k (s.extract a s.size).size = s.extract (a + k) s.size := by
  have hsz : (s.extract a s.size).size = s.size - a := by simp
  have hl : s.data.toList.length = s.size := by rw [Array.length_toList]; rfl
  apply ByteArray.ext
  apply Array.ext'
  rw [ext_list, ext_list, ext_list, hsz]
  rw [List.take_of_length_le (by simp), List.take_of_length_le (by simp), List.take_of_length_le (by simp), List.drop_drop]

theorem ext_front (s : ByteArray) (a k : Nat) (h : a + k ≤ s.size) : ((s.extract a s.size).extract 0 k).data.toList = (s.data.toList.drop a).take k := by
  have hl : s.data.toList.length = s.size := by rw [Array.length_toList]; rfl
  rw [ext_list, ext_list, List.drop_zero, Nat.sub_zero, List.take_take, Nat.min_eq_left (by omega)]

theorem whole (s : ByteArray) : s.extract 0 s.size = s := by simp

theorem drop_at (s : ByteArray) (a i : Nat) (h : a + i < s.size) : (s.data.toList.drop a)[i]? = some (UInt8.ofNat (byteAt' s (a + i))) := by
  have hl : s.data.toList.length = s.size := by rw [Array.length_toList]; rfl
  rw [List.getElem?_drop]
  unfold byteAt'
  rw [List.getD_eq_getElem?_getD, List.getElem?_eq_getElem (by omega)]
  simp

theorem take6 (s : ByteArray) (a : Nat) (h : a + 6 ≤ s.size) : (s.data.toList.drop a).take 6 = [UInt8.ofNat (byteAt' s a), UInt8.ofNat (byteAt' s (a + 1)), UInt8.ofNat (byteAt' s (a + 2)), UInt8.ofNat (byteAt' s (a + 3)), UInt8.ofNat (byteAt' s (a + 4)), UInt8.ofNat (byteAt' s (a + 5))] := by
  have hl : s.data.toList.length = s.size := by rw [Array.length_toList]; rfl
  apply List.ext_getElem?
  intro i
  by_cases c : i < 6
  · rw [List.getElem?_take_of_lt c, drop_at s a i (by omega)]
    match i, c with
    | 0, _ => rfl
    | 1, _ => rfl
    | 2, _ => rfl
    | 3, _ => rfl
    | 4, _ => rfl
    | 5, _ => rfl
  · rw [List.getElem?_eq_none (by simp; omega), List.getElem?_eq_none (by simp; omega)]

theorem take2 (s : ByteArray) (a : Nat) (h : a + 2 ≤ s.size) : (s.data.toList.drop a).take 2 = [UInt8.ofNat (byteAt' s a), UInt8.ofNat (byteAt' s (a + 1))] := by
  have hl : s.data.toList.length = s.size := by rw [Array.length_toList]; rfl
  apply List.ext_getElem?
  intro i
  by_cases c : i < 2
  · rw [List.getElem?_take_of_lt c, drop_at s a i (by omega)]
    match i, c with
    | 0, _ => rfl
    | 1, _ => rfl
  · rw [List.getElem?_eq_none (by simp; omega), List.getElem?_eq_none (by simp; omega)]

theorem ofNat_nat (n : Nat) (h : n < 256) : (UInt8.ofNat n).toNat = n := by simp; omega

theorem num6 (s : ByteArray) (a : Nat) (h : a + 6 ≤ s.size) : Nums.numL ((s.data.toList.drop a).take 6) = numF (fun i => byteAt' s (a + i)) 6 := by
  rw [take6 s a h, numF_lit]
  simp only [Nums.numL, List.foldl]
  rw [ofNat_nat _ (byteAt_lt s a), ofNat_nat _ (byteAt_lt s (a + 1)), ofNat_nat _ (byteAt_lt s (a + 2)), ofNat_nat _ (byteAt_lt s (a + 3)), ofNat_nat _ (byteAt_lt s (a + 4)), ofNat_nat _ (byteAt_lt s (a + 5))]
  simp

theorem num2 (s : ByteArray) (a : Nat) (h : a + 2 ≤ s.size) : Nums.numL ((s.data.toList.drop a).take 2) = wordAt s a := by
  rw [take2 s a h]
  simp only [Nums.numL, List.foldl]
  rw [ofNat_nat _ (byteAt_lt s a), ofNat_nat _ (byteAt_lt s (a + 1))]
  simp [wordAt]

theorem at_six (s : ByteArray) (a : Nat) : Six (fun i => byteAt' s (a + i)) := ⟨byteAt_lt _ _, byteAt_lt _ _, byteAt_lt _ _, byteAt_lt _ _, byteAt_lt _ _, byteAt_lt _ _⟩

/-- A step of reading where there is enough. -/
theorem step_yes (s : ByteArray) (a k : Nat) (h : a + k ≤ s.size) : nV (s.extract a s.size) false k = Nums.numL ((s.data.toList.drop a).take k) ∧ nR (s.extract a s.size) false k = s.extract (a + k) s.size ∧ nS (s.extract a s.size) false k = false := by
  have hsz : (s.extract a s.size).size = s.size - a := by simp
  have he : enough (s.extract a s.size) false k := ⟨rfl, by rw [hsz]; omega⟩
  refine ⟨?_, ?_, ?_⟩
  · unfold nV; rw [if_pos he, ext_front s a k h]
  · unfold nR; rw [if_pos he, ext_ext s a k h]
  · unfold nS; rw [if_pos he]

theorem step_no (s : ByteArray) (a k : Nat) (ha : a ≤ s.size) (h : s.size < a + k) : nV (s.extract a s.size) false k = 0 ∧ nR (s.extract a s.size) false k = s.extract a s.size ∧ nS (s.extract a s.size) false k = true := by
  have hsz : (s.extract a s.size).size = s.size - a := by simp
  have he : ¬ enough (s.extract a s.size) false k := fun c => by have := c.2; rw [hsz] at this; omega
  refine ⟨?_, ?_, ?_⟩
  · unfold nV; rw [if_neg he]
  · unfold nR; rw [if_neg he]
  · unfold nS; rw [if_neg he]

theorem step_short (rest : ByteArray) (k : Nat) : nV rest true k = 0 ∧ nR rest true k = rest ∧ nS rest true k = true := by
  have he : ¬ enough rest true k := fun c => by cases c.1
  refine ⟨?_, ?_, ?_⟩
  · unfold nV; rw [if_neg he]
  · unfold nR; rw [if_neg he]
  · unfold nS; rw [if_neg he]

/-- The three reads ahead of a tag. -/
def V1 (s : ByteArray) : Nat := nV s false 6
def R1 (s : ByteArray) : ByteArray := nR s false 6
def S1 (s : ByteArray) : Bool := nS s false 6
def V2 (s : ByteArray) : Nat := nV (R1 s) (S1 s) 6
def R2 (s : ByteArray) : ByteArray := nR (R1 s) (S1 s) 6
def S2 (s : ByteArray) : Bool := nS (R1 s) (S1 s) 6
def V3 (s : ByteArray) : Nat := nV (R2 s) (S2 s) 2
def R3 (s : ByteArray) : ByteArray := nR (R2 s) (S2 s) 2
def S3 (s : ByteArray) : Bool := nS (R2 s) (S2 s) 2

theorem head_yes (s : ByteArray) (h : 14 ≤ s.size) : mac (byteF (V1 s)) = mac (byteAt' s) ∧ mac (byteF (V2 s)) = mac (srcF s) ∧ V3 s = wordAt s 12 ∧ R3 s = s.extract 14 s.size ∧ S3 s = false := by
  obtain ⟨a1, a2, a3⟩ := step_yes s 0 6 (by omega)
  rw [whole] at a1 a2 a3
  have e1 : V1 s = Nums.numL ((s.data.toList.drop 0).take 6) := a1
  have e2 : R1 s = s.extract 6 s.size := a2
  have e3 : S1 s = false := a3
  obtain ⟨b1, b2, b3⟩ := step_yes s 6 6 (by omega)
  have f1 : V2 s = Nums.numL ((s.data.toList.drop 6).take 6) := by unfold V2; rw [e2, e3]; exact b1
  have f2 : R2 s = s.extract 12 s.size := by unfold R2; rw [e2, e3]; exact b2
  have f3 : S2 s = false := by unfold S2; rw [e2, e3]; exact b3
  obtain ⟨c1, c2, c3⟩ := step_yes s 12 2 (by omega)
  refine ⟨?_, ?_, ?_, ?_, ?_⟩
  · rw [e1, num6 s 0 (by omega), byteF_numF (at_six s 0)]
  · rw [f1, num6 s 6 (by omega), byteF_numF (at_six s 6)]
    rfl
  · unfold V3; rw [f2, f3, c1, num2 s 12 (by omega)]
  · unfold R3; rw [f2, f3]; exact c2
  · unfold S3; rw [f2, f3]; exact c3

theorem head_no (s : ByteArray) (h : s.size < 14) : V3 s = 0 ∧ S3 s = true := by
  by_cases h6 : 6 ≤ s.size
  · obtain ⟨_, a2, a3⟩ := step_yes s 0 6 (by omega)
    rw [whole] at a2 a3
    have e2 : R1 s = s.extract 6 s.size := a2
    have e3 : S1 s = false := a3
    by_cases h12 : 12 ≤ s.size
    · obtain ⟨_, b2, b3⟩ := step_yes s 6 6 (by omega)
      have f2 : R2 s = s.extract 12 s.size := by unfold R2; rw [e2, e3]; exact b2
      have f3 : S2 s = false := by unfold S2; rw [e2, e3]; exact b3
      obtain ⟨c1, _, c3⟩ := step_no s 12 2 (by omega) (by omega)
      exact ⟨by unfold V3; rw [f2, f3]; exact c1, by unfold S3; rw [f2, f3]; exact c3⟩
    · obtain ⟨_, b2, b3⟩ := step_no s 6 6 (by omega) (by omega)
      have f3 : S2 s = true := by unfold S2; rw [e2, e3]; exact b3
      obtain ⟨c1, _, c3⟩ := step_short (R2 s) 2
      exact ⟨by unfold V3; rw [f3]; exact c1, by unfold S3; rw [f3]; exact c3⟩
  · obtain ⟨_, _, a3⟩ := step_no s 0 6 (by omega) (by omega)
    rw [whole] at a3
    have e3 : S1 s = true := a3
    have f3 : S2 s = true := by unfold S2; rw [e3]; exact (step_short _ 6).2.2
    obtain ⟨c1, _, c3⟩ := step_short (R2 s) 2
    exact ⟨by unfold V3; rw [f3]; exact c1, by unfold S3; rw [f3]; exact c3⟩

/-- The two reads behind a tag's type. -/
def V4 (s : ByteArray) : Nat := nV (R3 s) (S3 s) 2
def R4 (s : ByteArray) : ByteArray := nR (R3 s) (S3 s) 2
def S4 (s : ByteArray) : Bool := nS (R3 s) (S3 s) 2
def V5 (s : ByteArray) : Nat := nV (R4 s) (S4 s) 2
def R5 (s : ByteArray) : ByteArray := nR (R4 s) (S4 s) 2
def S5 (s : ByteArray) : Bool := nS (R4 s) (S4 s) 2

theorem tag_yes (s : ByteArray) (h : 18 ≤ s.size) : V4 s = wordAt s 14 ∧ V5 s = wordAt s 16 ∧ R5 s = s.extract 18 s.size ∧ S5 s = false := by
  obtain ⟨_, _, _, e2, e3⟩ := head_yes s (by omega)
  obtain ⟨b1, b2, b3⟩ := step_yes s 14 2 (by omega)
  have f2 : R4 s = s.extract 16 s.size := by unfold R4; rw [e2, e3]; exact b2
  have f3 : S4 s = false := by unfold S4; rw [e2, e3]; exact b3
  obtain ⟨c1, c2, c3⟩ := step_yes s 16 2 (by omega)
  refine ⟨?_, ?_, ?_, ?_⟩
  · unfold V4; rw [e2, e3, b1, num2 s 14 (by omega)]
  · unfold V5; rw [f2, f3, c1, num2 s 16 (by omega)]
  · unfold R5; rw [f2, f3]; exact c2
  · unfold S5; rw [f2, f3]; exact c3

theorem tag_no (s : ByteArray) (h14 : 14 ≤ s.size) (h : s.size < 18) : S5 s = true := by
  obtain ⟨_, _, _, e2, e3⟩ := head_yes s h14
  by_cases h16 : 16 ≤ s.size
  · obtain ⟨_, b2, b3⟩ := step_yes s 14 2 (by omega)
    have f2 : R4 s = s.extract 16 s.size := by unfold R4; rw [e2, e3]; exact b2
    have f3 : S4 s = false := by unfold S4; rw [e2, e3]; exact b3
    obtain ⟨_, _, c3⟩ := step_no s 16 2 (by omega) (by omega)
    unfold S5; rw [f2, f3]; exact c3
  · obtain ⟨_, _, b3⟩ := step_no s 14 2 (by omega) (by omega)
    have f3 : S4 s = true := by unfold S4; rw [e2, e3]; exact b3
    unfold S5; rw [f3]; exact (step_short _ 2).2.2
end Go.Proofs.Ytegmhjdddcbanaa
