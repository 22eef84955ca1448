/- What is decoded is encoded again; a decoded frame's parts. -/
import Derived.Test.YtegmhjdddcbanaaDecEnc
import Derived.Lib.IndexBytes
namespace Go.Proofs.Ytegmhjdddcbanaa
open Go.RowKit

theorem piece (l : List UInt8) (a k : Nat) : (l.drop a).take k ++ l.drop (a + k) = l.drop a := by
  rw [← List.drop_drop]
  exact List.take_append_drop k _

theorem word_hi (s : ByteArray) (a : Nat) : wordAt s a / 256 % 256 = byteAt' s a := by
  have h0 := byteAt_lt s a
  have h1 := byteAt_lt s (a + 1)
  unfold wordAt
  omega
theorem word_lo (s : ByteArray) (a : Nat) : wordAt s a % 256 = byteAt' s (a + 1) := by
  have h0 := byteAt_lt s a
  have h1 := byteAt_lt s (a + 1)
  unfold wordAt
  omega

theorem again_f (s : ByteArray) (h : 14 ≤ s.size) : encL (byteAt' s) (srcF s) false 0 false 0 (wordAt s 12) (s.extract 14 s.size) = s.data.toList := by
  have e : s.data.toList = (s.data.toList.drop 0).take 6 ++ ((s.data.toList.drop 6).take 6 ++ ((s.data.toList.drop 12).take 2 ++ s.data.toList.drop 14)) := by
    rw [piece _ 12 2, piece _ 6 6, piece _ 0 6]
    rfl
  rw [take6 s 0 (by omega), take6 s 6 (by omega), take2 s 12 (by omega)] at e
  refine Eq.trans ?_ e.symm
  rw [enc_f, Lib.extract_to_end, word_hi, word_lo]
  rfl

theorem tag_back (x : Nat) : tagN (x / 8192) (decide (x / 4096 % 2 = 1)) (x % 4096) = x := by
  unfold tagN
  by_cases c : x / 4096 % 2 = 1
  · rw [decide_eq_true c]
    simp only [if_true]
    omega
  · rw [decide_eq_false c]
    simp only [Bool.false_eq_true, if_false]
    omega

theorem again_t (s : ByteArray) (h : 18 ≤ s.size) (ht : tgB s = true) : encL (byteAt' s) (srcF s) true (wordAt s 14 / 8192) (decide (wordAt s 14 / 4096 % 2 = 1)) (wordAt s 14 % 4096) (wordAt s 16) (s.extract 18 s.size) = s.data.toList := by
  have e : s.data.toList = (s.data.toList.drop 0).take 6 ++ ((s.data.toList.drop 6).take 6 ++ ((s.data.toList.drop 12).take 2 ++ ((s.data.toList.drop 14).take 2 ++ ((s.data.toList.drop 16).take 2 ++ s.data.toList.drop 18)))) := by
    rw [piece _ 16 2, piece _ 14 2, piece _ 12 2, piece _ 6 6, piece _ 0 6]
    rfl
  rw [take6 s 0 (by omega), take6 s 6 (by omega), take2 s 12 (by omega), take2 s 14 (by omega), take2 s 16 (by omega)] at e
  have h0 := byteAt_lt s 12
  have h1 := byteAt_lt s (12 + 1)
  have hw : wordAt s 12 = 33024 := by unfold tgB at ht; exact of_decide_eq_true ht
  unfold wordAt at hw
  have b0 : byteAt' s 12 = 129 := by omega
  have b1 : byteAt' s (12 + 1) = 0 := by omega
  rw [b0, b1] at e
  refine Eq.trans ?_ e.symm
  rw [enc_t, Lib.extract_to_end, tag_back, word_hi, word_lo, word_hi, word_lo]
  rfl

theorem at_six0 (s : ByteArray) : Six (byteAt' s) := ⟨byteAt_lt _ _, byteAt_lt _ _, byteAt_lt _ _, byteAt_lt _ _, byteAt_lt _ _, byteAt_lt _ _⟩

theorem at_six6 (s : ByteArray) : Six (srcF s) := at_six s 6

/-- A decoded frame's parts; and, if there was no error, what it is encoded as. -/
theorem dec_is (s : ByteArray) : ∃ (d k : Nat → Nat) (tg : Bool) (pc : Nat) (de : Bool) (vi ty : Nat) (da : ByteArray), decA s = frA d k tg pc de vi ty da ∧ Six d ∧ Six k ∧ ty < 65536 ∧ da.size ≤ 1600 ∧
    (decE s = 0 → encE tg pc de vi ty da = 0 ∧ encS d k tg pc de vi ty da = s) := by
  have z : 0 < 256 := by omega
  have six0 : Six fun _ => 0 := ⟨z, z, z, z, z, z⟩
  by_cases he : decE s = 0
  · have he' := he
    unfold decE at he'
    split at he'
    · omega
    · rename_i hN
      split at he'
      · omega
      · rename_i h14
        cases htg : tgB s with
        | true =>
          rw [if_pos htg] at he'
          split at he'
          · omega
          · rename_i h18
            split at he'
            · omega
            · rename_i hv
              have hok : okF true (wordAt s 14 / 8192) (decide (wordAt s 14 / 4096 % 2 = 1)) (wordAt s 14 % 4096) (wordAt s 16) = true := by
                have := wordAt_lt s 14
                unfold okF
                simp only [if_true, Bool.and_eq_true, decide_eq_true_iff]
                omega
              have hl : ¬ 1518 < lenF true (s.extract 18 s.size) := by
                unfold lenF
                simp
                omega
              have hE : encE true (wordAt s 14 / 8192) (decide (wordAt s 14 / 4096 % 2 = 1)) (wordAt s 14 % 4096) (wordAt s 16) (s.extract 18 s.size) = 0 := by
                unfold encE
                rw [if_pos hok, if_neg hl]
              refine ⟨_, _, _, _, _, _, _, _, ?_, at_six0 s, at_six6 s, wordAt_lt s 16, ?_, fun _ => ⟨hE, ?_⟩⟩
              · unfold decA
                rw [if_pos he, if_pos htg]
              · simp
                omega
              · unfold encS
                rw [if_pos hE, again_t s (by omega) htg]
        | false =>
          have hne : wordAt s 12 ≠ 33024 := by unfold tgB at htg; exact of_decide_eq_false htg
          have hok : okF false 0 false 0 (wordAt s 12) = true := by unfold okF; simp [hne]
          have hl : ¬ 1518 < lenF false (s.extract 14 s.size) := by
            unfold lenF
            simp
            omega
          have hE : encE false 0 false 0 (wordAt s 12) (s.extract 14 s.size) = 0 := by
            unfold encE
            rw [if_pos hok, if_neg hl]
          refine ⟨_, _, _, _, _, _, _, _, ?_, at_six0 s, at_six6 s, wordAt_lt s 12, ?_, fun _ => ⟨hE, ?_⟩⟩
          · unfold decA
            rw [if_pos he, if_neg (by rw [htg]; simp)]
          · simp
            omega
          · unfold encS
            rw [if_pos hE, again_f s (by omega)]
  · refine ⟨fun _ => 0, fun _ => 0, false, 0, false, 0, 0, ⟨#[]⟩, ?_, six0, six0, by omega, Nat.zero_le _, fun h => absurd h he⟩
    unfold decA
    rw [if_neg he]
    rfl
end Go.Proofs.Ytegmhjdddcbanaa
