/- What stands in a PDU's bytes, place by place. -/
import Derived.Test.YtkohnleeiajiiaaSteps
namespace Go.Proofs.Ytkohnleeiajiiaa
open Go.RowKit
set_option linter.unusedSimpArgs false

/-- A PDU with the flags of a byte. -/
def flP (k f : Nat) : Pd := ⟨k, decide (f % 2 = 1), decide (f / 2 % 2 = 1), decide (f / 16 % 2 = 1), decide (f / 32 % 2 = 1), decide (f / 64 % 2 = 1), decide (f / 128 = 1), f / 4 % 4, 0, 0, 0, 0, 0, 0, 0, 0⟩
/-- The PDU that stands in a text of 38 bytes or more. -/
def atP (s : ByteArray) (k f : Nat) : Pd := ⟨k, decide (f % 2 = 1), decide (f / 2 % 2 = 1), decide (f / 16 % 2 = 1), decide (f / 32 % 2 = 1), decide (f / 64 % 2 = 1), decide (f / 128 = 1), f / 4 % 4, posV s 8 8, posV s 16 4, posV s 20 8, posV s 28 2, posV s 30 2, posV s 32 2, posV s 34 2, posV s 36 2⟩

theorem setQ_flags (k f : Nat) (h : f < 256) : setQ (kindP k) (bitN f) = flP k f := by
  have b0 : bitN f 0 = f % 2 := by unfold bitN; simp
  have b1 : bitN f 1 = f / 2 % 2 := by unfold bitN; simp
  have b2 : bitN f 2 = f / 4 % 2 := by unfold bitN; simp
  have b3 : bitN f 3 = f / 8 % 2 := by unfold bitN; simp
  have b4 : bitN f 4 = f / 16 % 2 := by unfold bitN; simp
  have b5 : bitN f 5 = f / 32 % 2 := by unfold bitN; simp
  have b6 : bitN f 6 = f / 64 % 2 := by unfold bitN; simp
  have b7 : bitN f 7 = f / 128 := by unfold bitN; simp; omega
  unfold setQ flP kindP
  rw [b0, b1, b2, b3, b4, b5, b6, b7, show f / 4 % 2 + 2 * (f / 8 % 2) = f / 4 % 4 by omega]

theorem posV_lt (s : ByteArray) (o k : Nat) : posV s o k < 256 ^ k := by
  unfold posV
  refine Nat.lt_of_lt_of_le (Nums.numL_lt _) (Nat.pow_le_pow_right (by omega) ?_)
  rw [List.length_take]
  omega

theorem posV_ext (s : ByteArray) (o k : Nat) : Nums.numL (s.extract o (o + k)).data.toList = posV s o k := by
  unfold posV
  rw [ext_list, show o + k - o = k by omega]

theorem decQ_at (s : ByteArray) (h : 38 ≤ s.size) : decQ s = atP s (kB s) (byteAt' s 7) := by
  have s1 : stX (s.extract 7 s.size, false) 1 = (s.extract 8 s.size, false) := (st1_yes s 7 1 (by omega)).2
  have s2 : stX (s.extract 7 s.size, false) 2 = (s.extract 16 s.size, false) := by
    show st1 (stX (s.extract 7 s.size, false) 1) 8 = _
    rw [s1, (st1_yes s 8 8 (by omega)).2]
  have s3 : stX (s.extract 7 s.size, false) 3 = (s.extract 20 s.size, false) := by
    show st1 (stX (s.extract 7 s.size, false) 2) 4 = _
    rw [s2, (st1_yes s 16 4 (by omega)).2]
  have s4 : stX (s.extract 7 s.size, false) 4 = (s.extract 28 s.size, false) := by
    show st1 (stX (s.extract 7 s.size, false) 3) 8 = _
    rw [s3, (st1_yes s 20 8 (by omega)).2]
  have s5 : stX (s.extract 7 s.size, false) 5 = (s.extract 30 s.size, false) := by
    show st1 (stX (s.extract 7 s.size, false) 4) 2 = _
    rw [s4, (st1_yes s 28 2 (by omega)).2]
  have s6 : stX (s.extract 7 s.size, false) 6 = (s.extract 32 s.size, false) := by
    show st1 (stX (s.extract 7 s.size, false) 5) 2 = _
    rw [s5, (st1_yes s 30 2 (by omega)).2]
  have s7 : stX (s.extract 7 s.size, false) 7 = (s.extract 34 s.size, false) := by
    show st1 (stX (s.extract 7 s.size, false) 6) 2 = _
    rw [s6, (st1_yes s 32 2 (by omega)).2]
  have s8 : stX (s.extract 7 s.size, false) 8 = (s.extract 36 s.size, false) := by
    show st1 (stX (s.extract 7 s.size, false) 7) 2 = _
    rw [s7, (st1_yes s 34 2 (by omega)).2]
  have n0 : nV (s.extract 7 s.size) false 1 = byteAt' s 7 := (st1_yes s 7 1 (by omega)).1.trans (num1 s 7 (by omega))
  unfold decQ rdQ
  rw [s1, s2, s3, s4, s5, s6, s7, s8]
  dsimp only
  rw [n0, (st1_yes s 8 8 (by omega)).1, (st1_yes s 16 4 (by omega)).1, (st1_yes s 20 8 (by omega)).1, (st1_yes s 28 2 (by omega)).1, (st1_yes s 30 2 (by omega)).1, (st1_yes s 32 2 (by omega)).1, (st1_yes s 34 2 (by omega)).1, (st1_yes s 36 2 (by omega)).1, setQ_flags _ _ (byteAt_lt s 7)]
  rfl
end Go.Proofs.Ytkohnleeiajiiaa
