/- Addresses as six numbers: plain arithmetic, and what the functions of package addr that only compute do. -/
import Derived.Test.YteeinlbhcdpnnaaRead
import Derived.ChangeKeysEq
namespace Go.Proofs.Yteeinlbhcdpnnaa
open Go.RowKit

/-- Six bytes, by value. -/
abbrev mac (m : Nat → Nat) : Value := .agg #[.int .u8 (m 0 : Nat), .int .u8 (m 1 : Nat), .int .u8 (m 2 : Nat), .int .u8 (m 3 : Nat), .int .u8 (m 4 : Nat), .int .u8 (m 5 : Nat)]

/-- Is each of them a byte? -/
def Six (m : Nat → Nat) : Prop := m 0 < 256 ∧ m 1 < 256 ∧ m 2 < 256 ∧ m 3 < 256 ∧ m 4 < 256 ∧ m 5 < 256

theorem Six.at {m : Nat → Nat} (h : Six m) (k : Nat) (hk : k < 6) : m k < 256 := by
  obtain ⟨h0, h1, h2, h3, h4, h5⟩ := h
  match k, hk with
  | 0, _ => exact h0
  | 1, _ => exact h1
  | 2, _ => exact h2
  | 3, _ => exact h3
  | 4, _ => exact h4
  | 5, _ => exact h5

/-- The number of some bytes. -/
def numF (m : Nat → Nat) : Nat → Nat
  | 0 => 0
  | k + 1 => 256 * numF m k + m k

/-- The bytes of a number. -/
def byteF (n : Nat) (i : Nat) : Nat := n / 256 ^ (5 - i) % 256

theorem byteF_six (n : Nat) : Six (byteF n) := by
  unfold Six byteF
  refine ⟨?_, ?_, ?_, ?_, ?_, ?_⟩ <;> exact Nat.mod_lt _ (by omega)

theorem byteF_lit (n : Nat) : byteF n 0 = n / 1099511627776 % 256 ∧ byteF n 1 = n / 4294967296 % 256 ∧ byteF n 2 = n / 16777216 % 256 ∧ byteF n 3 = n / 65536 % 256 ∧ byteF n 4 = n / 256 % 256 ∧ byteF n 5 = n % 256 := by
  refine ⟨rfl, rfl, rfl, rfl, ?_, ?_⟩
  · simp [byteF]
  · simp [byteF]

theorem numF_lit (m : Nat → Nat) : numF m 6 = 256 * (256 * (256 * (256 * (256 * m 0 + m 1) + m 2) + m 3) + m 4) + m 5 := by
  simp [numF]

theorem numF_lt {m : Nat → Nat} (h : Six m) : numF m 6 < 281474976710656 := by
  rw [numF_lit]
  obtain ⟨h0, h1, h2, h3, h4, h5⟩ := h
  omega

theorem numF_byteF (n : Nat) : numF (byteF n) 6 = n % 281474976710656 := by
  rw [numF_lit]
  obtain ⟨h0, h1, h2, h3, h4, h5⟩ := byteF_lit n
  rw [h0, h1, h2, h3, h4, h5]
  omega

theorem byteF_numF {m : Nat → Nat} (h : Six m) : mac (byteF (numF m 6)) = mac m := by
  obtain ⟨e0, e1, e2, e3, e4, e5⟩ := byteF_lit (numF m 6)
  rw [numF_lit] at *
  obtain ⟨h0, h1, h2, h3, h4, h5⟩ := h
  unfold mac
  rw [show byteF (256 * (256 * (256 * (256 * (256 * m 0 + m 1) + m 2) + m 3) + m 4) + m 5) 0 = m 0 by omega,
    show byteF (256 * (256 * (256 * (256 * (256 * m 0 + m 1) + m 2) + m 3) + m 4) + m 5) 1 = m 1 by omega,
    show byteF (256 * (256 * (256 * (256 * (256 * m 0 + m 1) + m 2) + m 3) + m 4) + m 5) 2 = m 2 by omega,
    show byteF (256 * (256 * (256 * (256 * (256 * m 0 + m 1) + m 2) + m 3) + m 4) + m 5) 3 = m 3 by omega,
    show byteF (256 * (256 * (256 * (256 * (256 * m 0 + m 1) + m 2) + m 3) + m 4) + m 5) 4 = m 4 by omega,
    show byteF (256 * (256 * (256 * (256 * (256 * m 0 + m 1) + m 2) + m 3) + m 4) + m 5) 5 = m 5 by omega]

theorem numF_step (m : Nat → Nat) (k : Nat) : numF m (k + 1) = 256 * numF m k + m k := rfl

theorem numF_le {m : Nat → Nat} (h : Six m) (k : Nat) (hk : k ≤ 6) : numF m k < 281474976710656 := by
  obtain ⟨h0, h1, h2, h3, h4, h5⟩ := h
  match k, hk with
  | 0, _ => simp [numF]
  | 1, _ => simp [numF]; omega
  | 2, _ => simp [numF]; omega
  | 3, _ => simp [numF]; omega
  | 4, _ => simp [numF]; omega
  | 5, _ => simp [numF]; omega
  | 6, _ => simp [numF]; omega

/-- An element of six bytes. -/
theorem mac_at (m : Nat → Nat) (k : Nat) (hk : k < 6) : (#[Value.int .u8 (m 0 : Nat), .int .u8 (m 1 : Nat), .int .u8 (m 2 : Nat), .int .u8 (m 3 : Nat), .int .u8 (m 4 : Nat), .int .u8 (m 5 : Nat)] : Array Value)[k]? = some (.int .u8 (m k : Nat)) := by
  match k, hk with
  | 0, _ => rfl
  | 1, _ => rfl
  | 2, _ => rfl
  | 3, _ => rfl
  | 4, _ => rfl
  | 5, _ => rfl

/-- Its cells, as a list. -/
abbrev macL (m : Nat → Nat) : List Value := [.int .u8 (m 0 : Nat), .int .u8 (m 1 : Nat), .int .u8 (m 2 : Nat), .int .u8 (m 3 : Nat), .int .u8 (m 4 : Nat), .int .u8 (m 5 : Nat)]

theorem macL_at (m : Nat → Nat) (k : Nat) (hk : k < (macL m).length) : (macL m)[k] = .int .u8 (m k : Nat) :=
  (Array.getElem?_eq_some_iff.1 (mac_at m k hk)).2

theorem Try.info5' : (Try.prog.info? 5).map (fun i => (i.zero, i.size, i.bytes)) = some (some (.int .u8 0), 1, 1) := by kernel_rfl
theorem Try.cells5 : Try.prog.cellsOf 5 = 1 := by kernel_rfl

theorem run_index_mac (t : TypeId) (ht : Try.prog.underlying t = some (.array 6 5)) (m : Nat → Nat) (k : Nat) (W : World) (hk : k < 6) :
    (Instr.index t (mac m) (.int .i64 (k : Int))).run Try.prog W = .ok (.int .u8 (m k : Nat)) W := by
  have h1 : (0 : Int) ≤ (k : Int) ∧ (k : Int) < 6 := by omega
  obtain ⟨i, hi, _⟩ := info_parts Try.info5'
  have hs := run_sizeOf (P := Try.prog) (w := W) hi
  rw [Try.cells5] at hs
  have hl := macL_at m k hk
  simp only [macL] at hl
  simp [Instr.index, run_underlying ht, asIntOf, h1, go_sem, part, hs, hk, hl]

theorem Has.mac (w : World) (m : Nat → Nat) (t : TypeId) : Has (w.alloc (.cells #[.int .u8 (m 0 : Nat), .int .u8 (m 1 : Nat), .int .u8 (m 2 : Nat), .int .u8 (m 3 : Nat), .int .u8 (m 4 : Nat), .int .u8 (m 5 : Nat)] t)) w.heap.size (macL m) := by
  intro j hj
  match j, hj with
  | 0, _ => exact ⟨by simp, by simp⟩
  | 1, _ => exact ⟨by simp, by simp⟩
  | 2, _ => exact ⟨by simp, by simp⟩
  | 3, _ => exact ⟨by simp, by simp⟩
  | 4, _ => exact ⟨by simp, by simp⟩
  | 5, _ => exact ⟨by simp, by simp⟩

theorem num_walk2 (m : Nat → Nat) (k : Nat) (h : m k < 256) (l : numF m k < 281474976710656) :
    Value.int .u64 (bits .or .u64 (IntKind.u64.wrap ((numF m k : Int) * 256)) (m k : Int)) = Value.int .u64 (numF m (k + 1) : Nat) := by
  have e1 : IntKind.u64.wrap ((numF m k : Int) * 256) = ((numF m k * 256 : Nat) : Int) := by rw [IntKind.wrap_u64]; omega
  rw [e1, u64_or_nat _ _ (by omega) (by omega), nat_join 8 _ _ (by omega) (by omega), numF_step, Nat.mul_comm]

theorem num_walk3 (m : Nat → Nat) (k : Nat) (h : m k < 256) (l : numF m k < 281474976710656) :
    Value.int .u64 (IntKind.u64.wrap (IntKind.u64.wrap (256 * (numF m k : Int)) + (m k : Int))) = Value.int .u64 (numF m (k + 1) : Nat) := by
  rw [numF_step, IntKind.wrap_u64, IntKind.wrap_u64]
  congr 1
  omega

end Go.Proofs.Yteeinlbhcdpnnaa
