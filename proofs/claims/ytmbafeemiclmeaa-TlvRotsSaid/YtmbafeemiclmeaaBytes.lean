/- What wire.Bytes makes of a number. -/
import Derived.Test.YtmbafeemiclmeaaWire
import Derived.Test.YtmbafeemiclmeaaHas
namespace Go.Proofs.Ytmbafeemiclmeaa
open Go.RowKit
theorem Try.info5 : (Try.prog.info? 5).map (fun i => (i.zero, i.size, i.bytes)) = some (some (.int .u8 0), 1, 1) := by kernel_rfl

theorem bytes_val (x k : Nat) : Value.int .u8 ((x : Int) / 2 ^ (8 * k) % 256) = bv (UInt8.ofNat (x / 256 ^ k % 256)) := by
  have e : (UInt8.ofNat (x / 256 ^ k % 256)).toNat = x / 256 ^ k % 256 := by simp
  unfold bv
  rw [e, show (256 : Nat) = 2 ^ 8 by decide, ← Nat.pow_mul]
  simp

set_option maxHeartbeats 400000 in
theorem bytes_yes (x : Nat) (size : Nat) (w : World) (h1 : 1 ≤ size) (h8 : size ≤ 8) :
    Calls Try.prog 30 #[.int .u64 x, .int .i64 size] w fun e w' => e = .returned (.string ⟨(Nums.bytesN x size).toArray⟩) ∧ Below w.heap.size w w' := by
  have hg : goodSizeB (size : Int) = true := by unfold goodSizeB; simp; omega
  obtain ⟨i0, hi, hz0, hz1, hz2⟩ := info_parts Try.info5
  have hi1 := Lib.hid hz1
  have hi2 := Lib.hid hz2
  clear hz1 hz2
  have hb0 : Below w.heap.size w w := Below.refl _ _
  go_enter Try.func30, Try.ntmps30
  go_wp2_with (first
    | (go_at_call 40; refine (goodSize_any _ _).mono ?_; rintro e w' ⟨rfl, rfl⟩; rw [hg])
    | (at_make; refine wpList_make_full _ rfl _ _ 43 rfl w.heap.size 5 i0 (.int .u8 0) 1 Try.underlying43 hi hz0 hi1.out .i64 .i64 _ _ size rfl rfl rfl rfl (by rw [hi2.out]; omega) (by unfold maxLen; omega) (Nat.le_refl _) ?_; intro w1 hown hgrow))
  have hb := hb0.grown hgrow (Nat.le_refl _) (by simp)
  have hh := Has.of_owns hown
  clear hown hgrow
  go_loopw [6, 13] (fun _ i wr => ∃ k : Nat, k ≤ size ∧ i = .int .i64 k ∧ Has wr w.heap.size ((Nums.rowU x size k).map bv) ∧ Below w.heap.size w wr) (fun _ i _ => size - (intOf i).toNat)
  case atStart =>
    refine ⟨0, Nat.zero_le _, rfl, ?_, hb⟩
    rw [Nums.rowU_zero]
    rw [made_one _ rfl] at hh
    simpa [bv] using hh
  case round =>
    obtain ⟨k, hk, rfl, hown, hb⟩ := hrel
    by_cases hlt : k < size
    · have hl : ((Nums.rowU x size k).map bv).length = size := by simp [Nums.rowU_length]
      obtain ⟨v0, hc⟩ := hown.someAt (size - 1 - k) (by omega)
      have hf := hown.freeAt (size - 1 - k) (by omega)
      have hs := Lib.hid (hown.set (size - 1 - k) (bv (UInt8.ofNat (x / 256 ^ k % 256))))
      have hv := Lib.hid (bytes_val x k)
      have hl' := Lib.hid hl
      clear hl hh
      go_wp2
      go_roundw
      case rel =>
        refine ⟨k + 1, by omega, by go_num, ?_, hb.setCell (Nat.le_refl _) _⟩
        rw [hv.out]
        have := hs.out
        rw [← List.map_set, Nums.rowU_step x size k hlt] at this
        exact this
      case measure => simp [intOf]; omega
    · have : k = size := by omega
      subst this
      have hr := hown.text (P := Try.prog) (cap := k) 43 9 5 Try.underlying43 Try.underlying5 Try.underlying9 k (by simp [Nums.rowU_length])
      rw [Nums.rowU_all] at hr
      clear hown hh
      go_wp2
      go_ret
      exact ⟨rfl, hb⟩
end Go.Proofs.Ytmbafeemiclmeaa
