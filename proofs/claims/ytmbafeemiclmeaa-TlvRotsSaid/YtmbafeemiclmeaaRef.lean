/- The document's own answers for layer 1: powers, bits, numbers of bytes, bytes of numbers. -/
import Derived.Test.YtmbafeemiclmeaaBytes
namespace Go.Proofs.Ytmbafeemiclmeaa
open Go.RowKit

theorem pow_walk (k : Nat) (h : k < 63) : Value.int .u64 (IntKind.u64.wrap (2 ^ k * 2)) = Value.int .u64 ((2 ^ (k + 1) : Nat) : Int) := by
  have hp : (2 ^ (k + 1) : Nat) ≤ 2 ^ 63 := Nat.pow_le_pow_right (by omega) (by omega)
  have e : (2 : Int) ^ k * 2 = ((2 ^ (k + 1) : Nat) : Int) := by rw [Nat.pow_succ]; simp
  rw [IntKind.wrap_u64, e]
  generalize 2 ^ (k + 1) = z at *
  congr 1
  omega

theorem pow_ne (k : Nat) : ¬ (2 : Int) ^ k = 0 := by
  have := Nums.two_pos k
  have e : (2 : Int) ^ k = ((2 ^ k : Nat) : Int) := by simp
  rw [e]
  omega

theorem div_one (y : Nat) (m : Nat) : y % 2 ^ (m + 1) = 2 * (y / 2 % 2 ^ m) + y % 2 := by
  rw [Nat.pow_succ, Nat.mul_comm, Nat.mod_mul]
  omega

theorem fieldStep (x a k n : Nat) (hx : x < 18446744073709551616) (hk : k < n) :
    Value.int .u64 (IntKind.u64.wrap (IntKind.u64.wrap (2 * ((x : Int) / 2 ^ (a + (k + 1)) % 2 ^ (n - (k + 1)))) + (IntKind.u64.wrap ((x : Int) / 2 ^ (a + k))).tmod 2)) = Value.int .u64 ((x / 2 ^ (a + k) % 2 ^ (n - k) : Nat) : Int) := by
  have e : n - k = (n - (k + 1)) + 1 := by omega
  have f : x / 2 ^ (a + (k + 1)) = x / 2 ^ (a + k) / 2 := by rw [Nat.div_div_eq_div_mul, ← Nat.pow_succ]; rfl
  have g := div_one (x / 2 ^ (a + k)) (n - (k + 1))
  have l : x / 2 ^ (a + k) % 2 ^ (n - k) < 18446744073709551616 := Nat.lt_of_le_of_lt (Nat.mod_le _ _) (Nat.lt_of_le_of_lt (Nat.div_le_self _ _) hx)
  have l2 : x / 2 ^ (a + k) < 18446744073709551616 := Nat.lt_of_le_of_lt (Nat.div_le_self _ _) hx
  have c1 : (x : Int) / 2 ^ (a + (k + 1)) % 2 ^ (n - (k + 1)) = ((x / 2 ^ (a + (k + 1)) % 2 ^ (n - (k + 1)) : Nat) : Int) := by simp
  have c2 : (x : Int) / 2 ^ (a + k) = ((x / 2 ^ (a + k) : Nat) : Int) := by simp
  rw [c1, c2, f, IntKind.wrap_u64, IntKind.wrap_u64, IntKind.wrap_u64]
  rw [e] at l ⊢
  generalize x / 2 ^ (a + k) = y at *
  generalize 2 ^ (n - (k + 1)) = z at *
  have : ((y : Int) % 18446744073709551616).tmod 2 = ((y % 2 : Nat) : Int) := by
    rw [Int.tmod_eq_emod_of_nonneg (by omega)]; omega
  rw [this]
  congr 1
  omega

theorem numL_take_succ (l : List UInt8) (k : Nat) (h : k < l.length) : Nums.numL (l.take (k + 1)) = 256 * Nums.numL (l.take k) + l[k].toNat := by
  rw [List.take_succ_eq_append_getElem h, Nums.numL_snoc]

theorem number_walk (s : ByteArray) (k : Nat) (h : k < s.size) (h8 : s.size ≤ 8) :
    Value.int .u64 (IntKind.u64.wrap (IntKind.u64.wrap (256 * ((Nums.numL (s.data.toList.take k) : Nat) : Int)) + IntKind.u64.wrap ((s[k].toNat : Nat) : Int))) = Value.int .u64 ((Nums.numL (s.data.toList.take (k + 1)) : Nat) : Int) := by
  have hk : k < s.data.toList.length := by simpa using h
  have e := numL_take_succ s.data.toList k hk
  have l := Nums.numL_lt (s.data.toList.take (k + 1))
  have p : 256 ^ (s.data.toList.take (k + 1)).length ≤ 256 ^ 8 := Nat.pow_le_pow_right (by omega) (by simp; omega)
  have c : s.data.toList[k].toNat = s[k].toNat := rfl
  rw [c] at e
  have := s[k].toNat_lt
  rw [IntKind.wrap_u64, IntKind.wrap_u64, IntKind.wrap_u64]
  have p' : Nums.numL (s.data.toList.take (k + 1)) < 18446744073709551616 := Nat.lt_of_lt_of_le l p
  generalize Nums.numL (s.data.toList.take (k + 1)) = a at *
  generalize Nums.numL (s.data.toList.take k) = b at *
  congr 1
  omega

set_option maxHeartbeats 400000 in
theorem number_any (s : ByteArray) (w : World) (h8 : s.size ≤ 8) :
    Calls Try.prog 27 #[.string s] w fun e w' => e = .returned (.int .u64 (Nums.numL s.data.toList : Nat)) ∧ w = w' := by
  go_enter Try.func27, Try.ntmps27
  go_wp2
  go_loop [3, 4] (fun p i => ∃ k : Nat, k ≤ s.size ∧ i = .int .i64 k ∧ p = .int .u64 ((Nums.numL (s.data.toList.take k) : Nat) : Int)) (fun _ i => s.size - (intOf i).toNat)
  case atStart => exact ⟨0, by omega, rfl, rfl⟩
  case round =>
    obtain ⟨k, hk, rfl, rfl⟩ := hrel
    by_cases hlt : k < s.size
    · have hv := Lib.hid (number_walk s k hlt h8)
      go_wp2
      go_round
      case rel => exact ⟨k + 1, by omega, by go_num, hv.out⟩
      case measure => simp [intOf]; omega
    · have hk' : s.data.toList.take k = s.data.toList := List.take_of_length_le (by simp; omega)
      have hv := Lib.hid hk'
      clear hk'
      go_wp2
      go_ret
      exact ⟨ret_int (by rw [hv.out]), rfl⟩

theorem one_text (w : World) (v : Int) (b : UInt8) (h : v = (b.toNat : Int)) :
    (convert 43 9 (.slice (some ⟨w.heap.size, 0, none⟩) 1 1)).run Try.prog (w.alloc (.cells #[.int .u8 v] 5)) = .ok (.string ⟨#[b]⟩) (w.alloc (.cells #[.int .u8 v] 5)) := by
  have h1 : Has (w.alloc (.cells #[.int .u8 v] 5)) w.heap.size ([b].map bv) := by
    intro j hj
    have : j = 0 := by simpa using hj
    subst this
    exact ⟨by simp [bv, h], by simp⟩
  exact h1.text 43 9 5 Try.underlying43 Try.underlying5 Try.underlying9 1 rfl

theorem rbytes_val (x k : Nat) : ((x : Int) / 256 ^ k).tmod 256 % 256 = ((UInt8.ofNat (x / 256 ^ k % 256)).toNat : Int) := by
  have e : (UInt8.ofNat (x / 256 ^ k % 256)).toNat = x / 256 ^ k % 256 := by simp
  have c : (x : Int) / 256 ^ k = ((x / 256 ^ k : Nat) : Int) := by simp
  rw [e, c]
  generalize x / 256 ^ k = y
  rw [Int.tmod_eq_emod_of_nonneg (by omega)]
  omega

theorem rbytes_next (x k : Nat) (hx : x < 18446744073709551616) : Value.int .u64 (IntKind.u64.wrap (((x : Int) / 256 ^ k).tdiv 256)) = Value.int .u64 ((x / 256 ^ (k + 1) : Nat) : Int) := by
  have c : (x : Int) / 256 ^ k = ((x / 256 ^ k : Nat) : Int) := by simp
  have f : x / 256 ^ (k + 1) = x / 256 ^ k / 256 := by rw [Nat.div_div_eq_div_mul, ← Nat.pow_succ]
  have l : x / 256 ^ k < 18446744073709551616 := Nat.lt_of_le_of_lt (Nat.div_le_self _ _) hx
  rw [c, f, IntKind.wrap_u64]
  generalize x / 256 ^ k = y at *
  rw [Int.tdiv_eq_ediv_of_nonneg (by omega)]
  congr 1
  omega

theorem rbytes_cat (x k : Nat) : Value.string ((⟨#[UInt8.ofNat (x / 256 ^ k % 256)]⟩ : ByteArray) ++ ⟨(Nums.bytesN x k).toArray⟩) = Value.string ⟨(Nums.bytesN x (k + 1)).toArray⟩ := by
  congr 1

set_option maxHeartbeats 400000 in
theorem rbytes_yes (x : Nat) (size : Nat) (w : World) (h1 : 1 ≤ size) (h8 : size ≤ 8) (hx : x < 18446744073709551616) :
    Calls Try.prog 22 #[.int .u64 x, .int .i64 size] w fun e w' => e = .returned (.string ⟨(Nums.bytesN x size).toArray⟩) ∧ Below w.heap.size w w' := by
  have d1 : ¬ ((size : Int) < 1) := by omega
  have d2 : ¬ ((8 : Int) < size) := by omega
  go_enter Try.func22, Try.ntmps22
  go_wp2
  go_loopw [0, 5, 6] (fun n o i wr => ∃ k : Nat, k ≤ size ∧ i = .int .i64 k ∧ n = .int .u64 ((x / 256 ^ k : Nat) : Int) ∧ o = .string ⟨(Nums.bytesN x k).toArray⟩ ∧ Below w.heap.size w wr) (fun _ _ i _ => size - (intOf i).toNat)
  case atStart => exact ⟨0, by omega, rfl, by simp, rfl, Below.refl _ _⟩
  case round =>
    obtain ⟨k, hk, rfl, rfl, rfl, hb⟩ := hrel
    by_cases hlt : k < size
    · have hr := one_text wr _ _ (rbytes_val x k)
      have hcat : 1 + (Nums.bytesN x k).length ≤ 9223372036854775807 := by rw [Nums.bytesN_length]; omega
      have h1 := Lib.hid (rbytes_next x k hx)
      have h2 := Lib.hid (rbytes_cat x k)
      have hs := hb.size
      go_wp2
      go_roundw
      case rel => exact ⟨k + 1, by omega, by go_num, h1.out, h2.out, hb.alloc hs _⟩
      case measure => simp [intOf]; omega
    · have : k = size := by omega
      subst this
      go_wp2
      go_ret
      exact ⟨rfl, hb⟩

set_option maxHeartbeats 400000 in
theorem bytes_no (x : Nat) (n : Int) (w : World) (h : n < 1 ∨ 8 < n) :
    Calls Try.prog 30 #[.int .u64 x, .int .i64 n] w fun e w' => e = .returned (.string ⟨#[]⟩) ∧ w = w' := by
  have hg : goodSizeB n = false := by unfold goodSizeB; simp; omega
  clear h
  go_enter Try.func30, Try.ntmps30
  go_wp2_with (go_at_call 40; refine (goodSize_any _ _).mono ?_; rintro e w' ⟨rfl, rfl⟩; rw [hg])
  go_ret
  exact ⟨rfl, rfl⟩

set_option maxHeartbeats 400000 in
theorem rbytes_no (x : Nat) (n : Int) (w : World) (h : n < 1 ∨ 8 < n) :
    Calls Try.prog 22 #[.int .u64 x, .int .i64 n] w fun e w' => e = .returned (.string ⟨#[]⟩) ∧ w = w' := by
  by_cases c : n < 1
  · clear h
    go_enter Try.func22, Try.ntmps22
    go_wp2
    go_ret
    exact ⟨rfl, rfl⟩
  · have d : 8 < n := by omega
    clear h
    go_enter Try.func22, Try.ntmps22
    go_wp2
    go_ret
    exact ⟨rfl, rfl⟩
end Go.Proofs.Ytmbafeemiclmeaa
