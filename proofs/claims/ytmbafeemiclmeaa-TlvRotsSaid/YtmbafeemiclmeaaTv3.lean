/- Sums of images. -/
import Derived.Test.YtmbafeemiclmeaaTv2
namespace Go.Proofs.Ytmbafeemiclmeaa
open Go.RowKit
set_option linter.unusedSimpArgs false
set_option linter.unusedVariables false

theorem and_join (x y a b : Nat) (ha : a < 256) (hb : b < 256) : (256 * x + a) &&& (256 * y + b) = 256 * (x &&& y) + (a &&& b) := by
  apply Nat.eq_of_testBit_eq
  intro i
  have h := Nat.and_lt_two_pow (n := 8) a (y := b) (by omega)
  rw [Nat.testBit_and, show 256 = 2 ^ 8 from rfl, Nat.testBit_two_pow_mul_add _ (by omega), Nat.testBit_two_pow_mul_add _ (by omega), Nat.testBit_two_pow_mul_add _ h]
  split <;> simp [Nat.testBit_and]
theorem or_join (x y a b : Nat) (ha : a < 256) (hb : b < 256) : (256 * x + a) ||| (256 * y + b) = 256 * (x ||| y) + (a ||| b) := by
  apply Nat.eq_of_testBit_eq
  intro i
  have h := Nat.or_lt_two_pow (n := 8) (x := a) (y := b) (by omega) (by omega)
  rw [Nat.testBit_or, show 256 = 2 ^ 8 from rfl, Nat.testBit_two_pow_mul_add _ (by omega), Nat.testBit_two_pow_mul_add _ (by omega), Nat.testBit_two_pow_mul_add _ h]
  split <;> simp [Nat.testBit_or]
theorem and_byte (a : Nat) (h : a < 256) : a &&& 255 = a := by
  have := Nat.and_two_pow_sub_one_eq_mod a 8
  rw [show 2 ^ 8 - 1 = 255 from rfl] at this
  rw [this]
  omega
def revN (n : Nat) : Nat := n % 256 * 16777216 + n / 256 % 256 * 65536 + n / 65536 % 256 * 256 + n / 16777216
theorem rev_mask (a b c d : Nat) (ha : a < 256) (hb : b < 256) (hc : c < 256) (hd : d < 256) : (256 * (256 * (256 * d + c) + b) + a) &&& 16711935 = 256 * (256 * (256 * 0 + c) + 0) + a := by
  rw [show 16711935 = 256 * (256 * (256 * 0 + 255) + 0) + 255 from rfl, and_join _ _ _ _ ha (by omega), and_join _ _ _ _ hb (by omega), and_join _ _ _ _ hc (by omega), and_byte _ ha, and_byte _ hc]
  simp
theorem rev_mix (a b c d : Nat) (ha : a < 256) (hb : b < 256) (hc : c < 256) (hd : d < 256) : (256 * (256 * (256 * 0 + d) + 0) + b) ||| (256 * (256 * (256 * c + 0) + a) + 0) = 256 * (256 * (256 * c + d) + a) + b := by
  rw [or_join _ _ _ _ hb (by omega), or_join _ _ _ _ (by omega) ha, or_join _ _ _ _ hd (by omega)]
  simp
theorem rev_walk (n : Nat) (h : n < 4294967296) : ∃ m : Nat, bits .or .u32 (bits .and .u32 ((n : Int) / 256) 16711935) (bits .and .u32 (n : Int) 16711935 * 256 % 4294967296) = (m : Int) ∧ m < 4294967296 ∧ bits .or .u32 ((m : Int) / 65536) ((m : Int) * 65536 % 4294967296) = (revN n : Int) := by
  obtain ⟨a, ha⟩ : ∃ a, a = n % 256 := ⟨_, rfl⟩
  obtain ⟨b, hb⟩ : ∃ b, b = n / 256 % 256 := ⟨_, rfl⟩
  obtain ⟨c, hc⟩ : ∃ c, c = n / 65536 % 256 := ⟨_, rfl⟩
  obtain ⟨d, hd⟩ : ∃ d, d = n / 16777216 := ⟨_, rfl⟩
  have hn : n = 256 * (256 * (256 * d + c) + b) + a := by omega
  have hr : revN n = 256 * (256 * (256 * a + b) + c) + d := by unfold revN; rw [← ha, ← hb, ← hc, ← hd]; omega
  have a1 : a < 256 := by omega
  have b1 : b < 256 := by omega
  have c1 : c < 256 := by omega
  have d1 : d < 256 := by omega
  rw [hr]
  clear hr ha hb hc hd
  have e1 : (n : Int) / 256 = ((256 * (256 * (256 * 0 + d) + c) + b : Nat) : Int) := by omega
  have e2 : (n : Int) = ((256 * (256 * (256 * d + c) + b) + a : Nat) : Int) := by omega
  refine ⟨256 * (256 * (256 * c + d) + a) + b, ?_, by omega, ?_⟩
  · rw [e1, e2, show (16711935 : Int) = ((16711935 : Nat) : Int) from rfl, u32_and_nat _ _ (by omega) (by omega), u32_and_nat _ _ (by omega) (by omega), rev_mask _ _ _ _ b1 c1 d1 (by omega), rev_mask _ _ _ _ a1 b1 c1 d1, show (((256 * (256 * (256 * 0 + c) + 0) + a : Nat) : Int) * 256 % 4294967296) = ((256 * (256 * (256 * c + 0) + a) + 0 : Nat) : Int) by omega, u32_or_nat _ _ (by omega) (by omega), rev_mix _ _ _ _ a1 b1 c1 d1]
  · rw [show (((256 * (256 * (256 * c + d) + a) + b : Nat) : Int) / 65536) = ((256 * (256 * 0 + c) + d : Nat) : Int) by omega,
      show (((256 * (256 * (256 * c + d) + a) + b : Nat) : Int) * 65536 % 4294967296) = ((256 * (256 * (256 * a + b) + 0) + 0 : Nat) : Int) by omega, u32_or_nat _ _ (by omega) (by omega), or_join _ _ _ _ d1 (by omega), or_join _ _ _ _ c1 (by omega)]
    simp
theorem revN_lt (n : Nat) (h : n < 4294967296) : revN n < 4294967296 := by unfold revN; omega
theorem rev_le4 (n : Nat) (h : n < 4294967296) : Nums.bytesN (revN n) 4 = Crc.le4 n := by
  show [UInt8.ofNat (revN n / 16777216 % 256), UInt8.ofNat (revN n / 65536 % 256), UInt8.ofNat (revN n / 256 % 256), UInt8.ofNat (revN n / 1 % 256)] = _
  unfold Crc.le4
  obtain ⟨a, ha⟩ : ∃ a, a = n % 256 := ⟨_, rfl⟩
  obtain ⟨b, hb⟩ : ∃ b, b = n / 256 % 256 := ⟨_, rfl⟩
  obtain ⟨c, hc⟩ : ∃ c, c = n / 65536 % 256 := ⟨_, rfl⟩
  obtain ⟨d, hd⟩ : ∃ d, d = n / 16777216 := ⟨_, rfl⟩
  have hr : revN n = 256 * (256 * (256 * a + b) + c) + d := by unfold revN; rw [← ha, ← hb, ← hc, ← hd]; omega
  have a1 : a < 256 := by omega
  have b1 : b < 256 := by omega
  have c1 : c < 256 := by omega
  have d1 : d < 256 := by omega
  rw [hr, ← ha, ← hb, ← hc, ← hd]
  clear ha hb hc hd hr
  have e0 : (256 * (256 * (256 * a + b) + c) + d) / 16777216 % 256 = a := by omega
  have e1 : (256 * (256 * (256 * a + b) + c) + d) / 65536 % 256 = b := by
    have : (256 * (256 * (256 * a + b) + c) + d) / 65536 = 256 * a + b := by omega
    omega
  have e2 : (256 * (256 * (256 * a + b) + c) + d) / 256 % 256 = c := by
    have : (256 * (256 * (256 * a + b) + c) + d) / 256 = 256 * (256 * a + b) + c := by omega
    omega
  have e3 : (256 * (256 * (256 * a + b) + c) + d) / 1 % 256 = d := by
    rw [Nat.div_one]
    omega
  rw [e0, e1, e2, e3, Nat.mod_eq_of_lt d1]
set_option maxHeartbeats 400000 in
theorem rev_any (n : Nat) (w : World) (h : n < 4294967296) : Calls Try.prog 32 #[.int .u32 n] w fun e w' => e = .returned (.int .u32 (revN n)) ∧ w = w' := by
  obtain ⟨m, h1, h2, h3⟩ := rev_walk n h
  have H1 := Lib.hid h1
  have H3 := Lib.hid h3
  clear h1 h3
  go_enter Try.func32, Try.ntmps32
  go_upto_region 2 with fail
  rw [H1.out]
  go_wp2
  go_ret
  exact ⟨ret_int H3.out, rfl⟩
theorem le4_val (N : Nat) (hN : N < 4294967296) : #[Value.int .u8 ((N : Int) % 256), .int .u8 ((N : Int) / 256 % 256), .int .u8 ((N : Int) / 65536 % 256), .int .u8 ((N : Int) / 16777216)] = ((Crc.le4 N).map bv).toArray := by
  simp only [Crc.le4, List.map_cons, List.map_nil, bv]
  have e : N / 16777216 % 256 = N / 16777216 := by omega
  rw [e]
  simp
  omega
set_option maxRecDepth 100000 in
set_option maxHeartbeats 4000000 in
theorem sum_text (s : ByteArray) (w : World) (hm : s.size ≤ 9223372036854775807) : Calls Try.prog 21 #[.string s] w fun e w' => e = .returned (.string ⟨(Crc.le4 (Crc.sum s.data.toList)).toArray⟩) ∧ Below w.heap.size w w' := by
  have hz := zero44
  go_enter Try.func21, Try.ntmps21
  go_upto_region 1 with fail
  go_wp2_with (fail)
  refine (make_any _).mono ?_
  rintro e w1 ⟨rfl, hb1⟩
  have hi := Lib.hid size44
  have hone := Lib.hid (tblK_one 256)
  have hn := Lib.hid (Blk.new w1 zeros 39)
  obtain ⟨hT, hg⟩ := stored w1
  have HT := Lib.hid hT
  have HG := Lib.hid hg
  clear hT hg
  go_wp2_with (refine wpList_store_row rfl 39 _ _ rfl w1.heap.size (tblK 256) rfl rfl 39 zeros hn.out hi.out (by rw [tblK_size]; rfl) hone.out ?_)
  have hB2 := hb1.grown HG.out (Nat.le_trans (Nat.le_refl _) hb1.size) (by simp)
  generalize ((w1.alloc (Obj.cells zeros 39)).setRow w1.heap.size (tblK 256)) = w2 at *
  generalize w1.heap.size = G at *
  have hT := Lib.hid HT.out
  clear HT hb1 hn HG hi hone hz
  refine (sum_any G s _ hT.out hm).mono ?_
  rintro e w3 ⟨rfl, q⟩
  have hlt := Crc.sum_lt s.data.toList
  obtain ⟨N, hN⟩ : ∃ N, N = Crc.sum s.data.toList := ⟨_, rfl⟩
  rw [← hN] at hlt ⊢
  have hb3 : Below w.heap.size w w3 := by
    obtain ⟨n, rfl⟩ := q
    exact below_drewN hB2 n
  have HN := Lib.hid hN
  clear q hN
  have e4 := Lib.hid (rev_le4 N hlt)
  have e5 := Lib.hid (show IntKind.u64.wrap (revN N : Int) = (revN N : Int) by rw [IntKind.wrap_u64]; have := revN_lt N hlt; omega)
  have e6 : (revN N : Int) % 18446744073709551616 = (revN N : Int) := by have := revN_lt N hlt; omega
  go_wp2_with (first
    | (go_at_call 32; refine (rev_any N _ hlt).mono ?_; rintro e w4 ⟨rfl, rfl⟩)
    | (go_at_call 30; refine (bytes_yes (revN N) 4 _ (by omega) (by omega)).mono ?_; rintro e w5 ⟨rfl, hb5⟩))
  go_ret
  exact ⟨by rw [← HN.out, ← e4.out]; rfl, hb3.trans (hb5.mono hb3.size)⟩
set_option maxRecDepth 100000 in
set_option maxHeartbeats 4000000 in
theorem rsum_text (s : ByteArray) (w : World) (hm : s.size ≤ 9223372036854775807) : Calls Try.prog 23 #[.string s] w fun e w' => e = .returned (.string ⟨(Crc.le4 (Crc.sum s.data.toList)).toArray⟩) ∧ Below w.heap.size w w' := by
  go_enter Try.func23, Try.ntmps23
  go_upto_region 2 with (go_at_call 33; refine (rsum_any _ _ hm).mono ?_; rintro e w1 ⟨rfl, rfl⟩)
  have hlt := Crc.sum_lt s.data.toList
  obtain ⟨N, hN⟩ : ∃ N, N = Crc.sum s.data.toList := ⟨_, rfl⟩
  rw [← hN] at hlt ⊢
  have HN := Lib.hid hN
  clear hN
  have hb := Blk.new w #[Value.int .u8 ((N : Int) % 256), .int .u8 ((N : Int) / 256 % 256), .int .u8 ((N : Int) / 65536 % 256), .int .u8 ((N : Int) / 16777216)] 5
  have hh : Has (w.alloc (.cells #[Value.int .u8 ((N : Int) % 256), .int .u8 ((N : Int) / 256 % 256), .int .u8 ((N : Int) / 65536 % 256), .int .u8 ((N : Int) / 16777216)] 5)) w.heap.size ((Crc.le4 N).map bv) := by
    intro j hj
    refine ⟨?_, hb.free j⟩
    have := hb.cell j
    rw [le4_val N hlt] at this ⊢
    rw [List.getElem?_toArray, List.getElem?_eq_getElem hj] at this
    exact this
  have hrun := hh.text (P := Try.prog) (cap := 4) 43 9 5 Try.underlying43 Try.underlying5 Try.underlying9 4 rfl
  clear hh hb
  go_wp2
  go_ret
  exact ⟨by rw [← HN.out]; rfl, (Below.refl _ _).alloc (Nat.le_refl _) _⟩
end Go.Proofs.Ytmbafeemiclmeaa
