/- How addr shows an address, and the document's own answer. -/
import Derived.Test.YtkohnleeiajiiaaTell
import Derived.Maps.AppendAt
namespace Go.Proofs.Ytkohnleeiajiiaa
open Go.RowKit

/-- The first places of an address, shown. -/
def showT (m : Nat → Nat) : Nat → List UInt8
  | 0 => []
  | k + 1 => showT m k ++ ((if k = 0 then [] else [58]) ++ [UInt8.ofNat (digN (m k / 16)), UInt8.ofNat (digN (m k % 16))])

theorem showT_len (m : Nat → Nat) (k : Nat) : (showT m k).length = if k = 0 then 0 else 3 * k - 1 := by
  induction k with
  | zero => rfl
  | succ k ih =>
    simp only [showT, List.length_append, ih]
    by_cases c : k = 0
    · subst c; simp
    · rw [if_neg c, if_neg c, if_neg (by omega)]; simp; omega

def digits : ByteArray := ⟨#[48, 49, 50, 51, 52, 53, 54, 55, 56, 57, 97, 98, 99, 100, 101, 102]⟩

theorem digits_all : ∀ n : Fin 16, (digits[n.val]'n.isLt).toNat = digN n.val := by decide
theorem digits_at (n : Nat) (hn : n < digits.size) : digits[n].toNat = digN n := digits_all ⟨n, hn⟩

theorem digN_lt (n : Nat) : digN n < 256 := Nat.mod_lt _ (by omega)

theorem run_digits (n : Nat) (hn : n < 16) (W : World) : (Instr.index 9 (.string ⟨#[48, 49, 50, 51, 52, 53, 54, 55, 56, 57, 97, 98, 99, 100, 101, 102]⟩) (.int .u64 (n : Int))).run Try.prog W = .ok (.int .u8 (digN n : Nat)) W := by
  have := run_index_string (P := Try.prog) W 9 digits .u64 (n : Int) Try.underlying9
  have hs : n < digits.size := hn
  rw [dif_pos ⟨by omega, by show (n : Int) < 16; omega⟩] at this
  rw [show (⟨#[48, 49, 50, 51, 52, 53, 54, 55, 56, 57, 97, 98, 99, 100, 101, 102]⟩ : ByteArray) = digits from rfl, this]
  have e := digits_at n hs
  simp only [Int.toNat_natCast]
  rw [e]

theorem field_hi (x : Nat) (h : x < 256) : Nums.fieldN x 4 4 = x / 16 := by
  unfold Nums.fieldN
  rw [if_pos (by unfold Nums.good; omega)]
  show x / 2 ^ 4 % 2 ^ 4 = _
  omega
theorem field_lo (x : Nat) : Nums.fieldN x 0 4 = x % 16 := by
  unfold Nums.fieldN
  rw [if_pos (by unfold Nums.good; omega)]
  show x / 2 ^ 0 % 2 ^ 4 = _
  omega

theorem one_cell (v : Value) (h : v.oneCell' = true) : ∀ u ∈ [v], u.oneCell' = true := by
  intro u hu
  rw [List.mem_singleton.1 hu]
  exact h

theorem showT_first (m : Nat → Nat) : (showT m 0).map bv ++ [Value.int .u8 (digN (m 0 / 16) : Nat)] ++ [Value.int .u8 (digN (m 0 % 16) : Nat)] = (showT m 1).map bv := by
  have h1 := digN_lt (m 0 / 16)
  have h2 := digN_lt (m 0 % 16)
  simp [showT, bv]
  omega

theorem showT_next (m : Nat → Nat) (k : Nat) (hk : 0 < k) : (showT m k).map bv ++ [Value.int .u8 58] ++ [Value.int .u8 (digN (m k / 16) : Nat)] ++ [Value.int .u8 (digN (m k % 16) : Nat)] = (showT m (k + 1)).map bv := by
  have h1 := digN_lt (m k / 16)
  have h2 := digN_lt (m k % 16)
  have h3 : k ≠ 0 := by omega
  simp [showT, bv, h3]
  omega

set_option maxRecDepth 100000 in
set_option maxHeartbeats 2000000 in
theorem show_any (m : Nat → Nat) (w : World) (hm : Six m) : Calls Try.prog 17 #[mac m] w fun e w' => e = .returned (.string ⟨(showT m 6).toArray⟩) ∧ Below w.heap.size w w' := by
  have b0 : Below w.heap.size w w := Below.refl _ _
  have H := Lib.hid hm
  obtain ⟨i0, hi, hz0, hz1, hz2⟩ := info_parts Try.info5'
  have hi1 := Lib.hid hz1
  have hi2 := Lib.hid hz2
  have hsz := Lib.hid size25
  clear hz1 hz2 hm
  go_enter Try.func17, Try.ntmps17
  go_wp2_with (first
    | (at_make; refine wpList_make_own _ rfl _ _ 76 rfl (w.heap.size + 1) 5 i0 (.int .u8 0) 1 Try.underlying76 hi hz0 hi1.out .i64 .i64 _ 17 rfl rfl rfl (by rw [hi2.out]; omega) (by unfold maxLen; omega) (by simp) ?_; intro w1 hown hgrow
       have rb := Lib.hid ((Blk.new w (macA m) 39).grown hgrow (by simp)))
    | (refine wpList_load_row rfl 39 _ rfl w.heap.size rfl 39 _ (0, 0) _ rb.out Try.underlying39 rfl hsz.out ?_))
  have hb1 := (b0.alloc (Nat.le_refl _) _).grown hgrow (by simp) (by simp)
  have hs1 := hgrow.size
  rw [show (w.alloc (Obj.cells (macA m) 39)).heap.size = w.heap.size + 1 by simp] at hs1 hown
  clear hgrow rb b0
  generalize hBe : w.heap.size = B at *
  have HB := Lib.hid hBe
  clear hBe
  go_loopw [3, 10] (fun b i wr => ∃ (k n : Nat), k ≤ 6 ∧ i = .int .i64 (k : Int) ∧ (showT m k).length = n ∧ b = .slice (some ⟨B + 1, 0, none⟩) n 17 ∧ wr.ownsRow (B + 1) 5 1 (.slice (some ⟨B + 1, 0, none⟩) n 17) n ((showT m k).map bv) ∧ Below B w wr ∧ B + 1 ≤ wr.heap.size) (fun _ i _ => 6 - (intOf i).toNat)
  case atStart => exact ⟨0, 0, by omega, rfl, rfl, rfl, hown, hb1, hs1⟩
  case round =>
    obtain ⟨k, n, hk, rfl, hn, rfl, hown, hb, hs⟩ := hrel
    have HN := Lib.hid hn
    have ho := Lib.hid hown
    clear hn hown hb1 hs1
    by_cases hlt : k < 6
    · have hm := H.out.at k hlt
      obtain ⟨d1, hd1⟩ : ∃ d, d = m k / 16 := ⟨_, rfl⟩
      obtain ⟨d2, hd2⟩ : ∃ d, d = m k % 16 := ⟨_, rfl⟩
      have hf1 := Lib.hid (show Nums.fieldN (m k) 4 4 = d1 by rw [hd1]; exact field_hi (m k) hm)
      have hf2 := Lib.hid (show Nums.fieldN (m k) 0 4 = d2 by rw [hd2]; exact field_lo (m k))
      have l1 : d1 < 16 := by omega
      have l2 : d2 < 16 := by omega
      have D1 := Lib.hid hd1
      have D2 := Lib.hid hd2
      clear hd1 hd2
      have hd1 := fun W => run_digits d1 l1 W
      have hd2 := fun W => run_digits d2 l2 W
      by_cases c : k = 0
      · subst c
        have hn0 : n = 0 := by have := HN.out; rw [← this]; rfl
        subst hn0
        have hidx : ∀ W, (Instr.index 39 (mac m) (.int .i64 0)).run Try.prog W = .ok (.int .u8 (m 0 : Nat)) W := fun W => run_index_mac 39 Try.underlying39 m 0 W hlt
        go_wp2_with fail
        refine wp_loop_rounds 3 ?_
        rw [rounds_succ]
        go_wp2_with (first
          | (go_at_call 40; refine (field_any (m 0) 4 4 _ (by omega)).mono ?_; rintro e w' ⟨rfl, rfl⟩; rw [hf1.out])
          | (at_builtin; refine wpList_append_fits _ rfl _ _ 76 rfl (B + 1) 5 i0 1 Try.underlying76 hi hi1.out (B + 1) 0 17 _ rfl (ho.out.alloc _) ⟨wr.heap.size, 0, none⟩ 1 1 [.int .u8 (digN d1 : Nat)] rfl rfl (cell_one_new _ _ _) (one_cell _ rfl) (by omega) ?_; intro w2 hown2 hgrow2))
        rw [rounds_succ]
        go_wp2_with (first
          | (go_at_call 40; refine (field_any (m 0) 0 4 _ (by omega)).mono ?_; rintro e w' ⟨rfl, rfl⟩; rw [hf2.out])
          | (at_builtin; refine wpList_append_fits _ rfl _ _ 76 rfl (B + 1) 5 i0 1 Try.underlying76 hi hi1.out (B + 1) 1 17 _ rfl (hown2.alloc _) ⟨w2.heap.size, 0, none⟩ 1 1 [.int .u8 (digN d2 : Nat)] rfl rfl (cell_one_new _ _ _) (one_cell _ rfl) (by omega) ?_; intro w3 hown3 hgrow3))
        rw [rounds_succ]
        go_wp2_with fail
        have hB2 := (hb.alloc (by omega) _).grown hgrow2 (by simp; omega) (by simp)
        have hB3 := (hB2.alloc (by have := hgrow2.size; simp at this; omega) _).grown hgrow3 (by have := hgrow2.size; simp at this; simp; omega) (by simp)
        have hs3 : B + 1 ≤ w3.heap.size := by have := hgrow2.size; have := hgrow3.size; simp at *; omega
        rw [D1.out, D2.out, showT_first] at hown3
        have ho3 := Lib.hid hown3
        clear hown2 hown3 hgrow2 hgrow3
        go_roundw
        case rel => exact ⟨1, 2, by omega, rfl, by rw [showT_len]; rfl, rfl, ho3.out, hB3, hs3⟩
        case measure => simp [intOf]
      · have hidx := fun W => run_index_mac 39 Try.underlying39 m k W hlt
        have hk0 : ¬ (k : Int) ≤ 0 := by omega
        have hn17 : n + 3 ≤ 17 := by
          have h := HN.out
          rw [showT_len, if_neg c] at h
          omega
        have hc' : 0 < k := by omega
        clear c
        go_wp2_with (first
          | (at_builtin; refine wpList_append_fits _ rfl _ _ 76 rfl (B + 1) 5 i0 1 Try.underlying76 hi hi1.out (B + 1) n 17 _ rfl (ho.out.alloc _) ⟨wr.heap.size, 0, none⟩ 1 1 [.int .u8 58] rfl rfl (cell_one_new _ _ _) (one_cell _ rfl) (by omega) ?_; intro w2 hown2 hgrow2))
        refine wp_loop_rounds 3 ?_
        rw [rounds_succ]
        go_wp2_with (first
          | (go_at_call 40; refine (field_any (m k) 4 4 _ (by omega)).mono ?_; rintro e w' ⟨rfl, rfl⟩; rw [hf1.out])
          | (at_builtin; refine wpList_append_fits _ rfl _ _ 76 rfl (B + 1) 5 i0 1 Try.underlying76 hi hi1.out (B + 1) (n + 1) 17 _ rfl (hown2.alloc _) ⟨w2.heap.size, 0, none⟩ 1 1 [.int .u8 (digN d1 : Nat)] rfl rfl (cell_one_new _ _ _) (one_cell _ rfl) (by omega) ?_; intro w3 hown3 hgrow3))
        rw [rounds_succ]
        go_wp2_with (first
          | (go_at_call 40; refine (field_any (m k) 0 4 _ (by omega)).mono ?_; rintro e w' ⟨rfl, rfl⟩; rw [hf2.out])
          | (at_builtin; refine wpList_append_fits _ rfl _ _ 76 rfl (B + 1) 5 i0 1 Try.underlying76 hi hi1.out (B + 1) (n + 1 + 1) 17 _ rfl (hown3.alloc _) ⟨w3.heap.size, 0, none⟩ 1 1 [.int .u8 (digN d2 : Nat)] rfl rfl (cell_one_new _ _ _) (one_cell _ rfl) (by omega) ?_; intro w4 hown4 hgrow4))
        rw [rounds_succ]
        go_wp2_with fail
        have g2 := hgrow2.size
        have g3 := hgrow3.size
        have g4 := hgrow4.size
        simp at g2 g3 g4
        have hB2 := (hb.alloc (by omega) _).grown hgrow2 (by simp; omega) (by simp)
        have hB3 := (hB2.alloc (by omega) _).grown hgrow3 (by simp; omega) (by simp)
        have hB4 := (hB3.alloc (by omega) _).grown hgrow4 (by simp; omega) (by simp)
        have hs4 : B + 1 ≤ w4.heap.size := by omega
        rw [D1.out, D2.out, showT_next m k hc'] at hown4
        have ho4 := Lib.hid hown4
        clear hown2 hown3 hown4 hgrow2 hgrow3 hgrow4 g2 g3 g4 hB2 hB3
        go_roundw
        case rel => exact ⟨k + 1, n + 3, by omega, by go_num, by have h := HN.out; rw [showT_len] at h ⊢; rw [if_neg (by omega)] at h ⊢; omega, rfl, ho4.out, hB4, hs4⟩
        case measure => simp [intOf]; omega
    · have hk6 : k = 6 := by omega
      subst hk6
      have hn17 : n = 17 := by have h := HN.out; rw [showT_len] at h; simpa using h.symm
      subst hn17
      have hh := (Has.of_owns ho.out).text (P := Try.prog) (cap := 17) 76 9 5 Try.underlying76 Try.underlying5 Try.underlying9 17 (by rw [showT_len]; rfl)
      go_wp2
      go_ret
      exact ⟨rfl, by rw [HB.out]; exact hb⟩
end Go.Proofs.Ytkohnleeiajiiaa
