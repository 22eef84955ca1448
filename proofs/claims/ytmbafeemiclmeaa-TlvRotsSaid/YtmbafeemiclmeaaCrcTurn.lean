/- Bits of a text that are turned: package crc's function, and the document's own answers for layer 2. -/
import Derived.Test.YtmbafeemiclmeaaCrc
import Derived.RegionTactic
import Derived.ChangeAlike
import Derived.BigRegion
namespace Go.Proofs.Ytmbafeemiclmeaa
open Go.RowKit

set_option maxHeartbeats 400000 in
theorem at_any (r : Nat) (w : World) (hr : r < 4294967296) :
    Calls Try.prog 41 #[.int .i64 r] w fun e w' => e = .returned (.int .u32 (Crc.tab r : Nat)) ∧ w = w' := by
  go_enter Try.func41, Try.ntmps41
  go_wp2
  go_loop [3, 4] (fun v i => ∃ k : Nat, k ≤ 8 ∧ i = .int .i64 k ∧ v = .int .u32 (Crc.stpN k r : Nat)) (fun _ i => 8 - (intOf i).toNat)
  case atStart => exact ⟨0, by omega, rfl, rfl⟩
  case round =>
    obtain ⟨k, hk, rfl, rfl⟩ := hrel
    by_cases hlt : k < 8
    · have hs := Lib.hid (stpN_succ k r)
      have hl := Crc.stpN_lt k r hr
      generalize Crc.stpN k r = x at *
      by_cases c : x % 2 = 1
      · have hv := Lib.hid (show Value.int .u32 (bits BinOp.xor IntKind.u32 ((x : Int) / 2) 3988292384) = Value.int .u32 ((Crc.stp x : Nat) : Int) by
          rw [show (3988292384 : Int) = ((3988292384 : Nat) : Int) from rfl, show (x : Int) / 2 = ((x / 2 : Nat) : Int) by simp, u32_xor_nat (x / 2) _ (by omega) (by omega)]
          unfold Crc.stp Crc.P
          rw [if_pos c])
        have ht : ((x : Int) % 2 == 1) = true := by rw [beq_iff_eq]; omega
        clear c
        go_wp2
        go_round
        case rel => exact ⟨k + 1, by omega, by go_num, by rw [hv.out, hs.out]⟩
        case measure => simp [intOf]; omega
      · have hv := Lib.hid (show Value.int .u32 ((x : Int) / 2) = Value.int .u32 ((Crc.stp x : Nat) : Int) by
          unfold Crc.stp
          rw [if_neg c]
          simp)
        have ht : ((x : Int) % 2 == 1) = false := by rw [beq_eq_false_iff_ne]; omega
        clear c
        go_wp2
        go_round
        case rel => exact ⟨k + 1, by omega, by go_num, by rw [hv.out, hs.out]⟩
        case measure => simp [intOf]; omega
    · have : k = 8 := by omega
      subst this
      go_wp2
      go_ret
      exact ⟨rfl, rfl⟩

set_option maxRecDepth 100000 in
set_option maxHeartbeats 1000000 in
theorem rsum_any (s : ByteArray) (w : World) (hm : s.size ≤ 9223372036854775807) :
    Calls Try.prog 33 #[.string s] w fun e w' => e = .returned (.int .u32 (Crc.sum s.data.toList : Nat)) ∧ w = w' := by
  go_enter Try.func33, Try.ntmps33
  go_wp2
  go_loop [3, 4] (fun v i => ∃ k : Nat, k ≤ s.size ∧ i = .int .i64 k ∧ v = .int .u32 (Crc.reg 4294967295 (s.data.toList.take k) : Nat)) (fun _ i => s.size - (intOf i).toNat)
  case atStart => exact ⟨0, by omega, rfl, rfl⟩
  case round =>
    obtain ⟨k, hk, rfl, rfl⟩ := hrel
    by_cases hlt : k < s.size
    · have hs := Lib.hid (sum_step 4294967295 s.data.toList k (by rw [Array.length_toList]; exact hlt))
      have hl := Crc.reg_lt 4294967295 (s.data.toList.take k) (by omega)
      generalize Crc.reg 4294967295 (s.data.toList.take k) = r at *
      have hk0 : (0 : Int) ≤ (k : Int) := by omega
      have hk1 : (k : Int) < (s.size : Int) := by omega
      obtain ⟨c, hcc⟩ : ∃ c, c = s[k].toNat := ⟨_, rfl⟩
      have hc256 : c < 256 := by rw [hcc]; exact s[k].toNat_lt
      have hcs : s.data.toList[k].toNat = c := by rw [hcc]; rfl
      have hi256 : (r % 256) ^^^ c < 2 ^ 8 := Nat.xor_lt_two_pow (by omega) (by omega)
      have hx := Lib.hid (show wrap64 (bits BinOp.xor IntKind.u32 ((r : Int) % 256) ((s[k].toNat : Int) % 4294967296)) = (((r % 256) ^^^ c : Nat) : Int) by
        rw [← hcc, show (r : Int) % 256 = ((r % 256 : Nat) : Int) by omega, show (c : Int) % 4294967296 = (c : Int) by omega, u32_xor_nat _ _ (by omega) (by omega)]
        unfold wrap64
        omega)
      have hv := Lib.hid (show Value.int .u32 (bits BinOp.xor IntKind.u32 ((r : Int) / 256) ((Crc.tab ((r % 256) ^^^ c) : Nat) : Int)) = Value.int .u32 ((Crc.regB r c : Nat) : Int) by
        rw [show (r : Int) / 256 = ((r / 256 : Nat) : Int) by omega, u32_xor_nat _ _ (by omega) (Crc.tab_lt _ (by omega))]
        rfl)
      rw [hcs] at hs
      generalize (r % 256) ^^^ c = i at *
      clear hcs hcc
      go_wp2_with (go_at_call 41; rw [hx.out]; refine (at_any i _ (by omega)).mono ?_; rintro e w' ⟨rfl, rfl⟩)
      go_round
      case rel => exact ⟨k + 1, by omega, by go_num, by rw [hv.out, hs.out]⟩
      case measure => simp [intOf]; omega
    · have hk' : s.data.toList.take k = s.data.toList := List.take_of_length_le (by rw [Array.length_toList]; show s.size ≤ k; omega)
      rw [hk']
      have hl := Crc.reg_lt 4294967295 s.data.toList (by omega)
      have hv := Lib.hid (show Value.int .u32 (bits BinOp.xor IntKind.u32 ((Crc.reg 4294967295 s.data.toList : Nat) : Int) 4294967295) = Value.int .u32 ((Crc.sum s.data.toList : Nat) : Int) by
        rw [show (4294967295 : Int) = ((4294967295 : Nat) : Int) from rfl, u32_xor_nat _ _ hl (by omega)]
        rfl)
      generalize Crc.reg 4294967295 s.data.toList = r at *
      clear hk'
      go_wp2
      go_ret
      exact ⟨congrArg Ending.returned hv.out, rfl⟩

theorem turn_no (s : ByteArray) (a b : Int) (w : World) (h : a < 0 ∨ 1073741824 < a) :
    Calls Try.prog 15 #[.string s, .int .i64 a, .int .u32 b] w fun e w' => e = .returned (.string s) ∧ w = w' := by
  by_cases c : a < 0
  · clear h
    go_enter Try.func15, Try.ntmps15
    go_wp2
    go_ret
    exact ⟨rfl, rfl⟩
  · have d : 1073741824 < a := by omega
    clear h
    go_enter Try.func15, Try.ntmps15
    go_wp2
    go_ret
    exact ⟨rfl, rfl⟩

theorem pow8 (p : Nat) (h : p < 8) : 2 ^ p < 256 := by
  have : 2 ^ p < 2 ^ 8 := Nat.pow_lt_pow_right (by omega) (by omega)
  omega

theorem turn_val (c : UInt8) (p : Nat) (h : p < 8) : Value.int .u8 (bits BinOp.xor IntKind.u8 (c.toNat : Int) (2 ^ p % 256)) = bv (c ^^^ UInt8.ofNat (2 ^ p)) := by
  have l := pow8 p h
  have e : (2 : Int) ^ p % 256 = ((2 ^ p : Nat) : Int) := by
    have : (2 : Int) ^ p = ((2 ^ p : Nat) : Int) := by simp
    rw [this]
    generalize 2 ^ p = z at *
    omega
  rw [e, u8_xor_nat _ _ c.toNat_lt l]
  unfold bv
  rw [UInt8.toNat_xor, UInt8.toNat_ofNat']
  rw [Nat.mod_eq_of_lt (show 2 ^ p < 2 ^ 8 by omega)]

theorem turn1_no (l : List UInt8) (A b k : Nat) (h : ¬ (b / 2 ^ k % 2 = 1 ∧ (A + k) / 8 < l.length)) : Crc.turn1 l A b k = l := by
  unfold Crc.turn1
  rw [dif_neg h]

set_option maxRecDepth 100000 in
set_option maxHeartbeats 1000000 in
theorem turn_yes (s : ByteArray) (A b : Nat) (w : World) (hA : A ≤ 1073741824) (hb : b < 4294967296) :
    Calls Try.prog 15 #[.string s, .int .i64 A, .int .u32 b] w fun e w' => e = .returned (.string ⟨(Crc.turn s.data.toList A b).toArray⟩) ∧ Below w.heap.size w w' := by
  have d1 : ¬ (A : Int) < 0 := by omega
  have d2 : ¬ (1073741824 : Int) < (A : Int) := by omega
  obtain ⟨cap, w2, hrun, hh, hg2, hsz⟩ := bytes_of_text (P := Try.prog) w 9 43 5 s Try.underlying9 Try.underlying43 Try.underlying5
  have hB : Below w.heap.size w w2 := (Below.refl _ _).grown hg2 (Nat.le_refl _) (by simp)
  have hH := Lib.hid hh
  clear hh hg2 hsz
  go_enter Try.func15, Try.ntmps15
  go_wp2
  go_loopw [8, 9, 19] (fun _ _ i wr => ∃ k : Nat, k ≤ 32 ∧ i = .int .i64 k ∧ Has wr w.heap.size ((Crc.turnK s.data.toList A b k).map bv) ∧ Below w.heap.size w wr) (fun _ _ i _ => 32 - (intOf i).toNat)
  case atStart => exact ⟨0, by omega, rfl, hH.out, hB⟩
  case round =>
    obtain ⟨k, hk, rfl, hh, hbl⟩ := hrel
    by_cases hlt : k < 32
    · have hlen : (Crc.turnK s.data.toList A b k).length = s.size := by rw [Crc.turnK_length, Array.length_toList]; rfl
      have hbit : bits BinOp.and IntKind.u32 ((b : Int) / 2 ^ k) 1 = ((b / 2 ^ k % 2 : Nat) : Int) := by
        rw [show (1 : Int) = ((1 : Nat) : Int) from rfl, show (b : Int) / 2 ^ k = ((b / 2 ^ k : Nat) : Int) by simp, u32_and_nat _ 1 (Nat.lt_of_le_of_lt (Nat.div_le_self _ _) hb) (by omega), nat_mask1]
      have hstep := Lib.hid (show Crc.turnK s.data.toList A b (k + 1) = Crc.turn1 (Crc.turnK s.data.toList A b k) A b k from rfl)
      generalize Crc.turnK s.data.toList A b k = l at *
      by_cases c1 : b / 2 ^ k % 2 = 1
      · have t1 : (bits BinOp.and IntKind.u32 ((b : Int) / 2 ^ k) 1 == 1) = true := by rw [hbit, c1]; rfl
        obtain ⟨j, hj⟩ : ∃ j, j = (A + k) / 8 := ⟨_, rfl⟩
        obtain ⟨p, hp⟩ : ∃ p, p = (A + k) % 8 := ⟨_, rfl⟩
        have e1 : ((A : Int) + (k : Int)) / 8 = (j : Int) := by omega
        by_cases c2 : j < s.size
        · have hjl : j < l.length := by omega
          have t2 : (j : Int) < (s.size : Int) := by omega
          have e2 : ((A : Int) + (k : Int)) % 8 = (p : Int) := by omega
          have hres := Lib.hid (show Crc.turn1 l A b k = l.set j (l[j] ^^^ UInt8.ofNat (2 ^ p)) by
            unfold Crc.turn1
            subst hj hp
            rw [dif_pos ⟨c1, hjl⟩])
          obtain ⟨c, hc0⟩ : ∃ c, c = l[j] := ⟨_, rfl⟩
          have hc : wr.cell? ⟨w.heap.size, j, none⟩ = some (.int .u8 (c.toNat : Int)) := by
            have := hh.cellAt j (by simpa using hjl)
            rw [List.getElem_map, ← hc0] at this
            exact this
          have hf := hh.freeAt j (by simpa using hjl)
          rw [← hc0] at hres
          have hset := Lib.hid (hh.set j (bv (c ^^^ UInt8.ofNat (2 ^ p))))
          have hlen' := Lib.hid hlen
          have hp8 : p < 8 := by omega
          clear hh hc0 hlen hjl hj hp hbit c1 hrun
          go_upto_region 9 with (fail)
          go_region
          have hv := turn_val c p hp8
          have hB2 := (hbl.setCell (p := ⟨w.heap.size, j, none⟩) (Nat.le_refl _) (bv (c ^^^ UInt8.ofNat (2 ^ p)))).drew
          have hs2 := hset.out.drew
          rw [hv]
          clear hv hc hf t1 t2 e2 hbl
          generalize ((wr.setCell { block := w.heap.size, off := j } (bv (c ^^^ UInt8.ofNat (2 ^ p)))).drew) = w3 at *
          go_wp2
          go_roundw
          case rel =>
            refine ⟨k + 1, by omega, by go_num, ?_, hB2⟩
            rw [hstep.out, hres.out, List.map_set]
            exact hs2
          case measure => simp [intOf]; omega
        · have t2 : ¬ (j : Int) < (s.size : Int) := by omega
          have hres := Lib.hid (turn1_no l A b k (by omega))
          clear hbit c1 hlen hj hp
          go_wp2
          go_roundw
          case rel => exact ⟨k + 1, by omega, by go_num, by rw [hstep.out, hres.out]; exact hh, hbl⟩
          case measure => simp [intOf]; omega
      · have t1 : (bits BinOp.and IntKind.u32 ((b : Int) / 2 ^ k) 1 == 1) = false := by rw [hbit, show b / 2 ^ k % 2 = 0 by omega]; rfl
        have hres := Lib.hid (turn1_no l A b k (by omega))
        clear hbit c1 hlen
        go_wp2
        go_roundw
        case rel => exact ⟨k + 1, by omega, by go_num, by rw [hstep.out, hres.out]; exact hh, hbl⟩
        case measure => simp [intOf]; omega
    · have hk' : k = 32 := by omega
      subst hk'
      have hr := hh.text (P := Try.prog) (cap := cap) 43 9 5 Try.underlying43 Try.underlying5 Try.underlying9 s.size (by rw [Crc.turnK_length, Array.length_toList]; rfl)
      clear hh
      go_wp2
      go_ret
      exact ⟨rfl, hbl⟩

theorem rturn_val (c : UInt8) (p : Nat) (h : p < 8) : Value.int .u8 (bits BinOp.xor IntKind.u8 (c.toNat : Int) (2 ^ p)) = bv (c ^^^ UInt8.ofNat (2 ^ p)) := by
  rw [← turn_val c p h]
  have l := pow8 p h
  have e : (2 : Int) ^ p = ((2 ^ p : Nat) : Int) := by simp
  rw [e]
  generalize 2 ^ p = z at *
  rw [show (z : Int) % 256 = (z : Int) by omega]

theorem half_val (q n : Nat) (h : q / 2 = n) : Value.int .u32 ((q : Int) / 2) = Value.int .u32 (n : Int) := by
  congr 1
  omega

theorem rpow_val (m : Nat) (h : m < 7) : Value.int .u8 (IntKind.u8.wrap (2 ^ m * 2)) = Value.int .u8 ((2 ^ (m + 1) : Nat) : Int) := by
  have l := pow8 (m + 1) (by omega)
  have e : (2 : Int) ^ m * 2 = ((2 ^ (m + 1) : Nat) : Int) := by rw [Nat.pow_succ]; simp
  rw [IntKind.wrap_u8', e]
  generalize 2 ^ (m + 1) = z at *
  congr 1
  omega

/-- Bits of a text that are turned, from whatever place on. -/
def turnS (s : ByteArray) (a : Int) (b : Nat) : ByteArray := if 0 ≤ a ∧ a ≤ 1073741824 then ⟨(Crc.turn s.data.toList a.toNat b).toArray⟩ else s

theorem turn_any (s : ByteArray) (a : Int) (b : Nat) (w : World) (hb : b < 4294967296) :
    Calls Try.prog 15 #[.string s, .int .i64 a, .int .u32 b] w fun e w' => e = .returned (.string (turnS s a b)) ∧ Below w.heap.size w w' := by
  by_cases h : 0 ≤ a ∧ a ≤ 1073741824
  · obtain ⟨A, rfl⟩ := Int.eq_ofNat_of_zero_le h.1
    refine (turn_yes s A b w (by omega) hb).mono ?_
    rintro e w' ⟨rfl, hbl⟩
    exact ⟨by unfold turnS; rw [if_pos h]; rfl, hbl⟩
  · refine (turn_no s a b w (by omega)).mono ?_
    rintro e w' ⟨rfl, rfl⟩
    exact ⟨by unfold turnS; rw [if_neg h], Below.refl _ _⟩

end Go.Proofs.Ytmbafeemiclmeaa
