/- What a reader of package wire does: its two cells are what is left, and whether it is short. -/
import Derived.Test.YtmbafeemiclmeaaRef
namespace Go.Proofs.Ytmbafeemiclmeaa
open Go.RowKit

/-- Block g is a reader. -/
def Rd (w : World) (g : Nat) (rest : ByteArray) (short : Bool) : Prop := Has w g [.string rest, .bool short]

set_option maxHeartbeats 400000 in
theorem read_any (s : ByteArray) (w : World) :
    Calls Try.prog 34 #[.string s] w fun e w' => e = .returned (.pointer (some ⟨w.heap.size, 0, none⟩)) ∧ Rd w' w.heap.size s false ∧ Below w.heap.size w w' ∧ w'.heap.size = w.heap.size + 1 := by
  go_enter Try.func34, Try.ntmps34
  go_wp2
  go_ret
  refine ⟨rfl, ?_, (Below.refl _ _).alloc (Nat.le_refl _) _, by simp⟩
  intro j hj
  match j, hj with
  | 0, _ => exact ⟨by simp, by simp⟩
  | 1, _ => exact ⟨by simp, by simp⟩

set_option maxHeartbeats 400000 in
theorem raw_good (g : Nat) (n : Nat) (rest : ByteArray) (w : World) (h : Rd w g rest false) (hn : n ≤ rest.size) :
    Calls Try.prog 35 #[.pointer (some ⟨g, 0, none⟩), .int .i64 n] w fun e w' => e = .returned (.string (rest.extract 0 n)) ∧ Rd w' g (rest.extract n rest.size) false ∧ w.grownBy w' (some g) := by
  have c0 := h.cellAt 0 (by simp)
  have c1 := h.cellAt 1 (by simp)
  have f0 := h.freeAt 0 (by simp)
  have hs := Lib.hid (Has.set h 0 (.string (rest.extract n rest.size)))
  simp at c0 c1
  go_enter Try.func35, Try.ntmps35
  go_wp2
  go_ret
  exact ⟨rfl, hs.out, setCell_grown _ _ _⟩

set_option maxHeartbeats 400000 in
theorem raw_bad (g : Nat) (n : Int) (rest : ByteArray) (short : Bool) (w : World) (h : Rd w g rest short) (hn : short = true ∨ n < 0 ∨ (rest.size : Int) < n) :
    Calls Try.prog 35 #[.pointer (some ⟨g, 0, none⟩), .int .i64 n] w fun e w' => e = .returned (.string ⟨#[]⟩) ∧ Rd w' g rest true ∧ w.grownBy w' (some g) := by
  have c0 := h.cellAt 0 (by simp)
  have c1 := h.cellAt 1 (by simp)
  have f0 := h.freeAt 1 (by simp)
  have hs := Lib.hid (Has.set h 1 (.bool true))
  simp at c0 c1
  cases short with
  | true =>
    clear hn
    go_enter Try.func35, Try.ntmps35
    go_wp2
    go_ret
    exact ⟨rfl, hs.out, setCell_grown _ _ _⟩
  | false =>
    by_cases c : n < 0
    · clear hn
      go_enter Try.func35, Try.ntmps35
      go_wp2
      go_ret
      exact ⟨rfl, hs.out, setCell_grown _ _ _⟩
    · have d : (rest.size : Int) < n := by simp at hn; omega
      clear hn
      go_enter Try.func35, Try.ntmps35
      go_wp2
      go_ret
      exact ⟨rfl, hs.out, setCell_grown _ _ _⟩

set_option maxHeartbeats 400000 in
theorem raw_nil (n : Int) (w : World) : Calls Try.prog 35 #[.pointer none, .int .i64 n] w fun e w' => e = .returned (.string ⟨#[]⟩) ∧ w = w' := by
  go_enter Try.func35, Try.ntmps35
  go_wp2
  go_ret
  exact ⟨rfl, rfl⟩

set_option maxHeartbeats 400000 in
theorem left_any (g : Nat) (rest : ByteArray) (short : Bool) (w : World) (h : Rd w g rest short) :
    Calls Try.prog 37 #[.pointer (some ⟨g, 0, none⟩)] w fun e w' => e = .returned (.int .i64 rest.size) ∧ w = w' := by
  have c0 := h.cellAt 0 (by simp)
  simp at c0
  go_enter Try.func37, Try.ntmps37
  go_wp2
  go_ret
  exact ⟨rfl, rfl⟩

set_option maxHeartbeats 400000 in
theorem left_nil (w : World) : Calls Try.prog 37 #[.pointer none] w fun e w' => e = .returned (.int .i64 0) ∧ w = w' := by
  go_enter Try.func37, Try.ntmps37
  go_wp2
  go_ret
  exact ⟨rfl, rfl⟩

/-- How a reader ends. -/
def endN (rest : ByteArray) (short : Bool) : Int := if short then 2 else if rest.size = 0 then 0 else 3

set_option maxHeartbeats 400000 in
theorem end_any (g : Nat) (rest : ByteArray) (short : Bool) (w : World) (h : Rd w g rest short) :
    Calls Try.prog 38 #[.pointer (some ⟨g, 0, none⟩)] w fun e w' => e = .returned (.int .i64 (endN rest short)) ∧ w = w' := by
  have c0 := h.cellAt 0 (by simp)
  have c1 := h.cellAt 1 (by simp)
  simp at c0 c1
  cases short with
  | true =>
    go_enter Try.func38, Try.ntmps38
    go_wp2
    go_ret
    exact ⟨rfl, rfl⟩
  | false =>
    by_cases c : rest.size = 0
    · have e := Lib.hid (show endN rest false = 0 by simp [endN, c])
      have d : rest.toList = [] := by rw [ByteArray.toList_eq]; exact List.eq_nil_of_length_eq_zero (by rw [Array.length_toList]; exact c)
      clear c
      go_enter Try.func38, Try.ntmps38
      go_wp2
      go_ret
      exact ⟨ret_int (by rw [e.out]), rfl⟩
    · have e := Lib.hid (show endN rest false = 3 by simp [endN, c])
      have d : (!rest.toList.isEmpty) = true := by
        have : rest.toList.length ≠ 0 := by rw [ByteArray.toList_eq, Array.length_toList]; exact c
        cases h : rest.toList with
        | nil => rw [h] at this; exact absurd rfl this
        | cons _ _ => rfl
      clear c
      go_enter Try.func38, Try.ntmps38
      go_wp2
      go_ret
      exact ⟨ret_int (by rw [e.out]), rfl⟩

set_option maxHeartbeats 400000 in
theorem end_nil (w : World) : Calls Try.prog 38 #[.pointer none] w fun e w' => e = .returned (.int .i64 2) ∧ w = w' := by
  go_enter Try.func38, Try.ntmps38
  go_wp2
  go_ret
  exact ⟨rfl, rfl⟩

set_option maxHeartbeats 400000 in
theorem num_nil (n : Int) (w : World) : Calls Try.prog 36 #[.pointer none, .int .i64 n] w fun e w' => e = .returned (.int .u64 0) ∧ w = w' := by
  go_enter Try.func36, Try.ntmps36
  go_wp2
  go_ret
  exact ⟨rfl, rfl⟩


set_option maxHeartbeats 400000 in
theorem num_size (g : Nat) (n : Int) (rest : ByteArray) (short : Bool) (w : World) (h : Rd w g rest short) (hn : n < 1 ∨ 8 < n) :
    Calls Try.prog 36 #[.pointer (some ⟨g, 0, none⟩), .int .i64 n] w fun e w' => e = .returned (.int .u64 0) ∧ Rd w' g rest true ∧ w.grownBy w' (some g) := by
  have hg : goodSizeB n = false := by unfold goodSizeB; simp; omega
  have c1 := h.cellAt 1 (by simp)
  have f0 := h.freeAt 1 (by simp)
  have hs := Lib.hid (Has.set h 1 (.bool true))
  simp at c1
  clear hn
  go_enter Try.func36, Try.ntmps36
  go_wp2_with (go_at_call 40; refine (goodSize_any _ _).mono ?_; rintro e w' ⟨rfl, rfl⟩; rw [hg])
  go_ret
  exact ⟨rfl, hs.out, setCell_grown _ _ _⟩

set_option maxHeartbeats 400000 in
theorem num_bad (g : Nat) (n : Int) (rest : ByteArray) (short : Bool) (w : World) (h : Rd w g rest short) (h1 : 1 ≤ n) (h8 : n ≤ 8) (hn : short = true ∨ n < 0 ∨ (rest.size : Int) < n) :
    Calls Try.prog 36 #[.pointer (some ⟨g, 0, none⟩), .int .i64 n] w fun e w' => e = .returned (.int .u64 0) ∧ Rd w' g rest true ∧ w.grownBy w' (some g) := by
  have hg : goodSizeB n = true := by unfold goodSizeB; simp; omega
  have HN := Lib.hid hn
  clear hn
  go_enter Try.func36, Try.ntmps36
  go_wp2_with (first
    | (go_at_call 40; refine (goodSize_any _ _).mono ?_; rintro e w' ⟨rfl, rfl⟩; rw [hg])
    | (go_at_call 35; refine (raw_bad g n rest short _ h HN.out).mono ?_; rintro e w1 ⟨rfl, hr, hgr⟩; obtain ⟨cap, w2, hrun, hh, hg2, hsz⟩ := bytes_of_text (P := Try.prog) w1 9 43 5 ⟨#[]⟩ Try.underlying9 Try.underlying43 Try.underlying5))
  refine wp_loop_rounds 1 ?_
  rw [rounds_succ]
  go_wp2
  go_ret
  exact ⟨rfl, Has.grown hr hg2 (by simp), grown_trans hgr (grown_none hg2)⟩

theorem byteAt {w : World} {g : Nat} {t : ByteArray} (h : Has w g (t.data.toList.map bv)) (k : Nat) (hk : k < t.size) :
    ∃ c : UInt8, w.cell? ⟨g, k, none⟩ = some (.int .u8 (c.toNat : Int)) ∧ Nums.numL (t.data.toList.take (k + 1)) = 256 * Nums.numL (t.data.toList.take k) + c.toNat := by
  have hl : k < t.data.toList.length := by rw [Array.length_toList]; exact hk
  refine ⟨t.data.toList[k], ?_, numL_take_succ _ _ hl⟩
  have := h.cellAt k (by simpa using hl)
  rw [List.getElem_map] at this
  exact this

theorem num_walk (a b : Nat) (c : UInt8) (e : a = 256 * b + c.toNat) (l : a < 18446744073709551616) :
    Value.int .u64 (bits .or .u64 (IntKind.u64.wrap ((b : Int) * 256)) (IntKind.u64.wrap (c.toNat : Int))) = Value.int .u64 (a : Int) := by
  have hc := c.toNat_lt
  have e1 : IntKind.u64.wrap ((b : Int) * 256) = ((b * 256 : Nat) : Int) := by rw [IntKind.wrap_u64]; omega
  have e2 : IntKind.u64.wrap (c.toNat : Int) = (c.toNat : Int) := by rw [IntKind.wrap_u64]; omega
  rw [e1, e2, u64_or_nat _ _ (by omega) (by omega), nat_join 8 _ _ (by omega) (by omega), e, Nat.mul_comm]

theorem numL_take_lt (l : List UInt8) (k : Nat) (h : k ≤ 8) : Nums.numL (l.take k) < 18446744073709551616 := by
  have h1 := Nums.numL_lt (l.take k)
  have p : 256 ^ (l.take k).length ≤ 256 ^ 8 := Nat.pow_le_pow_right (by omega) (by simp; omega)
  exact Nat.lt_of_lt_of_le h1 p

set_option maxHeartbeats 400000 in
theorem num_good (g : Nat) (n : Nat) (rest : ByteArray) (w : World) (h : Rd w g rest false) (h1 : 1 ≤ n) (h8 : n ≤ 8) (hn : n ≤ rest.size) :
    Calls Try.prog 36 #[.pointer (some ⟨g, 0, none⟩), .int .i64 n] w fun e w' => e = .returned (.int .u64 (Nums.numL (rest.extract 0 n).data.toList : Nat)) ∧ Rd w' g (rest.extract n rest.size) false ∧ w.grownBy w' (some g) := by
  have hg : goodSizeB (n : Int) = true := by unfold goodSizeB; simp; omega
  obtain ⟨t, ht⟩ : ∃ t, t = rest.extract 0 n := ⟨_, rfl⟩
  have hts : t.size = n := by rw [ht]; simp; omega
  have HT := Lib.hid ht
  have HS := Lib.hid hts
  clear ht hts
  go_enter Try.func36, Try.ntmps36
  go_wp2_with (first
    | (go_at_call 40; refine (goodSize_any _ _).mono ?_; rintro e w' ⟨rfl, rfl⟩; rw [hg])
    | (go_at_call 35; refine (raw_good g n rest _ h hn).mono ?_; rintro e w1 ⟨rfl, hr, hgr⟩; rw [← HT.out]; obtain ⟨cap, w2, hrun, hh, hg2, hsz⟩ := bytes_of_text (P := Try.prog) w1 9 43 5 t Try.underlying9 Try.underlying43 Try.underlying5))
  go_loop [5, 21] (fun v i => ∃ k : Nat, k ≤ n ∧ i = .int .i64 k ∧ v = .int .u64 ((Nums.numL (t.data.toList.take k) : Nat) : Int)) (fun _ i => n - (intOf i).toNat)
  case atStart => exact ⟨0, by omega, rfl, rfl⟩
  case round =>
    obtain ⟨k, hk, rfl, rfl⟩ := hrel
    by_cases hlt : k < n
    · obtain ⟨c, hc, hnum⟩ := byteAt hh k (by have := HS.out; omega)
      have hn1 : (k : Int) < (t.size : Int) := by have := HS.out; omega
      have HN := Lib.hid (num_walk _ _ c hnum (numL_take_lt _ _ (by omega)))
      clear hnum
      go_wp2
      go_round
      case rel => exact ⟨k + 1, by omega, by go_num, HN.out⟩
      case measure => simp [intOf]; omega
    · have hk' : t.data.toList.take k = t.data.toList := List.take_of_length_le (by have h := HS.out; rw [Array.length_toList]; show t.size ≤ k; omega)
      have HK := Lib.hid hk'
      have hn1 : ¬ (k : Int) < (t.size : Int) := by have := HS.out; omega
      clear hk'
      go_wp2
      go_ret
      exact ⟨ret_int (by rw [HK.out, HT.out]; simp), Has.grown hr hg2 (by simp), grown_trans hgr (grown_none hg2)⟩

end Go.Proofs.Ytmbafeemiclmeaa
