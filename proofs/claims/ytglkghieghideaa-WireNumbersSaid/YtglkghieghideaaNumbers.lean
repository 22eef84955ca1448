/- The statement WireNumbers, walked: for every two numbers and every three ints it returns true. -/
import Derived.Test.YtglkghieghideaaSpeaks1
import Derived.Deep.QuietTactic
import Derived.BigQuiet
import Derived.Test.YtglkghieghideaaOpen
namespace Go.Proofs.Ytglkghieghideaa
open Go.RowKit

set_option maxHeartbeats 1000000 in
theorem numbers_walk (x v : Nat) (s a n : Int) (w : World) (hx : x < 18446744073709551616) (hv : v < 18446744073709551616) :
    Calls Try.prog 3 #[.int .u64 x, .int .u64 v, .agg #[.int .i64 s, .int .i64 a, .int .i64 n]] w fun e w' => e = .returned (.bool true) ∧ Below w.heap.size w w' := by
  have b0 : Below w.heap.size w w := Below.refl _ _
  obtain ⟨W, hW⟩ : ∃ W, W = w.alloc (Obj.cells #[Value.int IntKind.i64 s, Value.int IntKind.i64 a, Value.int IntKind.i64 n] 23) := ⟨_, rfl⟩
  have hB : Below w.heap.size w W := by rw [hW]; exact b0.alloc (Nat.le_refl _) _
  have hS : W.heap.size = w.heap.size + 1 := by rw [hW]; simp
  have c0 : W.cell? ⟨w.heap.size, 0, none⟩ = some (.int .i64 s) := by rw [hW]; simp
  have c1 : W.cell? ⟨w.heap.size, 1, none⟩ = some (.int .i64 a) := by rw [hW]; simp
  have c2 : W.cell? ⟨w.heap.size, 2, none⟩ = some (.int .i64 n) := by rw [hW]; simp
  have HW := Lib.hid hW
  have HS := Lib.hid hS
  clear hS hW
  go_enter Try.func3, Try.ntmps3
  go_wp2_with (first
    | (go_at_call 8; rw [← HW.out]; refine (speaks_any W).mono ?_; rintro e w1 ⟨rfl, hb1⟩))
  have hB1 : Below w.heap.size w w1 := hB.trans (hb1.mono hB.size)
  have hs1 := hb1.size
  rw [← hb1.cell (p := ⟨w.heap.size, 0, none⟩) (by have := HS.out; show w.heap.size < _; omega)] at c0
  rw [← hb1.cell (p := ⟨w.heap.size, 1, none⟩) (by have := HS.out; show w.heap.size < _; omega)] at c1
  rw [← hb1.cell (p := ⟨w.heap.size, 2, none⟩) (by have := HS.out; show w.heap.size < _; omega)] at c2
  go_quiet (fail)
  have hB2 := below_drewN hB1 nq
  clear hB1 hs1 hb1
  generalize w1.drewN nq = w2 at *
  clear c0 c1 c2
  by_cases h : Nums.good a n
  · have hbits := Lib.hid (fun i h0 h1 => Nums.withN_bit x a n v h i h0 h1)
    have hm := Nums.withN_lt x a n v hx
    obtain ⟨h1, h2, h3, h4⟩ := h
    have d1 : ¬ a < 0 := by omega
    have d2 : ¬ 63 < a := by omega
    have d3 : ¬ n < 1 := by omega
    have d4 : ¬ 64 - a < n := by omega
    clear b0 hB
    go_wp2_with (first
      | (go_at_call 9; refine (bytes_any x s _).mono ?_; rintro e w3 ⟨rfl, hb3⟩)
      | (go_at_call 10; refine (rbytes_any x s _ hx).mono ?_; rintro e w4 ⟨rfl, hb4⟩)
      | (go_at_call 11; refine (field_any x a n _ hx).mono ?_; rintro e w' ⟨rfl, rfl⟩)
      | (go_at_call 12; refine (rfield_any x a n _ hx).mono ?_; rintro e w' ⟨rfl, rfl⟩)
      | (go_at_call 13; refine (with_any x a n v _ hx).mono ?_; rintro e w' ⟨rfl, rfl⟩))
    have hB4 := (hB2.trans (hb3.mono hB2.size)).trans (hb4.mono (Nat.le_trans hB2.size hb3.size))
    clear hB2 hb3 hb4
    generalize Nums.withN x a n v = m at *
    go_loop [11, 12] (fun i _ => ∃ k : Nat, k ≤ 64 ∧ i = .int .i64 k) (fun i _ => 64 - (intOf i).toNat)
    case atStart => exact ⟨0, by omega, rfl⟩
    case round =>
      obtain ⟨k, hk, rfl⟩ := hrel
      by_cases hlt : k < 64
      · have hbit := hbits.out (k : Int) (by omega) (by omega)
        by_cases c : a ≤ (k : Int) ∧ (k : Int) < a + n
        · rw [if_pos c] at hbit
          obtain ⟨c1, c2⟩ := c
          have heq : (((Nums.fieldN m (k : Int) 1 : Nat) : Int) != ((Nums.fieldN v ((k : Int) - a) 1 : Nat) : Int)) = false := by rw [hbit]; simp
          clear hbit
          go_wp2_with (fail)
          refine (rfield_any x (k : Int) 1 _ hx).mono ?_
          rintro e w' ⟨rfl, rfl⟩
          go_wp2_with (fail)
          refine (rfield_any v ((k : Int) - a) 1 _ hv).mono ?_
          rintro e w' ⟨rfl, rfl⟩
          go_wp2_with (fail)
          refine (rfield_any m (k : Int) 1 _ hm).mono ?_
          rintro e w' ⟨rfl, rfl⟩
          go_wp2_with (fail)
          go_round
          case rel => exact ⟨k + 1, by omega, by go_num⟩
          case measure => simp [intOf]; omega
        · rw [if_neg c] at hbit
          have heq : (((Nums.fieldN m (k : Int) 1 : Nat) : Int) != ((Nums.fieldN x (k : Int) 1 : Nat) : Int)) = false := by rw [hbit]; simp
          clear hbit
          rcases (show (k : Int) < a ∨ a ≤ (k : Int) ∧ a + n ≤ (k : Int) by omega) with c1 | ⟨c1, c2⟩
          all_goals
            clear c
            go_wp2_with (fail)
            refine (rfield_any x (k : Int) 1 _ hx).mono ?_
            rintro e w' ⟨rfl, rfl⟩
            go_wp2_with (fail)
            refine (rfield_any m (k : Int) 1 _ hm).mono ?_
            rintro e w' ⟨rfl, rfl⟩
            go_wp2_with (fail)
            go_round
            case rel => exact ⟨k + 1, by omega, by go_num⟩
            case measure => simp [intOf]; omega
      · go_wp2
        go_ret
        exact ⟨rfl, hB4⟩
  · have hw : (((Nums.withN x a n v : Nat) : Int) == (x : Int)) = true := by unfold Nums.withN; rw [if_neg h]; simp
    have hc : a < 0 ∨ (0 ≤ a ∧ 63 < a) ∨ (0 ≤ a ∧ a ≤ 63 ∧ n < 1) ∨ (0 ≤ a ∧ a ≤ 63 ∧ 1 ≤ n ∧ 64 - a < n) := by unfold Nums.good at h; omega
    clear h b0 hB
    rcases hc with c | ⟨c, d⟩ | ⟨c, d, f⟩ | ⟨c, d, f, g⟩
    all_goals
      go_wp2_with (first
        | (go_at_call 9; refine (bytes_any x s _).mono ?_; rintro e w3 ⟨rfl, hb3⟩)
        | (go_at_call 10; refine (rbytes_any x s _ hx).mono ?_; rintro e w4 ⟨rfl, hb4⟩)
        | (go_at_call 11; refine (field_any x a n _ hx).mono ?_; rintro e w' ⟨rfl, rfl⟩)
        | (go_at_call 12; refine (rfield_any x a n _ hx).mono ?_; rintro e w' ⟨rfl, rfl⟩)
        | (go_at_call 13; refine (with_any x a n v _ hx).mono ?_; rintro e w' ⟨rfl, rfl⟩))
      go_ret
      exact ⟨rfl, (hB2.trans (hb3.mono hB2.size)).trans (hb4.mono (Nat.le_trans hB2.size hb3.size))⟩
theorem u64_nat {a : Int} (h : (Lit.int .u64 a).wf = true) : ∃ n : Nat, a = (n : Int) ∧ n < 18446744073709551616 := by
  have hb := bounds_u64 h
  obtain ⟨n, rfl⟩ := Int.eq_ofNat_of_zero_le hb.1
  exact ⟨n, rfl, by omega⟩

theorem numbers_law (x v s a n : Int) (w : World) (w0 : (Lit.int .u64 x).wf = true) (w1 : (Lit.int .u64 v).wf = true) (_ : (Lit.int .i64 s).wf = true) (_ : (Lit.int .i64 a).wf = true) (_ : (Lit.int .i64 n).wf = true) :
    Calls Try.prog 3 #[.int .u64 x, .int .u64 v, .agg #[.int .i64 s, .int .i64 a, .int .i64 n]] w fun e w' => e = .returned (.bool true) ∧ Below w.heap.size w w' := by
  obtain ⟨x, rfl, hx⟩ := u64_nat w0
  obtain ⟨v, rfl, hv⟩ := u64_nat w1
  exact numbers_walk x v s a n w hx hv
end Go.Proofs.Ytglkghieghideaa
