/- The statement WireReads, walked: for every text and every list of ints it returns true. -/
import Derived.Test.YtglkghieghideaaSpeaks1
import Derived.Deep.QuietTactic
import Derived.BigQuiet
import Derived.Deep.DeepCutAuto
import Derived.Test.YtglkghieghideaaRowAt
namespace Go.Proofs.Ytglkghieghideaa
open Go.RowKit

theorem raw_goodI (g : Nat) (n : Int) (rest : ByteArray) (w : World) (h : Rd w g rest false) (h0 : 0 ≤ n) (hn : n ≤ rest.size) :
    Calls Try.prog 17 #[.pointer (some ⟨g, 0, none⟩), .int .i64 n] w fun e w' => e = .returned (.string (rest.extract 0 n.toNat)) ∧ Rd w' g (rest.extract n.toNat rest.size) false ∧ w.grownBy w' (some g) := by
  obtain ⟨m, rfl⟩ := Int.eq_ofNat_of_zero_le h0
  exact raw_good g m rest w h (by omega)

theorem Rd.drewN {w : World} {g : Nat} {r : ByteArray} {s : Bool} (h : Rd w g r s) (n : Nat) : Rd (w.drewN n) g r s :=
  h.below (below_drewN (Below.refl (g + 1) w) n) (by omega)

set_option maxRecDepth 100000 in
set_option maxHeartbeats 4000000 in
theorem reads_walk (s : ByteArray) (a : Option Addr) (len cap : Nat) (z : List Int) (w : World) (hs : s.size ≤ maxLen) (hz : IsRow .i64 w a len cap z) :
    Calls Try.prog 4 #[.string s, .slice a len cap] w fun e w' => e = .returned (.bool true) ∧ Below w.heap.size w w' := by
  have hrow := hz.at
  unfold maxLen at hs
  go_enter Try.func4, Try.ntmps4
  go_upto_region 3 with (first
    | (go_at_call 8; refine (speaks_any _).mono ?_; rintro e w1 ⟨rfl, hb1⟩))
  go_cut [0] (fun v wx => (∃ t : ByteArray, v = .string t) ∧ Below w.heap.size w wx)
  case first =>
    go_wp2_with (fail)
    all_goals
      go_meet
      exact ⟨⟨_, rfl⟩, hb1⟩
  case rest =>
    obtain ⟨⟨t, rfl⟩, hB⟩ := hcut
    clear hs
    go_wp2_with (fail)
    refine (read_any _ _).mono ?_
    rintro e w1 ⟨rfl, hr, hb2, _⟩
    go_wp2_with (fail)
    have hg0 : wc.heap.size < w1.heap.size := Has.lt hr (by simp)
    have hB1 := hB.trans (hb2.mono hB.size)
    have hs1 : w.heap.size ≤ wc.heap.size := hB.size
    generalize wc.heap.size = g at *
    clear hb2 hB hz
    go_loopw [6, 7, 8] (fun r sh i wr => ∃ (k : Nat) (rest : ByteArray) (short : Bool), i = .int .i64 k ∧ k ≤ len ∧ k ≤ 20 ∧ r = .string rest ∧ sh = .bool short ∧ Rd wr g rest short ∧ Below w.heap.size w wr) (fun _ _ i _ => 20 - (intOf i).toNat)
    case atStart => exact ⟨0, t, false, rfl, by omega, by omega, rfl, rfl, hr, hB1⟩
    case round =>
      obtain ⟨k, rest, short, rfl, hk, hk2, rfl, rfl, hrd, hb⟩ := hrel
      by_cases hlt : k < len ∧ k < 20
      · obtain ⟨h1, h2⟩ := hlt
        rcases hrow with hrow | ⟨b, off, rfl, hbw, hrow⟩
        · omega
        · obtain ⟨hc, hwf⟩ := hrow k h1
          rw [← hb.cell (p := ⟨b, off + k, none⟩) hbw] at hc
          generalize z.getD k 0 = n at *
          have hn := bounds_i64 hwf
          have hkl : (k : Int) < (len : Int) := by omega
          clear hrow
          cases short with
          | true =>
            rcases (show (0 ≤ n ∧ n < 1) ∨ (1 ≤ n ∧ 8 < n) ∨ (1 ≤ n ∧ n ≤ 8 ∧ (rest.size : Int) < n) ∨ (1 ≤ n ∧ n ≤ 8 ∧ n ≤ (rest.size : Int)) ∨ (n < 0 ∧ (rest.size : Int) < -1 - n) ∨ (n < 0 ∧ -1 - n ≤ (rest.size : Int)) by omega) with ⟨c, d⟩ | ⟨c, d⟩ | ⟨c, d, f⟩ | ⟨c, d, f⟩ | ⟨c, d⟩ | ⟨c, d⟩
            · have hE : (endN rest true != 2) = false := by simp [endN]
              go_wp2_with (first
                | (go_at_call 16; refine (num_size _ n _ _ _ hrd (by omega)).mono ?_; rintro e w2 ⟨rfl, hrd2, hg2⟩)
                | (go_at_call 18; refine (left_any _ _ _ _ hrd2).mono ?_; rintro e w3 ⟨rfl, rfl⟩)
                | (go_at_call 19; refine (end_any _ _ _ _ hrd2).mono ?_; rintro e w3 ⟨rfl, rfl⟩))
              all_goals
                go_roundw
                case rel => exact ⟨k + 1, rest, true, by go_num, by omega, by omega, rfl, rfl, hrd2, hb.grown hg2 hb.size (by simp; omega)⟩
                case measure => simp [intOf]; omega
            · have hE : (endN rest true != 2) = false := by simp [endN]
              go_wp2_with (first
                | (go_at_call 16; refine (num_size _ n _ _ _ hrd (by omega)).mono ?_; rintro e w2 ⟨rfl, hrd2, hg2⟩)
                | (go_at_call 18; refine (left_any _ _ _ _ hrd2).mono ?_; rintro e w3 ⟨rfl, rfl⟩)
                | (go_at_call 19; refine (end_any _ _ _ _ hrd2).mono ?_; rintro e w3 ⟨rfl, rfl⟩))
              all_goals
                go_roundw
                case rel => exact ⟨k + 1, rest, true, by go_num, by omega, by omega, rfl, rfl, hrd2, hb.grown hg2 hb.size (by simp; omega)⟩
                case measure => simp [intOf]; omega
            · have hE : (endN rest true != 2) = false := by simp [endN]
              go_wp2_with (first
                | (go_at_call 16; refine (num_bad _ n _ _ _ hrd (by omega) (by omega) (by first | exact .inl rfl | (right; right; omega))).mono ?_; rintro e w2 ⟨rfl, hrd2, hg2⟩)
                | (go_at_call 18; refine (left_any _ _ _ _ hrd2).mono ?_; rintro e w3 ⟨rfl, rfl⟩)
                | (go_at_call 19; refine (end_any _ _ _ _ hrd2).mono ?_; rintro e w3 ⟨rfl, rfl⟩))
              all_goals
                go_roundw
                case rel => exact ⟨k + 1, rest, true, by go_num, by omega, by omega, rfl, rfl, hrd2, hb.grown hg2 hb.size (by simp; omega)⟩
                case measure => simp [intOf]; omega
            · have hE : (endN rest true != 2) = false := by simp [endN]
              go_wp2_with (first
                | (go_at_call 16; refine (num_bad _ n _ _ _ hrd (by omega) (by omega) (by first | exact .inl rfl | (right; right; omega))).mono ?_; rintro e w2 ⟨rfl, hrd2, hg2⟩)
                | (go_at_call 18; refine (left_any _ _ _ _ hrd2).mono ?_; rintro e w3 ⟨rfl, rfl⟩)
                | (go_at_call 19; refine (end_any _ _ _ _ hrd2).mono ?_; rintro e w3 ⟨rfl, rfl⟩))
              all_goals
                go_roundw
                case rel => exact ⟨k + 1, rest, true, by go_num, by omega, by omega, rfl, rfl, hrd2, hb.grown hg2 hb.size (by simp; omega)⟩
                case measure => simp [intOf]; omega
            · have hE : (endN rest true != 2) = false := by simp [endN]
              go_wp2_with (first
                | (go_at_call 17; refine (raw_bad _ (-1 - n) _ _ _ hrd (by first | exact .inl rfl | (right; right; omega))).mono ?_; rintro e w2 ⟨rfl, hrd2, hg2⟩)
                | (go_at_call 18; refine (left_any _ _ _ _ hrd2).mono ?_; rintro e w3 ⟨rfl, rfl⟩)
                | (go_at_call 19; refine (end_any _ _ _ _ hrd2).mono ?_; rintro e w3 ⟨rfl, rfl⟩))
              all_goals
                go_roundw
                case rel => exact ⟨k + 1, rest, true, by go_num, by omega, by omega, rfl, rfl, hrd2, hb.grown hg2 hb.size (by simp; omega)⟩
                case measure => simp [intOf]; omega
            · have hE : (endN rest true != 2) = false := by simp [endN]
              go_wp2_with (first
                | (go_at_call 17; refine (raw_bad _ (-1 - n) _ _ _ hrd (by first | exact .inl rfl | (right; right; omega))).mono ?_; rintro e w2 ⟨rfl, hrd2, hg2⟩)
                | (go_at_call 18; refine (left_any _ _ _ _ hrd2).mono ?_; rintro e w3 ⟨rfl, rfl⟩)
                | (go_at_call 19; refine (end_any _ _ _ _ hrd2).mono ?_; rintro e w3 ⟨rfl, rfl⟩))
              all_goals
                go_roundw
                case rel => exact ⟨k + 1, rest, true, by go_num, by omega, by omega, rfl, rfl, hrd2, hb.grown hg2 hb.size (by simp; omega)⟩
                case measure => simp [intOf]; omega
          | false =>
            rcases (show (0 ≤ n ∧ n < 1) ∨ (1 ≤ n ∧ 8 < n) ∨ (1 ≤ n ∧ n ≤ 8 ∧ (rest.size : Int) < n) ∨ (1 ≤ n ∧ n ≤ 8 ∧ n ≤ (rest.size : Int)) ∨ (n < 0 ∧ (rest.size : Int) < -1 - n) ∨ (n < 0 ∧ -1 - n ≤ (rest.size : Int)) by omega) with ⟨c, d⟩ | ⟨c, d⟩ | ⟨c, d, f⟩ | ⟨c, d, f⟩ | ⟨c, d⟩ | ⟨c, d⟩
            · have hE : (endN rest true != 2) = false := by simp [endN]
              go_wp2_with (first
                | (go_at_call 16; refine (num_size _ n _ _ _ hrd (by omega)).mono ?_; rintro e w2 ⟨rfl, hrd2, hg2⟩)
                | (go_at_call 18; refine (left_any _ _ _ _ hrd2).mono ?_; rintro e w3 ⟨rfl, rfl⟩)
                | (go_at_call 19; refine (end_any _ _ _ _ hrd2).mono ?_; rintro e w3 ⟨rfl, rfl⟩))
              all_goals
                go_roundw
                case rel => exact ⟨k + 1, rest, true, by go_num, by omega, by omega, rfl, rfl, hrd2, hb.grown hg2 hb.size (by simp; omega)⟩
                case measure => simp [intOf]; omega
            · have hE : (endN rest true != 2) = false := by simp [endN]
              go_wp2_with (first
                | (go_at_call 16; refine (num_size _ n _ _ _ hrd (by omega)).mono ?_; rintro e w2 ⟨rfl, hrd2, hg2⟩)
                | (go_at_call 18; refine (left_any _ _ _ _ hrd2).mono ?_; rintro e w3 ⟨rfl, rfl⟩)
                | (go_at_call 19; refine (end_any _ _ _ _ hrd2).mono ?_; rintro e w3 ⟨rfl, rfl⟩))
              all_goals
                go_roundw
                case rel => exact ⟨k + 1, rest, true, by go_num, by omega, by omega, rfl, rfl, hrd2, hb.grown hg2 hb.size (by simp; omega)⟩
                case measure => simp [intOf]; omega
            · have hE : (endN rest true != 2) = false := by simp [endN]
              go_wp2_with (first
                | (go_at_call 16; refine (num_bad _ n _ _ _ hrd (by omega) (by omega) (by first | exact .inl rfl | (right; right; omega))).mono ?_; rintro e w2 ⟨rfl, hrd2, hg2⟩)
                | (go_at_call 18; refine (left_any _ _ _ _ hrd2).mono ?_; rintro e w3 ⟨rfl, rfl⟩)
                | (go_at_call 19; refine (end_any _ _ _ _ hrd2).mono ?_; rintro e w3 ⟨rfl, rfl⟩))
              all_goals
                go_roundw
                case rel => exact ⟨k + 1, rest, true, by go_num, by omega, by omega, rfl, rfl, hrd2, hb.grown hg2 hb.size (by simp; omega)⟩
                case measure => simp [intOf]; omega
            · obtain ⟨m, rfl⟩ := Int.eq_ofNat_of_zero_le (show 0 ≤ n by omega)
              have f' : m ≤ rest.size := by omega
              have d' : m ≤ 8 := by omega
              have c' : 1 ≤ m := by omega
              have hsz : (rest.extract 0 m).size ≤ 8 := by simp; omega
              go_upto_region 14 with (fail)
              go_quiet ((go_at_call 15; exact Calls.quiet_of_same ((number_any _ _ hsz).mono (fun _ _ h => ⟨h.1, h.2.symm⟩))))
              have hrd' := hrd.drewN nq
              have hb' := below_drewN hb nq
              clear hrd hb hc
              generalize wr.drewN nq = wr at *
              have hE1 : 0 < (rest.extract m rest.size).size → (endN (rest.extract m rest.size) false != 3) = false := by intro h; simp only [endN]; rw [if_neg (by simp), if_neg (by omega)]; rfl
              have hE2 : ¬ 0 < (rest.extract m rest.size).size → (endN (rest.extract m rest.size) false != 0) = false := by intro h; simp only [endN]; rw [if_neg (by simp), if_pos (by omega)]; rfl
              generalize hr2 : rest.extract m rest.size = rest2 at *
              have HR := Lib.hid hr2
              clear hr2
              go_wp2_with (fail)
              refine (num_good _ m _ _ hrd' (by omega) (by omega) (by omega)).mono ?_
              rintro e w2 ⟨rfl, hrd2, hg2⟩
              rw [HR.out] at hrd2
              by_cases hp : 0 < rest2.size
              · have hE := hE1 hp
                clear hE1 hE2
                go_wp2_with (first
                  | (go_at_call 18; refine (left_any _ _ _ _ hrd2).mono ?_; rintro e w3 ⟨rfl, rfl⟩)
                  | (go_at_call 19; refine (end_any _ _ _ _ hrd2).mono ?_; rintro e w3 ⟨rfl, rfl⟩))
                all_goals
                  go_roundw
                  case rel => exact ⟨k + 1, rest2, false, by go_num, by omega, by omega, rfl, rfl, hrd2, hb'.grown hg2 hb'.size (by simp; omega)⟩
                  case measure => simp [intOf]; omega
              · have hE := hE2 hp
                clear hE1 hE2
                go_wp2_with (first
                  | (go_at_call 18; refine (left_any _ _ _ _ hrd2).mono ?_; rintro e w3 ⟨rfl, rfl⟩)
                  | (go_at_call 19; refine (end_any _ _ _ _ hrd2).mono ?_; rintro e w3 ⟨rfl, rfl⟩))
                all_goals
                  go_roundw
                  case rel => exact ⟨k + 1, rest2, false, by go_num, by omega, by omega, rfl, rfl, hrd2, hb'.grown hg2 hb'.size (by simp; omega)⟩
                  case measure => simp [intOf]; omega
            · have hE : (endN rest true != 2) = false := by simp [endN]
              go_wp2_with (first
                | (go_at_call 17; refine (raw_bad _ (-1 - n) _ _ _ hrd (by first | exact .inl rfl | (right; right; omega))).mono ?_; rintro e w2 ⟨rfl, hrd2, hg2⟩)
                | (go_at_call 18; refine (left_any _ _ _ _ hrd2).mono ?_; rintro e w3 ⟨rfl, rfl⟩)
                | (go_at_call 19; refine (end_any _ _ _ _ hrd2).mono ?_; rintro e w3 ⟨rfl, rfl⟩))
              all_goals
                go_roundw
                case rel => exact ⟨k + 1, rest, true, by go_num, by omega, by omega, rfl, rfl, hrd2, hb.grown hg2 hb.size (by simp; omega)⟩
                case measure => simp [intOf]; omega
            · have f' : (-1 - n).toNat ≤ rest.size := by omega
              go_upto_region 21 with (fail)
              go_quiet (fail)
              have hrd' := hrd.drewN nq
              have hb' := below_drewN hb nq
              clear hrd hb hc
              generalize wr.drewN nq = wr at *
              have hE1 : 0 < (rest.extract (-1 - n).toNat rest.size).size → (endN (rest.extract (-1 - n).toNat rest.size) false != 3) = false := by intro h; simp only [endN]; rw [if_neg (by simp), if_neg (by omega)]; rfl
              have hE2 : ¬ 0 < (rest.extract (-1 - n).toNat rest.size).size → (endN (rest.extract (-1 - n).toNat rest.size) false != 0) = false := by intro h; simp only [endN]; rw [if_neg (by simp), if_pos (by omega)]; rfl
              generalize hr2 : rest.extract (-1 - n).toNat rest.size = rest2 at *
              have HR := Lib.hid hr2
              clear hr2
              go_wp2_with (fail)
              refine (raw_goodI _ (-1 - n) _ _ hrd' (by omega) (by omega)).mono ?_
              rintro e w2 ⟨rfl, hrd2, hg2⟩
              rw [HR.out] at hrd2
              by_cases hp : 0 < rest2.size
              · have hE := hE1 hp
                clear hE1 hE2
                go_wp2_with (first
                  | (go_at_call 18; refine (left_any _ _ _ _ hrd2).mono ?_; rintro e w3 ⟨rfl, rfl⟩)
                  | (go_at_call 19; refine (end_any _ _ _ _ hrd2).mono ?_; rintro e w3 ⟨rfl, rfl⟩))
                all_goals
                  go_roundw
                  case rel => exact ⟨k + 1, rest2, false, by go_num, by omega, by omega, rfl, rfl, hrd2, hb'.grown hg2 hb'.size (by simp; omega)⟩
                  case measure => simp [intOf]; omega
              · have hE := hE2 hp
                clear hE1 hE2
                go_wp2_with (first
                  | (go_at_call 18; refine (left_any _ _ _ _ hrd2).mono ?_; rintro e w3 ⟨rfl, rfl⟩)
                  | (go_at_call 19; refine (end_any _ _ _ _ hrd2).mono ?_; rintro e w3 ⟨rfl, rfl⟩))
                all_goals
                  go_roundw
                  case rel => exact ⟨k + 1, rest2, false, by go_num, by omega, by omega, rfl, rfl, hrd2, hb'.grown hg2 hb'.size (by simp; omega)⟩
                  case measure => simp [intOf]; omega
      · have hE : endN t true = 2 := by simp [endN]
        by_cases hkl : (k : Int) < (len : Int)
        · have h20 : ¬ (k : Int) < 20 := by omega
          clear hlt
          clear hrow
          go_wp2_with (fail)
          refine (read_any _ _).mono ?_
          rintro e w2 ⟨rfl, hr2, hb2, _⟩
          go_wp2_with (fail)
          refine (raw_bad _ (-1) _ _ _ hr2 (by right; left; omega)).mono ?_
          rintro e w3 ⟨rfl, hr3, hg3⟩
          go_wp2_with (fail)
          refine (end_any _ _ _ _ hr3).mono ?_
          rintro e w4 ⟨rfl, rfl⟩
          rw [hE]
          go_wp2_with (fail)
          refine (num_nil _ _).mono ?_
          rintro e w4 ⟨rfl, rfl⟩
          go_wp2_with (fail)
          refine (raw_nil _ _).mono ?_
          rintro e w4 ⟨rfl, rfl⟩
          go_wp2_with (fail)
          refine (left_nil _).mono ?_
          rintro e w4 ⟨rfl, rfl⟩
          go_wp2_with (fail)
          refine (end_nil _).mono ?_
          rintro e w4 ⟨rfl, rfl⟩
          go_wp2_with (fail)
          go_ret
          exact ⟨rfl, (hb.trans (hb2.mono hb.size)).grown hg3 (Nat.le_trans hb.size hb2.size) (by simp; exact hb.size)⟩
        · clear hlt
          clear hrow
          go_wp2_with (fail)
          refine (read_any _ _).mono ?_
          rintro e w2 ⟨rfl, hr2, hb2, _⟩
          go_wp2_with (fail)
          refine (raw_bad _ (-1) _ _ _ hr2 (by right; left; omega)).mono ?_
          rintro e w3 ⟨rfl, hr3, hg3⟩
          go_wp2_with (fail)
          refine (end_any _ _ _ _ hr3).mono ?_
          rintro e w4 ⟨rfl, rfl⟩
          rw [hE]
          go_wp2_with (fail)
          refine (num_nil _ _).mono ?_
          rintro e w4 ⟨rfl, rfl⟩
          go_wp2_with (fail)
          refine (raw_nil _ _).mono ?_
          rintro e w4 ⟨rfl, rfl⟩
          go_wp2_with (fail)
          refine (left_nil _).mono ?_
          rintro e w4 ⟨rfl, rfl⟩
          go_wp2_with (fail)
          refine (end_nil _).mono ?_
          rintro e w4 ⟨rfl, rfl⟩
          go_wp2_with (fail)
          go_ret
          exact ⟨rfl, (hb.trans (hb2.mono hb.size)).grown hg3 (Nat.le_trans hb.size hb2.size) (by simp; exact hb.size)⟩
end Go.Proofs.Ytglkghieghideaa
