/- AddrTells, walked: for every address and every number it returns true. -/
import Derived.Test.YtegmhjdddcbanaaBack
import Derived.Test.YtegmhjdddcbanaaSpeaks3
import Derived.Test.YtegmhjdddcbanaaRShow
import Derived.Deep.RegionHeld3
namespace Go.Proofs.Ytegmhjdddcbanaa
open Go.RowKit

set_option maxRecDepth 100000 in
set_option maxHeartbeats 2000000 in
theorem tells_walk (m : Nat → Nat) (n : Nat) (w : World) (hm : Six m) (hn : n < 18446744073709551616) :
    Calls Try.prog 3 #[mac m, .int .u64 n] w fun e w' => e = .returned (.bool true) ∧ Below w.heap.size w w' := by
  obtain ⟨W, hW⟩ : ∃ W, W = w.alloc (Obj.cells (macA m) 22) := ⟨_, rfl⟩
  have hB : Below w.heap.size w W := by rw [hW]; exact (Below.refl _ _).alloc (Nat.le_refl _) _
  have ra : Blk W w.heap.size (macA m) 22 := by rw [hW]; exact Blk.new _ _ _
  have HW := Lib.hid hW
  have H6 := Lib.hid hm
  clear hW hm
  go_enter Try.func3, Try.ntmps3
  go_wp2_with fail
  simp only [macA] at HW
  rw [← HW.out]
  refine (speaks3_any W).mono ?_
  rintro e w1 ⟨rfl, hb1⟩
  have hB1 := hB.trans (hb1.mono hB.size)
  have ra1 := ra.below hb1 ra.lt
  clear hB ra hb1 HW
  generalize hge : w.heap.size = a at *
  have HA := Lib.hid hge
  clear hge
  obtain ⟨c0, c1, c2, c3, c4, c5⟩ := ra1.six
  go_upto_region 4 with fail
  have kb := Blk.new w1 (macA m) 25
  have ka := ra1.alloc (.cells (macA m) 25)
  have hB2 := hB1.alloc (by have := hB1.size; have := HA.out; omega) (.cells (macA m) 25)
  clear c0 c1 c2 c3 c4 c5 ra1 hB1
  obtain ⟨w2, hw2⟩ : ∃ w2, w2 = w1.alloc (Obj.cells (macA m) 25) := ⟨_, rfl⟩
  rw [← hw2] at ka kb hB2
  rw [← hw2]
  clear hw2
  generalize w1.heap.size = b at *
  obtain ⟨c0, c1, c2, c3, c4, c5⟩ := kb.six
  go_upto_region 5 with (first
    | (go_at_call 10; refine (show_any m _ H6.out).mono ?_; rintro e w3 ⟨rfl, hb3⟩)
    | (go_at_call 9; refine (parse_any (shownS m) _).mono ?_; rintro e w4 ⟨rfl, hb4⟩; rw [(shown_back m H6.out).1, (shown_back m H6.out).2]))
  have kp : Kp w a b w4.heap.size m (w4.alloc (.cells (macA m) 25)) := by
    have k3 := ka.below hb3 ka.lt
    have k4 := k3.below hb4 k3.lt
    have l3 := kb.below hb3 kb.lt
    have l4 := l3.below hb4 l3.lt
    have hB3 := hB2.trans (hb3.mono (Nat.le_of_lt ka.lt))
    have hB4 := hB3.trans (hb4.mono (Nat.le_of_lt k3.lt))
    exact ⟨k4.alloc _, l4.alloc _, Blk.new _ _ _, hB4.alloc (Nat.le_of_lt k4.lt) _⟩
  clear ka kb hB2 hb3 hb4 c0 c1 c2 c3 c4 c5
  obtain ⟨w5, hw5⟩ : ∃ w5, w5 = w4.alloc (Obj.cells (macA m) 25) := ⟨_, rfl⟩
  rw [← hw5] at kp
  rw [← hw5]
  clear hw5
  generalize w4.heap.size = c at *
  have heq : ∀ W, (Op.equalIn 10000 25 (mac m) (mac m)).run Try.prog W = .ok true W := fun W => by rw [equal_mac 9998 25 Try.underlying25, eqMac_self]
  have heqn : ∀ W, (Op.equalIn 10000 25 (mac (byteF n)) (mac (byteF n))).run Try.prog W = .ok true W := fun W => by rw [equal_mac 9998 25 Try.underlying25, eqMac_self]
  have hx : numF m 6 < 18446744073709551616 := by have := numF_lt H6.out; omega
  obtain ⟨x, hxx⟩ : ∃ x, x = numF m 6 := ⟨_, rfl⟩
  rw [← hxx] at hx
  have HX := Lib.hid hxx
  have HBY := Lib.hid (show mac (byteF x) = mac m by rw [hxx]; exact byteF_numF H6.out)
  clear hxx
  have hkp := kp.drew.all
  obtain ⟨gb, hgb⟩ : ∃ gb, gb = decide (m 0 % 2 = 1) := ⟨_, rfl⟩
  have hgt : ((m 0 : Int).tmod 2 == 1) = gb := by
    rw [hgb, Int.tmod_eq_emod_of_nonneg (by omega)]
    by_cases c : m 0 % 2 = 1
    · rw [decide_eq_true c]; simp; omega
    · rw [decide_eq_false c]; simp; omega
  have HG := Lib.hid hgb.symm
  clear hgb
  go_region_held3 (fun w' => w'.cell? ⟨a, 0, none⟩ = some (.int .u8 (m 0 : Nat)) ∧ w'.cell? ⟨a, 1, none⟩ = some (.int .u8 (m 1 : Nat)) ∧ w'.cell? ⟨a, 2, none⟩ = some (.int .u8 (m 2 : Nat)) ∧ w'.cell? ⟨a, 3, none⟩ = some (.int .u8 (m 3 : Nat)) ∧ w'.cell? ⟨a, 4, none⟩ = some (.int .u8 (m 4 : Nat)) ∧ w'.cell? ⟨a, 5, none⟩ = some (.int .u8 (m 5 : Nat)) ∧ w'.cell? ⟨b, 0, none⟩ = some (.int .u8 (m 0 : Nat)) ∧ w'.cell? ⟨b, 1, none⟩ = some (.int .u8 (m 1 : Nat)) ∧ w'.cell? ⟨b, 2, none⟩ = some (.int .u8 (m 2 : Nat)) ∧ w'.cell? ⟨b, 3, none⟩ = some (.int .u8 (m 3 : Nat)) ∧ w'.cell? ⟨b, 4, none⟩ = some (.int .u8 (m 4 : Nat)) ∧ w'.cell? ⟨b, 5, none⟩ = some (.int .u8 (m 5 : Nat)) ∧ w'.cell? ⟨c, 0, none⟩ = some (.int .u8 (m 0 : Nat)) ∧ w'.cell? ⟨c, 1, none⟩ = some (.int .u8 (m 1 : Nat)) ∧ w'.cell? ⟨c, 2, none⟩ = some (.int .u8 (m 2 : Nat)) ∧ w'.cell? ⟨c, 3, none⟩ = some (.int .u8 (m 3 : Nat)) ∧ w'.cell? ⟨c, 4, none⟩ = some (.int .u8 (m 4 : Nat)) ∧ w'.cell? ⟨c, 5, none⟩ = some (.int .u8 (m 5 : Nat)) ∧ Kp w a b c m w')
    (first | (exact hkp) | (go_split_ands; exact (Kp.next (by assumption) hbx).all))
    (first
      | (go_at_call 11; refine (int_any m _ H6.out).mono ?_; rintro e wx ⟨rfl, hbx⟩; rw [← HX.out])
      | (go_at_call 12; refine (rint_any m _ H6.out).mono ?_; rintro e wx ⟨rfl, hbx⟩; rw [← HX.out])
      | (go_at_call 14; refine (rfromInt_any n _ hn).mono ?_; rintro e wx ⟨rfl, hbx⟩)
      | (go_at_call 15; refine (group_any m _ H6.out).mono ?_; rintro e wx ⟨rfl, hbx⟩; rw [HG.out])
      | (go_at_call 16; refine (reserved_any m _ H6.out).mono ?_; rintro e wx ⟨rfl, hbx⟩)
      | (go_at_call 17; refine (rreserved_any m _).mono ?_; rintro e wx ⟨rfl, hbx⟩)
      | (go_at_call 10; refine (show_any m _ H6.out).mono ?_; rintro e wx ⟨rfl, hbx⟩)
      | (go_at_call 18; refine (rshow_any m _ H6.out).mono ?_; rintro e wx ⟨rfl, hbx⟩)
      | (go_at_call 13; refine (fromInt_any x _).mono ?_; rintro e wx ⟨rfl, hbx⟩; rw [HBY.out])
      | (go_at_call 13; refine (fromInt_any n _).mono ?_; rintro e wx ⟨rfl, hbx⟩))
  all_goals
    go_split_ands
    go_wp2
    go_ret
    exact ⟨rfl, by rw [HA.out]; exact (show Kp w a b c m wx by assumption).below⟩

end Go.Proofs.Ytegmhjdddcbanaa
