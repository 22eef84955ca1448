/- (PDU).setFlags, walked. -/
import Derived.Test.YtkohnleeiajiiaaUnpack
namespace Go.Proofs.Ytkohnleeiajiiaa
open Go.RowKit Go.Maps
set_option linter.unusedSimpArgs false

/-- A PDU with these flags. -/
def setQ (q : Pd) (v : Nat → Nat) : Pd := { q with top := decide (v 0 = 1), prop := decide (v 1 = 1), role := v 2 + 2 * v 3, lrn := decide (v 4 = 1), fwd := decide (v 5 = 1), agr := decide (v 6 = 1), ack := decide (v 7 = 1) }

theorem wrap_nat' (x : Int) (y : Nat) (h : x = (y : Int)) (hy : y < 18446744073709551616) : IntKind.u64.wrap x = (y : Int) := by rw [IntKind.wrap_u64, h]; omega

set_option maxRecDepth 100000 in
set_option maxHeartbeats 4000000 in
theorem setFlags_any (g b : Nat) (q : Pd) (v : Nat → Nat) (w : World) (hr : Blk w g (pdA q) 31) (hm : MapAt w b v [true, true, true, true, true, true, true, true]) (hbg : b ≠ g) (hv : ∀ j, v j < 2) :
    Calls Try.prog 45 #[.pointer (some ⟨g, 0, none⟩), .map (some b)] w fun e w' => e = .returned (.tuple #[]) ∧ Blk w' g (pdA (setQ q v)) 31 ∧ w.grownBy w' (some g) := by
  obtain ⟨t0, ht0⟩ : ∃ t : Bool, t = decide (v 0 = 1) := ⟨_, rfl⟩
  have E0 := Lib.hid (show ((v 0 : Int) == 1) = t0 by rw [ht0, Bool.eq_iff_iff]; simp; omega)
  have T0 := Lib.hid ht0
  clear ht0
  obtain ⟨t1, ht1⟩ : ∃ t : Bool, t = decide (v 1 = 1) := ⟨_, rfl⟩
  have E1 := Lib.hid (show ((v 1 : Int) == 1) = t1 by rw [ht1, Bool.eq_iff_iff]; simp; omega)
  have T1 := Lib.hid ht1
  clear ht1
  obtain ⟨t4, ht4⟩ : ∃ t : Bool, t = decide (v 4 = 1) := ⟨_, rfl⟩
  have E4 := Lib.hid (show ((v 4 : Int) == 1) = t4 by rw [ht4, Bool.eq_iff_iff]; simp; omega)
  have T4 := Lib.hid ht4
  clear ht4
  obtain ⟨t5, ht5⟩ : ∃ t : Bool, t = decide (v 5 = 1) := ⟨_, rfl⟩
  have E5 := Lib.hid (show ((v 5 : Int) == 1) = t5 by rw [ht5, Bool.eq_iff_iff]; simp; omega)
  have T5 := Lib.hid ht5
  clear ht5
  obtain ⟨t6, ht6⟩ : ∃ t : Bool, t = decide (v 6 = 1) := ⟨_, rfl⟩
  have E6 := Lib.hid (show ((v 6 : Int) == 1) = t6 by rw [ht6, Bool.eq_iff_iff]; simp; omega)
  have T6 := Lib.hid ht6
  clear ht6
  obtain ⟨t7, ht7⟩ : ∃ t : Bool, t = decide (v 7 = 1) := ⟨_, rfl⟩
  have E7 := Lib.hid (show ((v 7 : Int) == 1) = t7 by rw [ht7, Bool.eq_iff_iff]; simp; omega)
  have T7 := Lib.hid ht7
  clear ht7
  obtain ⟨r3, hr3⟩ : ∃ r, r = 2 * v 3 := ⟨_, rfl⟩
  obtain ⟨rr, hrr⟩ : ∃ r, r = v 2 + r3 := ⟨_, rfl⟩
  have b2 := hv 2
  have b3 := hv 3
  have W1 := Lib.hid (wrap_nat' (2 * (v 3 : Int)) r3 (by omega) (by omega))
  have W2 := Lib.hid (wrap_nat' ((v 2 : Int) + (r3 : Int)) rr (by omega) (by omega))
  have W3 := Lib.hid (show (rr : Int) % 256 = (rr : Int) by omega)
  have RR := Lib.hid (show rr = v 2 + 2 * v 3 by omega)
  clear b2 b3 hr3 hrr hv
  obtain ⟨w0, hw0⟩ : ∃ w0, w0 = w := ⟨_, rfl⟩
  obtain ⟨q0, hq0⟩ : ∃ q0, q0 = q := ⟨_, rfl⟩
  rw [← hw0] at hr hm ⊢
  rw [← hq0] at hr
  have Q0 := Lib.hid hq0
  have R0 := Lib.hid hr
  have M0 := Lib.hid hm
  have G0 := Lib.hid (show w0.grownBy w0 (some g) from ⟨rfl, rfl, rfl, Nat.le_refl _, fun _ _ _ => rfl⟩)
  clear hr hm hq0 hw0
  obtain ⟨q1, hq1⟩ : ∃ q', q' = { q0 with top := t0 } := ⟨_, rfl⟩
  have Q1 := Lib.hid hq1
  clear hq1
  obtain ⟨q2, hq2⟩ : ∃ q', q' = { q1 with prop := t1 } := ⟨_, rfl⟩
  have Q2 := Lib.hid hq2
  clear hq2
  obtain ⟨q3, hq3⟩ : ∃ q', q' = { q2 with role := rr } := ⟨_, rfl⟩
  have Q3 := Lib.hid hq3
  clear hq3
  obtain ⟨q4, hq4⟩ : ∃ q', q' = { q3 with lrn := t4 } := ⟨_, rfl⟩
  have Q4 := Lib.hid hq4
  clear hq4
  obtain ⟨q5, hq5⟩ : ∃ q', q' = { q4 with fwd := t5 } := ⟨_, rfl⟩
  have Q5 := Lib.hid hq5
  clear hq5
  obtain ⟨q6, hq6⟩ : ∃ q', q' = { q5 with agr := t6 } := ⟨_, rfl⟩
  have Q6 := Lib.hid hq6
  clear hq6
  obtain ⟨q7, hq7⟩ : ∃ q', q' = { q6 with ack := t7 } := ⟨_, rfl⟩
  have Q7 := Lib.hid hq7
  clear hq7
  have SQ := Lib.hid (show q7 = setQ q v by rw [Q7.out, Q6.out, Q5.out, Q4.out, Q3.out, Q2.out, Q1.out, Q0.out]; unfold setQ; rw [T0.out, T1.out, T4.out, T5.out, T6.out, T7.out, RR.out])
  go_enter Try.func45, Try.ntmps45
  have e := E0.out
  have c := R0.out.cell 1
  simp only [pdA1] at c
  have f := R0.out.free 1
  go_upto_region 1 with (first
      | (at_lookup; refine wpList_look8 rfl _ _ rfl b v M0.out 0 (by omega) rfl rfl ?_))
  have R1 := Lib.hid (show Blk (w0.setCell ⟨g, 1, none⟩ (.bool t0)) g (pdA q1) 31 by rw [Q1.out]; exact R0.out.set 1 (.bool t0))
  have M1 := Lib.hid (M0.out.kept (setCell_grown w0 ⟨g, 1, none⟩ (.bool t0)) (by simp; omega))
  have G1 := Lib.hid (grown_trans G0.out (setCell_grown w0 ⟨g, 1, none⟩ (.bool t0)))
  clear e c f
  generalize w0.setCell ⟨g, 1, none⟩ (.bool t0) = w1 at *
  have e := E1.out
  have c := R1.out.cell 2
  simp only [pdA2] at c
  have f := R1.out.free 2
  go_upto_region 2 with (first
      | (at_lookup; refine wpList_look8 rfl _ _ rfl b v M1.out 1 (by omega) rfl rfl ?_))
  have R2 := Lib.hid (show Blk (w1.setCell ⟨g, 2, none⟩ (.bool t1)) g (pdA q2) 31 by rw [Q2.out]; exact R1.out.set 2 (.bool t1))
  have M2 := Lib.hid (M1.out.kept (setCell_grown w1 ⟨g, 2, none⟩ (.bool t1)) (by simp; omega))
  have G2 := Lib.hid (grown_trans G1.out (setCell_grown w1 ⟨g, 2, none⟩ (.bool t1)))
  clear e c f
  generalize w1.setCell ⟨g, 2, none⟩ (.bool t1) = w2 at *
  have e := W1.out
  have e2 := W2.out
  have e3 := W3.out
  have c := R2.out.cell 7
  simp only [pdA7] at c
  have f := R2.out.free 7
  go_upto_region 3 with (first
      | (at_lookup; refine wpList_look8 rfl _ _ rfl b v M2.out 2 (by omega) rfl rfl ?_)
      | (at_lookup; refine wpList_look8 rfl _ _ rfl b v M2.out 3 (by omega) rfl rfl ?_))
  have R3 := Lib.hid (show Blk (w2.setCell ⟨g, 7, none⟩ (.int .u8 (rr : Nat))) g (pdA q3) 31 by rw [Q3.out]; exact R2.out.set 7 (.int .u8 (rr : Nat)))
  have M3 := Lib.hid (M2.out.kept (setCell_grown w2 ⟨g, 7, none⟩ (.int .u8 (rr : Nat))) (by simp; omega))
  have G3 := Lib.hid (grown_trans G2.out (setCell_grown w2 ⟨g, 7, none⟩ (.int .u8 (rr : Nat))))
  clear e e2 e3 c f
  generalize w2.setCell ⟨g, 7, none⟩ (.int .u8 (rr : Nat)) = w3 at *
  have e := E4.out
  have c := R3.out.cell 3
  simp only [pdA3] at c
  have f := R3.out.free 3
  go_upto_region 4 with (first
      | (at_lookup; refine wpList_look8 rfl _ _ rfl b v M3.out 4 (by omega) rfl rfl ?_))
  have R4 := Lib.hid (show Blk (w3.setCell ⟨g, 3, none⟩ (.bool t4)) g (pdA q4) 31 by rw [Q4.out]; exact R3.out.set 3 (.bool t4))
  have M4 := Lib.hid (M3.out.kept (setCell_grown w3 ⟨g, 3, none⟩ (.bool t4)) (by simp; omega))
  have G4 := Lib.hid (grown_trans G3.out (setCell_grown w3 ⟨g, 3, none⟩ (.bool t4)))
  clear e c f
  generalize w3.setCell ⟨g, 3, none⟩ (.bool t4) = w4 at *
  have e := E5.out
  have c := R4.out.cell 4
  simp only [pdA4] at c
  have f := R4.out.free 4
  go_upto_region 5 with (first
      | (at_lookup; refine wpList_look8 rfl _ _ rfl b v M4.out 5 (by omega) rfl rfl ?_))
  have R5 := Lib.hid (show Blk (w4.setCell ⟨g, 4, none⟩ (.bool t5)) g (pdA q5) 31 by rw [Q5.out]; exact R4.out.set 4 (.bool t5))
  have M5 := Lib.hid (M4.out.kept (setCell_grown w4 ⟨g, 4, none⟩ (.bool t5)) (by simp; omega))
  have G5 := Lib.hid (grown_trans G4.out (setCell_grown w4 ⟨g, 4, none⟩ (.bool t5)))
  clear e c f
  generalize w4.setCell ⟨g, 4, none⟩ (.bool t5) = w5 at *
  have e := E6.out
  have c := R5.out.cell 5
  simp only [pdA5] at c
  have f := R5.out.free 5
  go_upto_region 6 with (first
      | (at_lookup; refine wpList_look8 rfl _ _ rfl b v M5.out 6 (by omega) rfl rfl ?_))
  have R6 := Lib.hid (show Blk (w5.setCell ⟨g, 5, none⟩ (.bool t6)) g (pdA q6) 31 by rw [Q6.out]; exact R5.out.set 5 (.bool t6))
  have M6 := Lib.hid (M5.out.kept (setCell_grown w5 ⟨g, 5, none⟩ (.bool t6)) (by simp; omega))
  have G6 := Lib.hid (grown_trans G5.out (setCell_grown w5 ⟨g, 5, none⟩ (.bool t6)))
  clear e c f
  generalize w5.setCell ⟨g, 5, none⟩ (.bool t6) = w6 at *
  have e := E7.out
  have c := R6.out.cell 6
  simp only [pdA6] at c
  have f := R6.out.free 6
  go_wp2_with (first
      | (at_lookup; refine wpList_look8 rfl _ _ rfl b v M6.out 7 (by omega) rfl rfl ?_))
  have R7 := Lib.hid (show Blk (w6.setCell ⟨g, 6, none⟩ (.bool t7)) g (pdA q7) 31 by rw [Q7.out]; exact R6.out.set 6 (.bool t7))
  have M7 := Lib.hid (M6.out.kept (setCell_grown w6 ⟨g, 6, none⟩ (.bool t7)) (by simp; omega))
  have G7 := Lib.hid (grown_trans G6.out (setCell_grown w6 ⟨g, 6, none⟩ (.bool t7)))
  clear e c f
  generalize w6.setCell ⟨g, 6, none⟩ (.bool t7) = w7 at *
  go_end0
  exact ⟨rfl, by rw [← SQ.out]; exact R7.out, G7.out⟩
end Go.Proofs.Ytkohnleeiajiiaa
