/- The first line of layer 13's statements. -/
import Derived.Test.YtpbdamnlfpfclaaDoorShow
namespace Go.Proofs.YtpbdamnlfpfclaaDoor
open Go.RowKit
set_option linter.unusedSimpArgs false
set_option linter.unusedVariables false

/-- Three that were sent. -/
def c3 : Nat → Nat := fun j => if j = 7 then 3 else 0
theorem ok3 : okC c3 := fun j _ => by unfold c3; split <;> decide
theorem shw3 : shwS c3 = ⟨#[48, 32, 48, 32, 48, 32, 48, 32, 48, 32, 48, 32, 48, 32, 51, 32, 48, 32, 48, 32, 48, 32, 48, 32, 48, 32, 48]⟩ := by
  have h0 : Lib.decDigits 0 = [48] := Lib.decDigits_one (by decide)
  have h3 : Lib.decDigits 3 = [51] := Lib.decDigits_one (by decide)
  simp [shwS, txt, c3, h0, h3]
theorem plus3 : (plusC c3 c3) 7 = 6 := by decide

set_option maxRecDepth 100000 in
set_option maxHeartbeats 8000000 in
theorem speaks13_any (w : World) (htab : Tab10 w) : Calls Tryd.prog 5 #[] w fun e w' => e = .returned (.bool true) ∧ Below w.heap.size w w' := by
  have SZ := Lib.hid cSize26
  have TB := Lib.hid htab
  clear htab
  obtain ⟨g, hg⟩ : ∃ g, g = w.heap.size := ⟨_, rfl⟩
  obtain ⟨w1, hw1⟩ : ∃ w1, w1 = w.alloc (.cells (cA fun _ => 0) 26) := ⟨_, rfl⟩
  have B1 := Lib.hid (show Below w.heap.size w w1 by rw [hw1]; exact (Below.refl _ _).alloc (Nat.le_refl _) _)
  have K1 := Lib.hid (show Blk w1 g (cA fun _ => 0) 26 by rw [hw1, hg]; exact Blk.new _ _ _)
  have HW := Lib.hid hw1
  have HG := Lib.hid hg
  have CA := Lib.hid (show Calls Tryd.prog 6 #[.pointer (some ⟨g, 0, none⟩), .int .i64 7, .int .i64 3] w1 fun e w' => e = .returned (.tuple #[]) ∧ Blk w' g (cA c3) 26 ∧ Below w.heap.size w w' from
    (add_cell g 7 3 0 (by omega) (by omega) (by omega) w1 (by rw [K1.out.cell, cA_at _ (by omega)]) (K1.out.free 7) K1.out.lt).mono fun e w' ⟨q1, w5, q2, q3⟩ => by
      refine ⟨q1, ?_, ?_⟩
      · rw [q3]
        have := (K1.out.below q2 K1.out.lt).set 7 (.int .u32 (sumN 0 3 : Nat))
        rw [cA_set _ (by omega)] at this
        exact this
      · rw [q3]
        exact (B1.out.trans (q2.mono B1.out.size)).setCell (by show w.heap.size ≤ g; rw [hg]; exact Nat.le_refl _) _)
  clear hg hw1
  go_enter Tryd.func5, Tryd.ntmps5
  go_upto_region 2 with fail
  change Code.wp Tryd.prog _ _ _ (w.alloc (.cells (cA fun _ => 0) 26))
  rw [← HW.out, ← HG.out]
  go_upto_region 3 with (first | (go_at_call 6; with_reducible refine CA.out.mono ?_; rintro e w2 ⟨rfl, hk2, hb2⟩))
  have K2 := Lib.hid hk2
  have B2 := Lib.hid hb2
  clear hk2 hb2
  obtain ⟨x, hx⟩ : ∃ x, x = cA c3 := ⟨_, rfl⟩
  obtain ⟨y, hy⟩ : ∃ y, y = cA (plusC c3 c3) := ⟨_, rfl⟩
  have LX := Lib.hid (show (Tryd.prog.info? 26).map (·.size) = some x.size by rw [hx, cA_size]; exact SZ.out)
  have KX := Lib.hid (show ∀ W, Below w2.heap.size w2 W → Blk W g x 26 from fun W hW => by rw [hx]; exact K2.out.below hW K2.out.lt)
  have CS := Lib.hid (show Calls Tryd.prog 10 #[.agg x] w2 fun e w' => e = .returned (.string ⟨#[48, 32, 48, 32, 48, 32, 48, 32, 48, 32, 48, 32, 48, 32, 51, 32, 48, 32, 48, 32, 48, 32, 48, 32, 48, 32, 48]⟩) ∧ Below w2.heap.size w2 w' by
    rw [hx, ← shw3]
    exact show_any c3 ok3 w2 (tab_next TB.out B2.out))
  have CP := Lib.hid (show ∀ W, Calls Tryd.prog 8 #[.agg x, .agg x] W fun e w' => e = .returned (.agg y) ∧ Below W.heap.size W w' from fun W => by rw [hx, hy]; exact plus_any c3 c3 ok3 ok3 W)
  have IX := Lib.hid (show ∀ W, (Instr.index 26 (.agg y) (.int .i64 7)).run Tryd.prog W = .ok (.int .u32 6) W from fun W => by
    rw [hy]
    have := run_index_c 26 Tryd.underlying26 (plusC c3 c3) 7 W (by omega)
    rw [plus3] at this
    exact this)
  clear hx hy
  have ix := IX.out
  have L2 := Lib.hid (KX.out w2 (Below.refl _ _))
  go_wp2_with (first | (refine wpList_val (.agg x) (by rfl) (run_loadVar_of 26 _ rfl g rfl 26 x _ L2.out Tryd.underlying26 rfl LX.out) ?_) | (go_at_call 10; with_reducible refine CS.out.mono ?_; rintro e w3 ⟨rfl, hb3⟩; have L3 := Lib.hid (KX.out w3 hb3); have B3 := Lib.hid (B2.out.trans (hb3.mono B2.out.size)); clear hb3) | (refine wpList_val (.agg x) (by rfl) (run_loadVar_of 26 _ rfl g rfl 26 x _ L3.out Tryd.underlying26 rfl LX.out) ?_) | (go_at_call 8; with_reducible refine (CP.out _).mono ?_; rintro e w4 ⟨rfl, hb4⟩))
  go_ret
  exact ⟨rfl, B3.out.trans (hb4.mono B3.out.size)⟩
end Go.Proofs.YtpbdamnlfpfclaaDoor
