/- The first line of each statement of layer 3. -/
import Derived.Test.YtegmhjdddcbanaaParse
import Derived.Test.YtegmhjdddcbanaaShow
import Derived.Test.YtegmhjdddcbanaaIds
namespace Go.Proofs.Ytegmhjdddcbanaa
open Go.RowKit

/-- The address of which they speak. -/
def said (i : Nat) : Nat := ([1, 128, 194, 0, 0, 14] : List Nat).getD i 0

def saidS : ByteArray := ⟨#[48, 49, 58, 56, 48, 58, 67, 50, 58, 48, 48, 58, 48, 48, 58, 48, 101]⟩

theorem said_parse : mac (parseV saidS) = mac said ∧ parseE saidS = 0 := by
  refine ⟨?_, by decide⟩
  unfold mac
  rw [show parseV saidS 0 = said 0 by decide, show parseV saidS 1 = said 1 by decide, show parseV saidS 2 = said 2 by decide, show parseV saidS 3 = said 3 by decide, show parseV saidS 4 = said 4 by decide, show parseV saidS 5 = said 5 by decide]

theorem said_six : Six said := by unfold Six; decide
theorem said_show : showT said 6 = [48, 49, 58, 56, 48, 58, 99, 50, 58, 48, 48, 58, 48, 48, 58, 48, 101] := by decide

set_option maxHeartbeats 1000000 in
theorem speaks3_any (w : World) : Calls Try.prog 8 #[] w fun e w' => e = .returned (.bool true) ∧ Below w.heap.size w w' := by
  have hi := Lib.hid size25
  have ho := Lib.hid (macA_one said)
  have h6 := Lib.hid said_six
  go_enter Try.func8, Try.ntmps8
  go_upto_region 2 with (first
    | (go_at_call 9; refine (parse_any saidS w).mono ?_; rintro e w1 ⟨rfl, hb1⟩; rw [said_parse.1, said_parse.2]
       have R := Lib.hid (Blk.new w1 nil6 25))
    | (refine wpList_store_row rfl 25 _ _ rfl w1.heap.size (macA said) rfl rfl 25 nil6 R.out hi.out rfl ho.out ?_))
  have R := Lib.hid (R.out.row (macA said))
  have hB := Lib.hid (below_setRow (hb1.alloc hb1.size (Obj.cells nil6 25)) hb1.size (macA said))
  have hs := Lib.hid R.out.lt
  clear hb1
  obtain ⟨w2, hw2⟩ : ∃ w2, w2 = (w1.alloc (Obj.cells nil6 25)).setRow w1.heap.size (macA said) := ⟨_, rfl⟩
  rw [← hw2] at R hs hB
  rw [← hw2]
  clear hw2
  generalize w1.heap.size = g at *
  obtain ⟨c0, c1, c2, c3, c4, c5⟩ := R.out.six
  go_wp2_with fail
  refine (group_any said _ h6.out).mono ?_
  rintro e w3 ⟨rfl, hbx⟩
  have R := Lib.hid (R.out.below hbx (by have := hs.out; omega))
  have hs := Lib.hid (Nat.lt_of_lt_of_le hs.out hbx.size)
  have hB := Lib.hid (hB.out.trans (hbx.mono (by have := hB.out.size; omega)))
  clear hbx c0 c1 c2 c3 c4 c5
  obtain ⟨c0, c1, c2, c3, c4, c5⟩ := R.out.six
  rw [show decide (said 0 % 2 = 1) = true by decide]
  go_wp2_with fail
  refine (reserved_any said _ h6.out).mono ?_
  rintro e w4 ⟨rfl, hbx⟩
  have R := Lib.hid (R.out.below hbx (by have := hs.out; omega))
  have hs := Lib.hid (Nat.lt_of_lt_of_le hs.out hbx.size)
  have hB := Lib.hid (hB.out.trans (hbx.mono (by have := hB.out.size; omega)))
  clear hbx c0 c1 c2 c3 c4 c5
  obtain ⟨c0, c1, c2, c3, c4, c5⟩ := R.out.six
  rw [show resB said = true by decide]
  go_wp2_with fail
  refine (show_any said _ h6.out).mono ?_
  rintro e w5 ⟨rfl, hbx⟩
  have R := Lib.hid (R.out.below hbx (by have := hs.out; omega))
  have hs := Lib.hid (Nat.lt_of_lt_of_le hs.out hbx.size)
  have hB := Lib.hid (hB.out.trans (hbx.mono (by have := hB.out.size; omega)))
  clear hbx c0 c1 c2 c3 c4 c5
  obtain ⟨c0, c1, c2, c3, c4, c5⟩ := R.out.six
  rw [said_show]
  go_wp2_with fail
  refine (makeID_any 2 said _ (by omega) h6.out).mono ?_
  rintro e w6 ⟨rfl, hbx⟩
  have R := Lib.hid (R.out.below hbx (by have := hs.out; omega))
  have hs := Lib.hid (Nat.lt_of_lt_of_le hs.out hbx.size)
  have hB := Lib.hid (hB.out.trans (hbx.mono (by have := hB.out.size; omega)))
  clear hbx c0 c1 c2 c3 c4 c5
  obtain ⟨c0, c1, c2, c3, c4, c5⟩ := R.out.six
  go_wp2_with fail
  refine (priority_any _ _ (idN_lt _ _ (by omega) (numF_lt h6.out))).mono ?_
  rintro e w7 ⟨rfl, rfl⟩
  rw [show idN 2 (numF said 6) / 281474976710656 = 2 by decide]
  go_wp2_with fail
  go_ret
  exact ⟨rfl, hB.out⟩

end Go.Proofs.Ytegmhjdddcbanaa
