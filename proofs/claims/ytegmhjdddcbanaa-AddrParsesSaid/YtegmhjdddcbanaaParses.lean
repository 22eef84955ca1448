/- AddrParses: for every text the program's answer and the document's are the same. No condition. -/
import Derived.Test.YtegmhjdddcbanaaSpeaks3
import Derived.Test.YtegmhjdddcbanaaRParse
import Derived.Test.YtegmhjdddcbanaaEq
namespace Go.Proofs.Ytegmhjdddcbanaa
open Go.RowKit

set_option maxHeartbeats 1000000 in
theorem parses_law (s : ByteArray) (w : World) (_ : s.size ≤ maxLen) : Calls Try.prog 4 #[.string s] w fun e w' => e = .returned (.bool true) ∧ Below w.heap.size w w' := by
  go_enter Try.func4, Try.ntmps4
  go_wp2_with fail
  refine (speaks3_any w).mono ?_
  rintro e w1 ⟨rfl, hb1⟩
  obtain ⟨m, hm⟩ : ∃ m, m = parseV s := ⟨_, rfl⟩
  have HM := Lib.hid hm
  clear hm
  go_upto_region 4 with (first
    | (go_at_call 9; refine (parse_any s _).mono ?_; rintro e w2 ⟨rfl, hb2⟩; rw [← HM.out]))
  have hB2 := hb1.trans (hb2.mono hb1.size)
  have R1 := Lib.hid (Blk.new w2 (macA m) 25)
  have hB := hB2.alloc hB2.size (Obj.cells (macA m) 25)
  have hs := R1.out.lt
  clear hb1 hb2 hB2
  obtain ⟨w3, hw3⟩ : ∃ w3, w3 = w2.alloc (Obj.cells (macA m) 25) := ⟨_, rfl⟩
  rw [← hw3] at R1 hs hB
  rw [← hw3]
  clear hw3
  generalize w2.heap.size = g at *
  go_upto_region 5 with (first
    | (go_at_call 19; refine (rparse_any s _).mono ?_; rintro e w4 ⟨rfl, hb4⟩; rw [← HM.out]))
  have R2 := Lib.hid (Blk.new w4 (macA m) 22)
  have hB3 := hB.trans (hb4.mono hB.size)
  have hB4 := Lib.hid (hB3.alloc hB3.size (Obj.cells (macA m) 22))
  have R3 := Lib.hid ((R1.out.below hb4 hs).alloc (.cells (macA m) 22))
  clear hb4 hB hB3 R1
  obtain ⟨w5, hw5⟩ : ∃ w5, w5 = w4.alloc (Obj.cells (macA m) 22) := ⟨_, rfl⟩
  rw [← hw5] at R2 R3 hB4
  rw [← hw5]
  clear hw5
  generalize w4.heap.size = k at *
  obtain ⟨c0, c1, c2, c3, c4, c5⟩ := R2.out.six
  obtain ⟨d0, d1, d2, d3, d4, d5⟩ := R3.out.six
  have heq : (Op.equalIn 10000 25 (mac m) (mac m)).run Try.prog w5 = .ok true w5 := by
    rw [equal_mac 9998 25 Try.underlying25, eqMac_self]
  go_wp2_with fail
  go_ret
  exact ⟨rfl, hB4.out⟩
end Go.Proofs.Ytegmhjdddcbanaa
