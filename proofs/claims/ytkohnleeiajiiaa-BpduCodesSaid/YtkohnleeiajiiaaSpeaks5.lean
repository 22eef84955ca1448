/- The first line of each statement of layer 5. -/
import Derived.Test.YtkohnleeiajiiaaDec5
namespace Go.Proofs.Ytkohnleeiajiiaa
open Go.RowKit
set_option linter.unusedSimpArgs false

def rp : Pd := ⟨2, false, false, false, false, false, false, 2, 0, 7, 0, 0, 0, 0, 0, 0⟩
def rpS : ByteArray := encP rp

theorem rp_size : rpS.size = 39 := by decide +kernel
theorem rp_err : encE rp = 0 := by decide +kernel
theorem rp_dec : decE rpS = 0 := by decide +kernel
theorem rp_back : decP rpS = rp := by kernel_rfl
theorem rp_ok : rp.ok := by unfold Pd.ok; decide
theorem chg_s : encP (kindP 128) = ⟨#[66, 66, 3, 0, 0, 0, 128]⟩ := by kernel_rfl
theorem chg_e : encE (kindP 128) = 0 := by decide +kernel
theorem chg_ok : (kindP 128).ok := by unfold Pd.ok; decide

set_option maxRecDepth 100000 in
set_option maxHeartbeats 4000000 in
theorem speaks5_any (w : World) : Calls Try.prog 9 #[] w fun e w' => e = .returned (.bool true) ∧ Below w.heap.size w w' := by
  have hi := Lib.hid size31
  obtain ⟨t, ht⟩ : ∃ t, t = rpS := ⟨_, rfl⟩
  have hz : t.size = 39 := by rw [ht]; exact rp_size
  have T := Lib.hid ht
  have D1 := Lib.hid (show decE t = 0 by rw [ht]; exact rp_dec)
  have D2 := Lib.hid (show pdA (decP t) = pdA rp by rw [ht, rp_back])
  clear ht
  go_enter Try.func9, Try.ntmps9
  go_wp2_with fail
  refine (pencode_any (kindP 128) _ chg_ok).mono ?_
  rintro e w1 ⟨rfl, hb1⟩
  rw [chg_s, chg_e]
  go_wp2_with fail
  refine (pencode_any rp _ rp_ok).mono ?_
  rintro e w2 ⟨rfl, hb2⟩
  rw [show encP rp = t from T.out.symm, rp_err]
  have hB2 := hb1.trans (hb2.mono hb1.size)
  clear hb1 hb2
  go_wp2_with fail
  refine (pdecode_any t _).mono ?_
  rintro e w3 ⟨rfl, hb3⟩
  rw [D1.out, D2.out]
  have hB3 := hB2.trans (hb3.mono hB2.size)
  have R := Lib.hid (Blk.new w3 nil16 31)
  have ho := Lib.hid (pdA_one rp)
  have hB4 := below_setRow (hB3.alloc hB3.size (Obj.cells nil16 31)) hB3.size (pdA rp)
  clear hB2 hb3 hB3
  go_upto_region 4 with (first
    | (refine wpList_store_row rfl 31 _ _ rfl w3.heap.size (pdA rp) rfl rfl 31 nil16 R.out hi.out rfl ho.out ?_))
  have R4 := R.out.row (pdA rp)
  generalize (w3.alloc (Obj.cells nil16 31)).setRow w3.heap.size (pdA rp) = w4 at *
  have c9 : w4.cell? ⟨w3.heap.size, 9, none⟩ = some (.int .u32 7) := R4.cell 9
  have c7 : w4.cell? ⟨w3.heap.size, 7, none⟩ = some (.int .u8 2) := R4.cell 7
  go_wp2_with fail
  go_ret
  exact ⟨rfl, hB4⟩
end Go.Proofs.Ytkohnleeiajiiaa
