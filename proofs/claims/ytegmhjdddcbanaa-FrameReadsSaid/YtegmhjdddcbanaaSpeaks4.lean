/- The first line of each statement of layer 4. -/
import Derived.Test.YtegmhjdddcbanaaDec2
import Derived.Test.YtegmhjdddcbanaaFEq
namespace Go.Proofs.Ytegmhjdddcbanaa
open Go.RowKit

def litS : ByteArray := ⟨#[97, 98, 99, 100, 101, 102, 103, 104, 105, 106, 107, 108, 129, 0, 32, 5, 8, 0, 120]⟩
def litD (i : Nat) : Nat := ([97, 98, 99, 100, 101, 102] : List Nat).getD i 0

theorem lit_dec : decE litS = 0 ∧ decA litS = frA litD (srcF litS) true 1 false 5 2048 ⟨#[120]⟩ := by
  have h1 : decE litS = 0 := by decide
  refine ⟨h1, ?_⟩
  unfold decA
  rw [if_pos h1, if_pos (by decide), show wordAt litS 14 / 8192 = 1 by decide, show decide (wordAt litS 14 / 4096 % 2 = 1) = false by decide, show wordAt litS 14 % 4096 = 5 by decide, show wordAt litS 16 = 2048 by decide, show litS.extract 18 litS.size = ⟨#[120]⟩ by decide]
  refine frA_congr ?_ rfl
  exact mac_congr fun i hi => by
    match i, hi with
    | 0, _ => decide
    | 1, _ => decide
    | 2, _ => decide
    | 3, _ => decide
    | 4, _ => decide
    | 5, _ => decide

set_option maxRecDepth 100000 in
set_option maxHeartbeats 1000000 in
theorem speaks4_any (w : World) : Calls Try.prog 23 #[] w fun e w' => e = .returned (.bool true) ∧ Below w.heap.size w w' := by
  obtain ⟨arr, harr⟩ : ∃ arr, arr = frA litD (srcF litS) true 1 false 5 2048 ⟨#[120]⟩ := ⟨_, rfl⟩
  have hsz : (Try.prog.info? 52).map (·.size) = some arr.size := by rw [harr]; exact size52
  have hone : arr.all (·.oneCell') = true := by rw [harr]; exact frA_one _ _ _ _ _ _ _ _
  have hasz : (18 : Nat) = arr.size := by rw [harr]; rfl
  have a0 : arr[0]? = some (.int .u8 97) := by rw [harr]; rfl
  have a1 : arr[1]? = some (.int .u8 98) := by rw [harr]; rfl
  have a2 : arr[2]? = some (.int .u8 99) := by rw [harr]; rfl
  have a3 : arr[3]? = some (.int .u8 100) := by rw [harr]; rfl
  have a4 : arr[4]? = some (.int .u8 101) := by rw [harr]; rfl
  have a5 : arr[5]? = some (.int .u8 102) := by rw [harr]; rfl
  have a12 : arr[12]? = some (.bool true) := by rw [harr]; rfl
  have a13 : arr[13]? = some (.int .u8 1) := by rw [harr]; rfl
  have a15 : arr[15]? = some (.int .u16 5) := by rw [harr]; rfl
  have a16 : arr[16]? = some (.int .u16 2048) := by rw [harr]; rfl
  have a17 : arr[17]? = some (.string ⟨#[120]⟩) := by rw [harr]; rfl
  have HA := Lib.hid harr
  have HSZ := Lib.hid hsz
  have HO := Lib.hid hone
  have HZ := Lib.hid hasz
  have heq : ∀ W, (Op.equalIn 10000 25 (.agg #[.int .u8 97, .int .u8 98, .int .u8 99, .int .u8 100, .int .u8 101, .int .u8 102]) (.agg #[.int .u8 97, .int .u8 98, .int .u8 99, .int .u8 100, .int .u8 101, .int .u8 102])).run Try.prog W = .ok true W := fun W => by
    have := equal_mac 9998 25 Try.underlying25 litD litD W
    rw [eqMac_self] at this
    exact this
  clear harr hsz hone hasz
  go_enter Try.func23, Try.ntmps23
  go_upto_region 2 with (first
    | (go_at_call 27; refine (decode_any litS _).mono ?_; rintro e w1 ⟨rfl, hb1⟩; rw [lit_dec.1, lit_dec.2, ← HA.out]
       have R := Lib.hid (Blk.new w1 nil18 52))
    | (refine wpList_store_row rfl 52 _ _ rfl w1.heap.size arr rfl rfl 52 nil18 R.out HSZ.out HZ.out HO.out ?_))
  have R := R.out.row arr
  have hB := below_setRow (hb1.alloc hb1.size (Obj.cells nil18 52)) hb1.size arr
  obtain ⟨w2, hw2⟩ : ∃ w2, w2 = (w1.alloc (Obj.cells nil18 52)).setRow w1.heap.size arr := ⟨_, rfl⟩
  rw [← hw2] at R hB
  rw [← hw2]
  clear hw2
  generalize w1.heap.size = g at *
  have c0 := R.cell 0
  have c1 := R.cell 1
  have c2 := R.cell 2
  have c3 := R.cell 3
  have c4 := R.cell 4
  have c5 := R.cell 5
  have c12 := R.cell 12
  have c13 := R.cell 13
  have c15 := R.cell 15
  have c16 := R.cell 16
  have c17 := R.cell 17
  rw [a0] at c0
  rw [a1] at c1
  rw [a2] at c2
  rw [a3] at c3
  rw [a4] at c4
  rw [a5] at c5
  rw [a12] at c12
  rw [a13] at c13
  rw [a15] at c15
  rw [a16] at c16
  rw [a17] at c17
  clear a0 a1 a2 a3 a4 a5 a12 a13 a15 a16 a17 R
  go_wp2_with fail
  go_ret
  exact ⟨rfl, hB⟩
end Go.Proofs.Ytegmhjdddcbanaa
