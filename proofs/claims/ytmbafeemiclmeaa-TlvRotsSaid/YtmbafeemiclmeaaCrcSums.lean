/- The statement CrcSums, walked: for every text, every place and every pattern of bits it returns true. -/
import Derived.Test.YtmbafeemiclmeaaCrcTurn
import Derived.Deep.RegionHeld3
import Derived.Deep.DeepCutAuto
import Derived.Test.YtmbafeemiclmeaaOpen
namespace Go.Proofs.Ytmbafeemiclmeaa
open Go.RowKit

theorem size44 : (Try.prog.info? 39).map (·.size) = some (tblK 256).size := by rw [tblK_size]; kernel_rfl

/-- A table that is stored into a new variable. -/
theorem stored (w : World) : Tbl ((w.alloc (Obj.cells zeros 39)).setRow w.heap.size (tblK 256)) w.heap.size ∧ w.grownBy ((w.alloc (Obj.cells zeros 39)).setRow w.heap.size (tblK 256)) none := by
  have h : ((w.alloc (Obj.cells zeros 39)).setRow w.heap.size (tblK 256)).heap[w.heap.size]? = some (.cells (tblK 256) 39 (0, 0)) :=
    setRow_heap _ w.heap.size zeros (tblK 256) 39 (0, 0) (Blk.new w zeros 39)
  refine ⟨Blk.tbl (t := 39) h, rfl, rfl, rfl, by simp, fun k hk _ => ?_⟩
  rw [setRow_other _ _ _ _ (by omega)]
  exact Below.heap_alloc w _ k hk

theorem sum_known : ((Crc.sum (ByteArray.data { data := #[49, 50, 51, 52, 53, 54, 55, 56, 57] }).toList : Nat) : Int) = 3421780262 := by decide +kernel
theorem tab_known : ((Crc.tab 1 : Nat) : Int) = 1996959894 := by decide +kernel

theorem u32_nat {a : Int} (h : (Lit.int .u32 a).wf = true) : ∃ n : Nat, a = (n : Int) ∧ n < 4294967296 := by
  have hb := bounds_u32 h
  obtain ⟨n, rfl⟩ := Int.eq_ofNat_of_zero_le hb.1
  exact ⟨n, rfl, by omega⟩

end Go.Proofs.Ytmbafeemiclmeaa
