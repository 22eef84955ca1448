/- The statement CrcSums, walked: for every text, every place and every pattern of bits it returns true. -/
import Derived.Test.YtglkghieghideaaCrcTurn
import Derived.Deep.RegionHeld3
import Derived.Deep.DeepCutAuto
import Derived.Test.YtglkghieghideaaOpen
namespace Go.Proofs.Ytglkghieghideaa
open Go.RowKit

theorem size44 : (Try.prog.info? 44).map (·.size) = some (tblK 256).size := by rw [tblK_size]; kernel_rfl

/-- A table that is stored into a new variable. -/
theorem stored (w : World) : Tbl ((w.alloc (Obj.cells zeros 44)).setRow w.heap.size (tblK 256)) w.heap.size ∧ w.grownBy ((w.alloc (Obj.cells zeros 44)).setRow w.heap.size (tblK 256)) none := by
  have h : ((w.alloc (Obj.cells zeros 44)).setRow w.heap.size (tblK 256)).heap[w.heap.size]? = some (.cells (tblK 256) 44 (0, 0)) :=
    setRow_heap _ w.heap.size zeros (tblK 256) 44 (0, 0) (Blk.new w zeros 44)
  refine ⟨Blk.tbl (t := 44) h, rfl, rfl, rfl, by simp, fun k hk _ => ?_⟩
  rw [setRow_other _ _ _ _ (by omega)]
  exact Below.heap_alloc w _ k hk

theorem sum_known : ((Crc.sum (ByteArray.data { data := #[49, 50, 51, 52, 53, 54, 55, 56, 57] }).toList : Nat) : Int) = 3421780262 := by decide +kernel
theorem tab_known : ((Crc.tab 1 : Nat) : Int) = 1996959894 := by decide +kernel

set_option maxRecDepth 100000 in
set_option maxHeartbeats 1000000 in
theorem speaks2_any (w : World) : Calls Try.prog 20 #[] w fun e w' => e = .returned (.bool true) ∧ Below w.heap.size w w' := by
  have hz := zero44
  have b0 : Below w.heap.size w w := Below.refl _ _
  go_enter Try.func20, Try.ntmps20
  go_wp2_with (fail)
  refine (make_any _).mono ?_
  rintro e w1 ⟨rfl, hb1⟩
  have hi := Lib.hid size44
  have hone := Lib.hid (tblK_one 256)
  have hn := Lib.hid (Blk.new w1 zeros 44)
  obtain ⟨hT, hg⟩ := stored w1
  have HT := Lib.hid hT
  have HG := Lib.hid hg
  have HS := Lib.hid (show ((w1.alloc (Obj.cells zeros 44)).setRow w1.heap.size (tblK 256)) = ((w1.alloc (Obj.cells zeros 44)).setRow w1.heap.size (tblK 256)) from rfl)
  clear hT hg
  go_wp2_with (refine wpList_store_row rfl 44 _ _ rfl w1.heap.size (tblK 256) rfl rfl 44 zeros hn.out hi.out (by rw [tblK_size]; rfl) hone.out ?_)
  refine (sum_any _ _ _ HT.out (by decide)).mono ?_
  rintro e w2 ⟨rfl, n, rfl⟩
  rw [sum_known]
  have hc := HT.out 1 (by omega)
  rw [tab_known] at hc
  go_wp2_with (fail)
  go_ret
  exact ⟨rfl, below_drewN (hb1.grown HG.out hb1.size (by simp)) n⟩

set_option maxRecDepth 100000 in
set_option maxHeartbeats 4000000 in
theorem sums_walk (s : ByteArray) (a : Int) (b : Nat) (w : World) (hs : s.size ≤ maxLen) (hb : b < 4294967296) :
    Calls Try.prog 6 #[.string s, .int .i64 a, .int .u32 b] w fun e w' => e = .returned (.bool true) ∧ Below w.heap.size w w' := by
  have hz := zero44
  unfold maxLen at hs
  go_enter Try.func6, Try.ntmps6
  go_upto_region 3 with (go_at_call 20; refine (speaks2_any _).mono ?_; rintro e w1 ⟨rfl, hb1⟩)
  go_cut [0] (fun v wx => (∃ t : ByteArray, v = .string t ∧ t.size ≤ 100) ∧ Below w.heap.size w wx)
  case first =>
    go_wp2_with (fail)
    all_goals
      go_meet
      exact ⟨⟨_, rfl, by first | omega | (simp; omega)⟩, hb1⟩
  case rest =>
    obtain ⟨⟨t, rfl, ht⟩, hB⟩ := hcut
    clear hs
    go_wp2_with (fail)
    refine (make_any _).mono ?_
    rintro e w1 ⟨rfl, hb1⟩
    have hi := Lib.hid size44
    have hone := Lib.hid (tblK_one 256)
    have hn := Lib.hid (Blk.new w1 zeros 44)
    obtain ⟨hT, hg⟩ := stored w1
    have HT := Lib.hid hT
    have HG := Lib.hid hg
    clear hT hg
    go_wp2_with (refine wpList_store_row rfl 44 _ _ rfl w1.heap.size (tblK 256) rfl rfl 44 zeros hn.out hi.out (by rw [tblK_size]; rfl) hone.out ?_)
    have hB2 := (hB.trans (hb1.mono hB.size)).grown HG.out (Nat.le_trans hB.size hb1.size) (by simp)
    generalize ((w1.alloc (Obj.cells zeros 44)).setRow w1.heap.size (tblK 256)) = w2 at *
    generalize w1.heap.size = G at *
    obtain ⟨i, hi0⟩ : ∃ i, i = b % 256 := ⟨_, rfl⟩
    have hi256 : i < 256 := by omega
    have hmod : Int.tmod (b : Int) 256 = (i : Int) := by rw [Int.tmod_eq_emod_of_nonneg (by omega)]; omega
    have hw3 : IntKind.i64.wrap (i : Int) = (i : Int) := IntWalk.i64_in _ (by omega)
    have hi1 : (0 : Int) ≤ (i : Int) := by omega
    have hi2 : (i : Int) < 256 := by omega
    have hT := HT.out
    have hc := hT i hi256
    have hts : t.size ≤ 9223372036854775807 := by omega
    clear HT hb1 hn HG hi hone hi0 hz hB
    go_region_held3 (fun w' => w'.cell? ⟨G, i, none⟩ = some (.int .u32 (Crc.tab i : Nat)) ∧ Tbl w' G)
      (first
        | (exact ⟨hc, hT⟩)
        | (go_split_ands
           exact ⟨by assumption, by assumption⟩)
        | (go_split_ands
           refine ⟨?_, ?_⟩
           · (rw [hb5.cell (p := ⟨G, i, none⟩) (Tbl.lt (by assumption))]; assumption)
           · exact Tbl.below (by assumption) hb5 (Tbl.lt (by assumption)))
        | (go_split_ands
           refine ⟨?_, ?_⟩
           · (rw [hb4.cell (p := ⟨G, i, none⟩) (Tbl.lt (by assumption))]; assumption)
           · exact Tbl.below (by assumption) hb4 (Tbl.lt (by assumption))))
      (first
        | (go_at_call_of 22 (Value.pointer (some ⟨G, 0, none⟩)); go_split_ands; refine (sum_any G t _ (by assumption) hts).mono ?_; rintro e w' ⟨rfl, n1, rfl⟩)
        | (go_at_call 23; refine (rsum_any t _ hts).mono ?_; rintro e w' ⟨rfl, rfl⟩)
        | (go_at_call 24; refine (at_any i _ (by omega)).mono ?_; rintro e w' ⟨rfl, rfl⟩)
        | (go_at_call 25; refine (turn_any t a b _ hb).mono ?_; rintro e w4 ⟨rfl, hb4⟩)
        | (go_at_call 26; refine (rturn_any t a b _ hb).mono ?_; rintro e w5 ⟨rfl, hb5⟩)
        | (go_at_call_of 22 (Value.pointer none); refine (sum_nil t _).mono ?_; rintro e w' ⟨rfl, rfl⟩))
    have hB4 := (below_drewN hB2 (1 + n1)).trans (hb4.mono hB2.size)
    have hB5 := hB4.trans (hb5.mono hB4.size)
    clear hb4 hb5 hB2 hB4
    go_wp2
    go_ret
    exact ⟨rfl, hB5⟩

theorem u32_nat {a : Int} (h : (Lit.int .u32 a).wf = true) : ∃ n : Nat, a = (n : Int) ∧ n < 4294967296 := by
  have hb := bounds_u32 h
  obtain ⟨n, rfl⟩ := Int.eq_ofNat_of_zero_le hb.1
  exact ⟨n, rfl, by omega⟩

theorem sums_law (s : ByteArray) (a b : Int) (w : World) (hs : s.size ≤ maxLen) (_ : (Lit.int .i64 a).wf = true) (hb : (Lit.int .u32 b).wf = true) :
    Calls Try.prog 6 #[.string s, .int .i64 a, .int .u32 b] w fun e w' => e = .returned (.bool true) ∧ Below w.heap.size w w' := by
  obtain ⟨b, rfl, hb4⟩ := u32_nat hb
  exact sums_walk s a b w hs hb4
end Go.Proofs.Ytglkghieghideaa
