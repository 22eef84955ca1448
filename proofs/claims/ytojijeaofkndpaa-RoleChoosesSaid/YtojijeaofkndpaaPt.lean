/- One port: told of plain data, begun cold; is it on; its ID. -/
import Derived.Test.YtojijeaofkndpaaCln
namespace Go.Proofs.Ytojijeaofkndpaa
open Go.RowKit
set_option linter.unusedSimpArgs false
set_option linter.unusedVariables false

/-- Of plain data. -/
def toldP (x : Pp) : Po := ⟨IntKind.u16.wrap x.p0, x.p1, x.p10, x.p16, x.p2, x.p11, x.p12, x.p13, x.p14, x.p15, x.p3, x.p4, x.p5, x.p17, x.p18, x.p19, x.p20, x.p6, x.p7, x.p8, x.p9⟩
/-- Its settings, and whether its link is. -/
def coldP (x : Po) : Po := ⟨x.p0, x.p1, x.p2, x.p3, x.p4, x.p5, x.p6, x.p7, false, false, 0, 0, 0, 0, 0, 0, 0, 0, 0, 0, 0⟩
theorem built_told (x : Pp) : Try.prog.built 62 [(0, .agg #[.int .u16 (IntKind.u16.wrap x.p0), .int .i64 x.p1, .bool x.p10]), (1, .int .u32 x.p16), (2, .int .i64 x.p2), (3, .bool x.p11), (4, .bool x.p12), (5, .bool x.p13), (6, .bool x.p14), (7, .bool x.p15), (8, .int .i64 x.p3), (9, .int .i64 x.p4), (10, .int .i64 x.p5), (11, .agg #[.int .u64 x.p17, .int .u32 x.p18, .int .u64 x.p19, .int .u16 x.p20]), (12, .int .i64 x.p6), (13, .int .i64 x.p7), (14, .int .i64 x.p8), (15, .int .i64 x.p9)] = some (poA (toldP x)) := by kernel_rfl
theorem built_cold (x : Po) : Try.prog.built 62 [(0, .agg #[.int .u16 x.p0, .int .i64 x.p1, .bool x.p2]), (1, .int .u32 x.p3), (2, .int .i64 x.p4), (3, .bool x.p5), (4, .bool x.p6), (5, .bool x.p7)] = some (poA (coldP x)) := by kernel_rfl

set_option maxRecDepth 100000 in
set_option maxHeartbeats 8000000 in
theorem cold_any (x : Po) (w : World) : Calls Try.prog 37 #[poV x] w fun e w' => e = .returned (poV (coldP x)) ∧ Below w.heap.size w w' := by
  obtain ⟨a, ha⟩ : ∃ a, a = poA x := ⟨_, rfl⟩
  obtain ⟨zz, hzz⟩ : ∃ zz : Array Value, zz = #[.int .u16 0, .int .i64 0, .bool false, .int .u32 0, .int .i64 0, .bool false, .bool false, .bool false, .bool false, .bool false, .int .i64 0, .int .i64 0, .int .i64 0, .int .u64 0, .int .u32 0, .int .u64 0, .int .u16 0, .int .i64 0, .int .i64 0, .int .i64 0, .int .i64 0] := ⟨_, rfl⟩
  obtain ⟨g, hg⟩ : ∃ g, g = w.heap.size := ⟨_, rfl⟩
  obtain ⟨w0, hw0⟩ : ∃ w0, w0 = w.alloc (.cells a 62) := ⟨_, rfl⟩
  obtain ⟨w1, hw1⟩ : ∃ w1, w1 = w0.alloc (.cells zz 62) := ⟨_, rfl⟩
  have B1 := Lib.hid (show Below w.heap.size w w1 by rw [hw1, hw0]; exact ((Below.refl _ _).alloc (Nat.le_refl _) _).alloc (by simp) _)
  have KX := Lib.hid (show Blk w1 g (poA x) 62 by rw [hw1, hw0, hg, ← ha]; exact (Blk.new _ _ _).alloc _)
  have G1 := Lib.hid (show g + 1 = w0.heap.size by rw [hw0, hg]; simp)
  have KZ := Lib.hid (show Blk w1 (g + 1) zz 62 by rw [hw1, G1.out]; exact Blk.new _ _ _)
  have ZS := Lib.hid (show zz.size = 21 by rw [hzz]; rfl)
  have HZ := Lib.hid hzz
  have HW0 := Lib.hid hw0
  have HW1 := Lib.hid hw1
  have HG := Lib.hid hg
  obtain ⟨r, hr⟩ : ∃ r, r = poA (coldP x) := ⟨_, rfl⟩
  have IR := Lib.hid (show (Try.prog.info? 62).map (·.size) = some r.size by rw [hr]; exact po_info _)
  have SR := Lib.hid (show r.size = 21 by rw [hr]; rfl)
  have OR := Lib.hid (show r.all (·.oneCell') = true by rw [hr]; exact po_all _)
  have HR := Lib.hid hr
  show Calls Try.prog 37 #[.agg (poA x)] w fun e w' => e = .returned (.agg (poA (coldP x))) ∧ Below w.heap.size w w'
  rw [← ha, ← hr]
  clear ha hzz hg hw0 hw1 hr
  go_enter Try.func37, Try.ntmps37
  go_upto_region 1 with fail
  rw [← HZ.out, ← HW0.out, ← HW1.out, ← HG.out]
  have c0 : w1.cell? ⟨g, 0, none⟩ = some (.int .u16 x.p0) := KX.out.cell 0
  have c1 : w1.cell? ⟨g, 1, none⟩ = some (.int .i64 x.p1) := KX.out.cell 1
  have c2 : w1.cell? ⟨g, 2, none⟩ = some (.bool x.p2) := KX.out.cell 2
  have c3 : w1.cell? ⟨g, 3, none⟩ = some (.int .u32 x.p3) := KX.out.cell 3
  have c4 : w1.cell? ⟨g, 4, none⟩ = some (.int .i64 x.p4) := KX.out.cell 4
  have c5 : w1.cell? ⟨g, 5, none⟩ = some (.bool x.p5) := KX.out.cell 5
  have c6 : w1.cell? ⟨g, 6, none⟩ = some (.bool x.p6) := KX.out.cell 6
  have c7 : w1.cell? ⟨g, 7, none⟩ = some (.bool x.p7) := KX.out.cell 7
  refine wp_region_lit ?_
  refine wpList_val (.pointer (some ⟨g, 0, none⟩)) (by rfl) (by go_simp) ?_
  (try simp only [Act.put, List.getElem_toArray, List.getElem_cons_succ, List.getElem_cons_zero, List.setIfInBounds_toArray, List.set_cons_zero, List.set_cons_succ])
  refine wpList_val (.agg #[.int .u16 x.p0, .int .i64 x.p1, .bool x.p2]) (by rfl) (by go_simp) ?_
  (try simp only [Act.put, List.getElem_toArray, List.getElem_cons_succ, List.getElem_cons_zero, List.setIfInBounds_toArray, List.set_cons_zero, List.set_cons_succ])
  refine wpList_val (.pointer (some ⟨g, 3, none⟩)) (by rfl) (by go_simp) ?_
  (try simp only [Act.put, List.getElem_toArray, List.getElem_cons_succ, List.getElem_cons_zero, List.setIfInBounds_toArray, List.set_cons_zero, List.set_cons_succ])
  refine wpList_val (.int .u32 x.p3) (by rfl) (by go_simp) ?_
  (try simp only [Act.put, List.getElem_toArray, List.getElem_cons_succ, List.getElem_cons_zero, List.setIfInBounds_toArray, List.set_cons_zero, List.set_cons_succ])
  refine wpList_val (.pointer (some ⟨g, 4, none⟩)) (by rfl) (by go_simp) ?_
  (try simp only [Act.put, List.getElem_toArray, List.getElem_cons_succ, List.getElem_cons_zero, List.setIfInBounds_toArray, List.set_cons_zero, List.set_cons_succ])
  refine wpList_val (.int .i64 x.p4) (by rfl) (by go_simp) ?_
  (try simp only [Act.put, List.getElem_toArray, List.getElem_cons_succ, List.getElem_cons_zero, List.setIfInBounds_toArray, List.set_cons_zero, List.set_cons_succ])
  refine wpList_val (.pointer (some ⟨g, 5, none⟩)) (by rfl) (by go_simp) ?_
  (try simp only [Act.put, List.getElem_toArray, List.getElem_cons_succ, List.getElem_cons_zero, List.setIfInBounds_toArray, List.set_cons_zero, List.set_cons_succ])
  refine wpList_val (.bool x.p5) (by rfl) (by go_simp) ?_
  (try simp only [Act.put, List.getElem_toArray, List.getElem_cons_succ, List.getElem_cons_zero, List.setIfInBounds_toArray, List.set_cons_zero, List.set_cons_succ])
  refine wpList_val (.pointer (some ⟨g, 6, none⟩)) (by rfl) (by go_simp) ?_
  (try simp only [Act.put, List.getElem_toArray, List.getElem_cons_succ, List.getElem_cons_zero, List.setIfInBounds_toArray, List.set_cons_zero, List.set_cons_succ])
  refine wpList_val (.bool x.p6) (by rfl) (by go_simp) ?_
  (try simp only [Act.put, List.getElem_toArray, List.getElem_cons_succ, List.getElem_cons_zero, List.setIfInBounds_toArray, List.set_cons_zero, List.set_cons_succ])
  refine wpList_val (.pointer (some ⟨g, 7, none⟩)) (by rfl) (by go_simp) ?_
  (try simp only [Act.put, List.getElem_toArray, List.getElem_cons_succ, List.getElem_cons_zero, List.setIfInBounds_toArray, List.set_cons_zero, List.set_cons_succ])
  refine wpList_val (.bool x.p7) (by rfl) (by go_simp) ?_
  (try simp only [Act.put, List.getElem_toArray, List.getElem_cons_succ, List.getElem_cons_zero, List.setIfInBounds_toArray, List.set_cons_zero, List.set_cons_succ])
  refine wpList_val (.agg r) (by rfl) (run_build_of 62 [(0, .tmp 4), (1, .tmp 6), (2, .tmp 8), (3, .tmp 10), (4, .tmp 12), (5, .tmp 14)] rfl _ r rfl (by rw [HR.out]; exact built_cold x)) ?_
  (try simp only [Act.put, List.getElem_toArray, List.getElem_cons_succ, List.getElem_cons_zero, List.setIfInBounds_toArray, List.set_cons_zero, List.set_cons_succ])
  refine wpList_store_row rfl 62 _ _ rfl (g + 1) r rfl rfl 62 zz KZ.out IR.out (by rw [ZS.out, SR.out]) OR.out ?_
  (try simp only [Act.put, List.getElem_toArray, List.getElem_cons_succ, List.getElem_cons_zero, List.setIfInBounds_toArray, List.set_cons_zero, List.set_cons_succ])
  refine wpList_nil ?_
  go_wp2_with fail
  refine bodyPost_ret (v := .agg r) (results_cell_row Try.results37 _ _ (g + 1) 62 _ (0, 0) _ rfl (KZ.out.row _) Try.underlying62 rfl IR.out) rfl ?_
  exact ⟨rfl, below_setRow B1.out (by rw [HG.out]; omega) _⟩

/-- Is it on? -/
def onP (x : Po) : Bool := x.p7 && x.p6
/-- Its ID. -/
def idP (x : Po) (n : Int) : Int := IntKind.u16.wrap (IntKind.u16.wrap (IntKind.u16.wrap x.p4 * 4096) + IntKind.u16.wrap n)
set_option maxHeartbeats 2000000 in
theorem on_any (x : Po) (w : World) : Calls Try.prog 27 #[poV x] w fun e w' => e = .returned (.bool (onP x)) ∧ Below w.heap.size w w' := by
  obtain ⟨a, ha⟩ : ∃ a, a = poA x := ⟨_, rfl⟩
  obtain ⟨w1, hw1⟩ : ∃ w1, w1 = w.alloc (.cells a 62) := ⟨_, rfl⟩
  have HW := Lib.hid hw1
  have B1 := Lib.hid (show Below w.heap.size w w1 by rw [hw1]; exact (Below.refl _ _).alloc (Nat.le_refl _) _)
  have KX := Lib.hid (show Blk w1 w.heap.size (poA x) 62 by rw [hw1, ← ha]; exact Blk.new _ _ _)
  obtain ⟨u, hu⟩ : ∃ u, u = x.p7 := ⟨_, rfl⟩
  obtain ⟨ad, had⟩ : ∃ u, u = x.p6 := ⟨_, rfl⟩
  have HR := Lib.hid (show onP x = (u && ad) by rw [hu, had]; rfl)
  obtain ⟨R, hR⟩ : ∃ R, R = onP x := ⟨_, rfl⟩
  rw [← hR] at HR
  show Calls Try.prog 27 #[.agg (poA x)] w fun e w' => e = .returned (.bool (onP x)) ∧ Below w.heap.size w w'
  rw [← ha, ← hR]
  have c6 : w1.cell? ⟨w.heap.size, 6, none⟩ = some (.bool ad) := by rw [had]; exact KX.out.cell 6
  have c7 : w1.cell? ⟨w.heap.size, 7, none⟩ = some (.bool u) := by rw [hu]; exact KX.out.cell 7
  clear ha hw1 hu had hR
  go_enter Try.func27, Try.ntmps27
  go_upto_region 1 with fail
  rw [← HW.out]
  cases u
  · go_wp2_with fail
    go_ret
    exact ⟨by rw [HR.out]; rfl, B1.out⟩
  · go_wp2_with fail
    go_ret
    exact ⟨by rw [HR.out]; rfl, B1.out⟩
end Go.Proofs.Ytojijeaofkndpaa
